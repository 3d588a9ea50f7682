import PyProof.Rows.All
import Wide.All
import OpenK.AllK
import Wide.FinOn
import Lean
import PyProof.EqAt
import PyProof.EqKinds
import PyProof.TupleCall
import PyProof.EqLayable
import PyProof.ExcArgsOwn
import PyProof.ExcAttrAll.Exception
import PyProof.RulesAs
import PyProof.ExcBaseAll.ValueError
import PyProof.NsDelKeeps
import KE.KRevSl
import OpenK.KOps
import OpenK.KWalk
import PyProof.TupleIter
import PyProof.ZipIter
import PySem.Challenge.RW_fewnotes_k51_counts_alone
set_option Elab.async false
set_option linter.all false
set_option maxRecDepth 100000
namespace L2
open PySem PySem.Spec PyProof.Rows
abbrev Key:=Sum Int Str
def Bu:Key->Value->Bool
 | .inl k,v=>Value.isInt k v
 | .inr x,v=>Value.isStrOf x v
def ag7 (w:World):Key->Int
 | .inl k=>hashInt k
 | .inr x=>hashStr w x
theorem fU:∀{k:Key} {v:Value},Bu k v=true->(∃i t,k=Sum.inl i/\v=Value.int i t)\/(∃x t,k=Sum.inr x/\v=Value.str x t)
 | .inl i,v,h=>by
   obtain ⟨t,e⟩:=Value.isInt_shape (k:=i) (v:=v) h;exact .inl ⟨i,t,rfl,e⟩
 | .inr x,v,h=>by
   obtain ⟨t,e⟩:=Value.isStrOf_shape (x:=x) (v:=v) h;exact .inr ⟨x,t,rfl,e⟩
theorem KQ (i:Int) (t:Tok):Bu (.inl i) (.int i t)=true:=by simp [Bu,Value.isInt]
theorem KN (x:Str) (t:Tok):Bu (.inr x) (.str x t)=true:=by simp [Bu,Value.isStrOf]
theorem Wy (a b:Int):decide ((Sum.inl a:Key)=Sum.inl b)=(a==b):=by
 by_cases e:a=b
 ·subst e;simp
 ·have h:¬(Sum.inl a:Key)=Sum.inl b:=fun q=>e (Sum.inl.inj q)
  rw [decide_eq_false h];exact (beq_eq_false_iff_ne.mpr e).symm
theorem Wv (a b:Str):decide ((Sum.inr a:Key)=Sum.inr b)=decide (a=b):=by
 by_cases e:a=b
 ·subst e;simp
 ·have h:¬(Sum.inr a:Key)=Sum.inr b:=fun q=>e (Sum.inr.inj q)
  rw [decide_eq_false h,decide_eq_false e]
theorem Wx (a:Int) (b:Str):decide ((Sum.inl a:Key)=Sum.inr b)=false:=decide_eq_false (fun q=>nomatch q)
theorem Ww (a:Str) (b:Int):decide ((Sum.inr a:Key)=Sum.inl b)=false:=decide_eq_false (fun q=>nomatch q)
def gP (prog:Program) (w:World):PySem.KeyKind prog w Key where
 is:=Bu
 hash:=ag7 w
 inj:=fun v a b ha hb=>by
  rcases fU ha with ⟨i,t,rfl,rfl⟩|⟨x,t,rfl,rfl⟩
  ·rcases fU hb with ⟨j,u,rfl,e⟩|⟨y,u,rfl,e⟩
   ·injection e with e1 _;rw [e1]
   ·exact nomatch e
  ·rcases fU hb with ⟨j,u,rfl,e⟩|⟨y,u,rfl,e⟩
   ·exact nomatch e
   ·injection e with e1 _;rw [e1]
 byValue:=fun k v h=>by
  rcases fU h with ⟨i,t,rfl,rfl⟩|⟨x,t,rfl,rfl⟩<;>rfl
 pyHash:=fun hv h=>by
  rcases fU hv with ⟨i,t,rfl,rfl⟩|⟨x,t,rfl,rfl⟩
  ·exact wpAny_pyHash_int h
  ·exact wpAny_pyHash_str h
 eqBool:=fun hu hv h=>by
  rcases fU hu with ⟨i,t,rfl,rfl⟩|⟨x,t,rfl,rfl⟩
  ·rcases fU hv with ⟨j,u,rfl,rfl⟩|⟨y,u,rfl,rfl⟩
   ·rw [Wy] at h;exact wpAny_eqBool_int h
   ·rw [Wx] at h;exact SeqAt.EqAt.int_str i t y u _ _ _ _ h
  ·rcases fU hv with ⟨j,u,rfl,rfl⟩|⟨y,u,rfl,rfl⟩
   ·rw [Ww] at h;exact SeqAt.EqAt.str_int x t j u _ _ _ _ h
   ·rw [Wv] at h;exact wpAny_eqBool_str h
 «strs» :=fun k x t v h=>by
  rcases fU h with ⟨i,u,rfl,e⟩|⟨y,u,rfl,e⟩
  ·exact nomatch e
  ·injection e with e1 _
   subst e1;cases v<;>rfl
theorem FN (prog:Program) (w:World) (i:Int) (t:Tok):(gP prog w).is (.inl i) (.int i t)=true:=KQ i t
theorem FJ (prog:Program) (w:World) (x:Str) (t:Tok):(gP prog w).is (.inr x) (.str x t)=true:=KN x t
end L2
namespace L2
open PySem PySem.Spec PyProof.Rows
inductive V where
 | non|bl (b:Bool)|int (i:Int)|str (x:Str)|Iw (b:Array UInt8)|flt (b:UInt64)|ref (a:Addr)|ty (n:String)
 deriving DecidableEq
def RelV:V->Value->Prop
 | .non,u=>u=Value.none
 | .bl b,u=>u=Value.bool b
 | .int i,u=>∃t,u=Value.int i t
 | .str x,u=>∃t,u=Value.str x t
 | .Iw b,u=>∃t,u=Value.bytes b t
 | .flt b,u=>∃t,u=Value.float b t
 | .ref a,u=>u=Value.ref a
 | .ty n,u=>u=Value.type n
abbrev Vals:List V->List Value->Prop:=Paired RelV
theorem Vals.length {xs:List V} {us:List Value} (r:Vals xs us):xs.length=us.length:=Paired.length r
theorem Vals.get:∀{xs:List V} {us:List Value} {i:Nat} {x:V},Vals xs us->xs[i]? = some x -> ∃u,us[i]? = some u/\RelV x u
 | _,_,_,_,.nil,e=>by simp at e
 | _,_,0,_,.cons r _,e=>by simp at e;subst e;exact ⟨_,rfl,r⟩
 | _,_,i+1,x,.cons _ t,e=>by
   obtain ⟨u,h1,h2⟩:=Vals.get (i:=i) (x:=x) t (by simpa using e);exact ⟨u,by simpa using h1,h2⟩
theorem Vals.set {x:V} {u:Value} (r:RelV x u):∀{xs:List V} {us:List Value} (i:Nat),Vals xs us->Vals (xs.set i x) (us.set i u)
 | _,_,_,.nil=> .nil
 | _,_,0,.cons _ t=> .cons r t
 | _,_,i+1,.cons q t=> .cons q (Vals.set r i t)
theorem Vals.append {xs ys:List V} {us ws:List Value} (h:Vals xs us) (s:Vals ys ws):Vals (xs++ys) (us++ws):=by
 induction h with
 | nil=>exact s
 | cons r t ih=>exact .cons r ih
theorem Vals.take:∀{xs:List V} {us:List Value} (n:Nat),Vals xs us->Vals (xs.take n) (us.take n)
 | _,_,0,_=> .nil
 | _,_,_+1,.nil=> .nil
 | _,_,n+1,.cons r t=> .cons r (Vals.take n t)
theorem Vals.drop:∀{xs:List V} {us:List Value} (n:Nat),Vals xs us->Vals (xs.drop n) (us.drop n)
 | _,_,0,r=>r
 | _,_,_+1,.nil=> .nil
 | _,_,n+1,.cons _ t=>Vals.drop n t
def pQ:Option V->Option Value->Prop
 | some v,some u=>RelV v u
 | none,none=>True
 | _,_=>False
def KV {κ:Type}:List (κ×V)->List (κ×Value)->Prop:=Paired fun (p:κ×V) (q:κ×Value)=>p.1=q.1/\RelV p.2 q.2
def kV:Key->V
 | .inl i=> .int i
 | .inr x=> .str x
inductive HO where
 | lst (xs:List V)
 | tup (xs:List V)
 | dK (kvs:List (Key×V))|dT (kvs:List (List Key×V))
 | set (S:Int->Bool) (n:Nat)
 | ins (C dx:Addr) (fs:List (Str×V))
 | own (x:Addr)
 | xd (fs:List (Str×V))
 | met (f x:Addr)
 | rng (lo hi:Int)
 | Gf (o:Obj) (u:HO)
 | TJ (ps:Array Value)
 | ext (φ:Heap->Prop)
abbrev Hp:=Addr->Option HO
def upd (H:Hp) (a:Addr) (o:HO):Hp:=fun b=>if b=a then some o else H b
theorem ao {H:Hp} {a:Addr} {o:HO}:upd H a o a=some o:=by unfold upd;rw [if_pos rfl]
theorem aF {H:Hp} {a b:Addr} {o:HO} (h:b≠a):upd H a o b=H b:=by unfold upd;rw [if_neg h]
theorem eY {H:Hp} {a b:Addr} {o u:HO} (h:H a=some o) (h':H b=some u) (d:o≠u):a≠b:=by
 intro e;subst e;rw [h] at h';exact d (Option.some.inj h')
theorem aB {H:Hp} {a b:Addr} {o:HO} (h:H a=some o) (h':H b=none):a≠b:=by
 intro e;subst e;rw [h] at h';cases h'
section
variable (P:Program) (w:World)
def gw (H:Hp) (h:Heap) (a:Addr):HO->Prop
 | .lst xs=>xs.length<=sizeLine /\ ∃(its:List Value) (n:Nat),Vals xs its/\h.get? a=some {cls:= .type "list",data:= .seq its.toArray n}
 | .tup xs=>xs.length<=sizeLine /\ ∃its:List Value,Vals xs its/\IsTup h a its.toArray
 | .dK kvs=>kvs.length<=sizeLine/\(a==sysModules)=false /\ ∃vs,KV kvs vs/\h.DictOf (gP P w) a vs
 | .dT kvs=>kvs.length<=sizeLine/\(a==sysModules)=false /\ ∃xs:List (List Key×Addr×Value),
    Paired (fun (p:List Key×V) (q:List Key×Addr×Value)=>p.1=q.1/\H q.2.1=some (.tup (p.1.map kV))/\RelV p.2 q.2.2) kvs xs /\
    ∃o es ep,h.get? a=some o/\o.ExactDict/\o.data = .dict es ep/\es.toList=xs.map (entryOfKey (tupleKind (gP P w)))/\(xs.map (·.1)).Nodup
 | .set S n=>h.SetOf (intKind P w) a S n
 | .ins C dx fs=>H dx=some (.own a)/\fs.length<=1000/\dx≠a/\h.get? a=some (PySem.W.instObj C dx) /\
    ∃mA,h.Ns1 dx mA/\(∀f,pQ (fs.lookup f) (mA f))/\PySem.Within mA (fs.map (·.1))
 | .own _=>∃o,h.get? a=some o
 | .xd fs=>∃mA,h.Ns1 a mA /\ ∀f,pQ (fs.lookup f) (mA f)
 | .rng lo hi=>∃t u v,h.get? a=some {cls:= .type "range",data:= .fields #[.int lo t,.int hi u,.int 1 v]}
 | .Gf o u=>h.get? a=some o/\gw H h a u
 | .TJ ps=>h.get? a=some {cls:= .none,data:= .fields ps}
 | .met f x=>h.get? a=some (PySem.W.methodObj (.ref f) (.ref x))
 | .ext φ=>φ h/\(∃o,h.get? a=some o) /\ ∀h1 h2:Heap,φ h1->(∀o,h1.get? a=some o->h2.get? a=some o)->φ h2
def rC (H:Hp) (h:Heap):Prop:=∀a o,H a=some o->gw P w H h a o
end
section
variable {P:Program} {w:World} {H H':Hp} {h h':Heap} {a:Addr} {o:HO}
theorem gw.lt (x:gw P w H h a o):a<h.objs.size:=by
 cases o with
 | lst xs=>obtain ⟨_,_,_,_,e⟩:=x;exact Heap.lt_size e
 | tup xs=>obtain ⟨_,_,_,p⟩:=x;exact p.lt
 | dK kvs=>obtain ⟨_,_,_,_,o,_,_,e,_⟩:=x;exact Heap.lt_size e
 | dT kvs=>obtain ⟨_,_,_,_,o,_,_,e,_⟩:=x;exact Heap.lt_size e
 | set S n=>obtain ⟨o,_,_,_,e,_⟩:=x;exact Heap.lt_size e
 | ins C dx fs=>obtain ⟨_,_,_,e,_⟩:=x;exact Heap.lt_size e
 | own y=>obtain ⟨_,e⟩:=x;exact Heap.lt_size e
 | xd fs=>obtain ⟨_,⟨_,_,_,e,_⟩,_⟩:=x;exact Heap.lt_size e
 | rng lo hi=>obtain ⟨_,_,_,e⟩:=x;exact Heap.lt_size e
 | Gf ob u=>obtain ⟨e,_⟩:=x;exact Heap.lt_size e
 | TJ ps=>exact Heap.lt_size (show h.get? a=some _ from x)
 | met f y=>exact Heap.lt_size (show h.get? a=some _ from x)
 | ext φ=>obtain ⟨_,⟨_,e⟩,_⟩:=x;exact Heap.lt_size e
theorem Paired.Zu {α β:Type} {F G:α->β->Prop}:∀{l₁:List α} {l₂:List β},Paired F l₁ l₂->(∀a b,F a b->G a b)->Paired G l₁ l₂
 :=by
 intro l₁ l₂ h f
 induction h with
 | nil=>exact .nil
 | cons r t ih=>exact .cons (f _ _ r) ih
theorem gw.stay (x:gw P w H h a o) (k:∀b u,(b=a\/H b=some (.own a))->h.get? b=some u->h'.get? b=some u)
 (ho:∀b,H b=some (.own a)->H' b=some (.own a)) (ht:∀b xs,H b=some (.tup xs)->H' b=some (.tup xs)):gw P w H' h' a o:=by
 induction o with
 | lst xs=>obtain ⟨z,its,n,r,e⟩:=x;exact ⟨z,its,n,r,k _ _ (.inl rfl) e⟩
 | tup xs=>obtain ⟨z,its,r,ob,e,c⟩:=x;exact ⟨z,its,r,ob,k _ _ (.inl rfl) e,c⟩
 | dK kvs=>obtain ⟨z,y,vs,r,ob,es,ep,e,c⟩:=x;exact ⟨z,y,vs,r,ob,es,ep,k _ _ (.inl rfl) e,c⟩
 | dT kvs=>
   obtain ⟨z,y,xs,r,ob,es,ep,e,c⟩:=x;exact ⟨z,y,xs,Paired.Zu r fun p q z=>⟨z.1,ht _ _ z.2.1,z.2.2⟩,ob,es,ep,k _ _ (.inl rfl) e,c⟩
 | set S n=>obtain ⟨ob,es,ep,t,e,c⟩:=x;exact ⟨ob,es,ep,t,k _ _ (.inl rfl) e,c⟩
 | ins C dx fs=>
   obtain ⟨d,z,ne,e,mA,⟨od,es,ep,e2,c⟩,r⟩:=x;exact ⟨ho _ d,z,ne,k _ _ (.inl rfl) e,mA,⟨od,es,ep,k _ _ (.inr d) e2,c⟩,r⟩
 | own y=>obtain ⟨ob,e⟩:=x;exact ⟨ob,k _ _ (.inl rfl) e⟩
 | xd fs=>obtain ⟨mA,⟨od,es,ep,e,c⟩,r⟩:=x;exact ⟨mA,⟨od,es,ep,k _ _ (.inl rfl) e,c⟩,r⟩
 | rng lo hi=>obtain ⟨t,u,v,e⟩:=x;exact ⟨t,u,v,k _ _ (.inl rfl) e⟩
 | Gf ob u ih=>obtain ⟨e,q⟩:=x;exact ⟨k _ _ (.inl rfl) e,ih q⟩
 | TJ ps=>
   have e:h.get? a=some {cls:= .none,data:= .fields ps}:=x;show h'.get? a=some {cls:= .none,data:= .fields ps};exact k a _ (.inl rfl) e
 | met f y=>
   have e:h.get? a=some (PySem.W.methodObj (.ref f) (.ref y)):=x;show h'.get? a=some (PySem.W.methodObj (.ref f) (.ref y));exact k a _ (.inl rfl) e
 | ext φ=>obtain ⟨p,⟨o,e⟩,st⟩:=x;exact ⟨st _ _ p fun o q=>k _ _ (.inl rfl) q,⟨o,k _ _ (.inl rfl) e⟩,st⟩
theorem rC.lt (x:rC P w H h) (e:H a=some o):a<h.objs.size:=(x a o e).lt
theorem rC.fresh (x:rC P w H h) (e:h.objs.size<=a):H a=none:=by
 cases q:H a with
 | none=>rfl
 | some u=>exact absurd (Nat.lt_of_lt_of_le (x.lt q) e) (Nat.lt_irrefl _)
theorem rC.kept (x:rC P w H h) (k:∀b u,h.get? b=some u->h'.get? b=some u):rC P w H h':=fun a o e=>
 (x a o e).stay (fun b u _ q=>k b u q) (fun _ q=>q) fun _ _ q=>q
theorem rC.laid (x:rC P w H h) (k:∀b u,h.get? b=some u->h'.get? b=some u) (hp:h.objs.size<=a) (new:gw P w (upd H a o) h' a o):rC P w (upd H a o) h':=fun b u e=>by
 have hn:=x.fresh hp
 by_cases hb:b=a
 ·subst hb;rw [ao] at e;cases e;exact new
 ·rw [aF hb] at e
  exact (x b u e).stay (fun c v _ q=>k c v q) (fun c q=>by rw [aF (aB q hn)];exact q) fun c xs q=>by rw [aF (aB q hn)];exact q
end
def Rd (H:Hp) (a:Addr) (u:HO):Prop:=H a=some u \/ ∃o,H a=some (.Gf o u)
theorem Rd.ok {P:Program} {w:World} {H:Hp} {h:Heap} {a:Addr} {u:HO} (r:Rd H a u) (x:rC P w H h):gw P w H h a u:=by
 rcases r with r|⟨o,r⟩
 ·exact x a u r
 ·obtain ⟨_,q⟩:=x a _ r
  exact q
def Mut:Option HO->Prop
 | some (.lst _)=>True
 | some (.dK _)=>True
 | some (.dT _)=>True
 | some (.set _ _)=>True
 | some (.ins _ _ _)=>True
 | some (.ext _)=>True
 | _=>False
section
variable {P:Program} {w:World} {H:Hp} {h h':Heap} {x e:Addr} {o':HO}
theorem rC.write (ok:rC P w H h) (mu:Mut (H x)) (he:e=x\/H e=some (.own x)) (k:∀b u,b≠e->h.get? b=some u->h'.get? b=some u) (heo:∃u,h'.get? e=some u)
 (new:gw P w (upd H x o') h' x o'):rC P w (upd H x o') h':=fun b u q=>by
 have Zi:∀c y,H c=some (.own y)->c≠x:=fun c y r z=>by subst z;rw [r] at mu;exact mu
 have aga:∀c xs,H c=some (.tup xs)->c≠x:=fun c xs r z=>by subst z;rw [r] at mu;exact mu
 by_cases hb:b=x
 ·subst hb;rw [ao] at q;cases q;exact new
 ·rw [aF hb] at q
  by_cases hbe:b=e
  ·have q':H b=some (.own x):=by
    rcases he with z|z
    ·exact absurd (hbe.trans z) hb
    ·rw [hbe];exact z
   rw [q] at q';cases q';obtain ⟨v,hv⟩:=heo;exact ⟨v,by rw [hbe];exact hv⟩
  ·refine (ok b u q).stay (fun c v hc r=>k c v ?_ r) (fun c r=>by rw [aF (Zi c b r)];exact r) fun c xs r=>by rw [aF (aga c xs r)];exact r
   rcases hc with rfl|hc
   ·exact hbe
   ·rintro rfl
    rcases he with z|z
    ·exact Zi c b hc z
    ·rw [hc] at z;cases z;exact hb rfl
end
structure Un (fs ex:List Addr) (H H':Hp) (h h':Heap):Prop where
 keep:∀b o,h.get? b=some o->H b=none->b∉fs->b∉ex->h'.get? b=some o
 slot:∀b o,h.get? b=some o->H b=none->b∈fs->b∉ex -> ∃sl,h'.get? b=some {o with slots:=sl}
 free:∀b o,h.get? b=some o->H b=none->b∉ex->H' b=none
 there:∀b o,h.get? b=some o->b∉ex -> ∃o',h'.get? b=some o'
 tups:∀b xs,H b=some (.tup xs)->H' b=some (.tup xs)
 vX:∀b o u,H b=some (.Gf o u)->H' b=some (.Gf o u)
 wL:∀b ps,H b=some (.TJ ps) -> ∃more,H' b=some (.TJ (ps++more))
section
variable {fs fs' ex ex':List Addr} {H H1 H2:Hp} {h h1 h2 h':Heap} {a x e:Addr} {o:HO}
theorem Un.any (u:Un fs ex H H1 h h1) {b:Addr} {ob:Obj} (q:h.get? b=some ob) (n:H b=none) (hx:b∉ex):∃sl,h1.get? b=some {ob with slots:=sl}:=by
 by_cases hb:b∈fs
 ·exact u.slot b ob q n hb hx
 ·exact ⟨ob.slots,u.keep b ob q n hb hx⟩
theorem Un.kept (k:∀b u,h.get? b=some u->h'.get? b=some u):Un fs ex H H h h':=
 ⟨fun b ob q _ _ _=>k b ob q,fun b ob q _ _ _=>⟨ob.slots,k b ob q⟩,fun _ _ _ n _=>n,fun b ob q _=>⟨ob,k b ob q⟩,fun _ _ q=>q,fun _ _ _ q=>q,fun _ ps q=>⟨#[],by rw [q];simp⟩⟩
theorem Un.refl:Un fs ex H H h h:=Un.kept fun _ _ q=>q
theorem Un.laid (k:∀b u,h.get? b=some u->h'.get? b=some u) (hp:h.objs.size<=a) (hn:H a=none):Un fs ex H (upd H a o) h h' where
 keep:=fun b u q _ _ _=>k b u q
 slot:=fun b u q _ _ _=>⟨u.slots,k b u q⟩
 free:=fun b u q n _=>by rw [aF (Nat.ne_of_lt (Nat.lt_of_lt_of_le (Heap.lt_size q) hp))];exact n
 there:=fun b u q _=>⟨u,k b u q⟩
 tups:=fun b xs q=>by rw [aF (aB q hn)];exact q
 vX:=fun b u xs q=>by rw [aF (aB q hn)];exact q
 wL:=fun b ps q=>⟨#[],by rw [aF (aB q hn),q];simp⟩
theorem Un.write (mu:Mut (H x)) (he:e=x\/H e=some (.own x)) (k:∀b u,b≠e->h.get? b=some u->h'.get? b=some u) (heo:∃u,h'.get? e=some u):Un fs ex H (upd H x o) h h':=by
 have hx:∀b,H b=none->b≠x:=fun b n z=>by subst z;rw [n] at mu;exact mu
 have hb:∀b,H b=none->b≠e:=fun b n z=>by
  subst z;rcases he with r|r
  ·exact hx b n r
  ·rw [n] at r;cases r
 have hm:∀b u,H b=some u -> ¬Mut (some u)->b≠x:=fun b u q nm z=>by subst z;rw [q] at mu;exact nm mu
 refine ⟨fun b u q n _ _=>k b u (hb b n) q,fun b u q n _ _=>⟨u.slots,k b u (hb b n) q⟩,fun b u q n _=>by rw [aF (hx b n)];exact n,fun b u q _=> ?_,
  fun b xs q=>by rw [aF (hm b _ q fun z=>z)];exact q,fun b u xs q=>by rw [aF (hm b _ q fun z=>z)];exact q,fun b ps q=>⟨#[],by rw [aF (hm b _ q fun z=>z),q];simp⟩⟩
 by_cases hbe:b=e
 ·subst hbe;exact heo
 ·exact ⟨u,k b u hbe q⟩
end
def Qm (h:Heap) (H:Hp):List Addr:=(List.range h.objs.size).filter fun a=>(H a).isSome
def DN (h:Heap) (H:Hp):Heap:=PySem.W.hideAll h (Qm h H)
theorem K6 (h:Heap) (H:Hp):(DN h H).objs.size=h.objs.size:=PySem.W.hideAll_size _ _
theorem Ox {h:Heap} {H:Hp} {b:Addr} {o:Obj} (e:h.get? b=some o) (n:H b=none):(DN h H).get? b=some o:=
 PySem.W.hideAll_get _ e fun hm=>by
  have q:(H b).isSome=true:=(List.mem_filter.mp hm).2;rw [n] at q;simp at q
theorem Rr {h:Heap} {H:Hp} {b:Addr} {o:Obj} (e:(DN h H).get? b=some o):h.get? b=some o/\H b=none:=by
 have e':h.get? b=some o:=PySem.W.of_hideAll (Qm h H) e;refine ⟨e', ?_⟩;cases q:H b with
 | none=>rfl
 | some x=>
   have hm:b∈Qm h H:=List.mem_filter.mpr ⟨List.mem_range.mpr (Heap.lt_size e'),by simp [q]⟩;have z:(DN h H).get? b=none:=PySem.W.hideAll_none (Qm h H) hm;rw [z] at e;cases e
def SM (g h:Heap) (L:Addr):List (Addr×Obj):=(List.range h.objs.size).filterMap fun a=>if a=L\/(g.get? a).isSome=true then none else (h.get? a).map fun o=>(a,o)
def rest (g h:Heap) (L d:Addr):List (Addr×Obj):=(SM g h L).filter fun p=>decide (p.1≠d)
end L2
namespace L2
open PySem PySem.Spec PyProof.Rows
structure Mod (K:PySem.W.Frag) (mg:Str->Option Value) (base:Heap):Prop where
 RD:K.In base
 glob:base.Ns mainGlobals mg
 blt:∃mb,base.Ns builtinsNs mb /\ ∀x:Str,x ≠ "__name__" -> mb x=bootBuiltins x
 nolimit:base.NoLimit
structure Cx where
 prog:Program
 w:World
 K:PySem.W.Frag
 mg:Str->Option Value
 base:Heap
 A:Around
 N:List Str
 s₀:Shared
 H₀:Hp
 env:Env
 outer:List Env
 stack:List Env
 ex:List Addr
 fn:Str->Bool
 calm:Bool
 pn:List (Addr×Obj)
 xe:Value->Shared->Prop
def frs (l:List Env):List Addr:=l.filterMap (·.frame)
abbrev Cx.fs (X:Cx):List Addr:=frs X.outer
def Vis (sc:Scope) (x:Str):Prop:=sc.names.lookup x=some .local\/sc.names.lookup x=some .cell\/sc.names.lookup x=some .free
def Loc (sc:Scope) (x:Str):Prop:=sc.names.lookup x=some .local\/sc.names.lookup x=some .cell
def Look (env:Env) (h:Heap) (m:Str->Option Value) (x:Str) (u:Value):Prop:=
 (env.kindOf x=some .local/\m x=some u)\/((env.kindOf x=some .cell\/env.kindOf x=some .free) /\ ∃c,env.cells.lookup x=some c/\h.IsCell c (some u))
structure Cx.Ok (X:Cx):Prop where
 mod:Mod X.K X.mg X.base
 kind:X.env.scope.kind = .function
 glob:X.env.globals=mainGlobals
 blt:X.env.builtins=builtinsNs
 above:X.s₀.heap.objs.size<=X.env.locals
 inj:∀x y c,X.env.cells.lookup x=some c->X.env.cells.lookup y=some c->x=y
 has:∀x,(X.env.kindOf x=some .cell\/X.env.kindOf x=some .free) -> ∃c,X.env.cells.lookup x=some c
 cab:∀x c,X.fn x=true->X.env.cells.lookup x=some c->X.s₀.heap.objs.size<=c
 hd:X.calm=true->X.A.handled=none
 frames:X.A.frames=some X.stack
 stk:X.stack=X.outer\/(X.stack=X.env::X.outer/\X.env.frame=some X.env.locals)
 X8:∀b∈X.ex,b≠X.env.locals /\ ∀x c,X.env.cells.lookup x=some c->c≠b
 bs:∀b o,X.base.get? b=some o->X.s₀.heap.get? b=some o/\X.H₀ b=none
 Iz:X.base.objs.size<=X.s₀.heap.objs.size
 Ds:∀b o,X.base.get? b=some o->b∉X.ex
 Gh:∀b∈X.ex,b∉X.fs
 pO:X.s₀.heap.FunFrames X.base X.outer
 Lz:∀b∈X.fs,X.H₀ b=none
structure Inv (X:Cx) (pins:List (Addr×Obj)) (σ:List (Option V)) (H:Hp) (s:Shared):Prop where
 ok:X.Ok
 os:s.os=X.s₀.os
 bare:AllBare s.gens
 base:Un X.fs X.ex X.H₀ H X.s₀.heap s.heap
 loc:∃m,s.heap.Ns X.env.locals m /\ ∀(i:Nat) (x:Str) (v:V),X.N[i]? = some x->σ[i]? = some (some v)->Vis X.env.scope x -> ∃u,RelV v u/\Look X.env s.heap m x u
 cell:∀x c,X.env.cells.lookup x=some c -> ∃v,s.heap.IsCell c v
 free:H X.env.locals=none
 kh:∀x c,X.env.cells.lookup x=some c->H c=none
 pin:∀p∈X.pn++pins,s.heap.get? p.1=some p.2/\H p.1=none/\p.1≠X.env.locals/\p.1∉X.fs /\ ∀v,p.2.data ≠ .cell v
 hok:rC X.prog X.w H s.heap
 len:σ.length=X.N.length
section
variable {X:Cx} {pins:List (Addr×Obj)} {σ:List (Option V)} {H H':Hp} {s:Shared} {h':Heap}
theorem Cx.Ok.agh (ok:X.Ok) {b:Addr} {o:Obj} (e:X.base.get? b=some o):b∉X.fs:=fun hb=>by
 have:=(ok.pO.mem hb).1;rw [e] at this;cases this
theorem Inv.bs (I:Inv X pins σ H s):∀b o,X.base.get? b=some o->s.heap.get? b=some o/\H b=none:=fun b o e=>
 ⟨I.base.keep b o (I.ok.bs b o e).1 (I.ok.bs b o e).2 (I.ok.agh e) (I.ok.Ds b o e),I.base.free b o (I.ok.bs b o e).1 (I.ok.bs b o e).2 (I.ok.Ds b o e)⟩
theorem Inv.bk (I:Inv X pins σ H s):∀b o,X.base.get? b=some o->s.heap.get? b=some o:=fun b o e=>(I.bs b o e).1
theorem Inv.mod (I:Inv X pins σ H s):Mod X.K X.mg X.base:=I.ok.mod
theorem Inv.rE (I:Inv X pins σ H s):X.K.In s.heap:=I.ok.mod.RD.keeps I.bk
theorem Inv.fr (I:Inv X pins σ H s):∃m,Fr X.base X.env.locals s.heap m:=
 let ⟨m,hn,_⟩:=I.loc
 ⟨m,hn,I.bk,Nat.le_trans I.ok.Iz I.ok.above⟩
theorem Inv.lt (I:Inv X pins σ H s):X.env.locals<s.heap.objs.size:=let ⟨_,hn,_⟩:=I.loc;hn.lt
theorem Inv.sz (I:Inv X pins σ H s):X.s₀.heap.objs.size<=s.heap.objs.size:=Nat.le_trans I.ok.above (Nat.le_of_lt I.lt)
theorem Inv.agg (I:Inv X pins σ H s) {a:Addr} (h:s.heap.objs.size<=a):a∉X.fs:=fun hb=>by
 obtain ⟨_,o,ho,_⟩:=I.ok.pO.mem hb;exact absurd (Nat.lt_of_lt_of_le (Heap.lt_size ho) (Nat.le_trans I.sz h)) (Nat.lt_irrefl _)
theorem Inv.UL (I:Inv X pins σ H s):∀x c,X.env.cells.lookup x=some c->c≠X.env.locals:=fun x c e z=>by
 obtain ⟨v,o,ho,hd⟩:=I.cell x c e;obtain ⟨m,⟨o',es,ep,ho',hd',_⟩,_⟩:=I.loc;rw [z,ho'] at ho;cases ho;rw [hd'] at hd;cases hd
theorem Inv.pO (I:Inv X pins σ H s):s.heap.FunFrames X.base X.outer:=by
 have all:∀(l:List Env),(∀b∈frs l,b∈X.fs)->X.s₀.heap.FunFrames X.base l->s.heap.FunFrames X.base l:=by
  intro l
  induction l with
  | nil=>intro _ _;trivial
  | cons env r ih=>
    intro hs hl;obtain ⟨hk,⟨L,o,hf,hn,ho,hd⟩,hr⟩:=hl;have hL:L∈X.fs:=hs L (by unfold frs;rw [List.filterMap_cons,hf];exact List.mem_cons_self);obtain ⟨sl,e⟩:=I.base.slot L o ho (I.ok.Lz L hL) hL fun z=>I.ok.Gh L z hL;exact ⟨hk,⟨L,_,hf,hn,e,hd⟩,ih (fun b hb=>hs b (by unfold frs;rw [List.filterMap_cons,hf];exact List.mem_cons_of_mem _ hb)) hr⟩
 exact all X.outer (fun _ hb=>hb) I.ok.pO
theorem Inv.stack (I:Inv X pins σ H s):s.heap.FunFrames X.base X.stack:=by
 rcases I.ok.stk with e|⟨e,hf⟩
 ·rw [e];exact I.pO
 ·rw [e]
  obtain ⟨m,hn,_⟩:=I.loc;refine .cons (by rw [I.ok.kind];decide) hf hn ?_ I.pO;exact Heap.get?_none_of_le (Nat.le_trans I.ok.Iz I.ok.above)
theorem Inv.yt (I:Inv X pins σ H s):∀b∈frs X.stack,b∈X.env.locals::X.fs:=fun b hb=>by
 rcases I.ok.stk with e|⟨e,hf⟩
 ·rw [e] at hb;exact List.mem_cons_of_mem _ hb
 ·rw [e] at hb
  unfold frs at hb;rw [List.filterMap_cons,hf] at hb;exact hb
theorem Inv.Cq (I:Inv X pins σ H s):∀b∈frs X.stack,H b=none:=fun b hb=>by
 rcases List.mem_cons.mp (I.yt b hb) with e|hb
 ·rw [e];exact I.free
 ·obtain ⟨_,o,ho,_⟩:=I.ok.pO.mem hb
  exact I.base.free b o ho (I.ok.Lz b hb) fun z=>I.ok.Gh b z hb
theorem Inv.step {g':Array GenState} {t':Nat} {d':Drawn} {ch:List Addr} (I:Inv X pins σ H s)
 (hch:∀b∈ch,(b∈X.ex\/X.s₀.heap.objs.size<=b)/\b≠X.env.locals/\(∀x c,X.env.cells.lookup x=some c->c≠b) /\ ∀p∈X.pn++pins,p.1≠b)
 (keep:∀b o,b≠X.env.locals->b∉X.fs->b∉ch->s.heap.get? b=some o->H b=none->h'.get? b=some o)
 (slot:∀b o,b≠X.env.locals->b∈X.fs->b∉ch->s.heap.get? b=some o->H b=none -> ∃sl,h'.get? b=some {o with slots:=sl}) (free:∀b o,b∉ch->s.heap.get? b=some o->H b=none->H' b=none)
 (there:∀b o,b∉ch->s.heap.get? b=some o -> ∃o',h'.get? b=some o')
 (tups:∀b xs,H b=some (.tup xs)->H' b=some (.tup xs)) (vX:∀b o u,H b=some (.Gf o u)->H' b=some (.Gf o u)) (wL:∀b ps,H b=some (.TJ ps) -> ∃more,H' b=some (.TJ (ps++more)))
 (ns:∀m,s.heap.Ns X.env.locals m->h'.Ns X.env.locals m) (hok:rC X.prog X.w H' h') (hg:AllBare g'):
 Inv X pins σ H' {s with heap:=h',gens:=g',drawn:=d',toks:=t'}:=by
 have Uj:∀b o,X.s₀.heap.get? b=some o->b≠X.env.locals:=fun b o e=>Nat.ne_of_lt (Nat.lt_of_lt_of_le (Heap.lt_size e) I.ok.above)
 have neC:∀b o,X.s₀.heap.get? b=some o->b∉X.ex->b∉ch:=fun b o e hx hb=>by
  rcases (hch b hb).1 with z|z
  ·exact hx z
  ·exact absurd (Nat.lt_of_lt_of_le (Heap.lt_size e) z) (Nat.lt_irrefl _)
 have cellK:∀x c,X.env.cells.lookup x=some c -> ∀v,s.heap.IsCell c v->h'.IsCell c v:=fun x c e v ⟨o,ho,hd⟩=>by
  have Zm:c∉ch:=fun z=>(hch c z).2.2.1 x c e rfl
  by_cases hc:c∈X.fs
  ·obtain ⟨sl,q⟩:=slot c o (I.UL x c e) hc Zm ho (I.kh x c e)
   exact ⟨_,q,hd⟩
  ·exact ⟨o,keep c o (I.UL x c e) hc Zm ho (I.kh x c e),hd⟩
 refine ⟨I.ok,I.os,hg,⟨fun b o e n hb hx=> ?_,fun b o e n hb hx=> ?_,fun b o e n hx=> ?_,fun b o e hx=> ?_,fun b xs e=>tups b xs (I.base.tups b xs e),fun b o xs e=>vX b o xs (I.base.vX b o xs e),fun b ps e=> ?_⟩, ?_,fun x c e=> ?_, ?_,fun x c e=> ?_,fun p hp=> ?_,hok,I.len⟩
 ·exact keep b o (Uj b o e) hb (neC b o e hx) (I.base.keep b o e n hb hx) (I.base.free b o e n hx)
 ·obtain ⟨sl,e1⟩:=I.base.slot b o e n hb hx
  obtain ⟨sl',e2⟩:=slot b _ (Uj b o e) hb (neC b o e hx) e1 (I.base.free b o e n hx);exact ⟨sl',e2⟩
 ·obtain ⟨o',e1⟩:=I.base.there b o e hx
  exact free b o' (neC b o e hx) e1 (I.base.free b o e n hx)
 ·obtain ⟨o',e1⟩:=I.base.there b o e hx
  exact there b o' (neC b o e hx) e1
 ·obtain ⟨m1,e1⟩:=I.base.wL b ps e
  obtain ⟨m2,e2⟩:=wL b _ e1;exact ⟨m1++m2,by rw [e2,Array.append_assoc]⟩
 ·obtain ⟨m,hn,hl⟩:=I.loc
  refine ⟨m,ns m hn,fun i x v e1 e2 e3=> ?_⟩;obtain ⟨u,r,l⟩:=hl i x v e1 e2 e3;refine ⟨u,r, ?_⟩;rcases l with l|⟨k,c,e,z⟩
  ·exact .inl l
  ·exact .inr ⟨k,c,e,cellK x c e _ z⟩
 ·obtain ⟨v,z⟩:=I.cell x c e
  exact ⟨v,cellK x c e v z⟩
 ·obtain ⟨m,⟨o,_,_,ho,_⟩,_⟩:=I.loc
  exact free _ o (fun z=>(hch _ z).2.1 rfl) ho I.free
 ·obtain ⟨v,o,ho,hd⟩:=I.cell x c e
  exact free c o (fun z=>(hch c z).2.2.1 x c e rfl) ho (I.kh x c e)
 ·obtain ⟨e,n,ne,nf,d⟩:=I.pin p hp
  have Zm:p.1∉ch:=fun z=>(hch p.1 z).2.2.2 p hp rfl;exact ⟨keep p.1 p.2 ne nf Zm e n,free p.1 p.2 Zm e n,ne,nf,d⟩
theorem Inv.un {t':Nat} (I:Inv X pins σ H s) (u:Un X.fs [] H H' s.heap h') (hok:rC X.prog X.w H' h'):Inv X pins σ H' {s with heap:=h',toks:=t'}:=by
 obtain ⟨m,⟨o,es,ep,ho,r⟩,_⟩:=id I.loc;obtain ⟨sl,hL⟩:=u.any ho I.free (by simp)
 exact I.step (g':=s.gens) (d':=s.drawn) (ch:=[]) (fun _ z=>nomatch z) (fun b o _ hb _ e n=>u.keep b o e n hb (by simp)) (fun b o _ hb _ e n=>u.slot b o e n hb (by simp)) (fun b o _ e n=>u.free b o e n (by simp)) (fun b o _ e=>u.there b o e (by simp)) u.tups u.vX u.wL (fun m' hm=>by
  obtain ⟨o',es',ep',ho',r'⟩:=hm;rw [ho] at ho';cases ho';exact ⟨_,es',ep',hL,r'⟩) hok I.bare
theorem Inv.call {g':Array GenState} {t':Nat} {d':Drawn} {ch:List Addr} (I:Inv X pins σ H s) (u:Un (frs X.stack) ch H H' s.heap h') (hok:rC X.prog X.w H' h') (hg:AllBare g')
 (hch:∀b∈ch,(b∈X.ex\/X.s₀.heap.objs.size<=b)/\b≠X.env.locals/\(∀x c,X.env.cells.lookup x=some c->c≠b) /\ ∀p∈X.pn++pins,p.1≠b):
 Inv X pins σ H' {s with heap:=h',gens:=g',drawn:=d',toks:=t'}:=by
 obtain ⟨m,⟨o,es,ep,ho,r⟩,_⟩:=id I.loc;obtain ⟨sl,hL⟩:=u.any ho I.free fun z=>(hch _ z).2.1 rfl
 exact I.step (ch:=ch) hch (fun b o hL hb hc e n=>u.keep b o e n (fun z=>(List.mem_cons.mp (I.yt b z)).elim hL hb) hc) (fun b o _ _ hc e n=>u.any e n hc) (fun b o hc e n=>u.free b o e n hc) (fun b o hc e=>u.there b o e hc) u.tups u.vX u.wL (fun m' hm=>by
  obtain ⟨o',es',ep',ho',r'⟩:=hm;rw [ho] at ho';cases ho';exact ⟨_,es',ep',hL,r'⟩) hok hg
theorem Inv.turned {t':Nat} {it:Addr} (I:Inv X pins σ H s) (k:∀b o,b≠it->s.heap.get? b=some o->h'.get? b=some o) (hn:H it=none) (hL:it≠X.env.locals)
 (h1:it∈X.ex\/X.s₀.heap.objs.size<=it) (h2:∀x c,X.env.cells.lookup x=some c->c≠it) (h3:∀p∈X.pn++pins,p.1≠it):Inv X pins σ H {s with heap:=h',toks:=t'}:=by
 have Zk:∀b u,H b=some u->b≠it:=fun b u e z=>by rw [z,hn] at e;cases e
 refine I.step (g':=s.gens) (d':=s.drawn) (ch:=[it]) (fun b hb=> ?_) (fun b o _ _ hc e _=>k b o (fun z=>hc (by simp [z])) e) (fun b o _ _ hc e _=>⟨o.slots,k b o (fun z=>hc (by simp [z])) e⟩) (fun _ _ _ _ n=>n)
  (fun b o hc e=>⟨o,k b o (fun z=>hc (by simp [z])) e⟩) (fun _ _ e=>e) (fun _ _ _ e=>e) (fun b ps e=>⟨#[],by rw [e];simp⟩) (fun m hm=> ?_) (fun b u e=> ?_) I.bare
 ·have e:b=it:=by simpa using hb
  subst e;exact ⟨h1,hL,h2,h3⟩
 ·obtain ⟨o,es,ep,ho,r⟩:=hm
  exact ⟨o,es,ep,k _ o (Ne.symm hL) ho,r⟩
 ·refine (I.hok b u e).stay (fun c v hc q=>k c v ?_ q) (fun _ q=>q) fun _ _ q=>q
  rcases hc with z|z
  ·rw [z];exact Zk b u e
  ·exact Zk c _ z
theorem Inv.tok (I:Inv X pins σ H s) (t:Nat):Inv X pins σ H {s with toks:=t}:=I.un (h':=s.heap) (t':=t) Un.refl I.hok
theorem Inv.kept {t':Nat} (I:Inv X pins σ H s) (k:∀b u,s.heap.get? b=some u->h'.get? b=some u):Inv X pins σ H {s with heap:=h',toks:=t'}:=I.un (Un.kept k) (I.hok.kept k)
theorem Inv.laid {a:Addr} {o:HO} {t':Nat} (I:Inv X pins σ H s) (k:∀b u,s.heap.get? b=some u->h'.get? b=some u) (hp:s.heap.objs.size<=a) (new:gw X.prog X.w (upd H a o) h' a o):
 Inv X pins σ (upd H a o) {s with heap:=h',toks:=t'}:=I.un (Un.laid k hp (I.hok.fresh hp)) (I.hok.laid k hp new)
theorem Inv.write {x e:Addr} {o:HO} {t':Nat} (I:Inv X pins σ H s) (mu:Mut (H x)) (he:e=x\/H e=some (.own x)) (k:∀b u,b≠e->s.heap.get? b=some u->h'.get? b=some u) (heo:∃u,h'.get? e=some u)
 (new:gw X.prog X.w (upd H x o) h' x o):Inv X pins σ (upd H x o) {s with heap:=h',toks:=t'}:=I.un (Un.write mu he k heo) (I.hok.write mu he k heo new)
theorem Inv.Jr {pL:List (Addr×Obj)} (I:Inv X pins σ H s) (h:∀p∈pL,s.heap.get? p.1=some p.2/\H p.1=none/\p.1≠X.env.locals/\p.1∉X.fs /\ ∀v,p.2.data ≠ .cell v):Inv X pL σ H s:=
 ⟨I.ok,I.os,I.bare,I.base,I.loc,I.cell,I.free,I.kh,fun p hp=>(List.mem_append.mp hp).elim (fun z=>I.pin p (List.mem_append_left _ z)) (h p),I.hok,I.len⟩
theorem yW {N:List Str} (hN:N.Nodup) {i j:Nat} {x:Str} (a:N[i]? = some x) (b:N[j]? = some x):i=j:=by
 obtain ⟨h1,e1⟩:=List.getElem?_eq_some_iff.mp a;obtain ⟨h2,e2⟩:=List.getElem?_eq_some_iff.mp b;exact (List.getElem_inj hN).mp (e1.trans e2.symm)
theorem Bh {M:Model} {A:Around} {E:Value->Shared->Prop} {i:Nat} {x:Str} {v:V} {u:Value} {Q:Unit->Shared->Prop} (I:Inv X pins σ H s) (hN:X.N.Nodup) (hi:X.N[i]? = some x) (hx:Loc X.env.scope x) (r:RelV v u)
 (h:∀s',Inv X pins (σ.set i (some v)) H s'->(∃a,Heap.SameBut a s.heap s'.heap/\(a=X.env.locals\/X.env.cells.lookup x=some a))->Q () s') (hf:X.fn x=true\/X.env.scope.names.lookup x=some .local:=by first |exact .inl rfl|exact .inr rfl|assumption):wpAny M A (storeName X.env x u) Q E s:=by
 obtain ⟨m,hn,hl⟩:=id I.loc;have hcls:(X.env.scope.kind == .class||(X.env.scope.kind == .module&&X.env.locals != X.env.globals))=false:=by rw [I.ok.kind];rfl
 have aly:i<σ.length:=by rw [I.len];exact (List.getElem?_eq_some_iff.mp hi).1
 have UL:=I.UL
 have tracked:∀{a:Addr} {h':Heap},(∃o,s.heap.get? a=some o/\H a=none)->Heap.SameBut a s.heap h'->rC X.prog X.w H h':=fun {a h'} ha hs b ob e=>by
  obtain ⟨_,_,hfree⟩:=ha;refine (I.hok b ob e).stay (fun c w' hc q=>(hs.2 c ?_).trans q) (fun _ q=>q) fun _ _ q=>q;rintro rfl;rcases hc with rfl|hc
  ·rw [hfree] at e;cases e
  ·rw [hfree] at hc;cases hc
 rcases hx with hk|hk
 ·refine wpAny_storeName_local hk hn (fun h' hn' hs=> ?_) hcls
  obtain ⟨oL,_,_,hoL,_⟩:=id hn;refine h _ ⟨I.ok,I.os,I.bare,⟨fun b o e n hb hx=> ?_,fun b o e n hb hx=> ?_,I.base.free,fun b o e hx=> ?_,I.base.tups,I.base.vX,I.base.wL⟩,⟨_,hn',fun j y v' e1 e2 e3=> ?_⟩,fun y c e=> ?_,I.free,I.kh,fun p hp=> ?_,tracked ⟨oL,hoL,I.free⟩ hs,by simpa using I.len⟩ ⟨_,hs,.inl rfl⟩
  ·exact (hs.2 b (Nat.ne_of_lt (Nat.lt_of_lt_of_le (Heap.lt_size e) I.ok.above))).trans (I.base.keep b o e n hb hx)
  ·obtain ⟨sl,e1⟩:=I.base.slot b o e n hb hx
   exact ⟨sl,(hs.2 b (Nat.ne_of_lt (Nat.lt_of_lt_of_le (Heap.lt_size e) I.ok.above))).trans e1⟩
  ·obtain ⟨o',e1⟩:=I.base.there b o e hx
   exact ⟨o',(hs.2 b (Nat.ne_of_lt (Nat.lt_of_lt_of_le (Heap.lt_size e) I.ok.above))).trans e1⟩
  ·by_cases hj:j=i
   ·subst hj
    rw [hi] at e1;cases e1;rw [List.getElem?_set_self aly] at e2;cases e2;exact ⟨u,r,.inl ⟨hk,by simp⟩⟩
   ·rw [List.getElem?_set_ne (Ne.symm hj)] at e2
    obtain ⟨u',r',q⟩:=hl j y v' e1 e2 e3;refine ⟨u',r', ?_⟩;rcases q with ⟨k,e⟩|⟨k,c,e,z⟩
    ·refine .inl ⟨k, ?_⟩
     have:y≠x:=fun e=>hj (yW hN e1 (e▸hi));simp [this,e]
    ·exact .inr ⟨k,c,e,z.sameBut hs (UL y c e)⟩
  ·obtain ⟨w',z⟩:=I.cell y c e
   exact ⟨w',z.sameBut hs (UL y c e)⟩
  ·obtain ⟨e,n,ne,nf,d⟩:=I.pin p hp
   exact ⟨(hs.2 p.1 ne).trans e,n,ne,nf,d⟩
 ·have hfn:X.fn x=true:=by
   rcases hf with z|z
   ·exact z
   ·rw [z] at hk;cases hk
  obtain ⟨c,hc⟩:=I.ok.has x (.inl hk);obtain ⟨w',z⟩:=I.cell x c hc;refine wpAny_storeName_cell I.ok.kind hk hc z (fun h' hc' hs=> ?_);obtain ⟨oc,hoc,ahP⟩:=id z;refine h {s with heap:=h'} ⟨I.ok,I.os,I.bare,⟨fun b o e n hb hx=> ?_,fun b o e n hb hx=> ?_,I.base.free,fun b o e hx=> ?_,I.base.tups,I.base.vX,I.base.wL⟩,⟨m,hn.sameBut hs (Ne.symm (UL x c hc)),fun j y v' e1 e2 e3=> ?_⟩,fun y c' e=> ?_,I.free,I.kh,fun p hp=> ?_,tracked ⟨oc,hoc,I.kh x c hc⟩ hs,by simpa using I.len⟩ ⟨c,hs,.inr hc⟩
  ·exact (hs.2 b (Nat.ne_of_lt (Nat.lt_of_lt_of_le (Heap.lt_size e) (I.ok.cab x c hfn hc)))).trans (I.base.keep b o e n hb hx)
  ·obtain ⟨sl,e1⟩:=I.base.slot b o e n hb hx
   exact ⟨sl,(hs.2 b (Nat.ne_of_lt (Nat.lt_of_lt_of_le (Heap.lt_size e) (I.ok.cab x c hfn hc)))).trans e1⟩
  ·obtain ⟨o',e1⟩:=I.base.there b o e hx
   exact ⟨o',(hs.2 b (Nat.ne_of_lt (Nat.lt_of_lt_of_le (Heap.lt_size e) (I.ok.cab x c hfn hc)))).trans e1⟩
  ·by_cases hj:j=i
   ·subst hj
    rw [hi] at e1;cases e1;rw [List.getElem?_set_self aly] at e2;cases e2;exact ⟨u,r,.inr ⟨.inl hk,c,hc,hc'⟩⟩
   ·rw [List.getElem?_set_ne (Ne.symm hj)] at e2
    obtain ⟨u',r',q⟩:=hl j y v' e1 e2 e3;refine ⟨u',r', ?_⟩;rcases q with q|⟨k,c',e,z'⟩
    ·exact .inl q
    ·refine .inr ⟨k,c',e,z'.sameBut hs ?_⟩
     rintro rfl;exact hj (yW hN e1 (I.ok.inj _ _ _ e hc▸hi))
  ·by_cases hcc:c'=c
   ·subst hcc;exact ⟨_,hc'⟩
   ·obtain ⟨w2,z2⟩:=I.cell y c' e
    exact ⟨w2,z2.sameBut hs hcc⟩
  ·obtain ⟨e,n,ne,nf,d⟩:=I.pin p hp
   refine ⟨(hs.2 p.1 ?_).trans e,n,ne,nf,d⟩;intro q;rw [q,hoc] at e;have q':oc=p.2:=Option.some.inj e;exact d w' (by rw [←q'];exact ahP)
theorem uf {M:Model} {A:Around} {E:Value->Shared->Prop} {i:Nat} {x:Str} {v:V} {u:Value} {Q:Unit->Shared->Prop} (I:Inv X pins σ H s) (hN:X.N.Nodup) (hi:X.N[i]? = some x) (hx:Loc X.env.scope x) (r:RelV v u)
 (h:∀s',Inv X pins (σ.set i (some v)) H s'->Q () s') (hf:X.fn x=true\/X.env.scope.names.lookup x=some .local:=by first |exact .inl rfl|exact .inr rfl|assumption):wpAny M A (storeName X.env x u) Q E s:=
 Bh I hN hi hx r (fun s' I' _=>h s' I') hf
theorem Inv.call' {s':Shared} {ch:List Addr} (I:Inv X pins σ H s) (ho:s'.os=s.os) (u:Un (frs X.stack) ch H H' s.heap s'.heap) (hok:rC X.prog X.w H' s'.heap) (hg:AllBare s'.gens)
 (hch:∀b∈ch,(b∈X.ex\/X.s₀.heap.objs.size<=b)/\b≠X.env.locals/\(∀x c,X.env.cells.lookup x=some c->c≠b) /\ ∀p∈X.pn++pins,p.1≠b):Inv X pins σ H' s':=by
 obtain ⟨h',g',d',t',o'⟩:=s';have e:o'=s.os:=ho;subst e;exact I.call (g':=g') (t':=t') (d':=d') u hok hg hch
end
abbrev XK:=Value->Option Addr->Hp->Prop
abbrev St:=List (Option V)
abbrev VK:=V->Hp->Prop
abbrev TE:=St->Hp->VK->Prop
abbrev TT:=St->Hp->(Bool->Hp->Prop)->Prop
abbrev TA:=St->Hp->(List V->Hp->Prop)->Prop
structure Ends where
 nx:St->Hp->Prop
 rt:VK
 bk:St->Hp->Prop:=fun _ _=>False
 ct:St->Hp->Prop:=fun _ _=>False
abbrev TS:=Ends->St->Hp->Prop
def EP (X:Cx) (pins:List (Addr×Obj)) (σ:St) (Q:VK) (u:Value) (s':Shared):Prop:=∃v H',Inv X pins σ H' s'/\RelV v u/\Q v H'
def TP (X:Cx) (pins:List (Addr×Obj)) (σ:St) (Q:Bool->Hp->Prop) (b:Bool) (s':Shared):Prop:=∃H',Inv X pins σ H' s'/\Q b H'
def AP (X:Cx) (pins:List (Addr×Obj)) (σ:St) (Q:List V->Hp->Prop) (us:List Value) (s':Shared):Prop:=∃vs H',Inv X pins σ H' s'/\Vals vs us/\Q vs H'
def SP (X:Cx) (pins:List (Addr×Obj)) (D:Ends) (f:Flow) (s':Shared):Prop:=
 match f with
 | .next=>∃σ' H',Inv X pins σ' H' s'/\D.nx σ' H'
 | .brk=>∃σ' H',Inv X pins σ' H' s'/\D.bk σ' H'
 | .cont=>∃σ' H',Inv X pins σ' H' s'/\D.ct σ' H'
 | .ret u=>∃v σ' H',Inv X pins σ' H' s'/\RelV v u/\D.rt v H'
def PE (X:Cx) (e:Expr) (t:TE):Prop:=
 ∀(pins:List (Addr×Obj)) (s:Shared) (σ:St) (H:Hp) (Q:VK),Inv X pins σ H s->t σ H Q->wpAny (model X.prog X.w) X.A (eval e X.env) (EP X pins σ Q) X.xe s
def PT (X:Cx) (e:Expr) (t:TT):Prop:=
 ∀(pins:List (Addr×Obj)) (s:Shared) (σ:St) (H:Hp) (Q:Bool->Hp->Prop),Inv X pins σ H s->t σ H Q->wpAny (model X.prog X.w) X.A (isTrue e X.env (eval e X.env)) (TP X pins σ Q) X.xe s
def PW (X:Cx) (e:Expr) (t:TT):Prop:=
 ∀(whole:Sem Value) (pins:List (Addr×Obj)) (s:Shared) (σ:St) (H:Hp) (Q:Bool->Hp->Prop),Inv X pins σ H s->t σ H Q->wpAny (model X.prog X.w) X.A (isTrue e X.env whole) (TP X pins σ Q) X.xe s
theorem PW.pt {X:Cx} {e:Expr} {t:TT} (h:PW X e t):PT X e t:=h _
def PA (X:Cx) (es:List Expr) (t:TA):Prop:=
 ∀(pos:Pos) (pins:List (Addr×Obj)) (s:Shared) (σ:St) (H:Hp) (Q:List V->Hp->Prop),Inv X pins σ H s->t σ H Q->wpAny (model X.prog X.w) X.A (spliced (backTo pos (starEach es X.env))) (AP X pins σ Q) X.xe s
def PS (X:Cx) (st:Stmt) (t:TS):Prop:=
 ∀(pins:List (Addr×Obj)) (s:Shared) (σ:St) (H:Hp) (D:Ends),Inv X pins σ H s->t D σ H->wpAny (model X.prog X.w) X.A (exec st X.env) (SP X pins D) X.xe s
def GX (X:Cx) (st:List Stmt) (t:TS):Prop:=
 ∀(pins:List (Addr×Obj)) (s:Shared) (σ:St) (H:Hp) (D:Ends),Inv X pins σ H s->t D σ H->wpAny (model X.prog X.w) X.A (execs st X.env) (SP X pins D) X.xe s
theorem eF {α:Type} {t:Sem α} {Q Q':α->Shared->Prop} {M:Model} {A:Around} {E:Value->Shared->Prop} {s:Shared} (h:wpAny M A t Q E s) (hQ:∀a s,Q a s->Q' a s):wpAny M A t Q' E s:=wpAny_mono h hQ fun _ _ x=>x
end L2
namespace L2
open PySem PySem.Spec PyProof.Rows
section
variable {X:Cx}
def Yy (i:Nat):TE:=fun σ H Q=>∃v,σ[i]? = some (some v)/\Q v H
def tC (v:V):TE:=fun _ H Q=>Q v H
theorem V5 {i:Nat} {x:Str} {pos:Pos} (hN:X.N[i]? = some x) (hv:Vis X.env.scope x) (hd:(x==("__debug__" :Str))=false:=by decide) (hcd:(x==("__classdict__" :Str))=false:=by decide):PE X (.Name x pos) (Yy i):=by
 intro pins s σ H Q I h;obtain ⟨v,e,h⟩:=h;obtain ⟨m,hn,hl⟩:=I.loc;obtain ⟨u,r,l⟩:=hl i x v hN e hv;have fin:EP X pins σ Q u s:=⟨v,H,I,r,h⟩;rcases l with ⟨hk,hm⟩|⟨hk,c,hc,hcell⟩
 ·exact wpAny_Name (wpAny_loadName_local I.ok.kind hk hn hm fin) hd
 ·rcases hk with hk|hk
  ·exact wpAny_Name (wpAny_loadName_cell I.ok.kind hk hc hcell fin) hd
  ·exact wpAny_Name (wpAny_loadName_free I.ok.kind hk hc hcell fin hcd) hd
theorem aG {i j pos}:PE X (.Constant (.int i) j pos) (tC (.int i)):=fun _ _ _ H _ I h=>wpAny_Constant_int ⟨.int i,H,I.tok _,⟨_,rfl⟩,h⟩
theorem mU {b j pos}:PE X (.Constant (.bool b) j pos) (tC (.bl b)):=fun _ _ _ H _ I h=>Constant_bool ⟨.bl b,H,I,rfl,h⟩
theorem mD {j pos}:PE X (.Constant .none j pos) (tC .non):=fun _ _ _ H _ I h=>Constant_none ⟨.non,H,I,rfl,h⟩
theorem cN {x j pos}:PE X (.Constant (.str x) j pos) (tC (.str x)):=fun _ _ _ H _ I h=>Calls.Constant_str ⟨.str x,H,I.tok _,⟨_,rfl⟩,h⟩
def Gl (X:Cx) (x:Str):Prop:=X.env.kindOf x=some .globalImplicit
theorem qY {E:Value->Shared->Prop} {pins:List (Addr×Obj)} {s:Shared} {σ:St} {H:Hp} {x:Str} {u:Value} {pos:Pos} {Q:Value->Shared->Prop} (I:Inv X pins σ H s) (hg:Gl X x) (hm:X.mg x=some u) (h:Q u s)
 (hd:(x==("__debug__" :Str))=false:=by decide):wpAny (model X.prog X.w) X.A (eval (.Name x pos) X.env) Q E s:=
 Calls.Name_function_global I.ok.kind hg (Calls.loadGlobal_global (by rw [I.ok.glob];exact I.mod.glob.keeps I.bk) hm h) hd
theorem tK {E:Value->Shared->Prop} {pins:List (Addr×Obj)} {s:Shared} {σ:St} {H:Hp} {x:Str} {u:Value} {pos:Pos} {Q:Value->Shared->Prop} (I:Inv X pins σ H s) (hg:Gl X x) (hm:X.mg x=none) (hv:bootBuiltins x=some u) (h:Q u s)
 (hn:x ≠ "__name__" :=by decide) (hd:(x==("__debug__" :Str))=false:=by decide):wpAny (model X.prog X.w) X.A (eval (.Name x pos) X.env) Q E s:=by
 obtain ⟨mb,h1,h2⟩:=I.mod.blt;exact Calls.Name_function_global I.ok.kind hg (Calls.loadGlobal_builtin (by rw [I.ok.glob];exact I.mod.glob.keeps I.bk) hm (by rw [I.ok.blt];exact h1.keeps I.bk) ((h2 x hn).trans hv) h) hd
theorem jJ {x:Str} {v:V} {u:Value} {pos:Pos} (hg:Gl X x) (hm:X.mg x=some u) (r:RelV v u) (hd:(x==("__debug__" :Str))=false:=by decide):PE X (.Name x pos) (tC v):=
 fun _ _ _ H _ I h=>qY I hg hm ⟨v,H,I,r,h⟩ hd
theorem fQ {x:Str} {v:V} {u:Value} {pos:Pos} (hg:Gl X x) (hm:X.mg x=none) (hv:bootBuiltins x=some u) (r:RelV v u) (hn:x ≠ "__name__" :=by decide) (hd:(x==("__debug__" :Str))=false:=by decide):PE X (.Name x pos) (tC v):=
 fun _ _ _ H _ I h=>tK I hg hm hv ⟨v,H,I,r,h⟩ hn hd
variable {a b:Expr} {ta tb:TE} {pos:Pos}
def tB (t:TE):TT:=fun σ H Q=>t σ H fun x H1=>∃c,x = .bl c/\Q c H1
theorem dh {e:Expr} {t:TE} (h:PE X e t) (he:∀whole,isTrue e X.env whole=(do let v ←whole;standAt e.pos;holding [v] (truthy v)):=by intro _;rfl):PT X e (tB t):=by
 intro pins s σ H Q I hw;refine isTrue_plain (eF (h pins s σ H _ I hw) fun v s1 ⟨x,H1,I1,r1,q1⟩=> ?_) (he _);obtain ⟨d,rfl,q⟩:=q1;cases r1;exact wpAny_truthy_bool ⟨H1,I1,q⟩
variable {tA tB':TT} {rest:List Expr}
def ady (t u:TT):TT:=fun σ H Q=>t σ H fun c H1=>if c=true then u σ H1 Q else Q false H1
def tOr (t u:TT):TT:=fun σ H Q=>t σ H fun c H1=>if c=true then Q true H1 else u σ H1 Q
def adq (t:TT):TT:=fun σ H Q=>t σ H fun c H1=>Q (!c) H1
theorem Dd (ha:PT X a tA):PW X (.BoolOp .And [a] pos) tA:=by
 intro wh pins s σ H Q I h;refine isTrue_and (eF (ha pins s σ H Q I h) fun c s1 e=> ?_);cases c with
 | true=>exact isTrue_and_nil e
 | false=>exact e
theorem mj (ha:PT X a tA):PW X (.BoolOp .Or [a] pos) tA:=by
 intro wh pins s σ H Q I h;refine isTrue_or (eF (ha pins s σ H Q I h) fun c s1 e=> ?_);cases c with
 | false=>exact isTrue_or_nil e
 | true=>exact e
theorem Ht (ha:PT X a tA) (hb:PW X (.BoolOp .And (b::rest) pos) tB'):PW X (.BoolOp .And (a::b::rest) pos) (ady tA tB'):=by
 intro wh pins s σ H Q I h;refine isTrue_and (eF (ha pins s σ H _ I h) fun c s1 ⟨H1,I1,q1⟩=> ?_);cases c with
 | true=>exact hb wh pins s1 σ H1 Q I1 q1
 | false=>exact ⟨H1,I1,q1⟩
theorem pK (ha:PT X a tA) (hb:PW X (.BoolOp .Or (b::rest) pos) tB'):PW X (.BoolOp .Or (a::b::rest) pos) (tOr tA tB'):=by
 intro wh pins s σ H Q I h;refine isTrue_or (eF (ha pins s σ H _ I h) fun c s1 ⟨H1,I1,q1⟩=> ?_);cases c with
 | true=>exact ⟨H1,I1,q1⟩
 | false=>exact hb wh pins s1 σ H1 Q I1 q1
theorem fB (ha:PT X a tA):PT X (.UnaryOp .Not a pos) (adq tA):=by
 intro pins s σ H Q I h;exact isTrue_not (ha pins s σ H (fun c H1=>Q (!c) H1) I h)
def YL (ta tb:TE):TE:=fun σ H Q=>ta σ H fun x H1=>∃c,x = .bl c/\if c=true then tb σ H1 Q else Q (.bl false) H1
def adp (ta tb:TE):TE:=fun σ H Q=>ta σ H fun x H1=>∃c,x = .bl c/\if c=true then Q (.bl true) H1 else tb σ H1 Q
def YD (ta:TE):TE:=fun σ H Q=>ta σ H fun x H1=>∃c,x = .bl c/\Q (.bl (!c)) H1
theorem tG {op} {t:TE} (h:PE X a t):PE X (.BoolOp op [a] pos) t:=fun pins s σ H Q I hw=>BoolOp_one (h pins s σ H Q I hw)
theorem tH (ha:PE X a ta) (hb:PE X (.BoolOp .And (b::rest) pos) tb):PE X (.BoolOp .And (a::b::rest) pos) (YL ta tb):=by
 intro pins s σ H Q I h;refine BoolOp_and (eF (ha pins s σ H _ I h) fun v s1 ⟨x,H1,I1,r1,q1⟩=> ?_);obtain ⟨c,rfl,q1⟩:=q1;cases r1;refine wpAny_truthy_bool ?_;cases c with
 | true=>exact hb pins s1 σ H1 Q I1 q1
 | false=>exact ⟨.bl false,H1,I1,rfl,q1⟩
theorem Zb (ha:PE X a ta) (hb:PE X (.BoolOp .Or (b::rest) pos) tb):PE X (.BoolOp .Or (a::b::rest) pos) (adp ta tb):=by
 intro pins s σ H Q I h;refine BoolOp_or (eF (ha pins s σ H _ I h) fun v s1 ⟨x,H1,I1,r1,q1⟩=> ?_);obtain ⟨c,rfl,q1⟩:=q1;cases r1;refine wpAny_truthy_bool ?_;cases c with
 | false=>exact hb pins s1 σ H1 Q I1 q1
 | true=>exact ⟨.bl true,H1,I1,rfl,q1⟩
theorem Np (ha:PE X a ta):PE X (.UnaryOp .Not a pos) (YD ta):=by
 intro pins s σ H Q I h;refine UnaryOp_ (eF (ha pins s σ H _ I h) fun v s1 ⟨x,H1,I1,r1,q1⟩=> ?_);obtain ⟨c,rfl,q1⟩:=q1;cases r1;exact not_of (wpAny_truthy_bool ⟨.bl (!c),H1,I1,rfl,q1⟩)
def tIf (t:TT) (ta tb:TE):TE:=fun σ H Q=>t σ H fun c H1=>if c=true then ta σ H1 Q else tb σ H1 Q
theorem nU {c:Expr} (hc:PT X c tA) (ha:PE X a ta) (hb:PE X b tb):PE X (.IfExp c a b pos) (tIf tA ta tb):=by
 intro pins s σ H Q I h;refine wpAny_IfExp (eF (hc pins s σ H _ I h) fun d s1 ⟨H1,I1,q1⟩=> ?_);cases d with
 | true=>exact ha pins s1 σ H1 Q I1 q1
 | false=>exact hb pins s1 σ H1 Q I1 q1
end
end L2
namespace L2
open PySem PySem.Spec PyProof.Rows
def bK (K:PySem.W.Frag) (H:Hp) (a:Addr) (xs:List V):Prop:=
 Rd H a (.lst xs) \/
  ∃(o:Obj) (its:Array Value) (n:Nat),K.lookup a=some o/\o.cls = .type "list" /\ o.dict=none/\o.data = .seq its n/\its.size<=sizeLine/\Vals xs its.toList
def cO (K:PySem.W.Frag) (H:Hp) (a:Addr) (xs:List V):Prop:=
 Rd H a (.tup xs) \/
  ∃(o:Obj) (its:Array Value) (n:Nat),K.lookup a=some o/\o.cls = .type "tuple" /\ o.data = .seq its n/\its.size<=sizeLine/\Vals xs its.toList
def aky:Value->Option V
 | .none=>some .non
 | .bool b=>some (.bl b)
 | .int i _=>some (.int i)
 | .str x _=>some (.str x)
 | .bytes b _=>some (.Iw b)
 | .float b _=>some (.flt b)
 | .ref a=>some (.ref a)
 | .type n=>some (.ty n)
 | _=>none
theorem RelV.abs {x:V} {u:Value} (r:RelV x u):aky u=some x:=by
 cases x with
 | non=>cases r;rfl
 | bl _=>cases r;rfl
 | int _=>obtain ⟨t,rfl⟩:=r;rfl
 | str _=>obtain ⟨t,rfl⟩:=r;rfl
 | Iw _=>obtain ⟨t,rfl⟩:=r;rfl
 | flt _=>obtain ⟨t,rfl⟩:=r;rfl
 | ref _=>cases r;rfl
 | ty _=>cases r;rfl
theorem RelV.inj {x y:V} {u:Value} (r:RelV x u) (q:RelV y u):x=y:=Option.some.inj (r.abs.symm.trans q.abs)
theorem Vals.inj {xs ys:List V} {us:List Value} (h:Vals xs us) (h':Vals ys us):xs=ys:=by
 induction h generalizing ys with
 | nil=>cases h';rfl
 | cons r t ih=>cases h' with
   | cons r' t'=>rw [r.inj r',ih t']
section
variable {X:Cx} {pins:List (Addr×Obj)} {σ:St} {H:Hp} {s:Shared} {a:Addr} {xs ys:List V}
theorem bK.of {K:PySem.W.Frag} (h:H a=some (.lst xs)):bK K H a xs:= .inl (.inl h)
theorem cO.of {K:PySem.W.Frag} (h:H a=some (.tup xs)):cO K H a xs:= .inl (.inl h)
theorem Inv.list (I:Inv X pins σ H s) (h:bK X.K H a xs):∃its:List Value,Vals xs its/\PlainL s.heap a its.toArray/\xs.length<=sizeLine:=by
 rcases h with h|⟨o,its,n,hk,hc,hd,hs,hz,r⟩
 ·obtain ⟨z,its,n,r,e⟩:=h.ok I.hok
  exact ⟨its,r,⟨_,n,e,rfl,rfl,rfl⟩,z⟩
 ·refine ⟨its.toList,r,⟨o,n,I.rE a o hk,hc,hd,by simpa using hs⟩, ?_⟩
  have e:=r.length;simp only [Array.length_toList] at e;omega
theorem Inv.tuple (I:Inv X pins σ H s) (h:cO X.K H a xs):∃its:List Value,Vals xs its/\IsTup s.heap a its.toArray/\xs.length<=sizeLine:=by
 rcases h with h|⟨o,its,n,hk,hc,hs,hz,r⟩
 ·obtain ⟨z,its,r,p⟩:=h.ok I.hok
  exact ⟨its,r,p,z⟩
 ·refine ⟨its.toList,r,⟨o,I.rE a o hk,hc,n,by simpa using hs⟩, ?_⟩
  have e:=r.length;simp only [Array.length_toList] at e;omega
theorem Inv.uK (I:Inv X pins σ H s) (h:bK X.K H a xs) (h':bK X.K H a ys):xs=ys:=by
 obtain ⟨its,r,⟨o,n,e,_,_,d⟩,_⟩:=I.list h;obtain ⟨its',r',⟨o',n',e',_,_,d'⟩,_⟩:=I.list h';rw [e] at e';cases e';rw [d] at d';injection d' with d1 _
 have:its=its':=by simpa using congrArg Array.toList d1
 subst this;exact r.inj r'
theorem Inv.vA (I:Inv X pins σ H s) (h:cO X.K H a xs) (h':cO X.K H a ys):xs=ys:=by
 obtain ⟨its,r,⟨o,e,_,n,d⟩,_⟩:=I.tuple h;obtain ⟨its',r',⟨o',e',_,n',d'⟩,_⟩:=I.tuple h';rw [e] at e';cases e';rw [d] at d';injection d' with d1 _
 have:its=its':=by simpa using congrArg Array.toList d1
 subst this;exact r.inj r'
end
abbrev Cx.wish (X:Cx) (E:Value->Shared->Prop):Cx:={X with xe:=E}
abbrev Cx.nox (X:Cx):Cx:=X.wish fun _ _=>False
theorem Cx.Ok.wish {X:Cx} (ok:X.Ok) (E:Value->Shared->Prop):(X.wish E).Ok:=
 ⟨ok.mod,ok.kind,ok.glob,ok.blt,ok.above,ok.inj,ok.has,ok.cab,ok.hd,ok.frames,ok.stk,ok.X8,ok.bs,ok.Iz,ok.Ds,ok.Gh,ok.pO,ok.Lz⟩
theorem Cx.Ok.pX {X:Cx} {E:Value->Shared->Prop} (ok:(X.wish E).Ok):X.Ok:=
 ⟨ok.mod,ok.kind,ok.glob,ok.blt,ok.above,ok.inj,ok.has,ok.cab,ok.hd,ok.frames,ok.stk,ok.X8,ok.bs,ok.Iz,ok.Ds,ok.Gh,ok.pO,ok.Lz⟩
section
variable {X:Cx} {pins:List (Addr×Obj)} {σ:St} {H:Hp} {s:Shared} {E:Value->Shared->Prop}
theorem Inv.wish (I:Inv X pins σ H s) (E:Value->Shared->Prop):Inv (X.wish E) pins σ H s:=⟨I.ok.wish E,I.os,I.bare,I.base,I.loc,I.cell,I.free,I.kh,I.pin,I.hok,I.len⟩
theorem Inv.pX (I:Inv (X.wish E) pins σ H s):Inv X pins σ H s:=⟨I.ok.pX,I.os,I.bare,I.base,I.loc,I.cell,I.free,I.kh,I.pin,I.hok,I.len⟩
theorem SP.pX {D:Ends} {f:Flow} {s':Shared} (h:SP (X.wish E) pins D f s'):SP X pins D f s':=by
 cases f with
 | next=>obtain ⟨σ',H',I,q⟩:=h;exact ⟨σ',H',I.pX,q⟩
 | brk=>obtain ⟨σ',H',I,q⟩:=h;exact ⟨σ',H',I.pX,q⟩
 | cont=>obtain ⟨σ',H',I,q⟩:=h;exact ⟨σ',H',I.pX,q⟩
 | ret u=>obtain ⟨v,σ',H',I,r,q⟩:=h;exact ⟨v,σ',H',I.pX,r,q⟩
theorem GX.nox {st:List Stmt} {t:TS} (h:GX X.nox st t):GX X st t:=fun pins s σ H D I hw=>
 wpAny_mono (h pins s σ H D (I.wish _) hw) (fun _ _ q=>q.pX) fun _ _ z=>False.elim z
end
section
variable {X:Cx} {st:Stmt} {rest:List Stmt} {t u:TS} {e:Expr} {te:TE} {pos:Pos}
def E_:TS:=fun D σ H=>D.nx σ H
def Vg (t u:TS):TS:=fun D σ H=>t {D with nx:=u D} σ H
theorem bL:GX X [] E_:=fun _ _ σ H _ I h=>wpAny_execs_nil ⟨σ,H,I,h⟩
theorem aD (h1:PS X st t) (h2:GX X rest u):GX X (st::rest) (Vg t u):=by
 intro pins s σ H D I h;refine wpAny_execs_cons (eF (h1 pins s σ H {D with nx:=u D} I h) fun f s1 q=> ?_);cases f with
 | next=>
   obtain ⟨σ',H',I',q⟩:=q;exact h2 pins s1 σ' H' D I' q
 | ret v=>exact q
 | brk=>exact q
 | cont=>exact q
theorem aL (h1:PS X st t):GX X [st] t:=by
 intro pins s σ H D I h;refine wpAny_execs_cons (eF (h1 pins s σ H D I h) fun f s1 q=> ?_);cases f with
 | next=>exact wpAny_execs_nil q
 | ret v=>exact q
 | brk=>exact q
 | cont=>exact q
theorem Inv.quiet {pins:List (Addr×Obj)} {σ:St} {H:Hp} {s:Shared} (I:Inv X pins σ H s):interactive X.env=false:=by simp [interactive,I.ok.kind]
def TV (te:TE):TS:=fun D σ H=>te σ H fun _ H1=>D.nx σ H1
theorem fj (he:PE X e te) (hs:swapsWith e none pos.line X.env=pure false:=by rfl):PS X (.Expr e pos) (TV te):=by
 intro pins s σ H D I h;exact wpAny_Expr_any (eF (he pins s σ H _ I h) fun v s1 ⟨x,H1,I1,r1,q1⟩=>⟨σ,H1,I1,q1⟩) I.quiet hs
def ado (te:TE):TS:=fun D σ H=>te σ H D.rt
theorem bC (he:PE X e te):PS X (.Return (some e) pos) (ado te):=by
 intro pins s σ H D I h;exact wpAny_Return_some (eF (he pins s σ H _ I h) fun v s1 ⟨x,H1,I1,r1,q1⟩=>⟨x,σ,H1,I1,r1,q1⟩)
def YB:TS:=fun D _ H=>D.rt .non H
theorem Q0:PS X (.Return none pos) YB:=fun _ _ σ H _ I h=>wpAny_Return_none ⟨.non,σ,H,I,rfl,h⟩
def adv (c:TT) (t u:TS):TS:=fun D σ H=>c σ H fun b H1=>if b=true then t D σ H1 else u D σ H1
theorem cD {c:Expr} {a b:List Stmt} {tc:TT} (hc:PT X c tc) (ha:GX X a t) (hb:GX X b u):PS X (.If c a b pos) (adv tc t u):=by
 intro pins s σ H D I h;refine wpAny_If (eF (hc pins s σ H _ I h) fun d s1 ⟨H1,I1,q1⟩=> ?_);cases d with
 | true=>exact ha pins s1 σ H1 D I1 q1
 | false=>exact hb pins s1 σ H1 D I1 q1
def Vi:TS:=fun _ _ _=>False
theorem Fo:PS X st Vi:=fun _ _ _ _ _ _ h=>h.elim
end
abbrev TG:=V->St->Hp->(St->Hp->Prop)->Prop
abbrev U4:=List V->St->Hp->(St->Hp->Prop)->Prop
def PG (X:Cx) (target:Expr) (t:TG):Prop:=
 ∀(pins:List (Addr×Obj)) (s:Shared) (σ:St) (H:Hp) (v:V) (u:Value) (Q:St->Hp->Prop),Inv X pins σ H s->RelV v u->t v σ H Q ->
  wpAny (model X.prog X.w) X.A (assign target X.env u) (fun _ s'=>∃σ' H',Inv X pins σ' H' s'/\Q σ' H') X.xe s
def PGs (X:Cx) (ts:List Expr) (t:U4):Prop:=
 ∀(pins:List (Addr×Obj)) (s:Shared) (σ:St) (H:Hp) (vs:List V) (us:List Value) (Q:St->Hp->Prop),Inv X pins σ H s->Vals vs us->t vs σ H Q ->
  wpAny (model X.prog X.w) X.A (assignInOrder ((assignEach ts X.env).map (·.2)) us) (fun _ s'=>∃σ' H',Inv X pins σ' H' s'/\Q σ' H') X.xe s
abbrev Qg:=V->V->V->Hp->(Hp->Prop)->Prop
def Xm (X:Cx) (t:Qg):Prop:=
 ∀(pins:List (Addr×Obj)) (s:Shared) (σ:St) (H:Hp) (o i v:V) (ov iv u:Value) (Q:Hp->Prop),Inv X pins σ H s->RelV o ov->RelV i iv->RelV v u->t o i v H Q ->
  wpAny (model X.prog X.w) X.A (setItem ov iv u) (fun _ s'=>∃H',Inv X pins σ H' s'/\Q H') X.xe s
abbrev Yc:=V->V->Hp->VK->Prop
def PIp (X:Cx) (op:Operator) (t:Yc):Prop:=
 ∀(pins:List (Addr×Obj)) (s:Shared) (σ:St) (H:Hp) (x y:V) (v u:Value) (Q:VK),Inv X pins σ H s->RelV x v->RelV y u->t x y H Q ->
  wpAny (model X.prog X.w) X.A (inplaceOp op v u) (EP X pins σ Q) X.xe s
section
variable {X:Cx} {pos:Pos}
def gD (i:Nat):TG:=fun v σ H Q=>Q (σ.set i (some v)) H
theorem bO {i:Nat} {x:Str} (hN:X.N.Nodup) (hi:X.N[i]? = some x) (hx:Loc X.env.scope x) (hf:X.fn x=true\/X.env.scope.names.lookup x=some .local:=by first |exact .inl rfl|exact .inr rfl|assumption):PG X (.Name x pos) (gD i):=by
 intro pins s σ H v u Q I r h;exact wpAny_assign_Name (uf I hN hi hx r (fun s' I'=>⟨_,H,I',h⟩) hf)
def W0:U4:=fun vs σ H Q=>vs=[]/\Q σ H
def Ge (t:TG) (u:U4):U4:=fun vs σ H Q=>∃v r,vs=v::r/\t v σ H fun σ' H'=>u r σ' H' Q
theorem Dg:PGs X [] W0:=by
 intro pins s σ H vs us Q I r h;obtain ⟨e,h⟩:=h;subst e;cases r;exact assignInOrder_nil ⟨σ,H,I,h⟩
theorem nQ {e:Expr} {es:List Expr} {t:TG} {u:U4} (h1:PG X e t) (h2:PGs X es u)
 (hs:(assignEach (e::es) X.env).map (·.2)=assign e X.env::(assignEach es X.env).map (·.2):=by rfl):PGs X (e::es) (Ge t u):=by
 intro pins s σ H vs us Q I r h;obtain ⟨v,vr,e1,h⟩:=h;subst e1;cases r with
 | cons r rr=>
   rw [hs];refine assignInOrder_cons (eF (h1 pins s σ H _ _ _ I r h) fun _ s1 ⟨σ1,H1,I1,q1⟩=> ?_);exact h2 pins s1 σ1 H1 _ _ Q I1 rr q1
def R6 (K:PySem.W.Frag) (n:Nat) (t:U4):TG:=fun v σ H Q=>∃a xs,v = .ref a/\cO K H a xs/\xs.length=n/\t xs σ H Q
theorem V4 {es:List Expr} {k:Nat} {t:U4} {n:Nat} (hc:X.calm=true) (h:PGs X es t)
 (hn:(assignEach es X.env).length=n:=by rfl) (hst:(assignEach es X.env).findIdx? (·.1)=none:=by rfl):PG X (.Tuple es k pos) (R6 X.K n t):=by
 intro pins s σ H v u Q I r hw;obtain ⟨a,xs,e1,hq,hl,hw⟩:=hw;subst e1;cases r;obtain ⟨its,rv,ht,hz⟩:=I.tuple hq;refine assign_Tuple_tuple (I.ok.hd hc) ht (by simp [hn,←hl,rv.length]) hst fun h' hx=> ?_;have I1:Inv X pins σ H {s with heap:=h'}:=I.kept (t':=s.toks) fun b o e=>hx b o (Nat.ne_of_lt (Heap.lt_size e)) e;exact h pins _ σ H xs _ Q I1 (by simpa using rv) hw
def ahZ (to ti:TE) (t:Qg):TG:=fun v σ H Q=>to σ H fun o H1=>ti σ H1 fun i H2=>t o i v H2 fun H3=>Q σ H3
theorem tE {o i:Expr} {to ti:TE} {t:Qg} (ho:PE X o to) (hi:PE X i ti) (hs:Xm X t)
 (ha:∀v,assign (.Subscript o i pos) X.env v=(do
   let ov ←holding [v] (eval o X.env)
   let iv ←holding [v,ov] (eval i X.env)
   standAt pos
   holding [v,ov,iv] (setItem ov iv v)
   release [v,ov,iv] []):=by intro _;rfl):PG X (.Subscript o i pos) (ahZ to ti t):=by
 intro pins s σ H v u Q I r h;rw [ha];refine wpAny_bind (wpAny_holding (eF (ho pins s σ H _ I h) fun ov s1 ⟨x,H1,I1,r1,q1⟩=> ?_));refine wpAny_bind (wpAny_holding (eF (hi pins s1 σ H1 _ I1 q1) fun iv s2 ⟨y,H2,I2,r2,q2⟩=> ?_));refine wpAny_bind (wpAny_standAt (wpAny_bind (wpAny_holding (eF (hs pins s2 σ H2 x y v ov iv u _ I2 r1 r2 r q2) fun _ s3 ⟨H3,I3,q3⟩=> ?_))));exact wpAny_release ⟨σ,H3,I3,q3⟩
def Vp (te:TE) (g:TG):TS:=fun D σ H=>te σ H fun x H1=>g x σ H1 D.nx
theorem tu {tg e:Expr} {te:TE} {g:TG} (he:PE X e te) (hg:PG X tg g) (hs:swapsWithSole [tg] e pos.line X.env=pure false:=by rfl) (hw:swappedStores [tg] e X.env=pure none:=by rfl)
 (h1:(assignEach [tg] X.env).map (·.2)=[assign tg X.env]:=by rfl):PS X (.Assign [tg] e pos) (Vp te g):=by
 intro pins s σ H D I h;refine wpAny_Assign_stores (eF (he pins s σ H _ I h) fun v s1 ⟨x,H1,I1,r1,q1⟩=> ?_) hs hw;rw [h1];exact eF (hg pins s1 σ H1 x v _ I1 r1 q1) fun _ s2 q=>q
theorem bT {i:Nat} {x:Str} {e:Expr} {te:TE} {pos':Pos} (hN:X.N.Nodup) (hi:X.N[i]? = some x) (hx:Loc X.env.scope x) (he:PE X e te) (hs:swapsWith e (some (.Name x pos')) pos.line X.env=pure false:=by rfl) (hf:X.fn x=true\/X.env.scope.names.lookup x=some .local:=by first |exact .inl rfl|exact .inr rfl|assumption):
 PS X (.Assign [.Name x pos'] e pos) (Vp te (gD i)):=by
 intro pins s σ H D I h;refine wpAny_Assign_Name (eF (he pins s σ H _ I h) fun v s1 ⟨y,H1,I1,r1,q1⟩=> ?_) hs;exact uf I1 hN hi hx r1 (fun s2 I2=>⟨_,H1,I2,q1⟩) hf
def adx (i:Nat) (te:TE) (ti:Yc):TS:=fun D σ H=>∃x,σ[i]? = some (some x)/\te σ H fun y H1=>ti x y H1 fun z H2=>D.nx (σ.set i (some z)) H2
theorem V0 {i:Nat} {x:Str} {e:Expr} {te:TE} {op:Operator} {ti:Yc} {pos':Pos} (hN:X.N.Nodup) (hi:X.N[i]? = some x) (hx:Loc X.env.scope x) (he:PE X e te) (ho:PIp X op ti) (hf:X.fn x=true\/X.env.scope.names.lookup x=some .local:=by first |exact .inl rfl|exact .inr rfl|assumption):
 PS X (.AugAssign (.Name x pos') op e pos) (adx i te ti):=by
 intro pins s σ H D I h;obtain ⟨v,e1,h⟩:=h;obtain ⟨m,hn,hl⟩:=I.loc;have vis:Vis X.env.scope x:=by rcases hx with k|k;exact .inl k;exact .inr (.inl k)
 obtain ⟨u,r,l⟩:=hl i x v hi e1 vis;refine wpAny_AugAssign_Name ?_
 have go:wpAny (model X.prog X.w) X.A (eval e X.env) (fun w s₂=>wpAny (model X.prog X.w) X.A (inplaceOp op u w) (fun r s₃=>wpAny (model X.prog X.w) X.A (storeName X.env x r) (fun _=>SP X pins D .next) X.xe s₃) X.xe s₂) X.xe s:=by
  refine eF (he pins s σ H _ I h) fun w s1 ⟨y,H1,I1,r1,q1⟩=> ?_;refine eF (ho pins s1 σ H1 v y u w _ I1 r r1 q1) fun z s2 ⟨zv,H2,I2,r2,q2⟩=> ?_;exact uf I2 hN hi hx r2 (fun s3 I3=>⟨_,H2,I3,q2⟩) hf
 rcases l with ⟨hk,hm⟩|⟨hk,c,hc,hcell⟩
 ·exact wpAny_loadName_local I.ok.kind hk hn hm go
 ·rcases hk with hk|hk
  ·exact wpAny_loadName_cell I.ok.kind hk hc hcell go
  ·rcases hx with k|k
   ·have:X.env.scope.names.lookup x=some .free:=hk
    rw [k] at this;cases this
   ·have:X.env.scope.names.lookup x=some .free:=hk
    rw [k] at this;cases this
def YK (to ti te:TE) (Qx:V->V->Hp->VK->Prop) (tip:Yc) (Qw:Qg):TS:=fun D σ H=>to σ H fun o H1=>ti σ H1 fun i H2=>Qx o i H2 fun x H3=>te σ H3 fun y H4=>tip x y H4 fun z H5=>Qw o i z H5 fun H6=>D.nx σ H6
def abw (X:Cx) (t:V->V->Hp->VK->Prop):Prop:=
 ∀(pins:List (Addr×Obj)) (s:Shared) (σ:St) (H:Hp) (o i:V) (ov iv:Value) (Q:VK),Inv X pins σ H s->RelV o ov->RelV i iv->t o i H Q ->
  wpAny (model X.prog X.w) X.A (getItem ov iv) (EP X pins σ Q) X.xe s
theorem Q5 {o i e:Expr} {to ti te:TE} {Qx:V->V->Hp->VK->Prop} {tip:Yc} {Qw:Qg} {op:Operator} {tpos:Pos} (ho:PE X o to) (hi:PE X i ti) (hg:abw X Qx) (he:PE X e te) (hp:PIp X op tip) (hs:Xm X Qw)
 (ha:∀ov iv new,augStore i ov iv new=(do holding [new,ov,iv] (setItem ov iv new);release [new,ov,iv] [];pure .next):=by intros;rfl):PS X (.AugAssign (.Subscript o i tpos) op e pos) (YK to ti te Qx tip Qw):=by
 intro pins s σ H D I h;refine wpAny_AugAssign_SubscriptAny (eF (ho pins s σ H _ I h) fun ov s1 ⟨x1,H1,I1,r1,q1⟩=> ?_) ha;refine eF (hi pins s1 σ H1 _ I1 q1) fun iv s2 ⟨x2,H2,I2,r2,q2⟩=> ?_;refine eF (hg pins s2 σ H2 x1 x2 ov iv _ I2 r1 r2 q2) fun old s3 ⟨x3,H3,I3,r3,q3⟩=> ?_;refine eF (he pins s3 σ H3 _ I3 q3) fun v s4 ⟨x4,H4,I4,r4,q4⟩=> ?_;refine eF (hp pins s4 σ H4 x3 x4 old v _ I4 r3 r4 q4) fun new s5 ⟨x5,H5,I5,r5,q5⟩=> ?_;exact eF (hs pins s5 σ H5 x1 x2 x5 ov iv new _ I5 r1 r2 r5 q5) fun _ s6 ⟨H6,I6,q6⟩=>⟨σ,H6,I6,q6⟩
def ipI (f:Int->Int->Int):Yc:=fun x y H Q=>∃i j,x = .int i/\y = .int j/\Q (.int (f i j)) H
theorem Dz:PIp X .Add (ipI fun i j=>i+j):=by
 intro pins s σ H x y v u Q I r1 r2 h;obtain ⟨i,j,e1,e2,q⟩:=h;subst e1;subst e2;obtain ⟨t,rfl⟩:=r1;obtain ⟨t',rfl⟩:=r2;exact iadd_int ⟨.int _,H,I.tok _,⟨_,rfl⟩,q⟩
end
section
variable {X:Cx} {pos:Pos}
def Vf (c:TT) (tb:TS):TS:=fun D σ H=>∃W:Nat->St->Hp->Prop,(∃m,W m σ H) /\ ∀m σ H,W m σ H ->
 c σ H fun b H1=>if b=true then ∃N:St->Hp->Prop,(∀σ' H',N σ' H' -> ∃m',m'<m/\W m' σ' H')/\tb {D with nx:=N,ct:=N,bk:=D.nx} σ H1 else D.nx σ H1
theorem Nh {c:Expr} {body:List Stmt} {tc:TT} {tb:TS} (hp:PassesOwn (model X.prog X.w) X.A X.env X.xe) (hc:PT X c tc) (hb:GX X body tb):PS X (.While c body [] pos) (Vf tc tb):=by
 intro pins s σ H D I h;obtain ⟨W,⟨m0,w0⟩,turn⟩:=h;refine wpAny_While (codeAny_whileLoop (fun n s'=>∃σ' H',Inv X pins σ' H' s'/\W n σ' H') ?_ m0 ⟨σ,H,I,w0⟩);rintro n s1 ⟨σ1,H1,I1,w1⟩;refine wpAny_passesOwn hp (eF (hc pins s1 σ1 H1 _ I1 (turn n σ1 H1 w1)) fun b s2 ⟨H2,I2,q2⟩=> ?_);cases b with
 | true=>
   obtain ⟨N,hN,q2⟩:=q2;rw [if_pos rfl];refine wpAny_passesOwn hp (eF (hb pins s2 σ1 H2 _ I2 q2) fun f s3 q3=> ?_);cases f with
   | next=>
     obtain ⟨σ3,H3,I3,n3⟩:=q3;obtain ⟨m',hm,w3⟩:=hN σ3 H3 n3;exact ⟨m',hm,σ3,H3,I3,w3⟩
   | cont=>
     obtain ⟨σ3,H3,I3,n3⟩:=q3;obtain ⟨m',hm,w3⟩:=hN σ3 H3 n3;exact ⟨m',hm,σ3,H3,I3,w3⟩
   | brk=>exact q3
   | ret v=>exact q3
 | false=>
   rw [if_neg Bool.false_ne_true];exact wpAny_execs_nil ⟨σ1,H2,I2,q2⟩
end
structure It where
 go:Nat->Hp->Prop
 Xw:Nat->Hp->V->Hp->Prop
 stop:Nat->Hp->Prop
def qL (X:Cx) (pins:List (Addr×Obj)) (H:Hp) (b:Addr):Prop:=
 H b=none/\b≠X.env.locals/\b∉X.fs/\(b∈X.ex\/X.s₀.heap.objs.size<=b)/\(∀x c,X.env.cells.lookup x=some c->c≠b) /\ ∀p∈X.pn++pins,p.1≠b
theorem Inv.zp {X:Cx} {pins:List (Addr×Obj)} {σ:St} {H H':Hp} {s:Shared} {b:Addr} (I:Inv X pins σ H s) (hb:s.heap.objs.size<=b) (hn:H' b=none):qL X pins H' b:=by
 refine ⟨hn,Nat.ne_of_gt (Nat.lt_of_lt_of_le I.lt hb),I.agg hb,.inr (Nat.le_trans I.sz hb),fun x c e z=> ?_,fun p hp z=> ?_⟩
 ·obtain ⟨v,q⟩:=I.cell x c e
  exact absurd (Nat.lt_of_lt_of_le q.lt (by rw [z];exact hb)) (Nat.lt_irrefl _)
 ·exact absurd (Nat.lt_of_lt_of_le (Heap.lt_size (I.pin p hp).1) (by rw [z];exact hb)) (Nat.lt_irrefl _)
structure Turn (P:Program) (w:World) (K:PySem.W.Frag) (tg:Expr) (J:It) (fp:List Addr) (it:Addr) (tn:Nat->Heap->Prop):Prop where
 mem:it∈fp
 obj:∀i h,tn i h -> ∀b∈fp,∃o,h.get? b=some o /\ ∀v,o.data ≠ .cell v
 keep:∀i h h',tn i h->(∀b∈fp,∀o,h.get? b=some o->h'.get? b=some o)->tn i h'
 item:∀(X:Cx),X.prog=P->X.w=w->X.K=K->X.calm=true -> ∀(i:Nat) (pins:List (Addr×Obj)) (s:Shared) (σ:St) (H:Hp) (E:Value->Shared->Prop),Inv X pins σ H s->(∀b∈fp,qL X pins H b)->tn i s.heap->J.go i H ->
  wpAny (model P w) X.A (pyNext (.ref it)) (fun r s1=>∃u,r=some u /\
   wpAny (model P w) X.A (letOwnedTupleGo tg (.ref it) u) (fun _ s2=>∃x H',Inv X pins σ H' s2/\RelV x u/\J.Xw i H x H'/\tn (i+1) s2.heap /\ ∀b∈fp,H' b=none) E s1) E s
 done:∀(X:Cx),X.prog=P->X.w=w->X.K=K->X.calm=true -> ∀(i:Nat) (pins:List (Addr×Obj)) (s:Shared) (σ:St) (H:Hp) (E:Value->Shared->Prop),Inv X pins σ H s->(∀b∈fp,qL X pins H b)->tn i s.heap->J.stop i H ->
  wpAny (model P w) X.A (pyNext (.ref it)) (fun r s1=>r=none/\Inv X pins σ H s1) E s
 self:∀(A:Around) (i:Nat) (s:Shared) (Q:Value->Shared->Prop) (E:Value->Shared->Prop),tn i s.heap->Q (.ref it) s->wpAny (model P w) A (pyIter (.ref it)) Q E s
abbrev TI:=St->Hp->(It->Hp->Prop)->Prop
def PIE (X:Cx) (pins:List (Addr×Obj)) (σ:St) (tg:Expr) (R:It->Hp->Prop) (itv:Value) (s2:Shared):Prop:=
 ∃(it:Addr) (fp:List Addr) (tn:Nat->Heap->Prop) (J:It) (H':Hp),itv = .ref it/\Inv X pins σ H' s2/\Turn X.prog X.w X.K tg J fp it tn/\tn 0 s2.heap/\(∀b∈fp,qL X pins H' b)/\R J H'
def PI (X:Cx) (tg iter:Expr) (wi:TI):Prop:=
 ∀(pins:List (Addr×Obj)) (s:Shared) (σ:St) (H:Hp) (R:It->Hp->Prop),Inv X pins σ H s->wi σ H R ->
  wpAny (model X.prog X.w) X.A (eval iter X.env) (fun v s1=>wpAny (model X.prog X.w) X.A (pyIter v) (PIE X pins σ tg R) X.xe s1) X.xe s
theorem Gd {M:Model} {A:Around} {E:Value->Shared->Prop} {s:Shared} {tg:Expr} {it:Addr} {u:Value} {o:Obj} {n:String} {vs:Array Value} {Q:Unit->Shared->Prop} (ho:s.heap.get? it=some o) (hc:o.cls = .type n) (hd:o.data = .fields vs)
 (hn:["enumerate","zip","dict_itemiterator","dict_reverseitemiterator","odict_iterator","itertools.zip_longest","itertools.pairwise"].contains n=false) (hQ:Q () s):wpAny M A (letOwnedTupleGo tg (.ref it) u) Q E s:=by
 unfold letOwnedTupleGo
 cases tg<;>first
  | exact wpAny_pure hQ
  | (cases u<;>first
      | exact wpAny_pure hQ
      | (refine wpAny_bind (wpAny_load ho ?_)
         rw [hc,hd];show wpAny M A (if (["enumerate","zip","dict_itemiterator","dict_reverseitemiterator","odict_iterator","itertools.zip_longest","itertools.pairwise"].contains n&&vs[0]? == some (rawInt _))=true then _ else _) Q E s;rw [if_neg (by intro h;rw [hn,Bool.false_and] at h;cases h)];exact wpAny_pure hQ))
def S_ (K:PySem.W.Frag) (a:Addr):It:=
 ⟨fun i H=>∃xs x,bK K H a xs/\xs[i]? = some x,fun i H x H'=>H'=H /\ ∀xs,bK K H a xs->xs[i]? = some x,fun i H=>∃xs,bK K H a xs/\xs.length<=i⟩
def Itt (K:PySem.W.Frag) (a:Addr):It:=
 ⟨fun i H=>∃xs x,cO K H a xs/\xs[i]? = some x,fun i H x H'=>H'=H /\ ∀xs,cO K H a xs->xs[i]? = some x,fun i H=>∃xs,cO K H a xs/\xs.length<=i⟩
def Qq (lo:Int) (n:Nat):It:=⟨fun i _=>i<n,fun i H x H'=>H'=H/\x = .int (lo+i),fun i _=>n<=i⟩
theorem J5 {P:Program} {w:World} {K:PySem.W.Frag} {tg:Expr} (a it:Addr):Turn P w K tg (S_ K a) [it] it (fun i h=>h.IsListIter it a i) where
 mem:=by simp
 obj:=fun i h st b hb=>by
  have e:b=it:=by simpa using hb
  subst e;obtain ⟨o,e,c,d⟩:=st;exact ⟨o,e,fun v z=>by rw [d] at z;cases z⟩
 keep:=fun i h h' st k=>st.at fun o e=>k it (by simp) o e
 item:=by
  intro X hP hw hK hc i pins s σ H E I hf st hg;subst hP hw hK;obtain ⟨xs,x,hq,hx⟩:=hg;obtain ⟨its,rv,p,hz⟩:=I.list hq;obtain ⟨u,hu,ru⟩:=rv.get hx;obtain ⟨f0,f1,f2,f3,f4,f5⟩:=hf it (by simp);refine wpAny_pyNext_list_item st p.isList (x:=u) (by simpa using hu) fun h' st' sb=> ?_;have I1:Inv X pins σ H {s with heap:=h'}:=I.turned (t':=s.toks) (fun b o hb e=>(sb.2 b hb).trans e) f0 f1 f3 f4 f5;obtain ⟨o,e,c,d⟩:=id st';exact ⟨u,rfl,Gd (s:={s with heap:=h'}) e c d (by decide) ⟨x,H,I1,ru,⟨rfl,fun ys hy=>by rw [I.uK hy hq];exact hx⟩,st',fun b hb=>(hf b hb).1⟩⟩
 done:=by
  intro X hP hw hK hc i pins s σ H E I hf st hg;subst hP hw hK;obtain ⟨xs,hq,hx⟩:=hg;obtain ⟨its,rv,p,hz⟩:=I.list hq;obtain ⟨f0,f1,f2,f3,f4,f5⟩:=hf it (by simp);have hl:=rv.length;exact wpAny_pyNext_list_end (I.ok.hd hc) st p.isList (by simp;omega) fun h' eb=>⟨rfl,I.turned (t':=s.toks) (fun b o hb e=>eb b o hb e) f0 f1 f3 f4 f5⟩
 self:=fun _ _ _ _ _ st h=>wpAny_pyIter_listiter st h
theorem G7 {P:Program} {w:World} {K:PySem.W.Frag} {tg:Expr} (a it:Addr):Turn P w K tg (Itt K a) [it] it (fun i h=>h.IsTupleIter it a i) where
 mem:=by simp
 obj:=fun i h st b hb=>by
  have e:b=it:=by simpa using hb
  subst e;obtain ⟨o,e,c,d⟩:=st;exact ⟨o,e,fun v z=>by rw [d] at z;cases z⟩
 keep:=fun i h h' st k=>st.at fun o e=>k it (by simp) o e
 item:=by
  intro X hP hw hK hc i pins s σ H E I hf st hg;subst hP hw hK;obtain ⟨xs,x,hq,hx⟩:=hg;obtain ⟨its,rv,p,hz⟩:=I.tuple hq;obtain ⟨u,hu,ru⟩:=rv.get hx;obtain ⟨f0,f1,f2,f3,f4,f5⟩:=hf it (by simp);refine wpAny_pyNext_tuple_item st (show s.heap.IsTuple a its.toArray from p) (x:=u) (by simpa using hu) fun h' st' sb=> ?_;have I1:Inv X pins σ H {s with heap:=h'}:=I.turned (t':=s.toks) (fun b o hb e=>(sb.2 b hb).trans e) f0 f1 f3 f4 f5;obtain ⟨o,e,c,d⟩:=id st';exact ⟨u,rfl,Gd (s:={s with heap:=h'}) e c d (by decide) ⟨x,H,I1,ru,⟨rfl,fun ys hy=>by rw [I.vA hy hq];exact hx⟩,st',fun b hb=>(hf b hb).1⟩⟩
 done:=by
  intro X hP hw hK hc i pins s σ H E I hf st hg;subst hP hw hK;obtain ⟨xs,hq,hx⟩:=hg;obtain ⟨its,rv,p,hz⟩:=I.tuple hq;obtain ⟨f0,f1,f2,f3,f4,f5⟩:=hf it (by simp);have hl:=rv.length;exact wpAny_pyNext_tuple_end (I.ok.hd hc) st (show s.heap.IsTuple a its.toArray from p) (by simp;omega) fun h' eb=>⟨rfl,I.turned (t':=s.toks) (fun b o hb e=>eb b o hb e) f0 f1 f3 f4 f5⟩
 self:=fun _ _ _ _ _ st h=>wpAny_pyIter_tupleiter st h
theorem G8 {P:Program} {w:World} {K:PySem.W.Frag} {tg:Expr} (it:Addr) (lo:Int) (n:Nat):Turn P w K tg (Qq lo n) [it] it (fun i h=>IsRangeIter h it (lo+(i:Nat)*1) ((n:Int) - (i:Nat)) 1) where
 mem:=by simp
 obj:=fun i h st b hb=>by
  have e:b=it:=by simpa using hb
  subst e
  exact ⟨_,st,fun v z=>by
   have z':Data.fields _=Data.cell v:=z;cases z'⟩
 keep:=fun i h h' st k=>k it (by simp) _ st
 item:=by
  intro X hP hw hK hc i pins s σ H E I hf st hg;subst hP hw hK;obtain ⟨f0,f1,f2,f3,f4,f5⟩:=hf it (by simp);have W:=Walks.range (prog:=X.prog) (w:=X.w) (I.ok.hd hc) it lo 1 n;refine W.item i s _ _ hg st fun v h' tk hv st' kk=> ?_;obtain ⟨t,rfl⟩:=hv;have I1:Inv X pins σ H {s with heap:=h',toks:=tk}:=I.turned (fun b o hb e=>kk b o (by simpa using hb) e) f0 f1 f3 f4 f5;refine ⟨_,rfl,Gd (s:={s with heap:=h',toks:=tk}) (n:= "range_iterator") st' rfl rfl (by decide) ⟨.int (lo+i),H,I1,⟨t, ?_⟩,⟨rfl,rfl⟩,st',fun b hb=>(hf b hb).1⟩⟩;rw [Int.mul_one]
 done:=by
  intro X hP hw hK hc i pins s σ H E I hf st hg;subst hP hw hK;obtain ⟨f0,f1,f2,f3,f4,f5⟩:=hf it (by simp);exact wpAny_pyNext_range_end (I.ok.hd hc) st (by have:n<=i:=hg;omega) fun h' eb=>⟨rfl,I.turned (t':=s.toks) (fun b o hb e=>eb b o hb e) f0 f1 f3 f4 f5⟩
 self:=fun _ _ _ _ _ st h=>wpAny_pyIter_rangeiter st h
end L2
namespace L2
open PySem PySem.Spec PyProof.Rows
section
variable {X:Cx} {tg:Expr}
def Uq (K:PySem.W.Frag) (tl:TE):TI:=fun σ H R=>tl σ H fun x H1=>∃a,x = .ref a/\(∃xs,bK K H1 a xs)/\R (S_ K a) H1
def ZF (K:PySem.W.Frag) (tl:TE):TI:=fun σ H R=>tl σ H fun x H1=>∃a,x = .ref a/\(∃xs,cO K H1 a xs)/\R (Itt K a) H1
theorem Q_ {l:Expr} {tl:TE} (hl:PE X l tl):PI X tg l (Uq X.K tl):=by
 intro pins s σ H R I h;refine eF (hl pins s σ H _ I h) fun v s1 ⟨x,H1,I1,r1,q1⟩=> ?_;obtain ⟨a,e,⟨xs,hq⟩,q⟩:=q1;subst e;cases r1;obtain ⟨its,rv,p,hz⟩:=I1.list hq;refine wpAny_pyIter_list p.isList ?_;refine ⟨s1.heap.objs.size,[s1.heap.objs.size],_,_,H1,rfl,I1.kept (t':=s1.toks) fun b o e=>Heap.get?_push_of_some _ e,J5 a _,⟨_,Heap.get?_push_size _ rfl,rfl,rfl⟩,fun b hb=> ?_,q⟩;have e:b=s1.heap.objs.size:=by simpa using hb
 subst e;exact I1.zp (Nat.le_refl _) (I1.hok.fresh (Nat.le_refl _))
theorem V2 {l:Expr} {tl:TE} (hl:PE X l tl):PI X tg l (ZF X.K tl):=by
 intro pins s σ H R I h;refine eF (hl pins s σ H _ I h) fun v s1 ⟨x,H1,I1,r1,q1⟩=> ?_;obtain ⟨a,e,⟨xs,hq⟩,q⟩:=q1;subst e;cases r1;obtain ⟨its,rv,p,hz⟩:=I1.tuple hq;refine wpAny_pyIter_tuple (show s1.heap.IsTuple a its.toArray from p) ?_;refine ⟨s1.heap.objs.size,[s1.heap.objs.size],_,_,H1,rfl,I1.kept (t':=s1.toks) fun b o e=>Heap.get?_push_of_some _ e,G7 a _,⟨_,Heap.get?_push_size _ rfl,rfl,rfl⟩,fun b hb=> ?_,q⟩;have e:b=s1.heap.objs.size:=by simpa using hb
 subst e;exact I1.zp (Nat.le_refl _) (I1.hok.fresh (Nat.le_refl _))
theorem Fl {pins:List (Addr×Obj)} {σ:St} {H:Hp} {s:Shared} {R:It->Hp->Prop} {E:Value->Shared->Prop} {lo hi:Int} {t u v:Tok} {tk:Nat} (I:Inv X pins σ H s) (h1: -(2 ^ 62)<=lo) (h2:lo<2 ^ 62) (h3: -(2 ^ 62)<=hi) (h4:hi<2 ^ 62)
 (q:R (Qq lo (hi - lo).toNat) H):wpAny (model X.prog X.w) X.A (pyIter (.ref s.heap.objs.size)) (PIE X pins σ tg R) E {s with heap:=s.heap.push {cls:= .type "range",data:= .fields #[.int lo t,.int hi u,.int 1 v]},toks:=tk}:=by
 refine wpAny_pyIter_range (IsRange.new ..) (small_one h1 h2 h3 h4) ?_;have I1:Inv X pins σ H {s with heap:=s.heap.push {cls:= .type "range",data:= .fields #[.int lo t,.int hi u,.int 1 v]},toks:=tk}:=I.kept fun b o e=>Heap.get?_push_of_some _ e
 refine ⟨(s.heap.push {cls:= .type "range",data:= .fields #[.int lo t,.int hi u,.int 1 v]}).objs.size,[(s.heap.push {cls:= .type "range",data:= .fields #[.int lo t,.int hi u,.int 1 v]}).objs.size],_,_,H,rfl,
  I1.kept (t':=tk) fun b o e=>Heap.get?_push_of_some _ e,G8 _ lo (hi - lo).toNat, ?_,fun b hb=> ?_,q⟩
 ·have e1:lo+((0:Nat):Int)*1=lo:=by simp
  have e2:(((hi - lo).toNat:Nat):Int) - ((0:Nat):Int)=Builtin.Range.rangeSize lo hi 1:=by rw [rangeSize_one];split<;>omega
  show IsRangeIter _ _ (lo+((0:Nat):Int)*1) ((((hi - lo).toNat:Nat):Int) - ((0:Nat):Int)) 1;rw [e1,e2];exact Heap.get?_push_size _ rfl
 ·have e:b=(s.heap.push {cls:= .type "range",data:= .fields #[.int lo t,.int hi u,.int 1 v]}).objs.size:=by simpa using hb
  subst e;exact I1.zp (Nat.le_refl _) (I1.hok.fresh (Nat.le_refl _))
def ZJ (ta:TA):TI:=fun σ H R=>ta σ H fun vs H1=>∃j:Int,vs=[.int j] /\ -(2 ^ 62)<=j/\j<2 ^ 62/\R (Qq 0 j.toNat) H1
def ZG (ta:TA):TI:=fun σ H R=>ta σ H fun vs H1=>∃i j:Int,vs=[.int i,.int j]/\(-(2 ^ 62)<=i/\i<2 ^ 62 /\ -(2 ^ 62)<=j/\j<2 ^ 62)/\R (Qq i (j - i).toNat) H1
theorem fG {a:Expr} {ta:TA} {p pos:Pos} (hg:Gl X "range") (hm:X.mg "range" = none) (ha:PA X [a] ta) (hs:starEach [a] X.env=[(false,eval a X.env)]:=by rfl):PI X tg (.Call (.Name "range" p) [a] [] pos) (ZJ ta):=by
 intro pins s σ H R I h;refine Call_ (tK I hg hm boot_range (PyProof.Rows.callWith_type1 (eF (ha pos pins s σ H _ I h) fun us s1 ⟨vs,H1,I1,r1,q1⟩=> ?_) hs rfl));obtain ⟨j,e,q1,q2,q⟩:=q1;subst e;cases r1 with
 | cons r rr=>
   cases rr;obtain ⟨t,rfl⟩:=r;exact call_range_1 (Fl I1 (by omega) (by omega) q1 q2 (by simpa using q))
theorem Ke {a b:Expr} {ta:TA} {p pos:Pos} (hg:Gl X "range") (hm:X.mg "range" = none) (ha:PA X [a,b] ta) (hs:starEach [a,b] X.env=[(false,eval a X.env),(false,eval b X.env)]:=by rfl) (hs2:starEach [b] X.env=[(false,eval b X.env)]:=by rfl):
 PI X tg (.Call (.Name "range" p) [a,b] [] pos) (ZG ta):=by
 intro pins s σ H R I h;refine Call_ (tK I hg hm boot_range (PyProof.Rows.callWith_type1 (eF (ha pos pins s σ H _ I h) fun us s1 ⟨vs,H1,I1,r1,q1⟩=> ?_) (by rw [hs,hs2]) (by rw [hs2];rfl)));obtain ⟨i,j,e,⟨q1,q2,q3,q4⟩,q⟩:=q1;subst e;cases r1 with
 | cons r rr=>
   cases rr with
   | cons r' rr=>
     cases rr;obtain ⟨t,rfl⟩:=r;obtain ⟨t',rfl⟩:=r';exact call_range_2 (Fl I1 q1 q2 q3 q4 q)
def adw (wi:TI) (g:TG) (tb:TS):TS:=fun D σ H=>wi σ H fun J H1=>∃W:Nat->Nat->St->Hp->Prop,(∃m,W 0 m σ H1) /\ ∀i m σ H,W i m σ H ->
 (J.stop i H/\D.nx σ H)\/(J.go i H /\ ∃N:St->Hp->Prop,(∀σ' H',N σ' H' -> ∃m',m'<m/\W (i+1) m' σ' H') /\ ∀x H',J.Xw i H x H'->g x σ H' fun σ2 H2=>tb {D with nx:=N,ct:=N,bk:=D.nx} σ2 H2)
def yS (fp:List Addr) (h:Heap):List (Addr×Obj):=fp.filterMap fun b=>(h.get? b).map fun o=>(b,o)
theorem o9 {fp:List Addr} {h:Heap} {b:Addr} {o:Obj} (hb:b∈fp) (e:h.get? b=some o):(b,o)∈yS fp h:=List.mem_filterMap.mpr ⟨b,hb,by rw [e];rfl⟩
theorem Ky {fp:List Addr} {h:Heap} {p:Addr×Obj} (hp:p∈yS fp h):p.1∈fp/\h.get? p.1=some p.2:=by
 obtain ⟨b,hb,e⟩:=List.mem_filterMap.mp hp;cases q:h.get? b with
 | none=>rw [q] at e;cases e
 | some o=>
   rw [q] at e;have e':(b,o)=p:=Option.some.inj e;subst e';exact ⟨hb,q⟩
theorem Inv.pinned {pins:List (Addr×Obj)} {σ:St} {H:Hp} {s:Shared} {fp:List Addr} (I:Inv X pins σ H s) (hf:∀b∈fp,qL X pins H b) (ho:∀b∈fp,∃o,s.heap.get? b=some o /\ ∀v,o.data ≠ .cell v):Inv X (pins++yS fp s.heap) σ H s:=
 I.Jr fun p hp=>(List.mem_append.mp hp).elim (fun z=>I.pin p (List.mem_append_right _ z)) fun z=>by
  obtain ⟨hb,e⟩:=Ky z;obtain ⟨f0,f1,f2,_⟩:=hf p.1 hb;obtain ⟨o,e',d⟩:=ho p.1 hb;rw [e] at e';cases e';exact ⟨e,f0,f1,f2,d⟩
theorem Inv.ud {pins pl:List (Addr×Obj)} {σ:St} {H:Hp} {s:Shared} (I:Inv X (pins++pl) σ H s):Inv X pins σ H s:=I.Jr fun p hp=>I.pin p (List.mem_append_right _ (List.mem_append_left _ hp))
theorem qe {iter:Expr} {body:List Stmt} {wi:TI} {g:TG} {tb:TS} {pos:Pos} (hp:PassesOwn (model X.prog X.w) X.A X.env X.xe) (hc:X.calm=true) (hi:PI X tg iter wi) (hg:PG X tg g) (hb:GX X body tb)
 (hs:∀x,foldedSetIterable iter X.env x=pure x:=by intro _;rfl):PS X (.For tg iter body [] pos) (adw wi g tb):=by
 intro pins s σ H D I h;refine wpAny_For (eF (hi pins s σ H _ I h) fun v s1 h1=>eF h1 fun itv s2 h2=> ?_) hs;obtain ⟨it,fp,tn,J,H2,e,I2,T,st2,f2,W,⟨m0,w0⟩,turn⟩:=h2;subst e;have stat:∀{H':Hp},(∀b∈fp,H' b=none) -> ∀b∈fp,qL X pins H' b:=fun hn b hb=>⟨hn b hb,(f2 b hb).2⟩;refine codeAny_forLoop_any (fun n s'=>∃i σ' H',Inv X pins σ' H' s'/\tn i s'.heap/\(∀b∈fp,H' b=none)/\W i n σ' H') ?_ m0 ⟨0,σ,H2,I2,st2,fun b hb=>(f2 b hb).1,w0⟩;rintro n s3 ⟨i,σ3,H3,I3,st3,Z8,w3⟩;rcases turn i n σ3 H3 w3 with ⟨stop,qn⟩|⟨go,N,hN,step⟩
 ·refine wpAny_passesOwn hp (eF (T.done X rfl rfl rfl hc i pins s3 σ3 H3 X.xe I3 (stat Z8) st3 stop) fun r s4 ⟨hr,I4⟩=> ?_)
  subst hr;exact wpAny_execs_nil ⟨σ3,H3,I4,qn⟩
 ·refine wpAny_passesOwn hp (eF (T.item X rfl rfl rfl hc i pins s3 σ3 H3 X.xe I3 (stat Z8) st3 go) fun r s4 ⟨u,hr,h4⟩=> ?_)
  subst hr;refine wpAny_passesOwn hp (eF h4 fun _ s5 ⟨x,H5,I5,r5,y5,Vq,fr5⟩=> ?_);have I5':=I5.pinned (stat fr5) (T.obj _ _ Vq);refine wpAny_passesOwn hp (eF (hg _ s5 σ3 H5 x u _ I5' r5 (step x H5 y5)) fun _ s6 ⟨σ6,H6,I6,q6⟩=> ?_);refine wpAny_passesOwn hp (eF (hb _ s6 σ6 H6 _ I6 q6) fun f s7 q7=> ?_)
  have again:∀{σ7:St} {H7:Hp},Inv X (pins++yS fp s5.heap) σ7 H7 s7->N σ7 H7 -> ∃m,m<n /\ ∃i σ' H',Inv X pins σ' H' s7/\tn i s7.heap/\(∀b∈fp,H' b=none)/\W i m σ' H':=fun {σ7 H7} I7 n7=>by
   obtain ⟨m',hm,w7⟩:=hN σ7 H7 n7;refine ⟨m',hm,i+1,σ7,H7,I7.ud,T.keep _ _ _ Vq fun b hb o e=>(I7.pin (b,o) (List.mem_append_right _ (List.mem_append_right _ (o9 hb e)))).1,fun b hb=> ?_,w7⟩;obtain ⟨o,e,d⟩:=T.obj _ _ Vq b hb;exact (I7.pin (b,o) (List.mem_append_right _ (List.mem_append_right _ (o9 hb e)))).2.1
  cases f with
  | next=>obtain ⟨σ7,H7,I7,n7⟩:=q7;exact again I7 n7
  | cont=>obtain ⟨σ7,H7,I7,n7⟩:=q7;exact again I7 n7
  | brk=>obtain ⟨σ7,H7,I7,q7⟩:=q7;exact ⟨σ7,H7,I7.ud,q7⟩
  | ret v=>obtain ⟨x7,σ7,H7,I7,r7,q7⟩:=q7;exact ⟨x7,σ7,H7,I7.ud,r7,q7⟩
end
theorem zq {K:PySem.W.Frag} {a:Addr} {xs:List V} {g:TG} {tb:TS} {D:Ends} {σ:St} {H:Hp} (Pv:Nat->St->Hp->Prop) (h0:Pv 0 σ H) (hl:∀i σ H,i<=xs.length->Pv i σ H->bK K H a xs)
 (hs:∀i x σ H,xs[i]? = some x->Pv i σ H->g x σ H fun σ2 H2=>tb {D with nx:=Pv (i+1),ct:=Pv (i+1),bk:=D.nx} σ2 H2) (hd:∀σ H,Pv xs.length σ H->D.nx σ H):
 ∃W:Nat->Nat->St->Hp->Prop,(∃m,W 0 m σ H) /\ ∀i m σ H,W i m σ H ->
  ((S_ K a).stop i H/\D.nx σ H)\/((S_ K a).go i H /\ ∃N:St->Hp->Prop,(∀σ' H',N σ' H' -> ∃m',m'<m/\W (i+1) m' σ' H') /\ ∀x H',(S_ K a).Xw i H x H'->g x σ H' fun σ2 H2=>tb {D with nx:=N,ct:=N,bk:=D.nx} σ2 H2):=by
 refine ⟨fun i m σ H=>m=xs.length - i/\i<=xs.length/\Pv i σ H,⟨xs.length,by simp,Nat.zero_le _,h0⟩, ?_⟩;rintro i m σ H ⟨rfl,hi,p⟩;have q:=hl i σ H hi p
 by_cases hlt:i<xs.length
 ·refine .inr ⟨⟨xs,xs[i],q,by simp [hlt]⟩,Pv (i+1),fun σ' H' p'=>⟨xs.length - (i+1),by omega,rfl,hlt,p'⟩,fun x H' y=> ?_⟩
  obtain ⟨e,y⟩:=y;subst e;exact hs i x σ _ (y xs q) p
 ·have e:i=xs.length:=by omega
  subst e;exact .inl ⟨⟨xs,q,Nat.le_refl _⟩,hd σ H p⟩
theorem q_ {lo:Int} {n:Nat} {g:TG} {tb:TS} {D:Ends} {σ:St} {H:Hp} (Pv:Nat->St->Hp->Prop) (h0:Pv 0 σ H)
 (hs:∀i σ H,i<n->Pv i σ H->g (.int (lo+i)) σ H fun σ2 H2=>tb {D with nx:=Pv (i+1),ct:=Pv (i+1),bk:=D.nx} σ2 H2) (hd:∀σ H,Pv n σ H->D.nx σ H):
 ∃W:Nat->Nat->St->Hp->Prop,(∃m,W 0 m σ H) /\ ∀i m σ H,W i m σ H ->
  ((Qq lo n).stop i H/\D.nx σ H)\/((Qq lo n).go i H /\ ∃N:St->Hp->Prop,(∀σ' H',N σ' H' -> ∃m',m'<m/\W (i+1) m' σ' H') /\ ∀x H',(Qq lo n).Xw i H x H'->g x σ H' fun σ2 H2=>tb {D with nx:=N,ct:=N,bk:=D.nx} σ2 H2):=by
 refine ⟨fun i m σ H=>m=n - i/\i<=n/\Pv i σ H,⟨n,by simp,Nat.zero_le _,h0⟩, ?_⟩;rintro i m σ H ⟨rfl,hi,p⟩
 by_cases hlt:i<n
 ·refine .inr ⟨hlt,Pv (i+1),fun σ' H' p'=>⟨n - (i+1),by omega,rfl,hlt,p'⟩,fun x H' y=> ?_⟩
  obtain ⟨e,y⟩:=y;subst e y;exact hs i σ _ hlt p
 ·have e:i=n:=by omega
  subst e;exact .inl ⟨Nat.le_refl _,hd σ H p⟩
end L2
namespace L2
open PySem PySem.Spec PyProof.Rows
abbrev R2:=V->V->Hp->VK->Prop
def rB (X:Cx) (f:Value->Value->Sem Value) (r:R2):Prop:=
 ∀(pins:List (Addr×Obj)) (s:Shared) (σ:St) (H:Hp) (x y:V) (v u:Value) (Q:VK),Inv X pins σ H s->RelV x v->RelV y u->r x y H Q ->
  wpAny (model X.prog X.w) X.A (f v u) (EP X pins σ Q) X.xe s
def UnR (X:Cx) (f:Value->Sem Value) (r:V->Hp->VK->Prop):Prop:=
 ∀(pins:List (Addr×Obj)) (s:Shared) (σ:St) (H:Hp) (x:V) (v:Value) (Q:VK),Inv X pins σ H s->RelV x v->r x H Q ->
  wpAny (model X.prog X.w) X.A (f v) (EP X pins σ Q) X.xe s
def kE (X:Cx) (f:Value) (r:List V->Hp->VK->Prop):Prop:=
 ∀(pins:List (Addr×Obj)) (s:Shared) (σ:St) (H:Hp) (xs:List V) (us:List Value) (Q:VK),Inv X pins σ H s->Vals xs us->r xs H Q ->
  wpAny (model X.prog X.w) X.A (call f us) (EP X pins σ Q) X.xe s
def akA (X:Cx) (r:V->Hp->(Bool->Hp->Prop)->Prop):Prop:=
 ∀(pins:List (Addr×Obj)) (s:Shared) (σ:St) (H:Hp) (x:V) (v:Value) (Q:Bool->Hp->Prop),Inv X pins σ H s->RelV x v->r x H Q ->
  wpAny (model X.prog X.w) X.A (truthy v) (TP X pins σ Q) X.xe s
def tOp (r:R2) (ta tb:TE):TE:=fun σ H Q=>ta σ H fun x H1=>tb σ H1 fun y H2=>r x y H2 Q
def tUn (r:V->Hp->VK->Prop) (ta:TE):TE:=fun σ H Q=>ta σ H fun x H1=>r x H1 Q
def rI (C:Int->Int->Prop) (g:Int->Int->V):R2:=fun x y H Q=>∃i j,x = .int i/\y = .int j/\C i j/\Q (g i j) H
def Ud (g:Int->Int->V):R2:=fun x y H Q=>∃i j,x = .int i/\y = .int j/\Q (g i j) H
def rU (g:Int->V):V->Hp->VK->Prop:=fun x H Q=>∃i,x = .int i/\Q (g i) H
section
variable {X:Cx} {a b c:Expr} {ta tb tc:TE} {pos:Pos}
theorem Xg (ha:PE X a ta) (hb:PE X b tb) {pins:List (Addr×Obj)} {s:Shared} {σ:St} {H:Hp} {R:V->V->Hp->Prop} (I:Inv X pins σ H s)
 (h:ta σ H fun x H1=>tb σ H1 fun y H2=>R x y H2) {Q:Value->Shared->Prop} {f:Value->Value->Sem Value}
 (hf:∀v u s2 x y H2,Inv X pins σ H2 s2->RelV x v->RelV y u->R x y H2->wpAny (model X.prog X.w) X.A (f v u) Q X.xe s2):
 wpAny (model X.prog X.w) X.A (eval a X.env) (fun v s₁=>wpAny (model X.prog X.w) X.A (eval b X.env) (fun u s₂=>wpAny (model X.prog X.w) X.A (f v u) Q X.xe s₂) X.xe s₁) X.xe s:=by
 refine eF (ha pins s σ H _ I h) fun v s1 ⟨x,H1,I1,r1,q1⟩=> ?_;refine eF (hb pins s1 σ H1 _ I1 q1) fun u s2 ⟨y,H2,I2,r2,q2⟩=> ?_;exact hf v u s2 x y H2 I2 r1 r2 q2
theorem bR {op:Operator} {r:R2} (ho:rB X (binaryOp op) r) (ha:PE X a ta) (hb:PE X b tb):PE X (.BinOp a op b pos) (tOp r ta tb):=by
 intro pins s σ H Q I h;exact wpAny_BinOp (Xg ha hb I h fun v u s2 x y H2 I2 rx ry q=>ho pins s2 σ H2 x y v u Q I2 rx ry q)
theorem Nm {op:UnaryOp} {r:V->Hp->VK->Prop} (ho:UnR X (unaryOp op) r) (ha:PE X a ta):PE X (.UnaryOp op a pos) (tUn r ta):=by
 intro pins s σ H Q I h;exact UnaryOp_ (eF (ha pins s σ H _ I h) fun v s1 ⟨x,H1,I1,r1,q1⟩=>ho pins s1 σ H1 x v Q I1 r1 q1)
theorem Zf {f:Value->Value->Sem Value} {C:Int->Int->Prop} {g:Int->Int->Int}
 (rule:∀(i j:Int) (t u:Tok) (s:Shared) (Q:Value->Shared->Prop) (E:Value->Shared->Prop),C i j->Q (.int (g i j) s.toks) {s with toks:=s.toks+1}->wpAny (model X.prog X.w) X.A (f (.int i t) (.int j u)) Q E s):
 rB X f (rI C fun i j=> .int (g i j)):=by
 intro pins s σ H x y v u Q I rx ry h;obtain ⟨i,j,rfl,rfl,hc,q⟩:=h;obtain ⟨t,rfl⟩:=rx;obtain ⟨t',rfl⟩:=ry;exact rule i j t t' s _ _ hc ⟨.int (g i j),H,I.tok _,⟨_,rfl⟩,q⟩
theorem Ze {f:Value->Value->Sem Value} {g:Int->Int->Int}
 (rule:∀(i j:Int) (t u:Tok) (s:Shared) (Q:Value->Shared->Prop) (E:Value->Shared->Prop),Q (.int (g i j) s.toks) {s with toks:=s.toks+1}->wpAny (model X.prog X.w) X.A (f (.int i t) (.int j u)) Q E s):
 rB X f (Ud fun i j=> .int (g i j)):=by
 intro pins s σ H x y v u Q I rx ry h;obtain ⟨i,j,rfl,rfl,q⟩:=h;obtain ⟨t,rfl⟩:=rx;obtain ⟨t',rfl⟩:=ry;exact rule i j t t' s _ _ ⟨.int (g i j),H,I.tok _,⟨_,rfl⟩,q⟩
theorem Rf {f:Value->Value->Sem Value} {g:Int->Int->Bool}
 (rule:∀(i j:Int) (t u:Tok) (s:Shared) (Q:Value->Shared->Prop) (E:Value->Shared->Prop),Q (.bool (g i j)) s->wpAny (model X.prog X.w) X.A (f (.int i t) (.int j u)) Q E s):
 rB X f (Ud fun i j=> .bl (g i j)):=by
 intro pins s σ H x y v u Q I rx ry h;obtain ⟨i,j,rfl,rfl,q⟩:=h;obtain ⟨t,rfl⟩:=rx;obtain ⟨t',rfl⟩:=ry;exact rule i j t t' s _ _ ⟨.bl (g i j),H,I,rfl,q⟩
def Et (i j:Int):Prop:=0<=j/\j<=1000000/\i.natAbs<2 ^ 64
def Xq (i j:Int):Prop:=(-(2 ^ 64)<i/\i<2 ^ 64)\/(-(2 ^ 64)<j/\j<2 ^ 64)
theorem Xq.ok {i j:Int} (h:Xq i j):IntMulOk i j:=by
 rcases h with ⟨h1,h2⟩|⟨h1,h2⟩
 ·exact .of_left (intBits_le_64 h1 h2)
 ·exact .of_right (intBits_le_64 h1 h2)
theorem jK:rB X (binaryOp .Add) (Ud fun i j=> .int (i+j)):=Ze fun _ _ _ _ _ _ _ q=>add_int q
theorem qm:rB X (binaryOp .Sub) (Ud fun i j=> .int (i - j)):=Ze fun _ _ _ _ _ _ _ q=>sub_int q
theorem vN:rB X (binaryOp .Mult) (rI Xq fun i j=> .int (i*j)):=Zf fun _ _ _ _ _ _ _ hc q=>mul_int q hc.ok
theorem o7:rB X (binaryOp .Mod) (rI (fun _ j=>0<j) fun i j=> .int (i % j)):=Zf fun i j _ _ _ _ _ hc q=>by
 have h1:(0:Int)<j:=hc;exact mod_int' (by omega) (by rw [Int.fmod_eq_emod_of_nonneg i (by omega)];exact q)
theorem oZ:rB X (binaryOp .Pow) (rI Et fun i j=> .int (i ^ j.toNat)):=Zf fun _ _ _ _ _ _ _ hc q=>pow_int_small hc.1 hc.2.1 hc.2.2 q
theorem unI {f:Value->Sem Value} {g:Int->Int}
 (rule:∀(i:Int) (t:Tok) (s:Shared) (Q:Value->Shared->Prop) (E:Value->Shared->Prop),Q (.int (g i) s.toks) {s with toks:=s.toks+1}->wpAny (model X.prog X.w) X.A (f (.int i t)) Q E s):
 UnR X f (rU fun i=> .int (g i)):=by
 intro pins s σ H x v Q I rx h;obtain ⟨i,rfl,q⟩:=h;obtain ⟨t,rfl⟩:=rx;exact rule i t s _ _ ⟨.int (g i),H,I.tok _,⟨_,rfl⟩,q⟩
theorem G6:UnR X (unaryOp .USub) (rU fun i=> .int (-i)):=unI fun _ _ _ _ _ q=>neg_int q
end
def YT:V->V->Bool
 | .non,.non=>true | .non,.int _=>true | .int _,.non=>true | .non,.bl _=>true | .bl _,.non=>true | .non,.str _=>true | .str _,.non=>true
 | .int _,.int _=>true | .bl _,.bl _=>true | .str _,.str _=>true | .Iw _,.Iw _=>true
 | .int _,.str _=>true | .str _,.int _=>true | .bl _,.str _=>true | .str _,.bl _=>true
 | _,_=>false
def rEq:R2:=fun x y H Q=>YT x y=true/\Q (.bl (decide (x=y))) H
def rNe:R2:=fun x y H Q=>YT x y=true/\Q (.bl (!decide (x=y))) H
theorem JK {i j:Int}:decide (V.int i=V.int j)=(i==j):=by
 rw [Bool.eq_iff_iff];simp
theorem Pq {i j:Bool}:decide (V.bl i=V.bl j)=(i==j):=by
 rw [Bool.eq_iff_iff];simp
theorem JH {i j:Str}:decide (V.str i=V.str j)=(i==j):=by
 rw [Bool.eq_iff_iff];simp
theorem JL {i j:Array UInt8}:decide (V.Iw i=V.Iw j)=(i.toList==j.toList):=by
 rw [Bool.eq_iff_iff];cases i;cases j;simp
section
variable {X:Cx} {a b c:Expr} {ta tb tc:TE} {pos:Pos}
theorem cG {pins:List (Addr×Obj)} {σ:St} {H:Hp} {s:Shared} {Q:VK} {k k':Bool} (I:Inv X pins σ H s) (q:Q (.bl k) H) (e:k=k'):EP X pins σ Q (.bool k') s:=by
 subst e;exact ⟨.bl k,H,I,rfl,q⟩
theorem ig:rB X (compareOp .Eq) rEq:=by
 intro pins s σ H x y v u Q I rx ry h;obtain ⟨hs,q⟩:=h;cases x with
 | non=>
   cases rx;cases y with
   | non=>cases ry;exact PySem.EqNone.eq_none_none (cG I q (by simp))
   | bl j=>cases ry;exact PySem.EqNone.eq_none_bool (cG I q (by simp))
   | int j=>obtain ⟨t',rfl⟩:=ry;exact PySem.EqNone.eq_none_int (cG I q (by simp))
   | str j=>obtain ⟨t',rfl⟩:=ry;exact PySem.EqNone.eq_none_str (cG I q (by simp))
   | _=>exact absurd (show false=true from hs) Bool.false_ne_true
 | bl i=>
   cases rx;cases y with
   | non=>cases ry;exact PySem.EqNone.eq_bool_none (cG I q (by simp))
   | bl j=>cases ry;exact eq_bool (cG I q Pq)
   | str j=>obtain ⟨t',rfl⟩:=ry;exact PySem.EqMixed.eq_bool_str (cG I q (by simp))
   | _=>exact absurd (show false=true from hs) Bool.false_ne_true
 | int i=>
   obtain ⟨t,rfl⟩:=rx;cases y with
   | non=>cases ry;exact PySem.EqNone.eq_int_none (cG I q (by simp))
   | int j=>obtain ⟨t',rfl⟩:=ry;exact eq_int (cG I q JK)
   | str j=>obtain ⟨t',rfl⟩:=ry;exact PySem.EqMixed.eq_int_str (cG I q (by simp))
   | _=>exact absurd (show false=true from hs) Bool.false_ne_true
 | str i=>
   obtain ⟨t,rfl⟩:=rx;cases y with
   | non=>cases ry;exact PySem.EqNone.eq_str_none (cG I q (by simp))
   | bl j=>cases ry;exact PySem.EqMixed.eq_str_bool (cG I q (by simp))
   | int j=>obtain ⟨t',rfl⟩:=ry;exact PySem.EqMixed.eq_str_int (cG I q (by simp))
   | str j=>obtain ⟨t',rfl⟩:=ry;exact eq_str (cG I q JH)
   | _=>exact absurd (show false=true from hs) Bool.false_ne_true
 | Iw i=>
   obtain ⟨t,rfl⟩:=rx;cases y with
   | Iw j=>obtain ⟨t',rfl⟩:=ry;exact PySem.W.eq_bytes (cG I q JL)
   | _=>exact absurd (show false=true from hs) Bool.false_ne_true
 | _=>cases y<;>exact absurd (show false=true from hs) Bool.false_ne_true
theorem rJ:rB X (compareOp .NotEq) rNe:=by
 intro pins s σ H x y v u Q I rx ry h;obtain ⟨hs,q⟩:=h;cases x with
 | non=>
   cases rx;cases y with
   | non=>cases ry;exact PySem.EqNone.ne_none_none (cG I q (by simp))
   | bl j=>cases ry;exact PySem.EqNone.ne_none_bool (cG I q (by simp))
   | int j=>obtain ⟨t',rfl⟩:=ry;exact PySem.EqNone.ne_none_int (cG I q (by simp))
   | str j=>obtain ⟨t',rfl⟩:=ry;exact PySem.EqNone.ne_none_str (cG I q (by simp))
   | _=>exact absurd (show false=true from hs) Bool.false_ne_true
 | bl i=>
   cases rx;cases y with
   | non=>cases ry;exact PySem.EqNone.ne_bool_none (cG I q (by simp))
   | bl j=>cases ry;exact ne_bool (cG I q (congrArg not Pq))
   | str j=>obtain ⟨t',rfl⟩:=ry;exact PySem.EqMixed.ne_bool_str (cG I q (by simp))
   | _=>exact absurd (show false=true from hs) Bool.false_ne_true
 | int i=>
   obtain ⟨t,rfl⟩:=rx;cases y with
   | non=>cases ry;exact PySem.EqNone.ne_int_none (cG I q (by simp))
   | int j=>obtain ⟨t',rfl⟩:=ry;exact ne_int (cG I q (congrArg not JK))
   | str j=>obtain ⟨t',rfl⟩:=ry;exact PySem.EqMixed.ne_int_str (cG I q (by simp))
   | _=>exact absurd (show false=true from hs) Bool.false_ne_true
 | str i=>
   obtain ⟨t,rfl⟩:=rx;cases y with
   | non=>cases ry;exact PySem.EqNone.ne_str_none (cG I q (by simp))
   | bl j=>cases ry;exact PySem.EqMixed.ne_str_bool (cG I q (by simp))
   | int j=>obtain ⟨t',rfl⟩:=ry;exact PySem.EqMixed.ne_str_int (cG I q (by simp))
   | str j=>obtain ⟨t',rfl⟩:=ry;exact ne_str (cG I q (congrArg not JH))
   | _=>exact absurd (show false=true from hs) Bool.false_ne_true
 | Iw i=>
   obtain ⟨t,rfl⟩:=rx;cases y with
   | Iw j=>obtain ⟨t',rfl⟩:=ry;exact PySem.W.ne_bytes (cG I q (congrArg not JL))
   | _=>exact absurd (show false=true from hs) Bool.false_ne_true
 | _=>cases y<;>exact absurd (show false=true from hs) Bool.false_ne_true
theorem wC:rB X (compareOp .Lt) (Ud fun i j=> .bl (decide (i<j))):=Rf fun _ _ _ _ _ _ _ q=>lt_int q
theorem Zc:rB X (compareOp .LtE) (Ud fun i j=> .bl (decide (i<=j))):=Rf fun _ _ _ _ _ _ _ q=>le_int q
theorem Zd:rB X (compareOp .Gt) (Ud fun i j=> .bl (decide (j<i))):=Rf fun _ _ _ _ _ _ _ q=>gt_int q
theorem Nz:rB X (compareOp .GtE) (Ud fun i j=> .bl (decide (j<=i))):=Rf fun _ _ _ _ _ _ _ q=>ge_int q
theorem Dm:rB X (compareOp .Is) (fun x y H Q=>y = .non/\Q (.bl (decide (x = .non))) H):=by
 intro pins s σ H x y v u Q I rx ry h;obtain ⟨rfl,q⟩:=h;cases ry;refine is_none_gen (cG I q ?_)
 cases x<;>first
  | (cases rx;rfl)
  | (obtain ⟨t,rfl⟩:=rx;rfl)
theorem Ju:rB X (compareOp .IsNot) (fun x y H Q=>y = .non/\Q (.bl (!decide (x = .non))) H):=by
 intro pins s σ H x y v u Q I rx ry h;obtain ⟨rfl,q⟩:=h;cases ry;refine isnot_none_gen (cG I q ?_)
 cases x<;>first
  | (cases rx;rfl)
  | (obtain ⟨t,rfl⟩:=rx;rfl)
def isObj:HO->Bool
 | .lst _=>true
 | .ins _ _ _=>true
 | _=>false
theorem bF (b:Expr) {op:CmpOp} (h:op ≠ .In:=by decide) (h2:op ≠ .NotIn:=by decide):behindInMarks op b=false:=by
 have e1:(op==CmpOp.In)=false:=by cases op<;>first |rfl|exact absurd rfl h
 have e2:(op==CmpOp.NotIn)=false:=by cases op<;>first |rfl|exact absurd rfl h2
 cases b<;>simp [behindInMarks,e1,e2]
theorem fu {op:CmpOp} {r:R2} (ho:rB X (compareOp op) r) (ha:PE X a ta) (hb:PE X b tb) (hm:behindInMarks op b=false):PE X (.Compare a [op] [b] pos) (tOp r ta tb):=by
 intro pins s σ H Q I h;exact wpAny_Compare1 (Xg ha hb I h fun v u s2 x y H2 I2 rx ry q=>ho pins s2 σ H2 x y v u Q I2 rx ry q) hm
def Yz (t:TE):TT:=fun σ H Q=>t σ H fun x H'=>∃k,x = .bl k/\Q k H'
theorem bI {op:CmpOp} {r:R2} (ho:rB X (compareOp op) r) (ha:PE X a ta) (hb:PE X b tb) (hm:behindInMarks op b=false):PT X (.Compare a [op] [b] pos) (Yz (tOp r ta tb)):=by
 intro pins s σ H Q I h
 refine wpAny_isTrue_Compare1 (eF (ha pins s σ H _ I h) fun v s1 ⟨x,H1,I1,r1,q1⟩=>eF (hb pins s1 σ H1 _ I1 q1) fun u s2 ⟨y,H2,I2,r2,q2⟩=>
  eF (ho pins s2 σ H2 x y v u _ I2 r1 r2 q2) fun c s3 ⟨z,H3,I3,r3,k,e,q3⟩=> ?_) hm
 subst e;cases r3;exact wpAny_truthy_bool ⟨H3,I3,q3⟩
def Vn (r r':R2) (ta tb tc:TE):TE:=fun σ H Q=>ta σ H fun x H1=>tb σ H1 fun y H2=>r x y H2 fun z H3=>∃k,z = .bl k /\
 (if k=true then tc σ H3 fun w' H4=>r' y w' H4 Q else Q (.bl false) H3)
theorem Ny {op op':CmpOp} {r r':R2} (ho:rB X (compareOp op) r) (ho':rB X (compareOp op') r') (ha:PE X a ta) (hb:PE X b tb) (hc:PE X c tc)
 (hm:lastMarks [op,op'] [b,c]=false:=by with_unfolding_all rfl):PE X (.Compare a [op,op'] [b,c] pos) (Vn r r' ta tb tc):=by
 intro pins s σ H Q I h
 refine Compare_chain (eF (ha pins s σ H _ I h) fun v s1 ⟨x,H1,I1,r1,q1⟩=>chain_link (eF (hb pins s1 σ H1 _ I1 q1) fun u s2 ⟨y,H2,I2,r2,q2⟩=>
  eF (ho pins s2 σ H2 x y v u _ I2 r1 r2 q2) fun d s3 ⟨z,H3,I3,r3,k,e,q3⟩=> ?_)) hm
 subst e;cases r3;refine wpAny_truthy_bool ?_;cases k with
 | false=>exact ite_ff ⟨.bl false,H3,I3,rfl,q3⟩
 | true=>exact ite_tt (chain_last (eF (hc pins s3 σ H3 _ I3 q3) fun w' s4 ⟨z',H4,I4,r4,q4⟩=>ho' pins s4 σ H4 y z' u w' Q I4 r2 r4 q4))
def Xj (K:PySem.W.Frag) (x:V) (H:Hp) (k:Bool):Prop:=
 match x with
 | .non=>k=false
 | .bl b=>k=b
 | .int i=>k=(i != 0)
 | .str y=>y.length<=sizeLine/\k=((y.length:Int) != 0)
 | .Iw y=>y.size<=sizeLine/\k=((y.size:Int) != 0)
 | .ref p=>(∃xs,bK K H p xs/\k = !xs.isEmpty)\/(∃xs,cO K H p xs/\k = !xs.isEmpty) \/ ∃kvs,H p=some (.dK kvs)/\k = !kvs.isEmpty
 | _=>False
theorem Ik {κ:Type} {kvs:List (κ×V)} {vs:List (κ×Value)} (r:KV kvs vs):(!vs.isEmpty) = !kvs.isEmpty:=by
 cases r<;>rfl
theorem za {xs:List V} {its:List Value} (r:Vals xs its):(!its.toArray.isEmpty) = !xs.isEmpty:=by
 cases r<;>simp
theorem vR:(sizeLine:Nat)<2 ^ 63:=by rw [sizeLine_eq];decide
theorem Vc:akA X (fun x H Q=>∃k,Xj X.K x H k/\Q k H):=by
 intro pins s σ H x v Q I rx h;obtain ⟨k,e,q⟩:=h;have hl:=vR;have hs:sizeLine=16777216:=sizeLine_eq;cases x with
 | non=>
   cases rx;have e':k=false:=e;subst e';exact truthy_none ⟨H,I,q⟩
 | bl b=>
   cases rx;have e':k=b:=e;subst e';exact wpAny_truthy_bool ⟨H,I,q⟩
 | int i=>
   obtain ⟨t,rfl⟩:=rx;have e':k=(i != 0):=e;subst e';exact PySem.P.truthy_int ⟨H,I,q⟩
 | str y=>
   obtain ⟨t,rfl⟩:=rx;obtain ⟨hy,e'⟩:y.length<=sizeLine/\k=((y.length:Int) != 0):=e;subst e';exact PySem.P.truthy_str (by omega) ⟨H,I.tok _,q⟩
 | Iw y=>
   obtain ⟨t,rfl⟩:=rx;obtain ⟨hy,e'⟩:y.size<=sizeLine/\k=((y.size:Int) != 0):=e;subst e';exact PySem.W.truthy_bytes (by omega) ⟨H,I.tok _,q⟩
 | ref p=>
   cases rx;have e':(∃xs,bK X.K H p xs/\k = !xs.isEmpty)\/(∃xs,cO X.K H p xs/\k = !xs.isEmpty) \/ ∃kvs,H p=some (.dK kvs)/\k = !kvs.isEmpty:=e;rcases e' with ⟨xs,hx,e'⟩|⟨xs,hx,e'⟩|⟨kvs,hx,e'⟩
   ·subst e'
    obtain ⟨its,r,pl,hz⟩:=I.list hx;have hlen:=r.length;exact wpAny_truthy_list pl.isList (by simp only [List.size_toArray];omega) ⟨H,I.tok _,by rw [za r];exact q⟩
   ·subst e'
    obtain ⟨its,r,pl,hz⟩:=I.tuple hx;have hlen:=r.length;exact truthy_tuple pl (by simp only [List.size_toArray];omega) ⟨H,I.tok _,by rw [za r];exact q⟩
   ·subst e'
    obtain ⟨hz,hS,vs,r,m⟩:kvs.length<=sizeLine/\(p==sysModules)=false /\ ∃vs,KV kvs vs/\s.heap.DictOf (gP X.prog X.w) p vs:=I.hok p _ hx;have hlen:kvs.length=vs.length:=Paired.length r;exact wpAny_truthy_dict hS m (by omega) ⟨H,I.tok _,by rw [Ik r];exact q⟩
 | _=>exact (show False from e).elim
theorem Ng (ha:PE X a ta) (he:∀whole,isTrue a X.env whole=(do let v ←whole;standAt a.pos;holding [v] (truthy v))):
 PT X a (fun σ H Q=>ta σ H fun x H'=>∃k,Xj X.K x H' k/\Q k H'):=by
 intro pins s σ H Q I h;exact isTrue_plain (eF (ha pins s σ H _ I h) fun v s1 ⟨x,H1,I1,r1,q1⟩=>Vc pins s1 σ H1 x v Q I1 r1 q1) (he _)
theorem vals1 {x:V} {us:List Value} (r:Vals [x] us):∃u,us=[u]/\RelV x u:=by
 cases r with
 | cons r1 r2=>cases r2;exact ⟨_,rfl,r1⟩
theorem vals2 {x y:V} {us:List Value} (r:Vals [x,y] us):∃u w',us=[u,w']/\RelV x u/\RelV y w':=by
 cases r with
 | cons r1 r2=>
   cases r2 with
   | cons r3 r4=>cases r4;exact ⟨_,_,rfl,r1,r3⟩
theorem Lj (hc:X.calm=true):kE X (.builtin "min") (fun xs H Q=>∃i j,xs=[.int i,.int j]/\Q (.int (if j<i then j else i)) H):=by
 intro pins s σ H xs us Q I r h;obtain ⟨i,j,rfl,q⟩:=h;obtain ⟨u,w',rfl,⟨t,rfl⟩,⟨t',rfl⟩⟩:=vals2 r;refine min_two_ints (I.ok.hd hc) fun h' tk k=>⟨_,H,I.kept k, ?_,q⟩
 by_cases hj:j<i
 ·rw [if_pos hj,if_pos hj];exact ⟨_,rfl⟩
 ·rw [if_neg hj,if_neg hj];exact ⟨_,rfl⟩
theorem n_:kE X (.type "int") (fun xs H Q=>(∃i,xs=[.int i]/\Q (.int i) H) \/ ∃k,xs=[.bl k]/\Q (.int (if k then 1 else 0)) H):=by
 intro pins s σ H xs us Q I r h;rcases h with ⟨i,rfl,q⟩|⟨k,rfl,q⟩
 ·obtain ⟨u,rfl,t,rfl⟩:=vals1 r
  exact call_int_int ⟨.int i,H,I,⟨_,rfl⟩,q⟩
 ·obtain ⟨u,rfl,r1⟩:=vals1 r
  cases r1;exact call_int_bool ⟨.int (if k then 1 else 0),H,I.tok _,⟨_,rfl⟩,q⟩
end
end L2
namespace L2
open PySem PySem.Spec PyProof.Rows
structure Je (h:Heap) (x dx C:Addr) (mA:Str->Option Value):Prop where
 obj:h.get? x=some (PySem.W.instObj C dx)
 ns:h.Ns1 dx mA
 ne:dx≠x
theorem KJ {h:Heap} {dx:Addr} {mA:Str->Option Value} (n:h.Ns1 dx mA):∃od,h.get? dx=some od /\ ∀name,PySem.W.lookIn name od=some (mA name):=by
 obtain ⟨o,es,ep,ho,hd,hk,_,hm⟩:=n;refine ⟨o,ho,fun name=> ?_⟩;have e:=hm name;unfold nsFind findBy at e;rw [←Array.find?_toList] at e;unfold PySem.W.lookIn;rw [hd];dsimp only;split
 ·rename_i y q
  rw [q] at e;exact congrArg some e
 ·rename_i q
  rw [q] at e
  have a:es.toList.any (·.refKey)=false:=by
   rw [List.any_eq_false];intro y hy;obtain ⟨z,t,hkey⟩:=hk y (Array.mem_toList_iff.mp hy);simp [DictEntry.refKey,hkey]
  have a':¬es.toList.any (·.refKey)=true:=by rw [a];exact Bool.false_ne_true
  rw [if_neg a'];exact congrArg some e
theorem Je.look {h:Heap} {x dx C:Addr} {mA:Str->Option Value} (I:Je h x dx C mA):∃od,PySem.W.InstAt h x (PySem.W.instObj C dx) C (some od) /\ ∀name,PySem.W.lookIn name od=some (mA name):=
 let ⟨od,ho,hl⟩:=KJ I.ns
 ⟨od,⟨I.obj,rfl,rfl,ho⟩,hl⟩
section
variable {prog:Program} {w:World} {A:Around} {E:Value->Shared->Prop} {s:Shared} {K:PySem.W.Frag} {x dx C f:Addr} {mA:Str->Option Value} {name:Str} {v:Value}
theorem get_map {expr:Bool} {Q:Value->Shared->Prop} (X:K.In s.heap) (I:Je s.heap x dx C mA) (hg:PySem.W.plainGet K C name=true) (hh:PySem.W.hasDictIn K C=true)
 (ha:PySem.W.findIn K (.ref C) name=some none) (hv:mA name=some v) (hv':PySem.W.handedIn v=true) (h:Q v {s with toks:=s.toks+1}):
 wpAny (model prog w) A (getAttr (.ref x) name expr) Q E s:=by
 obtain ⟨od,J,hl⟩:=I.look;exact PySem.W.get_value X J (PySem.W.plainGet_of hg).1 (PySem.W.findObj_own hh ha rfl (by rw [hl,hv])) hv' h
theorem O6 {pl:Sem Bool} {Q:Value×List Value->Shared->Prop} (X:K.In s.heap) (I:Je s.heap x dx C mA) (hg:PySem.W.plainGet K C name=true)
 (hf:PySem.W.findIn K (.ref C) name=some (some (.ref f))) (ht:PySem.W.isFn K (.ref f)=true) (hv:mA name=none) (h:Q (.ref f,[.ref x]) s):
 wpAny (model prog w) A (getMethod (.ref x) name pl) Q E s:=by
 obtain ⟨od,J,hl⟩:=I.look;exact PySem.W.method_fn X J (PySem.W.plainGet_of hg).1 (PySem.W.plainGet_of hg).2 hf (beq_iff_eq.mp ht) (by show (PySem.W.lookIn name od).map (·.isSome)=some false;rw [hl,hv];rfl) h
theorem QH {ns:List Str} {Q:Unit->Shared->Prop} (X:K.In s.heap) (I:Je s.heap x dx C mA)
 (hs:PySem.W.findIn K (.ref C) "__setattr__" = some (some (.builtin "object.__setattr__"))) (hp:PySem.W.plainOver K C=true) (ht:PySem.W.takerIn K C name=some none) (hh:PySem.W.hasDictIn K C=true)
 (hw:PySem.Within mA ns) (hsz:ns.length<=sizeLine)
 (h:∀h',Je h' x dx C (fun y=>if y=name then some v else mA y)->Heap.SameBut dx s.heap h'->Q () {s with heap:=h',toks:=s.toks+2}):
 wpAny (model prog w) A (setAttr (.ref x) name v) Q E s:=by
 obtain ⟨od,J,hl⟩:=I.look;refine PySem.W.set_plain X J hs (PySem.W.osa_open (s:={s with toks:=s.toks+1}) (r:=none) X J hp ht fun b=> ?_);obtain ⟨cd,hc,hd'⟩:=PySem.W.any_some hh;have hx:s.heap.get? x=some ⟨.ref C,some dx,.plain, #[]⟩:=I.obj;refine wpAny_bind (wpAny_pure (wpAny_bind (wpAny_bind (wpAny_loadPart hx (wpAny_bind (PySem.W.Looks.here (s:={s with toks:=s.toks+1}) (PySem.W.looks_clsIn X hc) ?_))))));rw [hd'];refine wpAny_pure (a:=some dx) (wpAny_bind (wpAny_pure (wpAny_bind ?_)));refine wpAny_nsSet1 (s:={s with toks:=s.toks+1}) I.ns fun h' hn2 hs2=> ?_;obtain ⟨oD,esD,epD,hoD,hdD,hcD⟩:=hn2.count (PySem.Within.cons name v hw);refine wpAny_bind (wpAny_lookBehind hoD (by rw [hdD];exact pastItsLine_dict (Nat.le_trans hcD (by rw [List.length_cons];omega))) ?_);exact wpAny_pure (h _ ⟨(hs2.2 _ (Ne.symm I.ne)).trans I.obj,hn2,I.ne⟩ hs2)
theorem Oh {R:Result->Shared->Prop} {vs:List Value} {kw:List (Str×Value)} (X:K.In s.heap) (hm:PySem.W.makesIn K C=true)
 (hi:PySem.W.findIn K (.ref C) "__init__" = some (some (.ref f))) (hf:PySem.W.typeIn K (.ref f)=some (.type "function"))
 (h:codeAny (model prog w) (A.under (.builtin "type.__call__" ⟨.ref C::vs,kw⟩)) (.call (.ref f) ⟨.ref (s.heap.objs.size+1)::vs,kw⟩) (PySem.W.InitBack (s.heap.objs.size+1) R)
   {s with heap:=(s.heap.push PySem.W.emptyDict).push (PySem.W.instObj C s.heap.objs.size)}):
 codeAny (model prog w) A (.call (.ref C) ⟨vs,kw⟩) R s:=by
 obtain ⟨hh,g,d,t,os⟩:=s;exact PySem.W.make_core (PySem.W.makes_of X hm) (PySem.W.looks_findIn X hi) (fun self=>PySem.W.bind_fn X self hf) (.inl rfl) h
end
def cC (f:Str) (v:V):List (Str×V)->List (Str×V)
 | []=>[(f,v)]
 | (g,x)::r=>if g=f then (g,v)::r else (g,x)::cC f v r
theorem wD (f g:Str) (v:V):∀fs:List (Str×V),(cC f v fs).lookup g=if g=f then some v else fs.lookup g
 | []=>by
   show List.lookup g [(f,v)]=_
   by_cases h:g=f
   ·have hb:(g==f)=true:=beq_iff_eq.mpr h
    simp only [List.lookup,hb,if_pos h]
   ·have hb:(g==f)=false:=beq_eq_false_iff_ne.mpr h
    simp only [List.lookup,hb,if_neg h]
 | (k,x)::r=>by
   have ih:=wD f g v r;rw [show cC f v ((k,x)::r)=(if k=f then (k,v)::r else (k,x)::cC f v r) from rfl]
   by_cases hk:k=f
   ·rw [if_pos hk]
    by_cases h:g=k
    ·have hb:(g==k)=true:=beq_iff_eq.mpr h
     simp only [List.lookup,hb,if_pos (h.trans hk)]
    ·have hb:(g==k)=false:=beq_eq_false_iff_ne.mpr h
     simp only [List.lookup,hb,if_neg (fun e:g=f=>h (e.trans hk.symm))]
   ·rw [if_neg hk]
    by_cases h:g=k
    ·have hb:(g==k)=true:=beq_iff_eq.mpr h
     simp only [List.lookup,hb,if_neg (fun e:g=f=>hk (h.symm.trans e))]
    ·have hb:(g==k)=false:=beq_eq_false_iff_ne.mpr h
     simp only [List.lookup,hb];exact ih
theorem vU (f:Str) (v:V):∀fs:List (Str×V),f∈(cC f v fs).map (·.1) /\ ∀g,g∈fs.map (·.1)->g∈(cC f v fs).map (·.1)
 | []=>⟨by simp [cC],fun g h=>by simp at h⟩
 | (k,x)::r=>by
   obtain ⟨i1,i2⟩:=vU f v r;rw [show cC f v ((k,x)::r)=(if k=f then (k,v)::r else (k,x)::cC f v r) from rfl]
   by_cases hk:k=f
   ·rw [if_pos hk]
    subst hk;exact ⟨by simp,fun g h=>by simpa using h⟩
   ·rw [if_neg hk]
    refine ⟨?_,fun g h=> ?_⟩
    ·rw [List.map_cons]
     exact List.mem_cons_of_mem _ i1
    ·rw [List.map_cons] at h ⊢
     rcases List.mem_cons.mp h with e|e
     ·exact List.mem_cons.mpr (.inl e)
     ·exact List.mem_cons_of_mem _ (i2 g e)
theorem wH (f:Str) (v:V):∀fs:List (Str×V),(cC f v fs).length<=fs.length+1
 | []=>by simp [cC]
 | (k,x)::r=>by
   have ih:=wH f v r;rw [show cC f v ((k,x)::r)=(if k=f then (k,v)::r else (k,x)::cC f v r) from rfl]
   by_cases hk:k=f
   ·rw [if_pos hk,List.length_cons,List.length_cons];omega
   ·rw [if_neg hk,List.length_cons,List.length_cons];omega
theorem pQ.some_of {v:V} {o:Option Value} (r:pQ (some v) o):∃u,o=some u/\RelV v u:=by
 cases o with
 | none=>exact (show False from r).elim
 | some u=>exact ⟨u,rfl,r⟩
theorem pQ.none_of {o:Option Value} (r:pQ none o):o=none:=by
 cases o with
 | none=>rfl
 | some u=>exact (show False from r).elim
theorem K7 {v:V} {u:Value} (r:RelV v u):PySem.W.handedIn u=true:=by
 cases v with
 | non=>cases (show u=Value.none from r);rfl
 | bl b=>cases (show u=Value.bool b from r);rfl
 | int i=>obtain ⟨t,e⟩:=(show ∃t,u=Value.int i t from r);cases e;rfl
 | str x=>obtain ⟨t,e⟩:=(show ∃t,u=Value.str x t from r);cases e;rfl
 | Iw b=>obtain ⟨t,e⟩:=(show ∃t,u=Value.bytes b t from r);cases e;rfl
 | flt b=>obtain ⟨t,e⟩:=(show ∃t,u=Value.float b t from r);cases e;rfl
 | ref a=>cases (show u=Value.ref a from r);rfl
 | ty n=>cases (show u=Value.type n from r);rfl
section
variable {P:Program} {w:World} {H H':Hp} {h h':Heap} {a C dx:Addr} {fs fs':List (Str×V)}
theorem uN (hok:rC P w H h) (e:H a=some (.ins C dx fs)):∃mA,Je h a dx C mA/\(∀f,pQ (fs.lookup f) (mA f))/\PySem.Within mA (fs.map (·.1))/\fs.length<=1000/\H dx=some (.own a):=by
 obtain ⟨d,z,ne,ob,mA,n,r,q⟩:=(show gw P w H h a (.ins C dx fs) from hok a _ e);exact ⟨mA,⟨ob,n,ne⟩,r,q,z,d⟩
end
structure Cls (K:PySem.W.Frag) (C:Addr):Prop where
 pg:PySem.W.plainGet K C Str.empty=true
 hd:PySem.W.hasDictIn K C=true
 po:PySem.W.plainOver K C=true
 sa:PySem.W.findIn K (.ref C) "__setattr__" = some (some (.builtin "object.__setattr__"))
theorem Cls.get {K:PySem.W.Frag} {C:Addr} (c:Cls K C) (f:Str):PySem.W.plainGet K C f=true:=c.pg
def gC (K:PySem.W.Frag) (C:Addr) (f:Str):Prop:=PySem.W.findIn K (.ref C) f=some none
theorem gC.taker {K:PySem.W.Frag} {C:Addr} {f:Str} (n:gC K C f):PySem.W.takerIn K C f=some none:=by
 unfold PySem.W.takerIn;rw [show PySem.W.findIn K (.ref C) f=some none from n];rfl
structure Meth (K:PySem.W.Frag) (C:Addr) (m:Str) (f:Addr):Prop where
 at_:PySem.W.findIn K (.ref C) m=some (some (.ref f))
 fn:PySem.W.isFn K (.ref f)=true
 kp:PySem.W.keepIn K (.ref f)=true
section
variable {X:Cx} {pins:List (Addr×Obj)} {σ:St} {H:Hp} {s:Shared} {a C dx:Addr} {fs:List (Str×V)} {f:Str} {v:V} {A:Around} {E:Value->Shared->Prop}
theorem zf {b:Bool} {Q:Value->Shared->Prop} (I:Inv X pins σ H s) (e:H a=some (.ins C dx fs)) (c:Cls X.K C) (n:gC X.K C f) (l:fs.lookup f=some v)
 (h:∀u s',Inv X pins σ H s'->RelV v u->Q u s'):wpAny (model X.prog X.w) A (getAttr (.ref a) f b) Q E s:=by
 obtain ⟨mA,O,r,_,_,_⟩:=uN I.hok e;obtain ⟨u,hu,ru⟩:=pQ.some_of (v:=v) (o:=mA f) (by rw [←l];exact r f);exact get_map I.rE O (c.get f) c.hd n hu (K7 ru) (h u _ (I.tok _) ru)
theorem tR {m:Str} {g:Addr} {pl:Sem Bool} {Q:Value×List Value->Shared->Prop} (I:Inv X pins σ H s) (e:H a=some (.ins C dx fs)) (c:Cls X.K C) (k:Meth X.K C m g) (l:fs.lookup m=none)
 (h:Q (.ref g,[.ref a]) s):wpAny (model X.prog X.w) A (getMethod (.ref a) m pl) Q E s:=by
 obtain ⟨mA,O,r,_,_,_⟩:=uN I.hok e;have hn:mA m=none:=pQ.none_of (by rw [←l];exact r m);exact O6 I.rE O (c.get m) k.at_ k.fn hn h
theorem yI {y:V} {u:Value} {Q:Unit->Shared->Prop} (I:Inv X pins σ H s) (e:H a=some (.ins C dx fs)) (c:Cls X.K C) (n:gC X.K C f) (hl:fs.length<1000) (ry:RelV y u)
 (h:∀s',Inv X pins σ (upd H a (.ins C dx (cC f y fs))) s'->Q () s'):wpAny (model X.prog X.w) A (setAttr (.ref a) f u) Q E s:=by
 obtain ⟨mA,O,r,wi,_,ho⟩:=uN I.hok e;have hz:(fs.map (·.1)).length<=sizeLine:=by rw [List.length_map,sizeLine_eq];omega
 refine QH I.rE O c.sa c.po n.taker c.hd wi hz fun h' O' sb=>h _ ?_;have hd:∃o,h'.get? dx=some o:=let ⟨o,_,_,e',_⟩:=O'.ns;⟨o,e'⟩
 refine I.write (x:=a) (e:=dx) (by rw [e];exact True.intro) (.inr ho) (fun b q hb z=>(sb.2 b hb).trans z) hd ?_;refine ⟨by rw [aF O.ne];exact ho, ?_,O.ne,O'.obj,_,O'.ns,fun g=> ?_,fun g hg=> ?_⟩
 ·have:=wH f y fs;omega
 ·show pQ ((cC f y fs).lookup g) (if g=f then some u else mA g)
  rw [wD]
  by_cases q:g=f
  ·rw [if_pos q,if_pos q];exact ry
  ·rw [if_neg q,if_neg q];exact r g
 ·by_cases q:g=f
  ·rw [q];exact (vU f y fs).1
  ·refine (vU f y fs).2 g (wi g fun z=>hg ?_)
   show (if g=f then some u else mA g)=none;rw [if_neg q];exact z
theorem Inv.made (I:Inv X pins σ H s):Inv X pins σ (upd (upd H s.heap.objs.size (.own (s.heap.objs.size+1))) (s.heap.objs.size+1) (.ins C s.heap.objs.size []))
 {s with heap:=(s.heap.push PySem.W.emptyDict).push (PySem.W.instObj C s.heap.objs.size)}:=by
 have e1:(s.heap.push PySem.W.emptyDict).get? s.heap.objs.size=some PySem.W.emptyDict:=Heap.get?_push_size s.heap rfl
 have e2:((s.heap.push PySem.W.emptyDict).push (PySem.W.instObj C s.heap.objs.size)).get? (s.heap.objs.size+1)=some (PySem.W.instObj C s.heap.objs.size):=by
  have:=Heap.get?_push_size (s.heap.push PySem.W.emptyDict) (o:=PySem.W.instObj C s.heap.objs.size) rfl;rwa [Heap.size_push] at this
 have e3:(s.heap.push PySem.W.emptyDict).Ns s.heap.objs.size (fun _=>none):=⟨PySem.W.emptyDict, #[],_,e1,rfl,(fun e he=>absurd he (by simp)),fun _=>rfl⟩;have I1:=I.laid (a:=s.heap.objs.size) (o:= .own (s.heap.objs.size+1)) (h':=s.heap.push PySem.W.emptyDict) (t':=s.toks) (fun b u q=>Heap.get?_push_of_some _ q) (Nat.le_refl _) ⟨_,e1⟩;refine I1.laid (a:=s.heap.objs.size+1) (o:= .ins C s.heap.objs.size []) (t':=s.toks) (fun b u q=>Heap.get?_push_of_some _ q) (Nat.le_of_eq (Heap.size_push _ _)) ?_;have ne:s.heap.objs.size≠s.heap.objs.size+1:=Nat.ne_of_lt (Nat.lt_succ_self _);refine ⟨by rw [aF ne,ao],Nat.zero_le _,ne,e2,fun _=>none,(Heap.Ns1.of_empty e3).at fun o q=>Heap.get?_push_of_some _ q,fun _=>True.intro,fun y hy=>absurd rfl hy⟩
theorem SJ {prog:Program} {w:World} {env:Env} {e:Expr} {f:Str} {pos:Pos} {s:Shared} {Q:Value->Shared->Prop} (hb:attributeBase e f env (eval e env)=eval e env)
 (h:wpAny (model prog w) A (eval e env) (fun o s₁=>wpAny (model prog w) A (getAttr o f true) Q E s₁) E s):wpAny (model prog w) A (eval (.Attribute e f pos) env) Q E s:=
 Attribute_any_ h (by rw [arm_eval_Attribute,hb])
end
def YG (K:PySem.W.Frag) (ta:TE) (f:Str):TE:=fun σ H Q=>ta σ H fun x H1=>∃a C dx fs v,x = .ref a/\H1 a=some (.ins C dx fs)/\Cls K C/\gC K C f/\fs.lookup f=some v/\Q v H1
def YW (K:PySem.W.Frag) (ta tv:TE) (f:Str):TS:=fun D σ H=>tv σ H fun y H1=>ta σ H1 fun x H2=>∃a C dx fs,x = .ref a/\H2 a=some (.ins C dx fs)/\Cls K C/\gC K C f/\fs.length<1000 /\
 D.nx σ (upd H2 a (.ins C dx (cC f y fs)))
def abC (X:Cx) (op:Operator) (rd:V->V->Hp->VK->Prop):Prop:=
 ∀(pins:List (Addr×Obj)) (s:Shared) (σ:St) (H:Hp) (x y:V) (u v:Value) (Q:VK),Inv X pins σ H s->RelV x u->RelV y v->rd x y H Q->wpAny (model X.prog X.w) X.A (inplaceOp op u v) (EP X pins σ Q) X.xe s
def Jp (K:PySem.W.Frag) (ta tv:TE) (rd:V->V->Hp->VK->Prop) (f:Str):TS:=fun D σ H=>ta σ H fun x H1=>∃a C dx fs v,x = .ref a/\H1 a=some (.ins C dx fs)/\Cls K C/\gC K C f/\fs.lookup f=some v /\
 tv σ H1 fun y H2=>rd v y H2 fun z H3=>∃W_ fs',H3 a=some (.ins C W_ fs')/\fs'.length<1000/\D.nx σ (upd H3 a (.ins C W_ (cC f z fs')))
section
variable {X:Cx} {o e value:Expr} {f:Str} {pos pos' tpos:Pos} {ta tv:TE}
theorem V7 (he:PE X e ta) (hb:attributeBase e f X.env (eval e X.env)=eval e X.env):PE X (.Attribute e f pos) (YG X.K ta f):=by
 intro pins s σ H Q I h;refine SJ hb (eF (he pins s σ H _ I h) fun u s1 ⟨x,H1,I1,rx,a,C,dx,fs,v,ex,ea,c,n,l,q⟩=> ?_);subst ex;obtain rfl:u=Value.ref a:=rx;exact zf I1 ea c n l fun u' s2 I2 ru=>⟨v,H1,I2,ru,q⟩
theorem VR (ha:PE X o ta) (hv:PE X value tv) (hs:swapsWith value (some (.Attribute o f pos')) pos.line X.env=pure false):PS X (.Assign [.Attribute o f pos'] value pos) (YW X.K ta tv f):=by
 intro pins s σ H D I h;refine plainObj_wpAny_Assign_Attribute (eF (hv pins s σ H _ I h) fun u s1 ⟨y,H1,I1,ry,q⟩=>eF (ha pins s1 σ H1 _ I1 q) fun ov s2 ⟨x,H2,I2,rx,a,C,dx,fs,ex,ea,c,n,l,q2⟩=> ?_) hs;subst ex;obtain rfl:ov=Value.ref a:=rx;exact yI I2 ea c n l ry fun s3 I3=>⟨σ,_,I3,q2⟩
theorem Kc {op:Operator} {rd:V->V->Hp->VK->Prop} (ha:PE X o ta) (hv:PE X value tv) (hop:abC X op rd):PS X (.AugAssign (.Attribute o f tpos) op value pos) (Jp X.K ta tv rd f):=by
 intro pins s σ H D I h;refine wpAny_AugAssign_AttributeAny (eF (ha pins s σ H _ I h) fun ov s1 ⟨x,H1,I1,rx,a,C,dx,fs,v,ex,ea,c,n,l,q⟩=> ?_);subst ex;obtain rfl:ov=Value.ref a:=rx;refine zf I1 ea c n l fun u s2 I2 ru=>eF (hv pins s2 σ H1 _ I2 q) fun w3 s3 ⟨y,H2,I3,ry,q3⟩=>eF (hop pins s3 σ H2 v y u w3 _ I3 ru ry q3) fun w4 s4 ⟨z,H3,I4,rz,W_,fs',ea',l',q4⟩=> ?_;exact yI I4 ea' c n l' rz fun s5 I5=>⟨σ,_,I5,q4⟩
end
section
variable {X:Cx} {pins:List (Addr×Obj)} {σ:St} {H:Hp} {s:Shared} {A:Around} {E:Value->Shared->Prop} {Q:Value->Shared->Prop} {c:Value} {b:Bool}
inductive u9 (K:PySem.W.Frag) (H:Hp):V->Value->Prop where
 | non:u9 K H .non (.type "NoneType")
 | bl (x:Bool):u9 K H (.bl x) (.type "bool")
 | int (i:Int):u9 K H (.int i) (.type "int")
 | str (x:Str):u9 K H (.str x) (.type "str")
 | flt (x:UInt64):u9 K H (.flt x) (.type "float")
 | lst {a:Addr} {xs:List V} (e:H a=some (.lst xs)):u9 K H (.ref a) (.type "list")
 | Gf {a:Addr} {o:Obj} {xs:List V} (e:H a=some (.Gf o (.lst xs))):u9 K H (.ref a) (.type "list")
 | tup {a:Addr} {xs:List V} (e:H a=some (.tup xs)):u9 K H (.ref a) (.type "tuple")
 | dK {a:Addr} {kvs:List (Key×V)} (e:H a=some (.dK kvs)):u9 K H (.ref a) (.type "dict")
 | dT {a:Addr} {kvs:List (List Key×V)} (e:H a=some (.dT kvs)):u9 K H (.ref a) (.type "dict")
 | ins {a C dx:Addr} {fs:List (Str×V)} (e:H a=some (.ins C dx fs)) (cl:Cls K C) (ha:PySem.W.findIn K (.ref C) "__class__" = some (some (.builtin "object.__class__")))
    (hn:PySem.W.specialIn K (.builtin "object.__class__") "__get__" = some (some (.builtin "getset_descriptor.__get__"))) (htk:PySem.W.takesIn K (.builtin "object.__class__")=some true)
    (hm:PySem.W.mroIn K C (.type "object")=some true):u9 K H (.ref a) (.ref C)
theorem KZ {x:V} {u t:Value} (I:Inv X pins σ H s) (rx:RelV x u) (ty:u9 X.K H x t) (e:PySem.W.kitOne X.K t c=some b) (h:∀tk,Q (.bool b) {s with toks:=tk}):
 wpAny (model X.prog X.w) A (call (.builtin "isinstance") [u,c]) Q E s:=by
 cases ty with
 | non=>cases (show u=Value.none from rx);exact PySem.W.kia_one PySem.W.kitx_none I.rE True.intro e (fun z=>nomatch z) h
 | bl y=>cases (show u=Value.bool y from rx);exact PySem.W.kia_one PySem.W.kitx_bool I.rE True.intro e (fun z=>nomatch z) h
 | int i=>obtain ⟨t,q⟩:=(show ∃t,u=Value.int i t from rx);cases q;exact PySem.W.kia_one PySem.W.kitx_int I.rE True.intro e (fun z=>nomatch z) h
 | str y=>obtain ⟨t,q⟩:=(show ∃t,u=Value.str y t from rx);cases q;exact PySem.W.kia_one PySem.W.kitx_str I.rE True.intro e (fun z=>nomatch z) h
 | flt y=>obtain ⟨t,q⟩:=(show ∃t,u=Value.float y t from rx);cases q;exact PySem.W.kia_one PySem.W.kitx_float I.rE True.intro e (fun z=>nomatch z) h
 | @lst a xs ea=>
   cases (show u=Value.ref a from rx);obtain ⟨_,_,n,_,h1⟩:=(show gw X.prog X.w H s.heap a (.lst xs) from I.hok a _ ea);exact PySem.W.kia_one PySem.W.kitx_list I.rE ⟨_,h1,rfl⟩ e (fun z=>nomatch z) h
 | @Gf a ob xs ea=>
   cases (show u=Value.ref a from rx);obtain ⟨_,_,_,n,_,h1⟩:=(show gw X.prog X.w H s.heap a (.Gf ob (.lst xs)) from I.hok a _ ea);exact PySem.W.kia_one PySem.W.kitx_list I.rE ⟨_,h1,rfl⟩ e (fun z=>nomatch z) h
 | @tup a xs ea=>
   cases (show u=Value.ref a from rx);obtain ⟨_,_,_,p⟩:=(show gw X.prog X.w H s.heap a (.tup xs) from I.hok a _ ea);obtain ⟨o,h1,h2,_⟩:=p;exact PySem.W.kia_one PySem.W.kitx_tuple I.rE ⟨o,h1,h2⟩ e (fun z=>nomatch z) h
 | @dK a kvs ea=>
   cases (show u=Value.ref a from rx);obtain ⟨_,_,vs,_,p⟩:=(show gw X.prog X.w H s.heap a (.dK kvs) from I.hok a _ ea);obtain ⟨o,es,ep,h1,h2,_⟩:=p;exact PySem.W.kia_one PySem.W.kitx_dict I.rE ⟨o,h1,h2.1⟩ e (fun z=>nomatch z) h
 | @dT a kvs ea=>
   cases (show u=Value.ref a from rx);obtain ⟨_,_,xs,_,o,es,ep,h1,h2,_⟩:=(show gw X.prog X.w H s.heap a (.dT kvs) from I.hok a _ ea);exact PySem.W.kia_one PySem.W.kitx_dict I.rE ⟨o,h1,h2.1⟩ e (fun z=>nomatch z) h
 | @ins a C dx fs ea cl ha hn htk hm=>
   cases (show u=Value.ref a from rx);obtain ⟨mA,O,_⟩:=uN I.hok ea;obtain ⟨od,J,_⟩:=O.look;exact PySem.W.kia_one (PySem.W.kitx_own (cl.get _) cl.hd ha hn htk hm) I.rE J e (fun z=>nomatch z) h
end
end L2
namespace L2
open PySem PySem.Spec PyProof.Rows
structure gR (k:Nat) (A:Around):Prop where
 hd:A.handled=none
 dp:A.depth+3*k+5<recursionLimit
 un:A.units+16*k+200<cLine
theorem gR.mono {j k:Nat} {A:Around} (r:gR k A) (h:j<=k):gR j A:=⟨r.hd,by have:=r.dp;omega,by have:=r.un;omega⟩
theorem gR.deeper {k:Nat} {A:Around} (r:gR (k+1) A) (env:Env):gR k (A.deeper env):=
 ⟨r.hd,by have:=r.dp;show A.depth+1+3*k+5<_;omega,by have:=r.un;show A.units+3+16*k+200<_;omega⟩
theorem gR.in1 {k:Nat} {A:Around} (r:gR (k+1) A):gR k A.in1:=
 ⟨r.hd,by have:=r.dp;show A.depth+3*k+5<_;omega,by have:=r.un;show A.units+1+16*k+200<_;omega⟩
theorem Ie {A:Around} {C:Addr} {us:List Value} {kw:List (Str×Value)}:(A.under (.builtin "type.__call__" ⟨.ref C::us,kw⟩)).depth=A.depth+1:=by
 first |rfl|simp [Around.under,Code.weight,Code.isCreation,Code.isGuard,Code.isCaller,Code.frames,Code.isFrame,guardIds]
theorem Ib {A:Around} {C:Addr} {us:List Value} {kw:List (Str×Value)}:(A.under (.builtin "type.__call__" ⟨.ref C::us,kw⟩)).units=A.units+1:=by
 first |rfl|simp [Around.under,Code.cUnits,Code.frames,Code.isFrame]
theorem gR.make {k:Nat} {A:Around} (r:gR (k+1) A) (C:Addr) (us:List Value) (kw:List (Str×Value)):gR k (A.under (.builtin "type.__call__" ⟨.ref C::us,kw⟩)):=
 ⟨r.hd,by have:=r.dp;rw [Ie];omega,by have:=r.un;rw [Ib];omega⟩
theorem gR.depth {k:Nat} {A:Around} (r:gR k A):A.depth<recursionLimit:=by have:=r.dp;omega
theorem gR.units {k:Nat} {A:Around} (r:gR k A):A.units+64<cLine:=by have:=r.un;omega
def M4:TA:=fun _ H Q=>Q [] H
def YH (ta:TE) (tr:TA):TA:=fun σ H Q=>ta σ H fun x H1=>tr σ H1 fun xs H2=>Q (x::xs) H2
section
variable {X:Cx} {e:Expr} {es:List Expr} {te:TE} {t:TA} {pos:Pos}
theorem aC:PA X [] M4:=fun _ _ _ _ H Q I h=>Calls.spliced_nil ⟨[],H,I,.nil,h⟩
theorem aj (ha:PE X e te) (hr:PA X es t) (hs:starEach (e::es) X.env=(false,eval e X.env)::starEach es X.env:=by rfl):PA X (e::es) (YH te t):=by
 intro pos pins s σ H Q I h;rw [hs];show wpAny _ _ (spliced ((false,eval e X.env)::backTo pos (starEach es X.env))) _ _ s;refine Calls.spliced_cons (eF (ha pins s σ H _ I h) fun u s1 ⟨x,H1,I1,r1,q1⟩=> ?_);exact eF (hr pos pins s1 σ H1 _ I1 q1) fun us s2 ⟨xs,H2,I2,r2,q2⟩=>⟨x::xs,H2,I2,.cons r1 r2,q2⟩
def adk (t:TA):TE:=fun σ H Q=>t σ H fun xs H1=>xs.length<=sizeLine /\ ∀p,H1 p=none->Q (.ref p) (upd H1 p (.tup xs))
def adt (t:TA):TE:=fun σ H Q=>t σ H fun xs H1=>xs.length<=sizeLine /\ ∀p,H1 p=none->Q (.ref p) (upd H1 p (.lst xs))
theorem jX {x1} (h:PA X es t):PE X (.Tuple es x1 pos) (adk t):=by
 intro pins s σ H Q I hq;refine wpAny_Tuple_spliced (eF (h pos pins s σ H _ I hq) fun us s1 ⟨xs,H1,I1,r,z,q⟩=>⟨by rw [←r.length];exact z, ?_⟩);have hf:H1 s1.heap.objs.size=none:=I1.hok.fresh (Nat.le_refl _);refine ⟨.ref s1.heap.objs.size,upd H1 s1.heap.objs.size (.tup xs),I1.laid (t':=s1.toks) (fun b u e=>Heap.get?_push_of_some _ e) (Nat.le_refl _) ?_,rfl,q _ hf⟩;exact ⟨z,us,r,⟨_,Heap.get?_push_size _ rfl,rfl,_,rfl⟩⟩
theorem eU (h:PA X es t):PE X (.List es pos) (adt t):=by
 intro pins s σ H Q I hq;refine wpAny_List_spliced (eF (h pos pins s σ H _ I hq) fun us s1 ⟨xs,H1,I1,r,z,q⟩=>⟨by rw [←r.length];exact z, ?_⟩);have hf:H1 s1.heap.objs.size=none:=I1.hok.fresh (Nat.le_refl _);refine ⟨.ref s1.heap.objs.size,upd H1 s1.heap.objs.size (.lst xs),I1.laid (t':=s1.toks) (fun b u e=>Heap.get?_push_of_some _ e) (Nat.le_refl _) ?_,rfl,q _ hf⟩;exact ⟨z,us,0,r,Heap.get?_push_size _ rfl⟩
end
abbrev Sp:=List V->Hp->VK->XK->Prop
abbrev LQ:=List Env->Hp->Shared->XK->Value->Shared->Prop
structure A_ (P:Program) (w:World) (K:PySem.W.Frag) (mg:Str->Option Value) (base:Heap) (A:Around) (outer:List Env) (s:Shared) (H:Hp):Prop where
 frames:A.frames=some outer
 mod:Mod K mg base
 bs:∀b o,base.get? b=some o->s.heap.get? b=some o/\H b=none
 Iz:base.objs.size<=s.heap.objs.size
 pO:s.heap.FunFrames base outer
 Lz:∀b∈frs outer,H b=none
 hok:rC P w H s.heap
 bare:AllBare s.gens
def CE (outer:List Env) (P:Program) (w:World) (H:Hp) (s:Shared) (Q:VK) (u:Value) (s':Shared):Prop:=
 ∃v H',s'.os=s.os/\AllBare s'.gens/\Un (frs outer) [] H H' s.heap s'.heap/\rC P w H' s'.heap/\RelV v u/\Q v H'
def CR (CX:LQ) (outer:List Env) (P:Program) (w:World) (H:Hp) (s:Shared) (Q:VK) (E:XK) (r:Result) (s':Shared):Prop:=
 match r with
 | .ok (.ret u)=>CE outer P w H s Q u s'
 | .ok _=>False
 | .error e=>CX outer H s E e s'
structure bW (P:Program) (w:World) (K:PySem.W.Frag) (mg:Str->Option Value) (base:Heap) (CX:LQ) (k:Nat) (f:Addr) (fd:FuncData) (ps:List Str) (sp:Sp):Prop where
 len:∀vs H Q E,sp vs H Q E->vs.length=ps.length
 run:∀(A:Around) (outer:List Env) (s:Shared) (H:Hp) (args:Args) (us:List Value) (vs:List V) (Q:VK) (E:XK),gR k A->A_ P w K mg base A outer s H->BindsTo s fd args (ps.zip us)->Vals vs us->sp vs H Q E ->
  codeAny (model P w) A (.call (.ref f) args) (CR CX outer P w H s Q E) s
theorem A_.make {P:Program} {w:World} {K:PySem.W.Frag} {mg:Str->Option Value} {base:Heap} {A:Around} {outer:List Env} {s:Shared} {H:Hp} (e:A_ P w K mg base A outer s H) (C:Addr) (us:List Value) (kw:List (Str×Value)):
 A_ P w K mg base (A.under (.builtin "type.__call__" ⟨.ref C::us,kw⟩)) outer s H:=⟨by first |exact e.frames|(simpa [Around.under,Code.envs,Code.isFrame,pushEnvs] using e.frames),e.mod,e.bs,e.Iz,e.pO,e.Lz,e.hok,e.bare⟩
theorem A_.in1 {P:Program} {w:World} {K:PySem.W.Frag} {mg:Str->Option Value} {base:Heap} {A:Around} {outer:List Env} {s:Shared} {H:Hp} (e:A_ P w K mg base A outer s H):
 A_ P w K mg base A.in1 outer s H:=⟨e.frames,e.mod,e.bs,e.Iz,e.pO,e.Lz,e.hok,e.bare⟩
section
variable {X:Cx} {pins:List (Addr×Obj)} {σ:St} {H:Hp} {s s':Shared}
theorem Inv.env0 (I:Inv X pins σ H s):A_ X.prog X.w X.K X.mg X.base X.A X.stack s H:=
 ⟨I.ok.frames,I.ok.mod,I.bs,Nat.le_trans I.ok.Iz I.sz,I.stack,I.Cq,I.hok,I.bare⟩
theorem Inv.after {Q:VK} {u:Value} (I:Inv X pins σ H s) (h:CE X.stack X.prog X.w H s Q u s'):EP X pins σ Q u s':=by
 obtain ⟨v,H',os,bare,un,hok,r,q⟩:=h;obtain ⟨hh,g,d,t,os'⟩:=s';obtain rfl:os'=s.os:=os;exact ⟨v,H',I.call (h':=hh) (g':=g) (d':=d) (t':=t) (ch:=[]) un hok bare (fun b z=>absurd z (by simp)),r,q⟩
end
def TX (sp:Sp) (tV:List V) (E:XK) (t:TA):TE:=fun σ H Q=>t σ H fun vs H1=>sp (vs++tV) H1 Q E
def Jk (C:Addr) (m:Str) (sp:Sp) (tV:List V) (E:XK) (ta:TE) (t:TA):TE:=fun σ H Q=>ta σ H fun x H1=>∃a dx fs,x = .ref a/\H1 a=some (.ins C dx fs)/\fs.lookup m=none /\
 t σ H1 fun vs H2=>sp (x::(vs++tV)) H2 Q E
def TQ (C:Addr) (sp:Sp) (tV:List V) (E:XK) (t:TA):TE:=fun σ H Q=>t σ H fun vs H1=>∀x dx,H1 x=none->H1 dx=none->dx≠x ->
 sp (.ref x::(vs++tV)) (upd (upd H1 dx (.own x)) x (.ins C dx [])) (fun v H2=>v = .non/\Q (.ref x) H2) E
def Binds (K:PySem.W.Frag) (fd:FuncData) (ps:List Str) (ds:List Value):Prop:=
 ∀(s:Shared) (us:List Value),K.In s.heap->(us++ds).length=ps.length->BindsTo s fd ⟨us,[]⟩ (ps.zip (us++ds))
theorem Binds.all {K:PySem.W.Frag} {fd:FuncData} {ps:List Str} (h:∀us:List Value,us.length=ps.length->bindArgs fd ⟨us,[]⟩=pure (ps.zip us)):Binds K fd ps []:=fun s us _ hl=>by
 rw [List.append_nil] at hl ⊢;exact .of_eq (h us hl)
def Passes (CX:LQ) (X:Cx) (E:XK):Prop:=∀(pins:List (Addr×Obj)) (σ:St) (H:Hp) (s:Shared) (e:Value) (s':Shared),Inv X pins σ H s->CX X.stack H s E e s'->X.xe e s'
section
variable {X:Cx} {CX:LQ} {k:Nat} {f C:Addr} {fd:FuncData} {ps:List Str} {sp:Sp} {tV:List V} {ds:List Value} {E:XK} {x m:Str} {p pos apos:Pos} {e o:Expr} {es:List Expr} {ta:TE} {t:TA}
theorem Hr {pins:List (Addr×Obj)} {σ:St} {H:Hp} {s:Shared} {Q:VK} {us:List Value} {vs:List V} (F:bW X.prog X.w X.K X.mg X.base CX k f fd ps sp) (hr:gR k X.A) (hb:Binds X.K fd ps ds) (hd:Vals tV ds) (hx:Passes CX X E)
 (I:Inv X pins σ H s) (r:Vals vs us) (h:sp (vs++tV) H Q E):wpAny (model X.prog X.w) X.A (call (.ref f) us) (EP X pins σ Q) X.xe s:=by
 have r2:Vals (vs++tV) (us++ds):=r.append hd;have hl:(us++ds).length=ps.length:=by rw [←r2.length];exact F.len _ _ _ _ h
 refine wpAny_call (codeAny_mono (F.run X.A X.stack s H ⟨us,[]⟩ (us++ds) (vs++tV) Q E hr I.env0 (hb s us I.rE hl) r2 h) fun r s' hq=> ?_);cases r with
 | error e=>exact hx pins σ H s e s' I hq
 | ok fl=>
   cases fl with
   | ret u=>exact I.after hq
   | next=>exact False.elim hq
   | brk=>exact False.elim hq
   | cont=>exact False.elim hq
theorem Rc (F:bW X.prog X.w X.K X.mg X.base CX k f fd ps sp) (hr:gR k X.A) (hg:Gl X x) (hm:X.mg x=some (.ref f)) (hk:PySem.W.keepIn X.K (.ref f)=true) (hb:Binds X.K fd ps ds) (hd:Vals tV ds) (hx:Passes CX X E)
 (ha:PA X (e::es) t) (hdb:(x==("__debug__" :Str))=false:=by decide) (he:starEach (e::es) X.env=(false,eval e X.env)::starEach es X.env:=by rfl) (hpl:(backTo pos (starEach es X.env)).any (·.1)=false:=by rfl):
 PE X (.Call (.Name x p) (e::es) [] pos) (TX sp tV E t):=by
 intro pins s σ H Q I h;refine wpAny_Call_Name_kw (qY I hg hm ?_ hdb);refine PySem.W.callWith_K (h₀:=X.base) I.ok.mod.RD hk (eF (ha pos pins s σ H _ I h) fun us s1 ⟨vs,H1,I1,r,q⟩=>⟨I1.rE, ?_⟩) he hpl;exact Hr F hr hb hd hx I1 r q
theorem Ra {pl:Sem Bool} (he:PE X o ta) (c:Cls X.K C) (hm:Meth X.K C m f) (F:bW X.prog X.w X.K X.mg X.base CX k f fd ps sp) (hr:gR k X.A) (hb:Binds X.K fd ps ds) (hd:Vals tV ds) (hx:Passes CX X E) (ha:PA X (e::es) t)
 (hst:starEach (e::es) X.env=(false,eval e X.env)::starEach es X.env:=by rfl) (hpl:(backTo pos (starEach es X.env)).any (·.1)=false:=by rfl)
 (ht:eval (.Call (.Attribute o m apos) (e::es) [] pos) X.env=(do
   let ov ←eval o X.env
   standAt apos.atName
   let (f,first) ←holding [ov] (getMethod ov m pl)
   callWith pos f first (backTo pos (starEach (e::es) X.env)) (backToKw pos (keywordEach [] X.env))):=by rfl):
 PE X (.Call (.Attribute o m apos) (e::es) [] pos) (Jk C m sp tV E ta t):=by
 intro pins s σ H Q I h;refine PySem.W.methodCall_KW (pl:=pl) (eF (he pins s σ H _ I h) fun u s1 ⟨x,H1,I1,rx,a,dx,fs,ex,ea,l,q⟩=> ?_) ht;subst ex;obtain rfl:u=Value.ref a:=rx;refine tR I1 ea c hm l ?_;refine PySem.W.callWith_K (first:=[.ref a]) (h₀:=X.base) I.ok.mod.RD hm.kp (eF (ha pos pins s1 σ H1 _ I1 q) fun us s2 ⟨vs,H2,I2,r,q2⟩=>⟨I2.rE, ?_⟩) hst hpl;exact Hr (us:= .ref a::us) (vs:= .ref a::vs) F hr hb hd hx I2 (.cons rfl r) q2
theorem Nq {pl:Sem Bool} (he:PE X o ta) (c:Cls X.K C) (hm:Meth X.K C m f) (F:bW X.prog X.w X.K X.mg X.base CX k f fd ps sp) (hr:gR k X.A) (hb:Binds X.K fd ps ds) (hd:Vals tV ds) (hx:Passes CX X E)
 (ht:eval (.Call (.Attribute o m apos) [] [] pos) X.env=(do
   let ov ←eval o X.env
   standAt apos.atName
   let (f,first) ←holding [ov] (getMethod ov m pl)
   callWith pos f first (backTo pos (starEach [] X.env)) (backToKw pos (keywordEach [] X.env))):=by rfl):
 PE X (.Call (.Attribute o m apos) [] [] pos) (Jk C m sp tV E ta M4):=by
 intro pins s σ H Q I h;refine PySem.W.methodCall_KW (pl:=pl) (eF (he pins s σ H _ I h) fun u s1 ⟨x,H1,I1,rx,a,dx,fs,ex,ea,l,q⟩=> ?_) ht;subst ex;obtain rfl:u=Value.ref a:=rx;refine tR I1 ea c hm l ?_;exact PySem.W.callWith_K0 (first:=[.ref a]) I1.rE hm.kp (Hr (us:=[.ref a]) (vs:=[.ref a]) F hr hb hd hx I1 (.cons rfl .nil) q)
structure Mk (K:PySem.W.Frag) (C f:Addr):Prop where
 makes:PySem.W.makesIn K C=true
 init:PySem.W.findIn K (.ref C) "__init__" = some (some (.ref f))
 fn:PySem.W.isFn K (.ref f)=true
 kp:PySem.W.keepIn K (.ref C)=true
theorem Nb {pins:List (Addr×Obj)} {σ:St} {H:Hp} {s:Shared} {Q:VK} {us:List Value} {vs:List V} (M:Mk X.K C f) (F:bW X.prog X.w X.K X.mg X.base CX k f fd ps sp) (hr:gR (k+1) X.A) (hb:Binds X.K fd ps ds) (hd:Vals tV ds)
 (hx:Passes CX X E) (I:Inv X pins σ H s) (r:Vals vs us)
 (h:∀x dx,H x=none->H dx=none->dx≠x->sp (.ref x::(vs++tV)) (upd (upd H dx (.own x)) x (.ins C dx [])) (fun v H2=>v = .non/\Q (.ref x) H2) E):
 wpAny (model X.prog X.w) X.A (call (.ref C) us) (EP X pins σ Q) X.xe s:=by
 have hq:=h (s.heap.objs.size+1) s.heap.objs.size (I.hok.fresh (Nat.le_succ _)) (I.hok.fresh (Nat.le_refl _)) (Nat.ne_of_lt (Nat.lt_succ_self _));have I2:=Inv.made (C:=C) I;have r2:Vals (V.ref (s.heap.objs.size+1)::(vs++tV)) (Value.ref (s.heap.objs.size+1)::(us++ds)):= .cons rfl (r.append hd)
 have hl:(Value.ref (s.heap.objs.size+1)::us++ds).length=ps.length:=by
  have e:=r2.length;rw [F.len _ _ _ _ hq] at e;exact e.symm
 refine wpAny_call (Oh (f:=f) I.rE M.makes M.init (beq_iff_eq.mp M.fn) (codeAny_mono (F.run _ X.stack _ _ ⟨Value.ref (s.heap.objs.size+1)::us,[]⟩ (Value.ref (s.heap.objs.size+1)::(us++ds)) _ _ E (hr.make C us [])
  (I2.env0.make C us []) (hb _ (Value.ref (s.heap.objs.size+1)::us) I2.rE hl) r2 hq) fun r s' hq'=> ?_))
 cases r with
 | error e=>exact hx pins σ _ _ e s' I2 hq'
 | ok fl=>
   cases fl with
   | ret u=>
     obtain ⟨v,H',I3,rv,ev,q3⟩:=I2.after hq';subst ev;exact ⟨rv,⟨V.ref (s.heap.objs.size+1),H',I3,rfl,q3⟩⟩
   | next=>exact False.elim hq'
   | brk=>exact False.elim hq'
   | cont=>exact False.elim hq'
theorem Rb (M:Mk X.K C f) (F:bW X.prog X.w X.K X.mg X.base CX k f fd ps sp) (hr:gR (k+1) X.A) (hg:Gl X x) (hm:X.mg x=some (.ref C)) (hb:Binds X.K fd ps ds) (hd:Vals tV ds) (hx:Passes CX X E)
 (ha:PA X (e::es) t) (hdb:(x==("__debug__" :Str))=false:=by decide) (he:starEach (e::es) X.env=(false,eval e X.env)::starEach es X.env:=by rfl) (hpl:(backTo pos (starEach es X.env)).any (·.1)=false:=by rfl):
 PE X (.Call (.Name x p) (e::es) [] pos) (TQ C sp tV E t):=by
 intro pins s σ H Q I h;refine wpAny_Call_Name_kw (qY I hg hm ?_ hdb);refine PySem.W.callWith_K (h₀:=X.base) I.ok.mod.RD M.kp (eF (ha pos pins s σ H _ I h) fun us s1 ⟨vs,H1,I1,r,q⟩=>⟨I1.rE, ?_⟩) he hpl;exact Nb M F hr hb hd hx I1 r q
end
section
variable {X:Cx} {CX:LQ} {k:Nat} {f C:Addr} {fd:FuncData} {ps ks:List Str} {sp:Sp} {E:XK} {x m:Str} {p pos apos kpos:Pos} {e o:Expr} {es:List Expr} {kws:List Keyword} {te ta:TE} {t tk:TA} {nm:Option Str}
variable {g:List Value->List Value->List Value} {gV:List V->List V->List V}
end
structure bA (N P:List Str) (sc:Scope):Prop where
 kind:sc.kind = .function
 co:sc.isCoroutine=false
 gen:sc.isGenerator=false
 nd:N.Nodup
 pre:N.take P.length=P
 par:∀x∈P,sc.names.lookup x=some .local\/sc.names.lookup x=some .cell
 Wm:∀y∈sc.names,y.2 ≠ .free
theorem BX {kindOf:Str->Option NameKind} {x:Str}:∀{binds:List (Str×Value)} {m:Str->Option Value},(∀v,(x,v)∉binds)->bindL kindOf binds m x=m x
 | [],_,_=>rfl
 | (n,v)::r,m,h=>by
   unfold bindL;rw [BX fun w hw=>h w (List.mem_cons_of_mem _ hw)];split
   ·have:x≠n:=by rintro rfl;exact h v List.mem_cons_self
    simp [this]
   ·rfl
theorem B_ {kindOf:Str->Option NameKind} {x:Str}:∀{binds:List (Str×Value)} {m:Str->Option Value},(∀v,(x,v)∉binds)->bindC kindOf binds m x=m x
 | [],_,_=>rfl
 | (n,v)::r,m,h=>by
   unfold bindC;rw [B_ fun w hw=>h w (List.mem_cons_of_mem _ hw)];split
   ·rfl
   ·have:x≠n:=by rintro rfl;exact h v List.mem_cons_self
    simp [this]
theorem BZ {kindOf:Str->Option NameKind} {x:Str} {v:Value}:∀{P:List Str} {vs:List Value} {i:Nat} {m:Str->Option Value},P.Nodup->P[i]? = some x->vs[i]? = some v->kindOf x=some .local ->
 bindL kindOf (P.zip vs) m x=some v
 | [],_,_,_,_,h,_,_=>by simp at h
 | _::_,[],_,_,_,_,h,_=>by simp at h
 | p::P,w::vs,0,m,nd,h1,h2,hk=>by
   simp at h1 h2;subst h1;subst h2;show bindL kindOf ((p,w)::P.zip vs) m p=_;unfold bindL;rw [BX fun v hv=>(List.nodup_cons.mp nd).1 (List.of_mem_zip hv).1,if_pos hk];simp
 | p::P,w::vs,i+1,m,nd,h1,h2,hk=>by
   show bindL kindOf ((p,w)::P.zip vs) m x=_;unfold bindL;exact BZ (i:=i) (List.nodup_cons.mp nd).2 (by simpa using h1) (by simpa using h2) hk
theorem Ca {kindOf:Str->Option NameKind} {x:Str} {v:Value}:∀{P:List Str} {vs:List Value} {i:Nat} {m:Str->Option Value},P.Nodup->P[i]? = some x->vs[i]? = some v->kindOf x≠some .local ->
 bindC kindOf (P.zip vs) m x=some v
 | [],_,_,_,_,h,_,_=>by simp at h
 | _::_,[],_,_,_,_,h,_=>by simp at h
 | p::P,w::vs,0,m,nd,h1,h2,hk=>by
   simp at h1 h2;subst h1;subst h2;show bindC kindOf ((p,w)::P.zip vs) m p=_;unfold bindC;rw [B_ fun v hv=>(List.nodup_cons.mp nd).1 (List.of_mem_zip hv).1,if_neg hk];simp
 | p::P,w::vs,i+1,m,nd,h1,h2,hk=>by
   show bindC kindOf ((p,w)::P.zip vs) m x=_;unfold bindC;exact Ca (i:=i) (List.nodup_cons.mp nd).2 (by simpa using h1) (by simpa using h2) hk
def start (N:List Str) (vs:List V):St:=vs.map some++List.replicate (N.length - vs.length) none
def pP (CX:LQ) (P:Program) (w:World) (K:PySem.W.Frag) (mg:Str->Option Value) (base:Heap) (N:List Str) (qual:Str) (scope:Scope) (f:Addr) (cd:Value) (A:Around) (outer:List Env) (s:Shared) (H:Hp) (E:XK):Cx where
 prog:=P
 w:=w
 K:=K
 mg:=mg
 base:=base
 A:=A.deeper (envOfC qual scope s.heap.objs.size f cd)
 N:=N
 s₀:=s
 H₀:=H
 env:=envOfC qual scope s.heap.objs.size f cd
 outer:=outer
 stack:=envOfC qual scope s.heap.objs.size f cd::outer
 ex:=[]
 calm:=true
 fn:=fun _=>true
 pn:=[]
 xe:=fun e s'=>wpAny (model P w) (A.deeper (envOfC qual scope s.heap.objs.size f cd)) (leaving (envOfC qual scope s.heap.objs.size f cd) e) (fun _ s''=>CX outer H s E e s'') (fun e' s''=>CX outer H s E e' s'') s'
theorem Gx {sc:Scope} {n:Nat} {x:Str} (h:sc.names.lookup x=some .cell):∃c,(cellsFrom n sc.names []).lookup x=some c:=by
 have q:=PySem.W.cellsFrom_some sc.names n [] (.inl h);exact Option.isSome_iff_exists.mp q
theorem K4 {CX:LQ} {P:Program} {w:World} {K:PySem.W.Frag} {mg:Str->Option Value} {base:Heap} {N ps:List Str} {qual:Str} {scope:Scope} {f:Addr} {cd:Value} {A:Around} {outer:List Env} {s s1:Shared} {H:Hp} {E:XK} {us:List Value} {vs:List V}
 (S:bA N ps scope) (hd:A.handled=none) (e0:A_ P w K mg base A outer s H) (hl:vs.length=ps.length) (r:Vals vs us)
 (x:InCallC s s.heap.objs.size (bindL (envOfC qual scope s.heap.objs.size f cd).kindOf (ps.zip us) fun _=>none) (cellsFrom (s.heap.objs.size+1) scope.names []) (bindC (envOfC qual scope s.heap.objs.size f cd).kindOf (ps.zip us) fun _=>none) s1):
 Inv (pP CX P w K mg base N qual scope f cd A outer s H E) [] (start N vs) H s1:=by
 have hpl:ps.length<=N.length:=by have:=congrArg List.length S.pre;rw [List.length_take] at this;omega
 obtain ⟨h1,tk,rfl,hk⟩:=x.done;have Zj:∀b:Addr,b∉(pP CX P w K mg base N qual scope f cd A outer s H E).ex:=fun b z=>absurd (show b∈([]:List Addr) from z) (by simp)
 refine ⟨⟨e0.mod,S.kind,rfl,rfl,Nat.le_refl _,fun y z c h1 h2=> ?_,fun y hy=> ?_,fun y c _ h=> ?_,fun _=>hd,Around.frames_deeper e0.frames,.inr ⟨rfl,rfl⟩,fun b z=>absurd z (Zj b),e0.bs,e0.Iz,fun b _ _=>Zj b,fun b z=>absurd z (Zj b),e0.pO,e0.Lz⟩,
  rfl,e0.bare,Un.kept hk,⟨_,x.toInCall.ns,fun i y v h1 h2 h3=> ?_⟩,fun y c h=>⟨_,x.cell y c h⟩,e0.hok.fresh (Nat.le_refl _),fun y c h=> ?_,fun p hp=>absurd (show p∈([]:List (Addr×Obj)) from hp) (by simp),e0.hok.kept hk, ?_⟩
 ·exact name_of_addr x.apart (PySem.mem_of_lookup h1) (PySem.mem_of_lookup h2)
 ·have hy:scope.names.lookup y=some .cell\/scope.names.lookup y=some .free:=hy
  rcases hy with hy|hy
  ·exact Gx hy
  ·exact absurd rfl (S.Wm _ (PySem.mem_of_lookup hy))
 ·exact Nat.le_of_lt (x.above y c (PySem.mem_of_lookup h))
 ·have hi:i<vs.length:=by
   unfold start at h2
   by_cases hi:i<vs.length
   ·exact hi
   ·rw [List.getElem?_append_right (by simpa using hi)] at h2
    rw [List.getElem?_replicate] at h2;split at h2<;>cases h2
  have ha:vs[i]? = some v:=by
   unfold start at h2;rw [List.getElem?_append_left (by simpa using hi),List.getElem?_map] at h2;cases e:vs[i]? with
   | none=>rw [e] at h2;cases h2
   | some a=>rw [e] at h2;cases h2;rfl
  obtain ⟨u,hu,rv⟩:=r.get ha
  have hp:ps[i]? = some y:=by
   rw [←S.pre,List.getElem?_take_of_lt (by omega)];exact h1
  have ndP:ps.Nodup:=by rw [←S.pre];exact S.nd.sublist (List.take_sublist _ _)
  refine ⟨u,rv, ?_⟩;rcases S.par y (List.mem_of_getElem? hp) with k|k
  ·exact .inl ⟨k,BZ ndP hp hu k⟩
  ·obtain ⟨c,e⟩:=Gx (n:=s.heap.objs.size+1) k
   refine .inr ⟨.inl k,c,e, ?_⟩;have q:=x.cell y c e;rw [Ca ndP hp hu (by show scope.names.lookup y≠_;rw [k];decide)] at q;exact q
 ·exact e0.hok.fresh (Nat.le_of_lt (x.above y c (PySem.mem_of_lookup h)))
 ·unfold start
  show _=N.length;rw [List.length_append,List.length_map,List.length_replicate];omega
theorem O_ {CX:LQ} {P:Program} {w:World} {K:PySem.W.Frag} {mg:Str->Option Value} {base:Heap} {k:Nat} {f:Addr} {name qual:Str} {params:Arguments} {body:List Stmt} {scope:Scope} {dV kV doc pm cdv ct oc:Value} {an od:Option Addr}
 {osl:Array (Option Value)} {N ps:List Str} {sp:Sp} (lk:K.lookup f=some ⟨oc,od,.func (PySem.W.fnOf name qual params body scope dV kV doc pm an cdv ct),osl⟩) (hcd:PySem.W.codeIn K cdv qual=true) (S:bA N ps scope)
 (len:∀vs H Q E,sp vs H Q E->vs.length=ps.length)
 (hbody:∀(A:Around) (outer:List Env) (s:Shared) (H:Hp) (vs:List V) (Q:VK) (E:XK),gR k (A.deeper (envOfC qual scope s.heap.objs.size f cdv))->sp vs H Q E ->
   ∃t,GX (pP CX P w K mg base N qual scope f cdv A outer s H E) body t/\t {nx:=fun _ H'=>Q .non H',rt:=Q} (start N vs) H):
 bW P w K mg base CX (k+1) f (PySem.W.fnOf name qual params body scope dV kV doc pm an cdv ct) ps sp:=by
 refine ⟨len,fun A outer s H args us vs Q E hr e0 hb r hsp=> ?_⟩;have hl:=len _ _ _ _ hsp;have KX:K.In s.heap:=e0.mod.RD.keeps fun b o e=>(e0.bs b o e).1;have lim:s.heap.NoLimit:=e0.mod.nolimit.keeps fun b o e=>(e0.bs b o e).1
 have hkind:∀y∈ps.zip us,scope.names.lookup y.1=some .local\/(scope.names.lookup y.1=some .cell/\((cellsFrom (s.heap.objs.size+1) scope.names []).lookup y.1).isSome=true):=fun ⟨n,v⟩ hy=>by
  rcases S.par n (List.of_mem_zip hy).1 with q|q
  ·exact .inl q
  ·exact .inr ⟨q,PySem.W.cellsFrom_some _ _ _ (.inl q)⟩
 refine codeAny_call_function hr.depth (KX _ _ lk) rfl S.co S.gen rfl (PySem.W.codeRec_of KX hcd) (hb _ _ _ _ ?_);refine wpAny_newFunctionEnv_cells S.kind hkind fun env he s1 x=> ?_;subst he;refine ⟨lim.keeps x.toInCall.keep,codeAny_func ?_⟩;obtain ⟨t,ht,hq⟩:=hbody A outer s H vs Q E (hr.deeper _) hsp;have I:Inv (pP CX P w K mg base N qual scope f cdv A outer s H E) [] (start N vs) H s1:=K4 S hr.hd e0 hl r x;refine wpAny_mono (ht [] s1 (start N vs) H _ I hq) (fun fl s' hs=> ?_) fun e s' hs=>hs
 have fin:∀{σ':St} {H':Hp} {v:V} {u:Value},Inv (pP CX P w K mg base N qual scope f cdv A outer s H E) [] σ' H' s'->RelV v u->Q v H'->CE outer P w H s Q u s':=
  fun {σ' H' v u} J rv q=>⟨v,H',J.os,J.bare,J.base,J.hok,rv,q⟩
 cases fl with
 | ret u=>
   obtain ⟨v,σ',H',J,rv,q⟩:=hs;exact fin J rv q
 | next=>
   obtain ⟨σ',H',J,q⟩:=hs;exact fin (v:=V.non) (u:=Value.none) J rfl q
 | brk=>
   obtain ⟨_,_,_,q⟩:=hs;exact False.elim q
 | cont=>
   obtain ⟨_,_,_,q⟩:=hs;exact False.elim q
end L2
namespace L2
open PySem PySem.Spec PyProof.Rows
section
variable {X:Cx} {x:Str} {p pos:Pos} {e:Expr} {es:List Expr} {t:TA} {id T:String} {r:List V->Hp->VK->Prop}
def tCB (r:List V->Hp->VK->Prop) (t:TA):TE:=fun σ H Q=>t σ H fun vs H1=>r vs H1 Q
theorem aV (hc:kE X (.builtin id) r) (hg:Gl X x) (hm:X.mg x=none) (hv:bootBuiltins x=some (.builtin id)) (ha:PA X (e::es) t) (hn:x ≠ "__name__" :=by decide) (hdb:(x==("__debug__" :Str))=false:=by decide)
 (he:starEach (e::es) X.env=(false,eval e X.env)::starEach es X.env:=by rfl) (hpl:(backTo pos (starEach es X.env)).any (·.1)=false:=by rfl):PE X (.Call (.Name x p) (e::es) [] pos) (tCB r t):=by
 intro pins s σ H Q I h;refine wpAny_Call_Name_kw (tK I hg hm hv ?_ hn hdb);exact PyProof.Rows.callWith_builtin1 (eF (ha pos pins s σ H _ I h) fun us s1 ⟨vs,H1,I1,r1,q1⟩=>hc pins s1 σ H1 vs us Q I1 r1 q1) he hpl
theorem dj (hc:kE X (.type T) r) (hg:Gl X x) (hm:X.mg x=none) (hv:bootBuiltins x=some (.type T)) (ha:PA X (e::es) t) (hn:x ≠ "__name__" :=by decide) (hdb:(x==("__debug__" :Str))=false:=by decide)
 (he:starEach (e::es) X.env=(false,eval e X.env)::starEach es X.env:=by rfl) (hpl:(backTo pos (starEach es X.env)).any (·.1)=false:=by rfl):PE X (.Call (.Name x p) (e::es) [] pos) (tCB r t):=by
 intro pins s σ H Q I h;refine wpAny_Call_Name_kw (tK I hg hm hv ?_ hn hdb);exact PyProof.Rows.callWith_type1 (eF (ha pos pins s σ H _ I h) fun us s1 ⟨vs,H1,I1,r1,q1⟩=>hc pins s1 σ H1 vs us Q I1 r1 q1) he hpl
end
end L2
namespace HT
open PySem PyProof.Rows
section
open PySem.SeqAt
open PySem.AutoSeq1 (wpAny_loadPart')
open PySem.MeetsSeq PySem.MeetsSeq2 PySem.MeetsSeq3
end
section
variable {prog:Program} {w:World} {A:Around} {E:Value->Shared->Prop} {s:Shared}
theorem Ss {t b:Addr} {vs ws:List Value} {Q:Value->Shared->Prop} (ht:IsTup s.heap t vs.toArray) (hb:IsTup s.heap b ws.toArray) (hv:vs≠[])
 (h1:ws=[]->Q (.ref t) s) (h2:ws≠[]->Q (.ref s.heap.objs.size) {s with heap:=s.heap.push {cls:= .type "tuple",data:= .seq (vs++ws).toArray}})
 (hsz:vs.length+ws.length<=sizeLine):wpAny (model prog w) A (binaryOp .Add (.ref t) (.ref b)) Q E s:=by
 obtain ⟨⟨cls,dd,data,sl⟩,ho,hc,n,hd⟩:=id ht;obtain ⟨⟨cls2,dd2,data2,sl2⟩,ho2,hc2,n2,hd2⟩:=id hb;simp only at hc hd hc2 hd2;subst hc hd hc2 hd2;have e:vs.toArray++ws.toArray=(vs++ws).toArray:=by simp
 by_cases hw:ws=[]
 ·exact concat_meets ⟨_,ho,rfl⟩ ⟨_,ho2,rfl⟩ noFill_tuple_add seq_tuple_add PySem.F.slot_tuple_add PySem.F.entry_tuple_add (PySem.F.args_tuple_add_2 _ _)
   (tuple_addW1 t b vs.toArray ws.toArray n n2 dd dd2 sl sl2 (by simpa using hv) (by simp [hw])) ⟨ho,ho2,h1 hw⟩
 ·refine concat_meets ⟨_,ho,rfl⟩ ⟨_,ho2,rfl⟩ noFill_tuple_add seq_tuple_add PySem.F.slot_tuple_add PySem.F.entry_tuple_add (PySem.F.args_tuple_add_2 _ _)
   (tuple_addW2 t b vs.toArray ws.toArray n n2 dd dd2 sl sl2 (by simpa using hv) (by simpa using hw) (by rw [List.size_toArray,List.size_toArray];exact hsz)) ⟨ho,ho2, ?_⟩
  rw [e];exact h2 hw
def jQ (n d:Nat):Option Int->Nat
 | none=>d
 | some v=>if v<0 then (v+(n:Int)).toNat else min v.toNat n
theorem yO (n d:Nat):jQ n d none=d:=rfl
theorem C_ (n d k:Nat):jQ n d (some (k:Int))=min k n:=by
 show (if (k:Int)<0 then ((k:Int)+(n:Int)).toNat else min (k:Int).toNat n)=min k n;rw [if_neg (by omega),Int.toNat_natCast]
theorem Vy (n d:Nat) (hd:d<=n) (o:Option Int):jQ n d o<=n:=by
 cases o with
 | none=>exact hd
 | some v=>
   show (if v<0 then (v+(n:Int)).toNat else min v.toNat n)<=n
   by_cases hv:v<0
   ·rw [if_pos hv];omega
   ·rw [if_neg hv];exact Nat.min_le_right _ _
theorem JN (v:Int) (n d:Nat):(if v<0 then max (v+(n:Int)) 0 else min v (n:Int))=((jQ n d (some v):Nat):Int):=by
 show (if v<0 then max (v+(n:Int)) 0 else min v (n:Int))=(((if v<0 then (v+(n:Int)).toNat else min v.toNat n):Nat):Int)
 by_cases hv:v<0
 ·simp only [if_pos hv];omega
 ·simp only [if_neg hv];omega
theorem Jc (lo hi:Option Int) (n:Nat):Builtin.Slice.sliceAdjust lo hi 1 (n:Int)=(((jQ n 0 lo:Nat):Int),((jQ n n hi:Nat):Int)):=by
 have h1:¬((1:Int)<0):=by omega
 unfold Builtin.Slice.sliceAdjust;simp only [h1,if_false];refine Prod.ext ?_ ?_
 ·cases lo with
  | none=>rfl
  | some v=>exact JN v n 0
 ·cases hi with
  | none=>rfl
  | some v=>exact JN v n n
theorem Hu (i j:Nat):Builtin.Slice.slicePlaces (i:Int) (j:Int) 1=j - i:=by
 unfold Builtin.Slice.slicePlaces;have h1:(1:Int)>0:=by omega
 simp only [h1,if_true,Int.ediv_one];split<;>omega
theorem yH {v:Value} {o:Option Int} {Q:Option Int->Shared->Prop} (p:IsPart v o) (h:Q o s):wpAny (model prog w) A (Builtin.Slice.slicePartIndex v) Q E s:=by
 cases p with
 | none=>exact slicePart_none h
 | int i t=>exact slicePart_int h
theorem vI {sl:Addr} {vl vu:Value} {lo hi:Option Int} {n:Nat} {Q:Int×Int×Nat->Shared->Prop} (hs:s.heap.IsSliceOf sl vl vu .none) (pl:IsPart vl lo) (pu:IsPart vu hi)
 (h:Q (((jQ n 0 lo:Nat):Int),1,jQ n n hi - jQ n 0 lo) s):wpAny (model prog w) A (Builtin.Slice.sliceApplied (.ref sl) (pure (n:Int))) Q E s:=by
 obtain ⟨os,hos,hcs,hds⟩:=id hs;unfold Builtin.Slice.sliceApplied Builtin.Slice.sliceFields;refine wpAny_bind (wpAny_bind (wpAny_field hos hds (x:=vl) rfl (wpAny_bind (wpAny_field hos hds (x:=vu) rfl (wpAny_bind (wpAny_field hos hds (x:= .none) rfl (wpAny_pure ?_)))))));refine wpAny_bind (slicePart_none ?_);show wpAny _ _ (if ((1:Int)==0)=true then _ else _) _ _ s;rw [if_neg (by decide)];refine wpAny_bind (yH pl (wpAny_bind (yH pu (wpAny_bind (wpAny_pure ?_)))));show wpAny _ _ (match Builtin.Slice.sliceAdjust lo hi 1 (n:Int) with |(lo,hi)=>pure (lo,(1:Int),Builtin.Slice.slicePlaces lo hi 1)) _ _ s;rw [Jc lo hi n];show wpAny _ _ (pure (((jQ n 0 lo:Nat):Int),(1:Int),Builtin.Slice.slicePlaces ((jQ n 0 lo:Nat):Int) ((jQ n n hi:Nat):Int) 1)) _ _ s;rw [Hu];exact wpAny_pure h
theorem Nj (xs:Array Value) (i k:Nat):((List.range k).filterMap fun (m:Nat)=>xs[((i:Int)+(m:Int)*1).toNat]?).toArray=((xs.toList.drop i).take k).toArray:=by
 have e:(fun (m:Nat)=>xs[((i:Int)+(m:Int)*1).toNat]?)=fun m=>xs[i+m]? :=by
  funext m;have:((i:Int)+(m:Int)*1).toNat=i+m:=by omega
  rw [this]
 rw [e];have:=pick_run xs i k;rw [List.filterMap_map] at this;have e2:((fun x=>xs[x]?)∘fun x=>i+x)=fun m=>xs[i+m]? :=rfl;rw [e2] at this;rw [this]
theorem uP {t sl:Addr} {items:Array Value} {vl vu:Value} {lo hi:Option Int} {Q:Value->Shared->Prop} (ht:IsTup s.heap t items) (hs:s.heap.IsSliceOf sl vl vu .none) (pl:IsPart vl lo) (pu:IsPart vu hi)
 (hw:¬(jQ items.size 0 lo=0/\jQ items.size items.size hi=items.size))
 (h:Q (.ref s.heap.objs.size) {s with heap:=s.heap.push {cls:= .type "tuple",data:= .seq ((items.toList.drop (jQ items.size 0 lo)).take (jQ items.size items.size hi - jQ items.size 0 lo)).toArray}})
 (hsz:items.size<=sizeLine):wpAny (model prog w) A (getItem (.ref t) (.ref sl)) Q E s:=by
 have JF:sizeOk (.seq ((items.toList.drop (jQ items.size 0 lo)).take (jQ items.size items.size hi - jQ items.size 0 lo)).toArray):=by
  show ((items.toList.drop (jQ items.size 0 lo)).take (jQ items.size items.size hi - jQ items.size 0 lo)).toArray.size<=sizeLine;rw [List.size_toArray,List.length_take,List.length_drop,Array.length_toList];omega
 have hj:jQ items.size items.size hi<=items.size:=Vy _ _ (Nat.le_refl _) hi;obtain ⟨os,hos,hcs,hds⟩:=id hs;have hTs:s.TypeIs (.ref sl) "slice" :=⟨os,hos,hcs⟩;unfold getItem
 try with_reducible refine wpAny_holding ?_
 first |refine wpAny_bind (wpAny_pure ?_)|skip
 refine wpAny_bind (wpAny_sequenceKey ht.typeIs (by decide) ?_)
 refine wpAny_bind (wpAny_callSpecial?_slot (name:=Str.ofString "__getitem__") ht.typeIs PyProof.Rows.slot_tuple_getitem
  (wpAny_call_entry PyProof.Rows.slot_tuple_getitem ht.typeIs entry_tuple_getitem ?_ (args_tuple_getitem _ _)))
 show wpAny _ _ (Builtin.Tuple.tupleItemsOf (.ref t) >>= _) _ _ s;refine wpAny_bind (tupleItemsOf_ ht ?_);refine wpAny_bind (wpAny_typeOf hTs ?_);rw [if_pos (by decide)];refine wpAny_bind (vI hs pl pu ?_)
 have hno:¬((((jQ items.size 0 lo:Nat):Int)==0&&(1:Int)==1&&(jQ items.size items.size hi - jQ items.size 0 lo)==items.size)=true):=by
  intro q;rw [Bool.and_eq_true,Bool.and_eq_true] at q;have q1:((jQ items.size 0 lo:Nat):Int)=0:=eq_of_beq q.1.1;have q2:jQ items.size items.size hi - jQ items.size 0 lo=items.size:=eq_of_beq q.2;exact hw ⟨by omega,by omega⟩
 show wpAny _ _ (if (((jQ items.size 0 lo:Nat):Int)==0&&(1:Int)==1&&(jQ items.size items.size hi - jQ items.size 0 lo)==items.size)=true then _ else _) _ _ s;rw [if_neg hno,Nj]
 first
  | exact wpAny_bind (m:=Builtin.Tuple.tupleExact _) (wpAny_newObj_type (wpAny_pure ⟨_,rfl,wpAny_pure h⟩) JF)
  | exact wpAny_bind (m:=Builtin.Tuple.tupleExact _) (wpAny_newObj_type (wpAny_bind (wpAny_pure (wpAny_pure ⟨_,rfl,wpAny_pure h⟩))) JF)
  | exact wpAny_bind (wpAny_bind (m:=Builtin.Tuple.tupleExact _) (wpAny_newObj_type (wpAny_pure (wpAny_pure ⟨_,rfl,wpAny_pure h⟩)) JF))
  | exact wpAny_bind (wpAny_bind (m:=Builtin.Tuple.tupleExact _) (wpAny_newObj_type (wpAny_pure ⟨_,rfl,wpAny_pure h⟩) JF))
end
end HT
namespace L2
open PySem PySem.Spec PyProof.Rows
abbrev TO:=St->Hp->(Option Int->Hp->Prop)->Prop
def PO (X:Cx) (e:Option Expr) (t:TO):Prop:=
 ∀(pins:List (Addr×Obj)) (s:Shared) (σ:St) (H:Hp) (Q:Option Int->Hp->Prop),Inv X pins σ H s->t σ H Q ->
  wpAny (model X.prog X.w) X.A (evalPart e X.env) (fun u s'=>∃o H',Inv X pins σ H' s'/\IsPart u o/\Q o H') X.xe s
def QC:TO:=fun _ H Q=>Q none H
def YC (t:TE):TO:=fun σ H Q=>t σ H fun x H1=>∃i,x = .int i/\Q (some i) H1
section
variable {X:Cx} {e:Expr} {te:TE} {lo hi:Option Expr} {tl th:TO} {pos p2:Pos}
theorem qT:PO X none QC:=by
 intro pins s σ H Q I h;rw [evalPart_none];exact wpAny_pure ⟨none,H,I,.none,h⟩
theorem qR (h:PE X e te):PO X (some e) (YC te):=by
 intro pins s σ H Q I hw;rw [evalPart_some];refine eF (h pins s σ H _ I hw) fun u s1 ⟨x,H1,I1,r1,q1⟩=> ?_;obtain ⟨i,rfl,q⟩:=q1;obtain ⟨t,rfl⟩:=r1;exact ⟨some i,H1,I1,.int i t,q⟩
def SlR (X:Cx) (r:V->Option Int->Option Int->Hp->VK->Prop):Prop:=
 ∀(pins:List (Addr×Obj)) (s:Shared) (σ:St) (H:Hp) (x:V) (v vl vu:Value) (lo hi:Option Int) (sl:Addr) (Q:VK),Inv X pins σ H s->RelV x v->s.heap.IsSliceOf sl vl vu .none->IsPart vl lo->IsPart vu hi->r x lo hi H Q ->
  ∃T id,typeLookup (.type T) "__getitem__" = pure (some (.builtin id))/\s.TypeIs v T/\wpAny (model X.prog X.w) X.A (getItem v (.ref sl)) (EP X pins σ Q) X.xe s
def tSl (r:V->Option Int->Option Int->Hp->VK->Prop) (te:TE) (tl th:TO):TE:=fun σ H Q=>te σ H fun x H1=>tl σ H1 fun l H2=>th σ H2 fun u H3=>r x l u H3 Q
theorem nR {r:V->Option Int->Option Int->Hp->VK->Prop} (hr:SlR X r) (he:PE X e te) (hl:PO X lo tl) (hu:PO X hi th):PE X (.Subscript e (.Slice lo hi none p2) pos) (tSl r te tl th):=by
 intro pins s σ H Q I h;refine Subscript_ (eF (he pins s σ H _ I h) fun v s1 ⟨x,H1,I1,r1,q1⟩=> ?_);refine wpAny_Slice (eF (hl pins s1 σ H1 _ I1 q1) fun vl s2 ⟨l,H2,I2,pl,q2⟩=>eF (hu pins s2 σ H2 _ I2 q2) fun vu s3 ⟨u,H3,I3,pu,q3⟩=> ?_);rw [evalPart_none];refine wpAny_pure ?_;have I4:Inv X pins σ H3 {s3 with heap:=s3.heap.push {cls:= .type "slice",data:= .fields #[vl,vu,.none]}}:=I3.kept (t':=s3.toks) fun b ob q=>Heap.get?_push_of_some _ q;obtain ⟨T,id,hT,ht,hg⟩:=hr pins {s3 with heap:=s3.heap.push {cls:= .type "slice",data:= .fields #[vl,vu,.none]}} σ H3 x v vl vu l u s3.heap.objs.size Q I4 r1 (Heap.IsSliceOf.new ..) pl pu q3;show wpAny (model X.prog X.w) X.A (subscriptTail e (.Slice lo hi none p2) v (.ref s3.heap.objs.size)) (EP X pins σ Q) X.xe {s3 with heap:=s3.heap.push {cls:= .type "slice",data:= .fields #[vl,vu,.none]}};exact tail_any (ops:=[.ref s3.heap.objs.size,v]) ht hT hg (by with_unfolding_all rfl)
def qz (xs:List V) (lo hi:Option Int):List V:=(xs.drop (HT.jQ xs.length 0 lo)).take (HT.jQ xs.length xs.length hi - HT.jQ xs.length 0 lo)
theorem wJ (xs:List V) (lo hi:Option Int):(qz xs lo hi).length<=xs.length:=by
 unfold qz;rw [List.length_take,List.length_drop];omega
def YZ (K:PySem.W.Frag):V->Option Int->Option Int->Hp->VK->Prop:=fun x lo hi H Q=>∃a xs,x = .ref a/\cO K H a xs /\
 ¬(HT.jQ xs.length 0 lo=0/\HT.jQ xs.length xs.length hi=xs.length) /\ ∀p,H p=none->Q (.ref p) (upd H p (.tup (qz xs lo hi)))
theorem Vu:SlR X (YZ X.K):=by
 intro pins s σ H x v vl vu lo hi sl Q I rx hs pl pu h;obtain ⟨a,xs,rfl,hx,hw,q⟩:=h;cases rx;obtain ⟨its,r,ht,hz⟩:=I.tuple hx;have hlen:its.toArray.size=xs.length:=by rw [List.size_toArray];exact r.length.symm
 refine ⟨"tuple",_,PyProof.Rows.slot_tuple_getitem.lookup,ht.typeIs, ?_⟩;refine HT.uP ht hs pl pu (by rw [hlen];exact hw) ?_ (by rw [hlen];exact hz);rw [hlen];refine ⟨.ref s.heap.objs.size,_,I.laid (t':=s.toks) (o:= .tup (qz xs lo hi)) (fun b ob q=>Heap.get?_push_of_some _ q) (Nat.le_refl _) ?_,rfl,q _ (I.hok.fresh (Nat.le_refl _))⟩;exact ⟨Nat.le_trans (wJ xs lo hi) hz,_,(r.drop (HT.jQ xs.length 0 lo)).take (HT.jQ xs.length xs.length hi - HT.jQ xs.length 0 lo),IsTup.new _ _⟩
theorem Vals.Jy {xs:List V} {us:List Value} (r:Vals xs us):us=[]↔xs=[]:=by
 cases r with
 | nil=>simp
 | cons _ _=>simp
end
end L2
namespace L2
open PySem PySem.Spec PyProof.Rows
def KY (n:Nat) (i:Int):Option Nat:=if 0<=i then (if i<n then some i.toNat else none) else if -(n:Int)<=i then some (i+n).toNat else none
def JW {α:Type} (xs:List α) (i:Int):Option α:=(KY xs.length i).bind fun j=>xs[j]?
theorem JD {n:Nat} {i:Int} {j:Nat} (h:KY n i=some j):seqIndex? i n=some j/\j<n /\ -(n:Int)<=i/\i<n:=by
 unfold KY at h
 by_cases h0:0<=i
 ·rw [if_pos h0] at h
  by_cases h1:i<n
  ·rw [if_pos h1] at h
   have e:i.toNat=j:=Option.some.inj h;exact ⟨by rw [seqIndex_of h0 h1,e],by omega,by omega,h1⟩
  ·rw [if_neg h1] at h;cases h
 ·rw [if_neg h0] at h
  by_cases h1: -(n:Int)<=i
  ·rw [if_pos h1] at h
   have e:(i+n).toNat=j:=Option.some.inj h;exact ⟨by rw [seqIndex_neg (by omega) h1,e],by omega,h1,by omega⟩
  ·rw [if_neg h1] at h;cases h
theorem JV {α:Type} {xs:List α} {i:Int} {v:α} (h:JW xs i=some v):∃j,seqIndex? i xs.length=some j/\xs[j]? = some v/\j<xs.length /\ -(xs.length:Int)<=i/\i<xs.length:=by
 unfold JW at h;cases e:KY xs.length i with
 | none=>rw [e] at h;cases h
 | some j=>
   rw [e] at h;obtain ⟨h1,h2,h3,h4⟩:=JD e;exact ⟨j,h1,h,h2,h3,h4⟩
theorem dW {α:Type} {xs:List α} {j:Nat} {v:α} (h:xs[j]? = some v):JW xs (j:Int)=some v:=by
 have hj:j<xs.length:=(List.getElem?_eq_some_iff.mp h).1
 have e:KY xs.length (j:Int)=some j:=by
  unfold KY;rw [if_pos (by omega),if_pos (by omega)];simp
 unfold JW;rw [e];exact h
def SQ (b:Expr):Prop:=∀o i,subscripted b false o i=operate [o,i] (getItem o i)
def IxR (X:Cx) (r:R2):Prop:=
 ∀(value slice:Expr) (pins:List (Addr×Obj)) (s:Shared) (σ:St) (H:Hp) (x y:V) (v u:Value) (Q:VK),Inv X pins σ H s->RelV x v->RelV y u->r x y H Q ->
  subscripted slice false v u=operate [v,u] (getItem v u)->wpAny (model X.prog X.w) X.A (subscriptTail value slice v u) (EP X pins σ Q) X.xe s
def Xn (X:Cx) (id:String) (r:V->List V->Hp->VK->Prop):Prop:=
 ∀(pins:List (Addr×Obj)) (s:Shared) (σ:St) (H:Hp) (x:V) (xs:List V) (v:Value) (us:List Value) (Q:VK),Inv X pins σ H s->RelV x v->Vals xs us->r x xs H Q ->
  wpAny (model X.prog X.w) X.A (call (.builtin id) (v::us)) (EP X pins σ Q) X.xe s
section
variable {X:Cx} {a b:Expr} {ta tb:TE} {pos:Pos}
theorem aY {r:R2} (hr:IxR X r) (ha:PE X a ta) (hb:PE X b tb) (hs:SQ b):PE X (.Subscript a b pos) (tOp r ta tb):=by
 intro pins s σ H Q I h;exact Subscript_ (Xg ha hb I h fun v u s2 x y H2 I2 rx ry q=>hr a b pins s2 σ H2 x y v u Q I2 rx ry q (hs _ _))
def Y7 (K:PySem.W.Frag):R2:=fun x y H Q=>∃p xs i v,x = .ref p/\y = .int i/\bK K H p xs/\JW xs i=some v/\Q v H
def Y6 (K:PySem.W.Frag):R2:=fun x y H Q=>∃p xs i v,x = .ref p/\y = .int i/\cO K H p xs/\JW xs i=some v/\Q v H
theorem RG:IxR X (Y7 X.K):=by
 intro value slice pins s σ H x y v u Q I rx ry h hs;obtain ⟨p,xs,i,z,rfl,rfl,hq,he,q⟩:=h;cases rx;obtain ⟨t,rfl⟩:=ry;obtain ⟨its,r,pl,hz⟩:=I.list hq;obtain ⟨j,h1,h2,h3,h4,h5⟩:=JV he;obtain ⟨w,ew,rw'⟩:=r.get h2;have hl:=r.length;have hn:=vR;have fin:EP X pins σ Q w s:=⟨z,H,I,rw',q⟩
 by_cases h0:0<=i
 ·have hj:i.toNat=j:=by
   rw [seqIndex_of h0 h5] at h1;exact Option.some.inj h1
  exact item_listR pl.isList h0 (by omega) (by rw [hj];simpa using ew) fin hs
 ·have hj:(i+(its.toArray.size:Int)).toNat=j:=by
   rw [seqIndex_neg (by omega) h4] at h1;rw [List.size_toArray,←hl];exact Option.some.inj h1
  exact subscriptTail_builtinR (x:=w) pl.isList.typeIs slot_list_getitem.lookup
   (wpAny_getItem_list_neg (Q:=fun r s'=>r=w/\EP X pins σ Q r s') pl.isList (by omega) (by rw [List.size_toArray]<;>omega) (by omega) (by rw [hj];simpa using ew) ⟨rfl,fin⟩) hs
theorem Wz:IxR X (Y6 X.K):=by
 intro value slice pins s σ H x y v u Q I rx ry h hs;obtain ⟨p,xs,i,z,rfl,rfl,hq,he,q⟩:=h;cases rx;obtain ⟨t,rfl⟩:=ry;obtain ⟨its,r,pl,hz⟩:=I.tuple hq;obtain ⟨j,h1,h2,h3,h4,h5⟩:=JV he;obtain ⟨w,ew,rw'⟩:=r.get h2;have hl:=r.length;have hn:=vR;have fin:EP X pins σ Q w s:=⟨z,H,I,rw',q⟩
 exact subscriptTail_builtinR (x:=w) pl.typeIs slot_tuple_getitem.lookup
  (getItem_tuple (j:=j) (Q:=fun r s'=>r=w/\EP X pins σ Q r s') pl (by omega) (by omega) (by rw [List.size_toArray,←hl];exact h1) (by simpa using ew) ⟨rfl,fin⟩) hs
theorem Ia (its:List Value) (n j:Nat) (u:Value):Obj.mapSeq (·.setIfInBounds j u) {cls:= .type "list",data:= .seq its.toArray n}={cls:= .type "list",data:= .seq (its.set j u).toArray n}:=by
 simp [Obj.mapSeq]
theorem Inv.lst {pins:List (Addr×Obj)} {σ:St} {H:Hp} {s:Shared} {p:Addr} {xs:List V} (I:Inv X pins σ H s) (h:H p=some (.lst xs)):
 ∃(its:List Value) (n:Nat),Vals xs its/\s.heap.get? p=some {cls:= .type "list",data:= .seq its.toArray n}/\xs.length<=sizeLine:=by
 obtain ⟨z,its,n,r,e⟩:=I.hok p _ h;exact ⟨its,n,r,e,z⟩
theorem Inv.Wr {pins:List (Addr×Obj)} {σ:St} {H:Hp} {s:Shared} {p:Addr} {xs ys:List V} {its its':List Value} {n n':Nat} {f:Obj->Obj} (I:Inv X pins σ H s) (h:H p=some (.lst xs))
 (ho:s.heap.get? p=some {cls:= .type "list",data:= .seq its.toArray n}) (hf:f {cls:= .type "list",data:= .seq its.toArray n}={cls:= .type "list",data:= .seq its'.toArray n'}) (r:Vals ys its') (hz:ys.length<=sizeLine) (t:Nat):
 Inv X pins σ (upd H p (.lst ys)) {s with heap:=s.heap.update p f,toks:=t}:=by
 have e:(s.heap.update p f).get? p=some {cls:= .type "list",data:= .seq its'.toArray n'}:=by
  rw [Heap.get?_update_self f ho (by rw [hf]<;>rfl),hf]
 refine I.write (x:=p) (e:=p) (by rw [h];trivial) (.inl rfl) (fun b u hb q=>(Heap.get?_update_other _ _ (Ne.symm hb)).trans q) ⟨_,e⟩ ?_;exact ⟨hz,its',n',r,e⟩
def Y4:V->V->V->Hp->(Hp->Prop)->Prop:=fun o i v H Q=>∃p xs k j,o = .ref p/\i = .int k/\H p=some (.lst xs)/\KY xs.length k=some j/\Q (upd H p (.lst (xs.set j v)))
theorem set_list:Xm X Y4:=by
 intro pins s σ H o i v ov iv u Q I ro ri rv h;obtain ⟨p,xs,k,j,rfl,rfl,hp,hj,q⟩:=h;cases ro;obtain ⟨t,rfl⟩:=ri;obtain ⟨its,n,r,ho,hz⟩:=I.lst hp;obtain ⟨h1,h2,h3,h4⟩:=JD hj;have hl:=r.length;have hn:=vR
 have I':Inv X pins σ (upd H p (.lst (xs.set j v))) {s with heap:=s.heap.update p (Obj.mapSeq (·.setIfInBounds j u))}:=
  I.Wr hp ho (Ia its n j u) (r.set rv j) (by rw [List.length_set];exact hz) s.toks
 by_cases h0:0<=k
 ·have hk:k.toNat=j:=by
   rw [seqIndex_of h0 h4] at h1;exact Option.some.inj h1
  exact PySem.W.ki_setAt ho h0 (by omega) (by rw [List.size_toArray,←hl];exact h4) (by rw [hk];exact ⟨_,I',q⟩)
 ·have hk:(k+(its.toArray.size:Int)).toNat=j:=by
   rw [seqIndex_neg (by omega) h3] at h1;rw [List.size_toArray,←hl];exact Option.some.inj h1
  exact PySem.W.ki_setBack ho (by omega) (by rw [List.size_toArray,←hl];exact h3) (by omega) (by rw [hk];exact ⟨_,I',q⟩)
theorem CQ (lo hi:Option Int) (n:Nat):(sliceBounds lo hi none n).1=((HT.jQ n 0 lo:Nat):Int)/\(sliceBounds lo hi none n).2.1=((HT.jQ n n hi:Nat):Int)/\(sliceBounds lo hi none n).2.2=1:=by
 refine ⟨?_, ?_,rfl⟩
 ·cases lo with
  | none=>simp [sliceBounds,HT.jQ]
  | some i=>
    simp only [sliceBounds,HT.jQ,Option.getD_none,show (1:Int)>0 by decide,if_true]
    by_cases h:i<0
    ·simp only [h,if_true]<;>omega
    ·simp only [h,if_false]<;>omega
 ·cases hi with
  | none=>simp [sliceBounds,HT.jQ]
  | some i=>
    simp only [sliceBounds,HT.jQ,Option.getD_none,show (1:Int)>0 by decide,if_true]
    by_cases h:i<0
    ·simp only [h,if_true]<;>omega
    ·simp only [h,if_false]<;>omega
theorem Aa (its:List Value) (lo hi:Option Int):slicePick its.toArray lo hi none=((its.drop (HT.jQ its.length 0 lo)).take (HT.jQ its.length its.length hi - HT.jQ its.length 0 lo)).toArray:=by
 obtain ⟨h1,h2,h3⟩:=CQ lo hi its.toArray.size;unfold slicePick;rw [h1,h2,h3];simp only [sliceRange_one,pick_run,List.size_toArray]<;>rfl
def Y0 (K:PySem.W.Frag):V->Option Int->Option Int->Hp->VK->Prop:=fun x lo hi H Q=>∃a xs,x = .ref a/\bK K H a xs /\ ∀p,H p=none->Q (.ref p) (upd H p (.lst (qz xs lo hi)))
theorem QG:SlR X (Y0 X.K):=by
 intro pins s σ H x v vl vu lo hi sl Q I rx hs pl pu h;obtain ⟨a,xs,rfl,hx,q⟩:=h;cases rx;obtain ⟨its,r,ht,hz⟩:=I.list hx;have hlen:=r.length;refine ⟨"list",_,slot_list_getitem.lookup,ht.isList.typeIs, ?_⟩;refine wpAny_getItem_list_slice ht.isList hs pl pu .none (by simp) ?_ (by rw [List.size_toArray]<;>omega);rw [Aa,←hlen];refine ⟨.ref s.heap.objs.size,_,I.laid (t':=s.toks) (o:= .lst (qz xs lo hi)) (fun b ob q=>Heap.get?_push_of_some _ q) (Nat.le_refl _) ?_,rfl,q _ (I.hok.fresh (Nat.le_refl _))⟩;exact ⟨Nat.le_trans (wJ xs lo hi) hz,_,0,(r.drop (HT.jQ xs.length 0 lo)).take (HT.jQ xs.length xs.length hi - HT.jQ xs.length 0 lo),Heap.get?_push_size _ rfl⟩
def uR:V->Bool
 | .non=>true
 | .bl _=>true
 | .int _=>true
 | .str _=>true
 | _=>false
def Sd:V->V->Bool
 | .non,.non=>true
 | .bl a,.bl b=>a==b
 | .bl a,.int b=>(if a then 1 else 0)==b
 | .int a,.bl b=>a==(if b then 1 else 0)
 | .int a,.int b=>a==b
 | .str a,.str b=>a==b
 | _,_=>false
theorem W5 {A:Around} {s:Shared} {y x:V} {u v:Value} (ry:RelV y u) (rx:RelV x v) (fy:uR y=true) (fx:uR x=true):SeqAt.EqAt A s u v (Sd y x):=by
 cases y with
 | non=>
   cases ry;cases x with
   | non=>cases rx;exact SeqAt.EqAt.same _
   | bl b=>cases rx;exact SeqAt.EqAt.none_bool b
   | int b=>obtain ⟨t,rfl⟩:=rx;exact SeqAt.EqAt.none_int b t
   | str b=>obtain ⟨t,rfl⟩:=rx;exact SeqAt.EqAt.none_str b t
   | _=>exact absurd (show false=true from fx) Bool.false_ne_true
 | bl a=>
   cases ry;cases x with
   | non=>cases rx;exact SeqAt.EqAt.bool_none a
   | bl b=>cases rx;exact SeqAt.EqAt.bool_bool a b
   | int b=>obtain ⟨t,rfl⟩:=rx;exact SeqAt.EqAt.bool_int a b t
   | str b=>obtain ⟨t,rfl⟩:=rx;exact SeqAt.EqAt.bool_str a b t
   | _=>exact absurd (show false=true from fx) Bool.false_ne_true
 | int a=>
   obtain ⟨t',rfl⟩:=ry;cases x with
   | non=>cases rx;exact SeqAt.EqAt.int_none a t'
   | bl b=>cases rx;exact SeqAt.EqAt.int_bool a t' b
   | int b=>obtain ⟨t,rfl⟩:=rx;exact SeqAt.EqAt.int_int a t' b t
   | str b=>obtain ⟨t,rfl⟩:=rx;exact SeqAt.EqAt.int_str a t' b t
   | _=>exact absurd (show false=true from fx) Bool.false_ne_true
 | str a=>
   obtain ⟨t',rfl⟩:=ry;cases x with
   | non=>cases rx;exact SeqAt.EqAt.str_none a t'
   | bl b=>cases rx;exact SeqAt.EqAt.str_bool a t' b
   | int b=>obtain ⟨t,rfl⟩:=rx;exact SeqAt.EqAt.str_int a t' b t
   | str b=>obtain ⟨t,rfl⟩:=rx;exact SeqAt.EqAt.str_str a t' b t
   | _=>exact absurd (show false=true from fx) Bool.false_ne_true
 | _=>exact absurd (show false=true from fy) Bool.false_ne_true
def Io (x:V) (u:Value):Bool:=match u with
 | .none=>Sd .non x
 | .bool b=>Sd (.bl b) x
 | .int i _=>Sd (.int i) x
 | .str z _=>Sd (.str z) x
 | _=>false
theorem Ph {x y:V} {u:Value} (r:RelV y u) (f:uR y=true):Io x u=Sd y x:=by
 cases y with
 | non=>cases r;rfl
 | bl b=>cases r;rfl
 | int i=>obtain ⟨t,rfl⟩:=r;rfl
 | str z=>obtain ⟨t,rfl⟩:=r;rfl
 | _=>exact absurd (show false=true from f) Bool.false_ne_true
theorem u5 {x:V}:∀{xs:List V} {us:List Value},Vals xs us->xs.all uR=true->us.any (Io x)=xs.any fun y=>Sd y x
 | _,_,.nil,_=>rfl
 | y::xs,u::us,.cons r t,f=>by
   rw [List.all_cons,Bool.and_eq_true] at f;rw [List.any_cons,List.any_cons,Ph r f.1,u5 t f.2]
theorem qt {A:Around} {s:Shared} {x:V} {v:Value} (rx:RelV x v) (fx:uR x=true):∀{xs:List V} {us:List Value},Vals xs us->xs.all uR=true -> ∀u∈us,SeqAt.EqAt A s u v (Io x u)
 | _,_,.nil,_=>fun u hu=>by cases hu
 | y::xs,u::us,.cons r t,f=>fun u' hu=>by
   rw [List.all_cons,Bool.and_eq_true] at f;rcases List.mem_cons.mp hu with rfl|hu
   ·rw [Ph r f.1];exact W5 r rx f.1 fx
   ·exact qt rx fx t f.2 u' hu
def inV (x:V) (xs:List V):Bool:=xs.any fun y=>Sd y x
def rIn (K:PySem.W.Frag) (neg:Bool):R2:=fun x y H Q=>∃p xs,y = .ref p/\(bK K H p xs\/cO K H p xs)/\uR x=true/\xs.all uR=true/\Q (.bl (if neg then !inV x xs else inV x xs)) H
theorem Kf:rB X (compareOp .In) (rIn X.K false):=by
 intro pins s σ H x y v u Q I rx ry h;obtain ⟨p,xs,rfl,hq,fx,fs,q⟩:=h;cases ry;rcases hq with hq|hq
 ·obtain ⟨its,r,pl,hz⟩:=I.list hq
  refine SeqAt.in_listAt (Io x) pl.isList (fun w hw=>qt rx fx r fs w (by simpa using hw)) ⟨.bl _,H,I,rfl, ?_⟩;rw [show its.toArray.any (Io x)=its.any (Io x) by simp,u5 r fs];exact q
 ·obtain ⟨its,r,pl,hz⟩:=I.tuple hq
  refine SeqAt.in_tupleAt (Io x) pl (fun w hw=>qt rx fx r fs w (by simpa using hw)) ⟨.bl _,H,I,rfl, ?_⟩;rw [show its.toArray.any (Io x)=its.any (Io x) by simp,u5 r fs];exact q
theorem Dk:rB X (compareOp .NotIn) (rIn X.K true):=by
 intro pins s σ H x y v u Q I rx ry h;obtain ⟨p,xs,rfl,hq,fx,fs,q⟩:=h;cases ry;rcases hq with hq|hq
 ·obtain ⟨its,r,pl,hz⟩:=I.list hq
  refine SeqAt.notIn_listAt (Io x) pl.isList (fun w hw=>qt rx fx r fs w (by simpa using hw)) ⟨.bl _,H,I,rfl, ?_⟩;rw [show its.toArray.any (Io x)=its.any (Io x) by simp,u5 r fs];exact q
 ·obtain ⟨its,r,pl,hz⟩:=I.tuple hq
  refine SeqAt.notIn_tupleAt (Io x) pl (fun w hw=>qt rx fx r fs w (by simpa using hw)) ⟨.bl _,H,I,rfl, ?_⟩;rw [show its.toArray.any (Io x)=its.any (Io x) by simp,u5 r fs];exact q
theorem Eb:kE X (.builtin "len") (fun xs H Q=>∃p ys,xs=[.ref p]/\(bK X.K H p ys\/cO X.K H p ys)/\Q (.int ys.length) H):=by
 intro pins s σ H xs us Q I r h;obtain ⟨p,ys,rfl,hq,q⟩:=h;obtain ⟨u,rfl,rx⟩:=vals1 r;cases rx;have hn:=vR;rcases hq with hq|hq
 ·obtain ⟨its,r',pl,hz⟩:=I.list hq
  have hlen:=r'.length;exact Calls.call_len_list pl.isList (by simp only [List.size_toArray]<;>omega) ⟨.int ys.length,H,I.tok _,⟨s.toks+1,by rw [List.size_toArray,hlen]⟩,q⟩
 ·obtain ⟨its,r',pl,hz⟩:=I.tuple hq
  have hlen:=r'.length;exact len_tuple pl (by simp only [List.size_toArray]<;>omega) ⟨.int ys.length,H,I.tok _,⟨s.toks+1,by rw [List.size_toArray,hlen]⟩,q⟩
theorem Ea:kE X (.type "list") (fun xs H Q=>∃p ys,xs=[.ref p]/\(bK X.K H p ys\/cO X.K H p ys) /\ ∀l,H l=none->Q (.ref l) (upd H l (.lst ys))):=by
 intro pins s σ H xs us Q I r h;obtain ⟨p,ys,rfl,hq,q⟩:=h;obtain ⟨u,rfl,rx⟩:=vals1 r;cases rx
 have fin:∀(its:List Value),Vals ys its->ys.length<=sizeLine -> ∀(h':Heap) (c':Nat),(∀b o',s.heap.get? b=some o'->h'.get? b=some o') ->
  h'.get? s.heap.objs.size=some {cls:= .type "list",dict:=none,data:= .seq its.toArray c',slots:= #[]}->EP X pins σ Q (.ref s.heap.objs.size) {s with heap:=h'}:=fun its r' hz h' c' kp e=>
  ⟨.ref s.heap.objs.size,_,I.laid (t':=s.toks) kp (Nat.le_refl _) (show gw X.prog X.w _ h' _ (.lst ys) from ⟨hz,its,c',r',e⟩),rfl,q _ (I.hok.fresh (Nat.le_refl _))⟩
 rcases hq with hq|hq
 ·obtain ⟨its,r',pl,hz⟩:=I.list hq
  have hlen:=r'.length;obtain ⟨o,ho,hc,n,hd⟩:=pl.isList;exact call_list_seq p (.inl rfl) ho hc hd (fun h' c' kp e=>fin its r' hz h' c' kp e) (by simp only [List.size_toArray]<;>omega)
 ·obtain ⟨its,r',pl,hz⟩:=I.tuple hq
  have hlen:=r'.length;obtain ⟨o,ho,hc,n,hd⟩:=pl;exact call_list_seq p (.inr rfl) ho hc hd (fun h' c' kp e=>fin its r' hz h' c' kp e) (by simp only [List.size_toArray]<;>omega)
def tyV (K:PySem.W.Frag) (T:String) (x:V) (H:Hp):Prop:=match x with
 | .str _=>T = "str"
 | .int _=>T = "int"
 | .ref p=>(T = "list" /\ ∃xs,bK K H p xs)\/(T = "tuple" /\ ∃o,K.lookup p=some o/\o.cls = .type "tuple" /\ o.dict=none) \/
    (T = "dict" /\ ((∃kvs,H p=some (.dK kvs)) \/ ∃kvs,H p=some (.dT kvs)))\/(T = "set" /\ ∃S n,H p=some (.set S n))
 | _=>False
theorem Mu {pins:List (Addr×Obj)} {σ:St} {H:Hp} {s:Shared} {T:String} {x:V} {v:Value} (I:Inv X pins σ H s) (r:RelV x v) (ty:tyV X.K T x H):
 s.TypeIs v T /\ ∀a,v = .ref a -> ∃ob,s.heap.get? a=some ob/\ob.dict=none:=by
 cases x with
 | str z=>
   obtain ⟨t,rfl⟩:=r;cases (show T = "str" from ty);exact ⟨typeIs_str s z t,fun _ e=>nomatch e⟩
 | int i=>
   obtain ⟨t,rfl⟩:=r;cases (show T = "int" from ty);exact ⟨typeIs_int s i t,fun _ e=>nomatch e⟩
 | ref p=>
   cases r;rcases ty with ⟨rfl,xs,hq⟩|⟨rfl,o,hk,hc,hd⟩|⟨rfl,hk⟩|⟨rfl,S,n,hk⟩
   ·obtain ⟨its,_,pl,_⟩:=I.list hq
    refine ⟨pl.isList.typeIs,fun a e=> ?_⟩;cases e;obtain ⟨o,n,e,c,hd,_⟩:=pl;exact ⟨o,e,hd⟩
   ·refine ⟨⟨o,I.rE p o hk,hc⟩,fun a e=> ?_⟩
    cases e;exact ⟨o,I.rE _ o hk,hd⟩
   ·have z:∃o,s.heap.get? p=some o/\o.ExactDict:=by
     rcases hk with ⟨kvs,hk⟩|⟨kvs,hk⟩
     ·obtain ⟨_,_,_,_,o,_,_,e,ex,_⟩:=I.hok p _ hk
      exact ⟨o,e,ex⟩
     ·obtain ⟨_,_,_,_,o,_,_,e,ex,_⟩:=I.hok p _ hk
      exact ⟨o,e,ex⟩
    obtain ⟨o,e,ex⟩:=z;refine ⟨⟨o,e,ex.1⟩,fun a e2=> ?_⟩;cases e2;exact ⟨o,e,ex.2.1⟩
   ·obtain ⟨o,_,_,_,e,ex,_⟩:=I.hok p _ hk
    refine ⟨⟨o,e,ex.1⟩,fun a e2=> ?_⟩;cases e2;exact ⟨o,e,ex.2.1⟩
 | _=>exact False.elim ty
def YJ (K:PySem.W.Frag) (T:String) (r:V->List V->Hp->VK->Prop) (to:TE):TE:=fun σ H Q=>to σ H fun x H1=>tyV K T x H1/\r x [] H1 Q
def tBM (K:PySem.W.Frag) (T:String) (r:V->List V->Hp->VK->Prop) (to:TE) (t:TA):TE:=fun σ H Q=>to σ H fun x H1=>tyV K T x H1/\t σ H1 fun xs H2=>r x xs H2 Q
variable {o e:Expr} {es:List Expr} {to:TE} {t:TA} {name:Str} {apos cpos:Pos} {T id:String} {r:V->List V->Hp->VK->Prop}
theorem V8 (pa:PlainAttrs T) (slot:Slot T name id) (hty:typeOf (.builtin id)=pure (.type "method_descriptor")) (hm:Xn X id r) (ho:PE X o to)
 (hbase:attributeBase o name X.env (eval o X.env)=eval o X.env:=by rfl) (hline:(apos.endLine==cpos.line)=true:=by rfl):PE X (.Call (.Attribute o name apos) [] [] cpos) (YJ X.K T r to):=by
 intro pins s σ H Q I h;refine wpAny_Call_method0_late hbase hline (eF (ho pins s σ H _ I h) fun v s1 ⟨x,H1,I1,r1,ty,q1⟩=> ?_);obtain ⟨h1,h2⟩:=Mu I1 r1 ty;exact ⟨T,id,pa,slot,hty,h1,h2,Calls.callWith_builtin rfl (PySem.evalArgs_none (hm pins s1 σ H1 x [] v [] Q I1 r1 .nil q1))⟩
theorem Ue (pa:PlainAttrs T) (slot:Slot T name id) (hty:typeOf (.builtin id)=pure (.type "method_descriptor")) (hm:Xn X id r) (ho:PE X o to) (ha:PA X (e::es) t)
 (hbase:attributeBase o name X.env (eval o X.env)=eval o X.env:=by rfl)
 (hfew:((backTo cpos (starEach (e::es) X.env)).all (fun x=> !x.1)&&(backToKw cpos (keywordEach [] X.env)).all (fun x=>x.1.isSome)
   && decide ((e::es).length+([]:List Keyword).length+(if ([]:List Keyword).isEmpty then 0 else 1)<30))=true:=by rfl)
 (hline:(apos.endLine==cpos.line)=true:=by rfl) (hs:starEach (e::es) X.env=(false,eval e X.env)::starEach es X.env:=by rfl) (hplain:(backTo cpos (starEach es X.env)).any (·.1)=false:=by rfl):
 PE X (.Call (.Attribute o name apos) (e::es) [] cpos) (tBM X.K T r to t):=by
 intro pins s σ H Q I h;refine wpAny_Call_method_late hbase hfew hline rfl (eF (ho pins s σ H _ I h) fun v s1 ⟨x,H1,I1,r1,ty,q1⟩=> ?_);obtain ⟨h1,h2⟩:=Mu I1 r1 ty;refine ⟨T,id,pa,slot,hty,h1,h2, ?_⟩;have hA:=ha cpos pins s1 σ H1 _ I1 q1;rw [hs] at hA ⊢;refine Calls.callWith_builtin (by show (false||(backTo cpos (starEach es X.env)).any (·.1))=false;rw [hplain]<;>rfl) (Calls.evalArgs_plain ?_);exact eF hA fun us s2 ⟨vs,H2,I2,r2,q2⟩=>hm pins s2 σ H2 x vs v us Q I2 r1 r2 q2
end
end L2
namespace L2
open PySem PySem.Spec PyProof.Rows
def MtM (X:Cx) (id:String) (r:V->List V->Hp->VK->Prop):Prop:=
 ∀(pins:List (Addr×Obj)) (s:Shared) (σ:St) (H:Hp) (x:V) (xs:List V) (v:Value) (us:List Value) (Q:VK),Inv X pins σ H s->RelV x v->Vals xs us->r x xs H Q ->
  wpAny (model X.prog X.w) X.A (call (.builtin id) (v::us)) (EP X pins σ Q) X.xe s
theorem Vals.one {x:V} {us:List Value} (h:Vals [x] us):∃u,us=[u]/\RelV x u:=by
 cases h with
 | cons r t=>cases t;exact ⟨_,rfl,r⟩
theorem Vals.zero:∀{us:List Value},Vals [] us->us=[]
 | _,.nil=>rfl
theorem Vals.rep {xs:List V} {us:List Value} (h:Vals xs us):∀k:Nat,Vals (List.replicate k xs).flatten (List.replicate k us).flatten
 | 0=> .nil
 | k+1=>by
   rw [List.replicate_succ,List.replicate_succ,List.flatten_cons,List.flatten_cons];exact Vals.append h (Vals.rep h k)
theorem foldl_rep (its:List Value):∀(k:Nat) (acc:List Value),
 List.foldl (fun x1 x2=>x1++x2) acc.toArray (List.replicate k its.toArray)=(acc++(List.replicate k its).flatten).toArray
 | 0,acc=>by simp
 | k+1,acc=>by
   have e:acc.toArray++its.toArray=(acc++its).toArray:=by simp
   have e2:(acc++its)++(List.replicate k its).flatten=acc++(List.replicate (k+1) its).flatten:=by
    rw [List.replicate_succ,List.flatten_cons,List.append_assoc]
   rw [←e2,←foldl_rep its k (acc++its),←e,List.replicate_succ,List.foldl_cons]
section
variable {X:Cx} {pins:List (Addr×Obj)} {σ:St} {H:Hp} {s:Shared} {l b:Addr} {xs ys zs:List V}
theorem Inv.Ws {its its':List Value} {n:Nat} {f:Array Value->Array Value} {t':Nat} (I:Inv X pins σ H s) (hH:H l=some (.lst xs))
 (e:s.heap.get? l=some {cls:= .type "list",data:= .seq its.toArray n}) (hf:f its.toArray=its'.toArray) (hv:Vals ys its') (hz:ys.length<=sizeLine):
 Inv X pins σ (upd H l (.lst ys)) {s with heap:=s.heap.update l (Obj.mapSeq f),toks:=t'}:=by
 have q:=PySem.IsL.update e f;rw [hf] at q;refine I.write (x:=l) (e:=l) (by rw [hH];exact trivial) (.inl rfl) (fun b' u hb hu=>(Heap.get?_update_other s.heap (Obj.mapSeq f) (Ne.symm hb)).trans hu) ⟨_,q⟩ ?_;exact ⟨hz,its',_,hv,q⟩
theorem Inv.Zw {its:List Value} {t':Nat} (I:Inv X pins σ H s) (hv:Vals ys its) (hz:ys.length<=sizeLine):
 Inv X pins σ (upd H s.heap.objs.size (.lst ys)) {s with heap:=s.heap.push {cls:= .type "list",data:= .seq its.toArray},toks:=t'}:=
 I.laid (fun _ _ q=>Heap.get?_push_of_some _ q) (Nat.le_refl _) ⟨hz,its,0,hv,Heap.get?_push_size _ rfl⟩
theorem Inv.fresh (I:Inv X pins σ H s):H s.heap.objs.size=none:=I.hok.fresh (Nat.le_refl _)
theorem Inv.Ig (I:Inv X pins σ H s) (hH:H l=some (.lst xs)):xs.length<=sizeLine /\ ∃(its:List Value) (n:Nat),Vals xs its/\xs.length=its.length/\s.heap.get? l=some {cls:= .type "list",data:= .seq its.toArray n}:=by
 obtain ⟨z,its,n,r,e⟩:=I.hok l _ hH;exact ⟨z,its,n,r,r.length,e⟩
theorem Fy {n:Nat} (h:n<=sizeLine):Builtin.List.listTooLong n=false:=by
 unfold Builtin.List.listTooLong;exact decide_eq_false (by omega)
end
section
variable {X:Cx}
def Jq:V->List V->Hp->VK->Prop:=fun x vs H Q=>∃l xs y,x = .ref l/\vs=[y]/\H l=some (.lst xs)/\xs.length<sizeLine/\Q .non (upd H l (.lst (xs++[y])))
theorem Bp:MtM X "list.append" Jq:=by
 intro pins s σ H x vs v us Q I rx rv h;obtain ⟨l,xs,y,rfl,rfl,hH,hz,q⟩:=h;cases rx;obtain ⟨u,rfl,ru⟩:=rv.one;obtain ⟨z,its,n,r,hl,e⟩:=I.Ig hH;refine call_meets F.slot_list_append ⟨_,e,rfl⟩ F.entry_list_append (F.args_list_append_2 _ _) (PySem.list_append l its.toArray n u (by rw [List.size_toArray];omega)) ⟨e, ?_⟩;refine ⟨.non,_,I.Ws (its':=its++[u]) hH e (by simp) (r.append (.cons ru .nil)) ?_,rfl,q⟩;rw [List.length_append,List.length_singleton];omega
def QW:V->List V->Hp->VK->Prop:=fun x vs H Q=>∃l b xs zs,x = .ref l/\vs=[.ref b]/\H l=some (.lst xs)/\H b=some (.lst zs)/\xs.length+zs.length<=sizeLine/\Q .non (upd H l (.lst (xs++zs)))
theorem KC:MtM X "list.extend" QW:=by
 intro pins s σ H x vs v us Q I rx rv h;obtain ⟨l,b,xs,zs,rfl,rfl,hH,hB,hz,q⟩:=h;cases rx;obtain ⟨u,rfl,ru⟩:=rv.one;cases ru;obtain ⟨z,its,n,r,hl,e⟩:=I.Ig hH;obtain ⟨z2,its2,n2,r2,hl2,e2⟩:=I.Ig hB;have hsz:its.toArray.size+its2.toArray.size<=sizeLine:=by rw [List.size_toArray,List.size_toArray];omega
 have Ow:¬(!its.toArray.isEmpty&&Builtin.List.listTooLong (its.toArray.size+its2.toArray.size))=true:=by
  rw [Fy hsz,Bool.and_false];exact Bool.false_ne_true
 refine call_meets F.slot_list_extend ⟨_,e,rfl⟩ F.entry_list_extend (F.args_list_extend_2 _ _)
  (AutoSeq1.list_extend_list_list_0 l its.toArray n b its2.toArray n2 Ow (by rw [List.size_toArray];omega) (by omega)) ⟨e,e2, ?_⟩
 refine ⟨.non,_,I.Ws (its':=its++its2) hH e (by simp) (r.append r2) ?_,rfl,q⟩;rw [List.length_append];omega
def VG:V->List V->Hp->VK->Prop:=fun x vs H Q=>∃l xs,x = .ref l/\vs=[]/\H l=some (.lst xs)/\Q .non (upd H l (.lst []))
theorem yX:MtM X "list.clear" VG:=by
 intro pins s σ H x vs v us Q I rx rv h;obtain ⟨l,xs,rfl,rfl,hH,q⟩:=h;cases rx;have hus:=rv.zero;subst hus;obtain ⟨z,its,n,r,hl,e⟩:=I.Ig hH;refine call_meets F.slot_list_clear ⟨_,e,rfl⟩ F.entry_list_clear (F.args_list_clear_1 _) (AutoSeq1.list_clear_list_0 l its.toArray n (by rw [List.size_toArray];omega)) ⟨e, ?_⟩;exact ⟨.non,_,I.Ws (its':=[]) (ys:=[]) hH e rfl .nil (Nat.zero_le _),rfl,q⟩
def aeo:R2:=fun x y H Q=>∃l b xs zs,x = .ref l/\y = .ref b/\H l=some (.lst xs)/\H b=some (.lst zs)/\xs.length+zs.length<=sizeLine /\ ∀p,H p=none->Q (.ref p) (upd H p (.lst (xs++zs)))
theorem HF:rB X (binaryOp .Add) aeo:=by
 intro pins s σ H x y v u Q I rx ry h;obtain ⟨l,b,xs,zs,rfl,rfl,hH,hB,hz,q⟩:=h;cases rx;cases ry;obtain ⟨z,its,n,r,hl,e⟩:=I.Ig hH;obtain ⟨z2,its2,n2,r2,hl2,e2⟩:=I.Ig hB;refine PySem.P.add_list e e2 ?_ (by rw [List.size_toArray,List.size_toArray];omega);have ea:its.toArray++its2.toArray=(its++its2).toArray:=by simp
 rw [ea];exact ⟨.ref _,_,I.Zw (t':=s.toks) (r.append r2) (by rw [List.length_append];omega),rfl,q _ I.fresh⟩
def ael:R2:=fun x y H Q=>∃l k xs,x = .ref l/\y = .int k/\H l=some (.lst xs) /\ -(2 ^ 63)<=k/\k<2 ^ 63/\xs.length*k.toNat<=sizeLine /\
 ∀p,H p=none->Q (.ref p) (upd H p (.lst (List.replicate k.toNat xs).flatten))
theorem len_rep {α:Type} (xs:List α) (k:Nat):(List.replicate k xs).flatten.length=k*xs.length:=by
 induction k with
 | zero=>simp
 | succ k ih=>rw [List.replicate_succ,List.flatten_cons,List.length_append,ih,Nat.succ_mul,Nat.add_comm]
theorem yU:rB X (binaryOp .Mult) ael:=by
 intro pins s σ H x y v u Q I rx ry h;obtain ⟨l,k,xs,rfl,rfl,hH,h1,h2,hz,q⟩:=h;cases rx;obtain ⟨t,rfl⟩:=ry;obtain ⟨z,its,n,r,hl,e⟩:=I.Ig hH;have hlen:its.toArray.size*k.toNat<=sizeLine:=by rw [List.size_toArray,←hl];exact hz
 have hcap:¬its.toArray.size*k.toNat>(2 ^ 63 - 1) / 8:=by
  have:(sizeLine:Nat)<=(2 ^ 63 - 1) / 8:=by decide
  omega
 have hfit:¬(!Builtin.List.listFitsIndex k)=true:=by
  rw [fitsIndex_both h1 h2];exact Bool.false_ne_true
 have Ow:¬Builtin.List.listTooLong (its.toArray.size*k.toNat)=true:=by
  rw [Fy hlen];exact Bool.false_ne_true
 have hnew:List.foldl (fun x1 x2=>x1++x2) #[] (List.replicate (if its.toArray.isEmpty=true then 0 else k.toNat) its.toArray)=(List.replicate k.toNat its).flatten.toArray:=by
  have f0:∀m:Nat,List.foldl (fun x1 x2=>x1++x2) #[] (List.replicate m its.toArray)=(List.replicate m its).flatten.toArray:=fun m=>by
   have:=foldl_rep its m [];rw [List.nil_append] at this;exact this
  rw [f0];cases its with
  | nil=>simp
  | cons a r'=>rw [if_neg (by simp)]
 refine wpAny_binaryOp_repeat_ref (T:= "list") (U:= "int") (by decide) ⟨_,e,rfl⟩ (fun s'=>typeIs_int s' k t) noFill_list_mul F.fills_int_mul F.slot_int_rmul repeat_list F.slot_int_index.lookup
  (call_meets F.slot_int_rmul (typeIs_int s k t) F.entry_int_rmul (F.args_int_rmul_2 _ _) (int___rmul___int_list k t l its.toArray n)
    ⟨e,rfl,⟨_,e,rfl⟩,call_meets F.slot_list_mul ⟨_,e,rfl⟩ F.entry_list_mul (F.args_list_mul_2 _ _) (AutoListH.list___mul___list_int_3 l its.toArray n k t hfit hcap Ow) ⟨e, ?_⟩⟩)
 rw [hnew];exact ⟨.ref _,_,I.Zw (t':=s.toks) (r.rep k.toNat) (by rw [len_rep,Nat.mul_comm];exact hz),rfl,q _ I.fresh⟩
end
section
variable {prog:Program} {w:World} {A:Around} {E:Value->Shared->Prop} {s:Shared}
end
section
variable {X:Cx}
end
end L2
namespace L2
open PySem PySem.Spec PyProof.Rows
section
variable {κ:Type} [DecidableEq κ]
def gU (kvs:List (κ×V)) (k:κ):Option V:=(kvs.find? fun kv=>decide (kv.1=k)).map (·.2)
def putK (kvs:List (κ×V)) (k:κ) (v:V):List (κ×V):=
 if (kvs.any fun kv=>decide (kv.1=k))=true then kvs.map (fun kv=>if kv.1=k then (kv.1,v) else kv) else kvs++[(k,v)]
theorem iD {p:κ×V} {r:List (κ×V)} {k:κ} (e:p.1=k):gU (p::r) k=some p.2:=by simp [gU,List.find?_cons,e]
theorem iG {p:κ×V} {r:List (κ×V)} {k:κ} (e:¬p.1=k):gU (p::r) k=gU r k:=by simp [gU,List.find?_cons,e]
theorem uc (k:κ):∀kvs:List (κ×V),(kvs.any fun kv=>decide (kv.1=k))=(gU kvs k).isSome
 | []=>rfl
 | p::r=>by
   rw [List.any_cons]
   by_cases e:p.1=k
   ·simp only [iD e,decide_eq_true e,Bool.true_or,Option.isSome_some]
   ·rw [iG e,decide_eq_false e,Bool.false_or];exact uc k r
theorem Ez (k j:κ) (y:V):∀kvs:List (κ×V),gU (kvs.map fun kv=>if kv.1=k then (kv.1,y) else kv) j=(gU kvs j).map fun x=>if j=k then y else x
 | []=>rfl
 | p::r=>by
   have ih:=Ez k j y r;rw [List.map_cons]
   by_cases h:p.1=k
   ·rw [if_pos h]
    by_cases e:p.1=j
    ·rw [iD (p:=(p.1,y)) e,iD e,Option.map_some,if_pos (e.symm.trans h)]
    ·rw [iG (p:=(p.1,y)) e,iG e,ih]
   ·rw [if_neg h]
    by_cases e:p.1=j
    ·rw [iD (p:=p) e,iD e,Option.map_some,if_neg (fun z=>h (e.trans z))]
    ·rw [iG (p:=p) e,iG e,ih]
theorem Bf (k j:κ) (y:V):∀kvs:List (κ×V),gU kvs k=none->gU (kvs++[(k,y)]) j=if j=k then some y else gU kvs j
 | [],_=>by
   by_cases e:k=j
   ·rw [if_pos e.symm];exact iD (p:=(k,y)) e
   ·rw [if_neg (fun z=>e z.symm)];exact iG (p:=(k,y)) e
 | p::r,hn=>by
   rw [List.cons_append];have hk:¬p.1=k:=fun z=>by rw [iD z] at hn;cases hn
   rw [iG hk] at hn;have ih:=Bf k j y r hn
   by_cases e:p.1=j
   ·rw [iD e,iD e,if_neg (fun z=>hk (e.trans z))]
   ·rw [iG e,iG e,ih]
theorem yq (kvs:List (κ×V)) (k j:κ) (y:V):gU (putK kvs k y) j=if j=k then some y else gU kvs j:=by
 unfold putK
 by_cases a:(kvs.any fun kv=>decide (kv.1=k))=true
 ·rw [if_pos a,Ez]
  rw [uc] at a
  by_cases e:j=k
  ·obtain ⟨x,hx⟩:=Option.isSome_iff_exists.mp a
   rw [if_pos e,e,hx,Option.map_some,if_pos rfl]
  ·rw [if_neg e]
   cases gU kvs j with
   | none=>rfl
   | some x=>rw [Option.map_some,if_neg e]
 ·rw [if_neg a]
  refine Bf k j y kvs ?_;rw [uc] at a;cases q:gU kvs k with
  | none=>rfl
  | some x=>rw [q] at a;exact (a rfl).elim
theorem wG (kvs:List (κ×V)) (k:κ) (v:V):(putK kvs k v).length<=kvs.length+1:=by
 unfold putK;split
 ·rw [List.length_map];omega
 ·rw [List.length_append,List.length_cons,List.length_nil];omega
theorem pQ.K1 {o:Option V} {u:Option Value} (r:pQ o u):o.isSome=u.isSome:=by
 cases o with
 | none=>cases u with
   | none=>rfl
   | some _=>exact (show False from r).elim
 | some _=>cases u with
   | none=>exact (show False from r).elim
   | some _=>rfl
theorem pQ.getD {o:Option V} {u:Option Value} {d:V} {d':Value} (r:pQ o u) (rd:RelV d d'):RelV (o.getD d) (u.getD d'):=by
 cases o with
 | none=>cases u with
   | none=>exact rd
   | some _=>exact (show False from r).elim
 | some _=>cases u with
   | none=>exact (show False from r).elim
   | some _=>exact r
theorem KV.val {kvs:List (κ×V)} {vs:List (κ×Value)} (r:KV kvs vs) (k:κ):pQ (gU kvs k) (valueAt vs k):=by
 unfold KV at r
 induction r with
 | nil=>exact True.intro
 | @cons p q ps qs h t ih=>
   obtain ⟨h1,h2⟩:=h
   by_cases e:p.1=k
   ·have e':q.1=k:=h1.symm.trans e
    have b:valueAt (q::qs) k=some q.2:=by simp [valueAt,List.find?_cons,e']
    rw [iD e,b];exact h2
   ·have e':¬q.1=k:=fun z=>e (h1.trans z)
    have b:valueAt (q::qs) k=valueAt qs k:=by simp [valueAt,List.find?_cons,e']
    rw [iG e,b];exact ih
end
theorem Um {P:Program} {w:World} {k:Key} {u:Value} (r:RelV (kV k) u):(gP P w).is k u=true:=by
 cases k with
 | inl i=>obtain ⟨t,e⟩:=(show ∃t,u=Value.int i t from r);subst e;exact FN P w i t
 | inr x=>obtain ⟨t,e⟩:=(show ∃t,u=Value.str x t from r);subst e;exact FJ P w x t
theorem Bv {P:Program} {w:World}:∀{ks:List Key} {us:List Value},Vals (ks.map kV) us->ItemsAre (gP P w) ks us
 | [],_,r=>by rw [List.map_nil] at r;cases r;exact .nil
 | k::ks,_,r=>by
   rw [List.map_cons] at r;cases r with
   | cons h t=>exact .cons (Um h) (Bv t)
abbrev KT (H:Hp):List (List Key×V)->List (List Key×Addr×Value)->Prop:=Paired fun p q=>p.1=q.1/\H q.2.1=some (.tup (p.1.map kV))/\RelV p.2 q.2.2
theorem KT.val {H:Hp} {kvs:List (List Key×V)} {xs:List (List Key×Addr×Value)} (r:KT H kvs xs) (k:List Key):pQ (gU kvs k) ((atKey xs k).map (·.2)):=by
 induction r with
 | nil=>exact True.intro
 | @cons p q ps qs h t ih=>
   obtain ⟨h1,_,h2⟩:=h
   by_cases e:p.1=k
   ·have e':q.1=k:=h1.symm.trans e
    have b:atKey (q::qs) k=some q.2:=by simp [atKey,List.find?_cons,e']
    rw [iD e,b];exact h2
   ·have e':¬q.1=k:=fun z=>e (h1.trans z)
    have b:atKey (q::qs) k=atKey qs k:=by simp [atKey,List.find?_cons,e']
    rw [iG e,b];exact ih
theorem KT.repl {H:Hp} {kvs:List (List Key×V)} {xs:List (List Key×Addr×Value)} (r:KT H kvs xs) (k:List Key) {y:V} {u:Value} (ry:RelV y u):
 KT H (kvs.map fun kv=>if kv.1=k then (kv.1,y) else kv) (xs.map (putAt k u)):=by
 induction r with
 | nil=>exact .nil
 | @cons p q ps qs h t ih=>
   rw [List.map_cons,List.map_cons];refine .cons ?_ ih;obtain ⟨h1,h2,h3⟩:=h;unfold putAt
   by_cases e:p.1=k
   ·rw [if_pos e,if_pos (h1.symm.trans e)];exact ⟨h1,h2,ry⟩
   ·rw [if_neg e,if_neg (fun z=>e (h1.trans z))];exact ⟨h1,h2,h3⟩
theorem KT.put {H:Hp} {kvs:List (List Key×V)} {xs:List (List Key×Addr×Value)} (r:KT H kvs xs) (k:List Key) {b:Addr} {y:V} {u:Value} (hb:H b=some (.tup (k.map kV))) (ry:RelV y u):
 KT H (putK kvs k y) (storedH xs k b u):=by
 have e:(kvs.any fun kv=>decide (kv.1=k))=(atKey xs k).isSome:=by
  rw [uc,(r.val k).K1,Option.isSome_map]
 unfold putK storedH;rw [e]
 by_cases q:(atKey xs k).isSome=true
 ·rw [if_pos q,if_pos q];exact r.repl k ry
 ·rw [if_neg q,if_neg q];exact Paired.snoc r ⟨rfl,hb,ry⟩
theorem KT.keeps {H H':Hp} {kvs:List (List Key×V)} {xs:List (List Key×Addr×Value)} (r:KT H kvs xs) (ht:∀b ys,H b=some (.tup ys)->H' b=some (.tup ys)):KT H' kvs xs:=
 Paired.Zu r fun _ _ z=>⟨z.1,ht _ _ z.2.1,z.2.2⟩
section
variable {P:Program} {w:World} {H:Hp} {h:Heap} {a:Addr}
theorem Uc {u:HO} (ok:rC P w H h) (e:Rd H a u):gw P w H h a u:=e.ok ok
theorem UG {kvs:List (Key×V)} (ok:rC P w H h) (e:Rd H a (.dK kvs)):kvs.length<=sizeLine/\(a==sysModules)=false /\ ∃vs,KV kvs vs/\h.DictOf (gP P w) a vs:=
 show gw P w H h a (.dK kvs) from Uc ok e
theorem Ij {ks:List Key} (ok:rC P w H h) (e:H a=some (.tup (ks.map kV))):(tupleKind (gP P w)).is h ks a:=by
 obtain ⟨_,its,r,o,h1,h2,n,h3⟩:=(show gw P w H h a (.tup (ks.map kV)) from ok a _ e);exact ⟨o,its.toArray,n,h1,h2,h3,by simpa using Bv r⟩
theorem Pj {kvs:List (List Key×V)} (ok:rC P w H h) (e:Rd H a (.dT kvs)):kvs.length<=sizeLine/\(a==sysModules)=false /\
 ∃xs,KT H kvs xs/\h.DictOfH (tupleKind (gP P w)) a xs:=by
 obtain ⟨z,y,xs,r,o,es,ep,h1,h2,h3,h4,h5⟩:=(show gw P w H h a (.dT kvs) from Uc ok e);refine ⟨z,y,xs,r,o,es,ep,h1,h2,h3,h4,fun x hx=> ?_,h5⟩
 have all:∀{l:List (List Key×V)} {m:List (List Key×Addr×Value)},KT H l m -> ∀x∈m,(tupleKind (gP P w)).is h x.1 x.2.1:=by
  intro l m q
  induction q with
  | nil=>intro x hx;exact nomatch hx
  | @cons p q ps qs hq t ih=>
    intro x hx;rcases List.mem_cons.mp hx with e|hx
    ·subst e
     exact Ij ok (by rw [←hq.1];exact hq.2.1)
    ·exact ih x hx
 exact all r x hx
theorem aaz {kvs:List (List Key×V)} (ok:rC P w H h) (e:H a=some (.dT kvs)):kvs.length<=sizeLine/\(a==sysModules)=false /\
 ∃xs,KT H kvs xs/\h.DictOfH (tupleKind (gP P w)) a xs:=Pj ok (.inl e)
end
def Qk (H:Hp) (a:Addr) (y:V) (r:Option V):Prop:=
 (∃kvs k,Rd H a (.dK kvs)/\y=kV k/\r=gU kvs k) \/ ∃kvs k b,Rd H a (.dT kvs)/\y = .ref b/\H b=some (.tup (k.map kV))/\r=gU kvs k
theorem Qk.t {H:Hp} {a b:Addr} {kvs:List (List Key×V)} {k:List Key} (e:H a=some (.dT kvs)) (eb:H b=some (.tup (k.map kV))):Qk H a (.ref b) (gU kvs k):= .inr ⟨kvs,k,b,.inl e,rfl,eb,rfl⟩
section
variable {X:Cx} {pins:List (Addr×Obj)} {σ:St} {H:Hp} {s:Shared} {a:Addr} {y v:V} {u r:Value} {o:Option V} {A:Around} {E:Value->Shared->Prop}
theorem Inv.big (I:Inv X pins σ H s):sysModules<s.heap.objs.size:=by
 have h:mainGlobals<s.heap.objs.size:=(I.mod.glob.keeps I.bk).lt;exact Nat.lt_trans (by decide) h
theorem Sh {h':Heap} {t':Nat} {ob:HO} (I:Inv X pins σ H s) (mu:Mut (H a)) (hs:Heap.SameBut a s.heap h') (he:∃q,h'.get? a=some q) (new:gw X.prog X.w (upd H a ob) h' a ob):
 Inv X pins σ (upd H a ob) {s with heap:=h',toks:=t'}:=
 I.write (x:=a) (e:=a) mu (.inl rfl) (fun b q hb z=>(hs.2 b hb).trans z) he new
end
section
variable {X:Cx} {pins:List (Addr×Obj)} {σ:St} {H:Hp} {s:Shared} {a:Addr} {kvs:List (Key×V)} {k:Key} {u:Value} {A:Around} {E:Value->Shared->Prop}
end
section
variable {X:Cx} {o i e value:Expr} {pos pos' tpos:Pos} {td ty tv:TE}
end
theorem Pk {P:Program} {w:World} {H:Hp} (h:Heap) (hb:sysModules<h.objs.size):gw P w H (h.push {cls:= .type "dict",data:= .dict #[]}) h.objs.size (.dT []):=
 ⟨Nat.zero_le _,beq_eq_false_iff_ne.mpr (Ne.symm (Nat.ne_of_lt hb)),[],.nil,_, #[],0,Heap.get?_push_size _ rfl,⟨rfl,rfl,rfl⟩,rfl,rfl,List.nodup_nil⟩
def Vl:TE:=fun _ H Q=>∀p,H p=none->Q (.ref p) (upd H p (.dT []))
section
variable {X:Cx} {pos:Pos}
theorem Nu:PE X (.Dict [] [] pos) Vl:=fun pins s σ H Q I h=>
 wpAny_Dict_empty ⟨.ref s.heap.objs.size,_,I.laid (a:=s.heap.objs.size) (o:= .dT []) (t':=s.toks) (fun _ _ q=>Heap.get?_push_of_some _ q) (Nat.le_refl _) (Pk s.heap I.big),rfl,h _ (I.hok.fresh (Nat.le_refl _))⟩
end
structure M1 (X:Cx) (o:Expr) (m:Str) (apos:Pos) (e:Expr) (cpos:Pos):Prop where
 base:attributeBase o m X.env (eval o X.env)=eval o X.env
 few:((backTo cpos (starEach [e] X.env)).all (fun x=> !x.1)&&(backToKw cpos (keywordEach [] X.env)).all (fun x=>x.1.isSome)
  && decide (([e]:List Expr).length+([]:List Keyword).length+(if ([]:List Keyword).isEmpty then 0 else 1)<30))=true
 line:(apos.endLine==cpos.line)=true
 trees:backTo cpos (starEach [e] X.env)=[(false,eval e X.env)]
structure M2 (X:Cx) (o:Expr) (m:Str) (apos:Pos) (e f:Expr) (cpos:Pos):Prop where
 base:attributeBase o m X.env (eval o X.env)=eval o X.env
 few:((backTo cpos (starEach [e,f] X.env)).all (fun x=> !x.1)&&(backToKw cpos (keywordEach [] X.env)).all (fun x=>x.1.isSome)
  && decide (([e,f]:List Expr).length+([]:List Keyword).length+(if ([]:List Keyword).isEmpty then 0 else 1)<30))=true
 line:(apos.endLine==cpos.line)=true
 trees:backTo cpos (starEach [e,f] X.env)=[(false,eval e X.env),(false,eval f X.env)]
def IsD (H:Hp) (a:Addr):Prop:=(∃kvs,Rd H a (.dK kvs)) \/ ∃kvs,Rd H a (.dT kvs)
theorem Ot {X:Cx} {pins:List (Addr×Obj)} {σ:St} {H:Hp} {s:Shared} {a:Addr} (I:Inv X pins σ H s) (d:IsD H a):
 s.TypeIs (.ref a) "dict" /\ (∀b,Value.ref a = .ref b -> ∃ob,s.heap.get? b=some ob/\ob.dict=none)/\(a==sysModules)=false:=by
 rcases d with ⟨kvs,e⟩|⟨kvs,e⟩
 ·obtain ⟨_,hd,vs,_,dd⟩:=UG I.hok e
  refine ⟨dd.typeIs,fun b q=> ?_,hd⟩;cases q;obtain ⟨ob,_,_,h1,h2,_⟩:=dd;exact ⟨ob,h1,h2.2.1⟩
 ·obtain ⟨_,hd,xs,_,dd⟩:=Pj I.hok e
  refine ⟨dd.typeIs,fun b q=> ?_,hd⟩;cases q;obtain ⟨ob,_,_,h1,h2,_⟩:=dd;exact ⟨ob,h1,h2.2.1⟩
section
variable {X:Cx} {pins:List (Addr×Obj)} {σ:St} {H:Hp} {s:Shared} {a:Addr} {y d:V} {u r:Value} {o:Option V} {A:Around} {E:Value->Shared->Prop}
theorem Xb {Q:Value->Shared->Prop} (hu:A.units+1<cLine) (I:Inv X pins σ H s) (g:Qk H a y o) (ry:RelV y u) (rd:RelV d r) (h:∀w' s',Inv X pins σ H s'->RelV (o.getD d) w'->Q w' s'):
 wpAny (model X.prog X.w) A (call (.builtin "dict.get") [.ref a,u,r]) Q E s:=by
 rcases g with ⟨kvs,k,e,ey,l⟩|⟨kvs,k,b,e,ey,eb,l⟩
 ·subst ey
  obtain ⟨z,hd,vs,rel,dd⟩:=UG I.hok e;refine call_meetsIn PySem.F.slot_dict_get dd.typeIs PySem.F.entry_dict_get (PySem.F.args_dict_get_3 _ _ _) (meets_dict_get_default (gP X.prog X.w) a (Um ry) hd r) ⟨_,dd.mapOf,h _ _ (I.tok _) ?_⟩;rw [l];exact (rel.val k).getD rd
 ·subst ey
  cases (show u=Value.ref b from ry);obtain ⟨z,hd,xs,rel,dd⟩:=Pj I.hok e;refine call_meetsIn PySem.F.slot_dict_get dd.typeIs PySem.F.entry_dict_get (PySem.F.args_dict_get_3 _ _ _) (meetsH_dict_get_default (tupleKind (gP X.prog X.w)) a b hd r) ⟨tupleKind_room_in1 hu,k,xs,Ij I.hok eb,dd,h _ _ (I.tok _) ?_⟩;rw [l];exact (rel.val k).getD rd
end
def Vm (td ty tx:TE):TE:=fun σ H Q=>td σ H fun x H1=>∃a,x = .ref a/\IsD H1 a/\ty σ H1 fun y H2=>tx σ H2 fun z H3=>∃o,Qk H3 a y o/\Q (o.getD z) H3
section
variable {X:Cx} {o e f:Expr} {apos cpos:Pos} {td ty tx:TE}
theorem Nv (hu:X.A.units+1<cLine) (ho:PE X o td) (he:PE X e ty) (hf:PE X f tx) (m:M2 X o "get" apos e f cpos):PE X (.Call (.Attribute o "get" apos) [e,f] [] cpos) (Vm td ty tx):=by
 intro pins s σ H Q I h;refine wpAny_Call_method m.base m.few m.line PySem.F.plainAttrs_dict PySem.F.slot_dict_get PySem.F.type_dict_get (eF (ho pins s σ H _ I h) fun u s1 ⟨x,H1,I1,rx,a,ex,d,q1⟩=> ?_);subst ex;obtain rfl:u=Value.ref a:=rx;obtain ⟨t1,t2,_⟩:=Ot I1 d;refine ⟨t1,t2, ?_⟩;rw [m.trees]
 refine Calls.callWith_builtin rfl (Calls.evalArgs_plain (Calls.spliced_cons (eF (he pins s1 σ H1 _ I1 q1) fun iv s2 ⟨y,H2,I2,ry,q2⟩=>
  Calls.spliced_cons (eF (hf pins s2 σ H2 _ I2 q2) fun fv s3 ⟨z,H3,I3,rz,ov,g,q3⟩=>Calls.spliced_nil ?_))))
 exact Xb hu I3 g ry rz fun w' s4 I4 rw'=>⟨_,H3,I4,rw',q3⟩
end
section
variable {X:Cx} {pins:List (Addr×Obj)} {σ:St} {H:Hp} {s:Shared} {a:Addr} {kvs:List (Key×V)} {A:Around} {E:Value->Shared->Prop}
end
section
variable {X:Cx} {pins:List (Addr×Obj)} {σ:St} {H:Hp} {s:Shared} {a:Addr} {y:V} {u:Value} {A:Around} {E:Value->Shared->Prop}
end
end L2
namespace Att
open PySem PySem.W PySem.Calls PyProof.Rows
theorem wQ {P:Params} {h:Heap}:∀(ns:List Int) (vs:List Value),WellAll P h vs (ns.map WData.int)->IntsAre vs ns:=by
 intro ns
 induction ns with
 | nil=>
   intro vs w;rw [List.map_nil] at w;cases w;exact .nil
 | cons n ns ih=>
   intro vs w;rw [List.map_cons] at w;cases w with
   | cons a b=>
     cases a;exact .cons _ _ (ih _ b)
theorem Ka {l:OpenLaw} {n:Nat} (hn:l.most=some n) {P:Params} {h:Heap} {args:List WData} {vals:List Value}
 (hpre:l.row.toRowW.claim.pre args=true) (hwl:WellAll P h vals args):
 ∃a vs ns,vals=[Value.ref a]/\args=[WData.list (ns.map WData.int)]/\h.get? a=some {cls:= .type "list",data:= .seq vs.toArray}/\IntsAre vs ns/\ns.length<=n:=by
 have hsh:WShape.hasAll [] args [.list .int]=true:=(pre_splitW hpre).1;have hc:l.pre.holds [] {args:=args}=true:=(pre_splitW hpre).2;obtain ⟨d,r,rfl,h1,h2⟩:=hasAllW_cons hsh;obtain rfl:=hasAllW_nil h2;obtain ⟨xs,rfl,h3⟩:=hasW_list h1;obtain ⟨ns,rfl⟩:=items_int h3
 have hlen:ns.length<=n:=by
  unfold OpenLaw.pre at hc
  have h4:(WTm.not (.lt (.lit (.int (n:Int))) (.len (.arg 0)))).holds [] {args:=[.list (ns.map .int)]}=true:=by
   have h4:=(holds_andW hc).1;rw [hn] at h4;exact h4
  have h5:=condW_of h4 (w_not (w_lt w_lit (w_len_list (w_arg rfl))));rw [List.length_map] at h5;refine Nat.le_of_not_lt fun q=> ?_;have q':(n:Int)<((ns.length:Nat):Int):=by omega
  first
   | (rw [decide_eq_true q'] at h5;exact absurd h5 (by decide))
   | (simp at h5;omega)
 cases hwl with
 | cons w1 w2=>
   cases w2;cases w1 with
   | list ho hall=>exact ⟨_,_,ns,rfl,rfl,ho,wQ ns _ hall,hlen⟩
theorem Kd (l:OpenLaw) (args:List WData):l.row.toRowW.claim.post args (.bool true) args=true:=
 postW_of (r:=l.row.toRowW) (X:=(true==true))
  (show WShape.has [] (.bool true) .bool=true by first |rfl|decide|simp [WShape.has,WShape.arms,WShape.armsAll])
  (show (WTm.eq .res (.lit (.bool true))).value [] {args:=args,res:=some (.bool true),after:=args}=some (.bool (true==true)) from w_eq_bool (w_res rfl) w_lit) rfl
theorem GQ {l:OpenLaw} {n:Nat} {q:Program} {loose:List Str} {XP:(Str->Option Value)->Heap->Prop} {YP:World->Heap->Prop} {d:DefRec}
 (hn:l.most=some n) (hdf:d.params.defaults=[])
 (call:∀(w:World) (s₀ s₁:Shared) (mg mb:Str->Option Value) (fa:Addr) (o:Obj) (pm cd doc:Value) (a:Addr) (vs:List Value) (ns:List Int),
   Ground q loose [] XP w s₀ mg mb s₁.heap->YP w s₁.heap ->
   s₁.heap.get? fa=some o->o.data = .func (docDef d.name d.params d.body d.scope pm cd doc)->s₁.heap.CodeRec cd d.name->mg d.name=some (.ref fa) ->
   s₁.heap.get? a=some {cls:= .type "list",data:= .seq vs.toArray}->IntsAre vs ns->ns.length<=n->s₁.gens = #[] ->
   codeAny (model l.prog w) callerA (.call (.ref fa) ⟨[.ref a],[]⟩) (fun r s'=>r = .ok (.ret (.bool true))/\OldK s₁.heap s'.heap/\s'.os=s₁.os/\AllBare s'.gens) s₁):
 WalkO q loose XP YP l.row.toRowW d [] (fun f vs=>PySem.call f vs):=by
 intro w s₀ s₁ mg mb G Y fa o pm cd doc dV kV ho hd hcd hD hmg hg args vals as hpre hlay hrd hwl hlo;obtain rfl:dV = .none:=Dflts.none hD hdf;obtain rfl:kV = .none:=Dflts.noKw hD;obtain ⟨a,vs,ns,rfl,rfl,hobj,hints,hlen⟩:=Ka hn hpre hwl;refine enter_call (codeAny_mono (call w s₀ s₁ mg mb fa o pm cd doc a vs ns G Y ho (fd_plain hd) hcd hmg hobj hints hlen hg) fun r s' hq=> ?_);obtain ⟨rfl,h2,h3,h4⟩:=hq;exact ⟨.inl ⟨.bool true,.bool true,[],rfl,fun _=>rfl,.bool true,Kd l _,fun _=>⟨List.Pairwise.nil,fun _ hm=>(nomatch hm)⟩⟩,h2,h3,h4⟩
section
variable {prog:Program} {w:World} {A:Around} {E:Value->Shared->Prop} {s:Shared} {K:Frag}
def ledger (h:Heap) (L d:Addr):List (Addr×Obj):=(List.range h.objs.size).filterMap fun a=>if a=L\/a=d then none else (h.get? a).map fun o=>(a,o)
end
end Att
namespace L2
open PySem PySem.Spec PyProof.Rows
theorem J2 {vs:List Value} {ns:List Int} (h:IntsAre vs ns):Vals (ns.map V.int) vs:=by
 induction h with
 | nil=>exact .nil
 | cons n t h ih=>exact .cons ⟨t,rfl⟩ ih
def Only (H:Hp):Prop:=∀b,H b=none \/ ∃o xs,H b=some (.Gf o (.lst xs))
theorem Oq {P:Program} {w:World} {K:PySem.W.Frag} {mg mb:Str->Option Value} {CX:LQ} {k:Nat} {fa a:Addr} {fd:FuncData} {x:Str} {sp:Sp} {s₁:Shared} {vs:List Value} {ns:List Int}
 (KX:K.In s₁.heap) (hns:s₁.heap.Ns mainGlobals mg) (hb:s₁.heap.Ns builtinsNs mb) (hbb:∀x:Str,x ≠ "__name__" -> mb x=bootBuiltins x) (hlim:s₁.heap.NoLimit) (hg:s₁.gens = #[])
 (ha:s₁.heap.get? a=some {cls:= .type "list",data:= .seq vs.toArray}) (hi:IntsAre vs ns) (hl:ns.length<=sizeLine) (hr:gR k callerA)
 (F:∀base:Heap,K.In base->base.Ns mainGlobals mg->bW P w K mg base CX k fa fd [x] sp) (hbind:∀(s:Shared) (u:Value),BindsTo s fd ⟨[u],[]⟩ [(x,u)])
 (hsp:∀H:Hp,Only H->bK K H a (ns.map V.int)->sp [.ref a] H (fun v _=>v = .bl true) fun _ _ _=>False)
 (hCX:∀H e s',CX [] H s₁ (fun _ _ _=>False) e s'->False):
 codeAny (model P w) callerA (.call (.ref fa) ⟨[.ref a],[]⟩) (fun r s'=>r = .ok (.ret (.bool true))/\OldK s₁.heap s'.heap/\s'.os=s₁.os/\AllBare s'.gens) s₁:=by
 have rv:=J2 hi;have lenV:=hi.length
 have core:∀H:Hp,Only H->bK K H a (ns.map V.int)->rC P w H s₁.heap->(∀b,H b≠none->b=a)->(H a≠none->K.lookup a=none) ->
  codeAny (model P w) callerA (.call (.ref fa) ⟨[.ref a],[]⟩) (fun r s'=>r = .ok (.ret (.bool true))/\OldK s₁.heap s'.heap/\s'.os=s₁.os/\AllBare s'.gens) s₁:=by
  intro H hO hS hok hA hK;have JR:∀{b:Addr} {o:Obj},s₁.heap.get? b=some o->H b=none->(DN s₁.heap H).get? b=some o:=fun e n=>Ox e n
  have Zj:∀{b:Addr} {o:Obj} {es:Array DictEntry} {ep:Nat},s₁.heap.get? b=some o->o.data = .dict es ep->H b=none:=fun {b o es ep} e d=>by
   cases q:H b with
   | none=>rfl
   | some u=>
     have e':b=a:=hA b (by rw [q];simp);subst e';rw [ha] at e;cases e;have d':Data.seq vs.toArray _=Data.dict es ep:=d;cases d'
  have nsK:∀{b:Addr} {m:Str->Option Value},s₁.heap.Ns b m->(DN s₁.heap H).Ns b m:=fun {b m} ⟨o,es,ep,e,d,r⟩=>⟨o,es,ep,JR e (Zj e d),d,r⟩
  have hKb:K.In (DN s₁.heap H):=fun b o e=>JR (KX b o e) (by
   cases q:H b with
   | none=>rfl
   | some u=>
     have e':b=a:=hA b (by rw [q];simp);subst e';rw [hK (by rw [q];simp)] at e;cases e)
  have hM:Mod K mg (DN s₁.heap H):=⟨hKb,nsK hns,⟨mb,nsK hb,hbb⟩,let ⟨mc,h1,h2⟩:=hlim;⟨mc,nsK h1,h2⟩⟩;have e0:A_ P w K mg (DN s₁.heap H) callerA [] s₁ H:=⟨rfl,hM,fun b o e=>Rr e,Nat.le_of_eq (K6 _ _),trivial,fun b hb=>absurd (show b∈([]:List Addr) from hb) (by simp),hok,.of_eq hg⟩;refine codeAny_mono ((F _ hKb (nsK hns)).run callerA [] s₁ H ⟨[.ref a],[]⟩ [.ref a] [.ref a] _ _ hr e0 (hbind s₁ (.ref a)) (.cons rfl .nil) (hsp H hO hS)) fun r s' h=> ?_;cases r with
  | error e=>exact (hCX H e s' h).elim
  | ok fl=>
    cases fl with
    | next=>exact False.elim h
    | brk=>exact False.elim h
    | cont=>exact False.elim h
    | ret u=>
      obtain ⟨v,H',os,bare,un,hok',r',q⟩:=h;have q':v = .bl true:=q;subst q';obtain rfl:u=Value.bool true:=r';refine ⟨rfl,OldK.of_keep fun b o e=> ?_,os,bare⟩;cases q:H b with
      | none=>exact un.keep b o e q (by intro z;exact absurd (show b∈([]:List Addr) from z) (by simp)) (by simp)
      | some u=>
        rcases hO b with z|⟨ob,xs,z⟩
        ·rw [q] at z;cases z
        ·have z2:=un.vX b ob _ z
         obtain ⟨e1,_⟩:=hok b _ z;obtain ⟨e2,_⟩:=hok' b _ z2;rw [e] at e1;cases e1;exact e2
 cases hk:K.lookup a with
 | some o=>
   have e:=KX a o hk;rw [ha] at e;cases e;refine core (fun _=>none) (fun _=> .inl rfl) (.inr ⟨_,vs.toArray,_,hk,rfl,rfl,rfl,by rw [List.size_toArray,lenV];exact hl,by simpa using rv⟩) (fun b u z=>by have z':(none:Option HO)=some u:=z;cases z') (fun b z=>absurd rfl z) fun z=>absurd rfl z
 | none=>
   refine core (fun b=>if b=a then some (.Gf {cls:= .type "list",data:= .seq vs.toArray} (.lst (ns.map V.int))) else none) (fun b=> ?_) (.inl (.inr ⟨{cls:= .type "list",data:= .seq vs.toArray},if_pos rfl⟩)) (fun b u z=> ?_) (fun b z=> ?_) fun _=>hk
   ·by_cases hb:b=a
    ·exact .inr ⟨_,_,if_pos hb⟩
    ·exact .inl (if_neg hb)
   ·by_cases hb:b=a
    ·have z':=(if_pos hb).symm.trans z
     cases z';subst hb;exact ⟨ha,by rw [List.length_map];exact hl,vs,_,rv,ha⟩
    ·have z':=(if_neg hb).symm.trans z
     cases z'
   ·by_cases hb:b=a
    ·exact hb
    ·exact absurd (if_neg hb) z
end L2
namespace L2
open PySem PySem.Spec PyProof.Rows
abbrev KOf {K:PySem.W.Frag} {h:Heap} (_:K.In h):PySem.W.Frag:=K
theorem Qs {l:PySem.W.OpenLaw} {n k:Nat} {q:Program} {loose:List Str} {XP:(Str->Option Value)->Heap->Prop} {YP:World->Heap->Prop} {d:DefRec} {K:Params->PySem.W.Frag} {CX:World->LQ} {sp:World->Sp} {x:Str}
 (hn:l.most=some n) (hn2:n<=sizeLine) (hdf:d.params.defaults=[]) (hr:gR k callerA)
 (hY:∀(w:World) (h:Heap),YP w h->(K w.params).In h)
 (F:∀(w:World) (mg:Str->Option Value) (fa:Addr) (h:Heap),(K w.params).In h->h.Ns mainGlobals mg->mg d.name=some (.ref fa) ->
   ∃fd:FuncData,(∀(s:Shared) (u:Value),BindsTo s fd ⟨[u],[]⟩ [(x,u)]) /\
    ∀base:Heap,(K w.params).In base->base.Ns mainGlobals mg->bW l.prog w (K w.params) mg base (CX w) k fa fd [x] (sp w))
 (hsp:∀(w:World) (H:Hp) (a:Addr) (ns:List Int),ns.length<=n->Only H->bK (K w.params) H a (ns.map V.int)->sp w [.ref a] H (fun v _=>v = .bl true) fun _ _ _=>False)
 (hCX:∀(w:World) (H:Hp) (s:Shared) (e:Value) (s':Shared),CX w [] H s (fun _ _ _=>False) e s'->False):
 PySem.W.WalkO q loose XP YP l.row.toRowW d [] (fun f vs=>PySem.call f vs):=by
 refine Att.GQ hn hdf fun w s₀ s₁ mg mb fa o pm cd doc a vs ns G Y ho hd hcd hmg hobj hints hlen hg=> ?_;have KX:=hY w _ Y;obtain ⟨fd,hb,hF⟩:=F w mg fa _ KX G.T.g hmg;exact Oq KX G.T.g G.T.b G.T.builtins G.T.nolimit hg hobj hints (Nat.le_trans hlen hn2) hr hF hb (fun H hO hS=>hsp w H a ns hlen hO hS) fun H e s'=>hCX w H s₁ e s'
end L2
namespace L2
open PySem PySem.Spec PyProof.Rows
def inClass (s:Stmt) (j:Nat):Stmt:=match s with
 | .ClassDef _ _ _ body _ _ _ _ _ _ _=>body.getD j (.Pass ⟨0,0,0,0⟩)
 | _=> .Pass ⟨0,0,0,0⟩
def aO (s:Stmt):Arguments:=match s with
 | .FunctionDef _ a _ _ _ _ _ _ _ _=>a
 | _=>{posonlyargs:=[],args:=[],vararg:=none,kwonlyargs:=[],kw_defaults:=[],kwarg:=none,defaults:=[]}
def aM (s:Stmt):List Stmt:=match s with
 | .FunctionDef _ _ b _ _ _ _ _ _ _=>b
 | _=>[]
def aA (s:Stmt):Scope:=match s with
 | .FunctionDef _ _ _ _ _ _ sc _ _ _=>sc
 | _=>{kind:= .function,names:=[],isGenerator:=false,isCoroutine:=false}
abbrev lE:LQ:=fun _ _ _ _ _ _=>False
abbrev E0:XK:=fun _ _ _=>False
theorem Jt {X:Cx}:Passes lE X E0:=fun _ _ _ _ _ _ _ h=>h.elim
structure j9 (K:PySem.W.Frag) (x qual:Str) (st:Stmt) (f:Addr) (fd:FuncData):Prop where
 ex:∃(oc:Value) (od:Option Addr) (kV doc pm:Value) (an:Option Addr) (cdv ct:Value) (osl:Array (Option Value)),
  fd=PySem.W.fnOf x qual (aO st) (aM st) (aA st) .none kV doc pm an cdv ct/\K.lookup f=some ⟨oc,od,.func fd,osl⟩/\PySem.W.codeIn K cdv qual=true
 kp:PySem.W.keepIn K (.ref f)=true
section
variable {P:Program} {w:World} {K:PySem.W.Frag} {mg:Str->Option Value} {base:Heap}
theorem j9.ok {x qual:Str} {st:Stmt} {f:Addr} {fd:FuncData} {N ps:List Str} {k:Nat} {sp:Sp} (F:j9 K x qual st f fd) (S:bA N ps (aA st)) (len:∀vs H Q E,sp vs H Q E->vs.length=ps.length)
 (hbody:∀(cdv:Value) (A:Around) (outer:List Env) (s:Shared) (H:Hp) (vs:List V) (Q:VK) (E:XK),gR k (A.deeper (envOfC qual (aA st) s.heap.objs.size f cdv))->sp vs H Q E ->
   ∃t,GX (pP lE P w K mg base N qual (aA st) f cdv A outer s H E).nox (aM st) t/\t {nx:=fun _ H'=>Q .non H',rt:=Q} (start N vs) H):bW P w K mg base lE (k+1) f fd ps sp:=by
 obtain ⟨oc,od,kV,doc,pm,an,cdv,ct,osl,rfl,lk,hcd⟩:=F.ex;refine O_ lk hcd S len fun A outer s H vs Q E hr hsp=> ?_;obtain ⟨t,h,q⟩:=hbody cdv A outer s H vs Q E hr hsp;exact ⟨t,h.nox,q⟩
theorem j9.binds {x qual:Str} {st:Stmt} {f:Addr} {fd:FuncData} {ps:List Str} (F:j9 K x qual st f fd)
 (h:∀(kV doc pm:Value) (an:Option Addr) (cdv ct:Value) (us:List Value),us.length=ps.length->bindArgs (PySem.W.fnOf x qual (aO st) (aM st) (aA st) .none kV doc pm an cdv ct) ⟨us,[]⟩=pure (ps.zip us)):Binds K fd ps []:=by
 obtain ⟨oc,od,kV,doc,pm,an,cdv,ct,osl,rfl,lk,hcd⟩:=F.ex;exact .all (h kV doc pm an cdv ct)
theorem bQ {x qual:Str} {st:Stmt} {f:Addr} {oc:Value} {od an:Option Addr} {osl:Array (Option Value)} {kV doc pm cdv ct:Value} (l:K.lookup f=some ⟨oc,od,.func (PySem.W.fnOf x qual (aO st) (aM st) (aA st) .none kV doc pm an cdv ct),osl⟩)
 (c:PySem.W.codeIn K cdv qual=true) (k:PySem.W.keepIn K (.ref f)=true):j9 K x qual st f (PySem.W.fnOf x qual (aO st) (aM st) (aA st) .none kV doc pm an cdv ct):=⟨⟨oc,od,kV,doc,pm,an,cdv,ct,osl,rfl,l,c⟩,k⟩
end
theorem Us {A:Around} {k:Nat} (hr:gR k A):A.units+1<cLine:=Nat.lt_of_le_of_lt (Nat.add_le_add_left (by decide:1<=64) _) hr.units
section
variable {X:Cx}
theorem pv (i:Nat) {x:Str} {pos:Pos} (hN:X.N[i]? = some x:=by rfl) (hv:Vis X.env.scope x:=by first |exact Or.inl rfl|exact Or.inr (Or.inl rfl)|exact Or.inr (Or.inr rfl)) (hd:(x==("__debug__" :Str))=false:=by decide)
 (hcd:(x==("__classdict__" :Str))=false:=by decide):PE X (.Name x pos) (Yy i):=V5 hN hv hd hcd
end
theorem dZ {A B:Prop} (h:B):if false=true then A else B:=by
 rw [if_neg Bool.false_ne_true];exact h
theorem jr {A B:Prop} (h:A):if true=true then A else B:=by
 rw [if_pos rfl];exact h
theorem dz {c A B:Prop} [Decidable c] (h1:c->A) (h2:¬c->B):if c then A else B:=by
 by_cases h:c
 ·rw [if_pos h]
  exact h1 h
 ·rw [if_neg h]
  exact h2 h
theorem uM {c A B:Prop} [Decidable c] (hc:c) (h:B):if (!decide c)=true then A else B:=by
 rw [decide_eq_true hc];exact dZ h
def Same (H H':Hp):Prop:=∀b o,H b=some o->H' b=some o
theorem Same.refl (H:Hp):Same H H:=fun _ _ h=>h
theorem Same.trans {H H1 H2:Hp} (a:Same H H1) (b:Same H1 H2):Same H H2:=fun c o h=>b c o (a c o h)
theorem Same.free {H H':Hp} (e:Same H H') {l:Addr} (h:H' l=Option.none):H l=Option.none:=by
 cases q:H l with
 | none=>rfl
 | some o=>
   rw [e l o q] at h;cases h
theorem Same.seq {K:PySem.W.Frag} {H H':Hp} {a:Addr} {xs:List V} (e:Same H H') (h:bK K H a xs):bK K H' a xs:=by
 rcases h with (h|⟨o,h⟩)|h
 ·exact .inl (.inl (e _ _ h))
 ·exact .inl (.inr ⟨o,e _ _ h⟩)
 ·exact .inr h
section
variable {κ:Type} [DecidableEq κ]
end
end L2
set_option Elab.async false
set_option linter.all false
set_option maxRecDepth 100000
set_option maxHeartbeats 4000000
namespace L2
open PySem PySem.Spec PyProof.Rows
theorem Bm {a n:Addr} (h:a<n): @LT.lt Nat _ a n:=h
def qD (env:Env):List (Str×NameKind)->List (Str×Addr)->List (Str×Addr)
 | [],acc=>acc
 | (n,k)::r,acc=>if k == .free then qD env r ((n,(env.cells.lookup n).getD 0)::acc) else qD env r acc
theorem Iu {env:Env} {scope:Scope} (h:∀y∈scope.names,y.2 = .free->(env.cells.lookup y.1).isSome=true):closureFor scope env=pure (qD env scope.names []):=by
 have go:∀(ns:List (Str×NameKind)) (acc:List (Str×Addr)),(∀y∈ns,y.2 = .free->(env.cells.lookup y.1).isSome=true) ->
  (forIn ns acc (fun x cs=>match x with |(name,kind)=>if (kind == .free)=true then do let c ←cellOf env name;pure (ForInStep.yield ((name,c)::cs)) else pure (ForInStep.yield cs)):Sem (List (Str×Addr)))=pure (qD env ns acc):=by
  intro ns
  induction ns with
  | nil=>intro acc _;rfl
  | cons y r ih=>
    intro acc hy;obtain ⟨n,k⟩:=y;rw [List.forIn_cons]
    by_cases hk:k = .free
    ·subst hk
     have hs:=hy (n,.free) List.mem_cons_self rfl;obtain ⟨c,hc⟩:=Option.isSome_iff_exists.mp hs;have e:cellOf env n=pure c:=by unfold cellOf;rw [hc]
     show _=pure (qD env r ((n,(env.cells.lookup n).getD 0)::acc));rw [←ih _ fun y hm=>hy y (List.mem_cons_of_mem _ hm)];simp only [beq_self_eq_true,if_true,e,pure_bind,hc,Option.getD_some]
    ·have hb:(k==NameKind.free)=false:=by simpa using hk
     have hc:qD env ((n,k)::r) acc=qD env r acc:=by
      show (if (k==NameKind.free)=true then _ else _)=_;rw [if_neg (by rw [hb];decide)]
     rw [hc,←ih _ fun y hm=>hy y (List.mem_cons_of_mem _ hm)];simp only [hb,Bool.false_eq_true,if_false,pure_bind]
 have q:=go scope.names [] h;unfold closureFor;show (forIn scope.names [] _ >>= fun r=>pure r)=_;rw [bind_pure];exact q
theorem kj {env:Env}:∀(ns:List (Str×NameKind)) (acc:List (Str×Addr)) (x:Str),(∀y∈ns,y.2 = .free->(env.cells.lookup y.1).isSome=true) ->
 (qD env ns acc).lookup x=if (x,NameKind.free)∈ns then env.cells.lookup x else acc.lookup x
 | [],acc,x,_=>by simp [qD]
 | (n,k)::r,acc,x,h=>by
   have hr:∀y∈r,y.2 = .free->(env.cells.lookup y.1).isSome=true:=fun y hm=>h y (List.mem_cons_of_mem _ hm)
   by_cases hk:k = .free
   ·subst hk
    show (qD env r ((n,(env.cells.lookup n).getD 0)::acc)).lookup x=_;rw [kj r _ x hr];obtain ⟨c,hc⟩:=Option.isSome_iff_exists.mp (h (n,.free) List.mem_cons_self rfl);have hc:env.cells.lookup n=some c:=hc
    by_cases hm:(x,NameKind.free)∈r
    ·rw [if_pos hm,if_pos (List.mem_cons_of_mem _ hm)]
    ·rw [if_neg hm]
     by_cases e:x=n
     ·subst e
      rw [if_pos List.mem_cons_self,List.lookup_cons,hc];simp
     ·rw [if_neg (fun z=>(List.mem_cons.mp z).elim (fun q=>e (congrArg Prod.fst q)) hm),List.lookup_cons]
      have:(x==n)=false:=by simpa using e
      rw [this]
   ·have hb:(k==NameKind.free)=false:=by simpa using hk
    have hc:qD env ((n,k)::r) acc=qD env r acc:=by
     show (if (k==NameKind.free)=true then _ else _)=_;rw [if_neg (by rw [hb];decide)]
    rw [hc,kj r acc x hr]
    have:((x,NameKind.free)∈(n,k)::r)↔(x,NameKind.free)∈r:=by
     constructor
     ·intro z
      rcases List.mem_cons.mp z with q|q
      ·exact absurd (congrArg Prod.snd q).symm hk
      ·exact q
     ·exact List.mem_cons_of_mem _
    simp only [this]
theorem lZ (env:Env):∀(ns:List (Str×NameKind)) (x:Str),
 (ns.map fun (n,k)=>if (k == .free&&env.scope.kind == .function&&env.kindOf n==some .cell) then (n,NameKind.cell) else (n,k)).lookup x =
   (ns.lookup x).map fun k=>if (k == .free&&env.scope.kind == .function&&env.kindOf x==some .cell)=true then NameKind.cell else k
 | [],x=>rfl
 | (n,k)::r,x=>by
   show List.lookup x ((if (k==NameKind.free&&env.scope.kind == .function&&env.kindOf n==some .cell)=true then (n,NameKind.cell) else (n,k))::_)=_;cases hx:x==n with
   | true=>
     have e:x=n:=by simpa using hx
     subst e
     by_cases hc:(k==NameKind.free&&env.scope.kind == .function&&env.kindOf x==some .cell)=true
     ·rw [if_pos hc];simp only [List.lookup_cons,hx,Option.map_some,if_pos hc]
     ·rw [if_neg hc];simp only [List.lookup_cons,hx,Option.map_some,if_neg hc]
   | false=>
     have ih:=lZ env r x
     by_cases hc:(k==NameKind.free&&env.scope.kind == .function&&env.kindOf n==some .cell)=true
     ·rw [if_pos hc];simp only [List.lookup_cons,hx];exact ih
     ·rw [if_neg hc];simp only [List.lookup_cons,hx];exact ih
structure bh (N own:List Str) (caps:List Nat) (XN:List Str) (outer scope:Scope):Prop where
 kind:scope.kind = .function
 Oc:∀y∈scope.names,y.2 ≠ .cell
 names:∀y∈scope.names,y.2 = .local->scope.names.lookup y.1=some .local
 free:∀y∈scope.names,y.2 = .free->outer.names.lookup y.1=some .cell\/outer.names.lookup y.1=some .free
 nd:N.Nodup
 len:N.length=own.length+caps.length
 cap:∀(j:Nat),j<caps.length->N[own.length+j]? = XN[caps.getD j 0]? /\ ∃x,N[own.length+j]? = some x/\(x,NameKind.free)∈scope.names/\scope.names.lookup x=some .free
def st0 (own:List Str) (caps:List Nat) (σ:St):St:=own.map (fun _=>none)++caps.map (fun i=>(σ[i]?).join)
def h_ (X:Cx) (scope:Scope) (C:Addr) (N:List Str) (s:Shared) (H:Hp) (fp:List Addr):Cx:=
 {X with N:=N,s₀:=s,H₀:=H,env:=compEnvC scope (qD X.env scope.names []) C X.env,outer:=X.stack,ex:=fp,fn:=fun _=>false,pn:=[],xe:=fun _ _=>False}
section
variable {X:Cx} {pins:List (Addr×Obj)} {σ:St} {H:Hp} {s:Shared} {scope:Scope} {N own:List Str} {caps:List Nat} {fp:List Addr} {C:Nat}
theorem bh.Py (S:bh N own caps X.N X.env.scope scope) (ok:X.Ok):∀y∈scope.names,y.2 = .free->(X.env.cells.lookup y.1).isSome=true:=fun y hy hf=>by
 obtain ⟨c,e⟩:=ok.has y.1 (S.free y hy hf);rw [e];rfl
theorem bh.csub (S:bh N own caps X.N X.env.scope scope) (ok:X.Ok) {x:Str} {c:Addr} (h:(qD X.env scope.names []).lookup x=some c):X.env.cells.lookup x=some c:=by
 rw [kj _ _ _ (S.Py ok)] at h;split at h
 ·exact h
 ·simp at h
theorem bh.Oi {S:bh N own caps X.N X.env.scope scope} {x:Str} (h:(relabel scope X.env).names.lookup x=some .cell\/(relabel scope X.env).names.lookup x=some .free):(x,NameKind.free)∈scope.names:=by
 have e:=lZ X.env scope.names x;have e':(relabel scope X.env).names.lookup x=(scope.names.lookup x).map fun k=>if (k == .free&&X.env.scope.kind == .function&&X.env.kindOf x==some .cell)=true then NameKind.cell else k:=e;rw [e'] at h;cases q:scope.names.lookup x with
 | none=>rw [q] at h;simp at h
 | some k=>
   have hm:=PySem.mem_of_lookup q
   by_cases hk:k = .free
   ·subst hk;exact hm
   ·rw [q] at h
    have hb:(k==NameKind.free)=false:=by simpa using hk
    simp only [Option.map_some,hb,Bool.false_and,Bool.false_eq_true,if_false] at h;rcases h with h|h
    ·exact absurd (Option.some.inj h) (S.Oc _ hm)
    ·exact absurd (Option.some.inj h) hk
theorem Inv.comp {h1:Heap} {D:Nat} (I:Inv X pins σ H s) (S:bh N own caps X.N X.env.scope scope) (hfp:∀b∈fp,qL X pins H b) (hfo:∀b∈fp,∃o,s.heap.get? b=some o)
 (hD:D=s.heap.objs.size) (hC:C=s.heap.objs.size+1) (old:∀b o,s.heap.get? b=some o->h1.get? b=some o) (hns:h1.Ns C (fun _=>none)) (hl:h1.get? D=some {cls:= .type "list",data:= .seq #[]}) {t:Nat}:
 Inv (h_ X scope C N s H fp) [] (st0 own caps σ) (upd H D (.lst [])) {s with heap:=h1,toks:=t}:=by
 have some':=S.Py I.ok;have sub:∀{x c},(qD X.env scope.names []).lookup x=some c->X.env.cells.lookup x=some c:=fun h=>S.csub I.ok h;have freshD:H D=none:=I.hok.fresh (by rw [hD];exact Nat.le_refl _);have W3:H C=none:=I.hok.fresh (by rw [hC];exact Nat.le_succ _)
 have Xc:∀x c,X.env.cells.lookup x=some c->c<s.heap.objs.size:=fun x c e=>by
  obtain ⟨v,z⟩:=I.cell x c e;exact z.lt
 have ah1:∀b∈fp,b<s.heap.objs.size:=fun b hb=>by
  obtain ⟨o,e⟩:=hfo b hb;exact Heap.lt_size e
 have DC:D≠C:=by omega
 refine ⟨⟨I.ok.mod,S.kind,I.ok.glob,I.ok.blt,by show s.heap.objs.size<=C;omega,fun x y c e1 e2=>I.ok.inj x y c (sub e1) (sub e2),fun x h=> ?_,fun x c h=>(by cases h),I.ok.hd,I.ok.frames,Or.inl rfl,fun b hb=>⟨?_,fun x c e=> ?_⟩,I.bs,Nat.le_trans I.ok.Iz I.sz,fun b o e hb=> ?_,fun b hb z=> ?_,I.stack,I.Cq⟩,
  rfl,I.bare,Un.laid old (by show s.heap.objs.size<=D;omega) freshD,⟨_,hns,fun j x v e1 e2 e3=> ?_⟩,fun x c e=> ?_, ?_,fun x c e=> ?_,fun p hp=> ?_,I.hok.laid old (by omega) ?_, ?_⟩
 ·have hm:=bh.Oi (S:=S) (X:=X) h
  obtain ⟨c,e⟩:=Option.isSome_iff_exists.mp (some' _ hm rfl);exact ⟨c,by show (qD X.env scope.names []).lookup x=_;rw [kj _ _ _ some',if_pos hm];exact e⟩
 ·exact Nat.ne_of_lt (show @LT.lt Nat _ b C by have:=Bm (ah1 b hb);omega)
 ·exact (hfp b hb).2.2.2.2.1 x c (sub e)
 ·rcases (hfp b hb).2.2.2.1 with z|z
  ·exact I.ok.Ds b o e z
  ·exact absurd (Nat.lt_of_lt_of_le (Heap.lt_size e) (Nat.le_trans I.ok.Iz z)) (Nat.lt_irrefl _)
 ·rcases List.mem_cons.mp (I.yt b z) with q|q
  ·exact (hfp b hb).2.1 q
  ·exact (hfp b hb).2.2.1 q
 ·have e1:N[j]? = some x:=e1
  have hj:own.length<=j:=by
   by_cases q:own.length<=j
   ·exact q
   ·exfalso
    unfold st0 at e2;rw [List.getElem?_append_left (by simp;omega),List.getElem?_map] at e2;cases r:own[j]? with
    | none=>rw [r] at e2;cases e2
    | some a=>rw [r] at e2;cases e2
  have hjl:j<N.length:=(List.getElem?_eq_some_iff.mp e1).1;have hjc:j - own.length<caps.length:=by have:=S.len;omega
  obtain ⟨c1,x',c2,c3,c4⟩:=S.cap (j - own.length) hjc;rw [show own.length+(j - own.length)=j by omega] at c1 c2;rw [e1] at c2;cases c2
  have e2':(σ[caps.getD (j - own.length) 0]?).join=some v:=by
   unfold st0 at e2;rw [List.getElem?_append_right (by simp;omega),List.getElem?_map,List.length_map] at e2;rw [List.getD_eq_getElem?_getD];cases r:caps[j - own.length]? with
   | none=>rw [r] at e2;cases e2
   | some a=>rw [r] at e2;exact Option.some.inj e2
  have aia:σ[caps.getD (j - own.length) 0]? = some (some v):=by
   cases r:σ[caps.getD (j - own.length) 0]? with
   | none=>rw [r] at e2';cases e2'
   | some a=>rw [r] at e2';exact congrArg Option.some e2'
  have kx:X.env.kindOf x=some .cell\/X.env.kindOf x=some .free:=S.free _ c3 rfl;obtain ⟨m,hn,hl'⟩:=I.loc;obtain ⟨u,r,l⟩:=hl' _ x v (by rw [←c1];exact e1) aia (by rcases kx with z|z;exact .inr (.inl z);exact .inr (.inr z));refine ⟨u,r,.inr ⟨?_, ?_⟩⟩
  ·show (relabel scope X.env).names.lookup x=some .cell\/(relabel scope X.env).names.lookup x=some .free
   have e:(relabel scope X.env).names.lookup x=(scope.names.lookup x).map fun k=>if (k == .free&&X.env.scope.kind == .function&&X.env.kindOf x==some .cell)=true then NameKind.cell else k:=lZ X.env scope.names x;rw [e,c4,Option.map_some];split
   ·exact .inl rfl
   ·exact .inr rfl
  ·rcases l with ⟨hk,_⟩|⟨_,c,hc,z⟩
   ·rcases kx with q|q<;>rw [hk] at q<;>cases q
   ·refine ⟨c, ?_, ?_⟩
    ·show (qD X.env scope.names []).lookup x=_
     rw [kj _ _ _ some',if_pos c3];exact hc
    ·obtain ⟨o,ho,hd⟩:=z
     exact ⟨o,old c o ho,hd⟩
 ·obtain ⟨v,o,ho,hd⟩:=I.cell x c (sub e)
  exact ⟨v,o,old c o ho,hd⟩
 ·show upd H D (.lst []) C=none
  rw [aF DC.symm];exact W3
 ·show upd H D (.lst []) c=none
  rw [aF (Nat.ne_of_lt (by have:=Bm (Xc x c (sub e));omega))];exact I.kh x c (sub e)
 ·cases hp
 ·exact ⟨Nat.zero_le _,[],0,.nil,hl⟩
 ·show (own.map (fun _=>none)++caps.map _).length=N.length
  rw [List.length_append,List.length_map,List.length_map,S.len]
theorem Inv.Mt {pL:List (Addr×Obj)} {σ':St} {H':Hp} {s':Shared} {h':Heap} (I:Inv X pins σ H s) (hfp:∀b∈fp,qL X pins H b) (hC:s.heap.objs.size<=C) (J:Inv (h_ X scope C N s H fp) pL σ' H' s') (hs:Heap.SameBut C s'.heap h'):
 Inv X pins σ H' {s' with heap:=h'}:=by
 have nC:∀b o,s.heap.get? b=some o->b≠C:=fun b o e=>Nat.ne_of_lt (by have:=Bm (Heap.lt_size e);omega);have u:=J.base;have frC:H' C=none:=J.free;refine I.call' (ch:=fp) (s':={s' with heap:=h'}) J.os ⟨fun b o e n hb hx=> ?_,fun b o e n hb hx=> ?_,u.free,fun b o e hx=> ?_,u.tups,u.vX,u.wL⟩ (fun a o e=>(J.hok a o e).stay (fun b v hb q=> ?_) (fun _ q=>q) fun _ _ q=>q) J.bare fun b hb=> ?_
 ·exact (hs.2 b (nC b o e)).trans (u.keep b o e n hb hx)
 ·obtain ⟨sl,q⟩:=u.slot b o e n hb hx
  exact ⟨sl,(hs.2 b (nC b o e)).trans q⟩
 ·obtain ⟨o',q⟩:=u.there b o e hx
  exact ⟨o',(hs.2 b (nC b o e)).trans q⟩
 ·refine (hs.2 b ?_).trans q
  intro z;subst z;rcases hb with z|z
  ·subst z;rw [frC] at e;cases e
  ·rw [frC] at z;cases z
 ·exact ⟨(hfp b hb).2.2.2.1,(hfp b hb).2.1,(hfp b hb).2.2.2.2.1,(hfp b hb).2.2.2.2.2⟩
end
section
variable {prog:Program} {w:World} {A:Around} {R:Result->Shared->Prop} {s:Shared}
theorem D_ {elt target iter:Expr} {ifs:List Expr} {scope:Scope} {pos:Pos} {it acc:Value} {env:Env} (I:Nat->Shared->Prop)
 (turn:∀n s,I n s->wpAny (model prog w) A (pyNext it) (fun r s1=>match r with
   | none=>R (.ok .next) s1
   | some v=>wpAny (model prog w) A (letOwnedTupleGo target it v) (fun _ s1'=>wpAny (model prog w) A (assign target env v) (fun _ s2=>
      wpAny (model prog w) A (forIn ifs true fun c r=>if r=true then do let ok ←isTrue c env (eval c env);pure (ForInStep.yield ok) else pure (ForInStep.yield r)) (fun ok s3=>
       if ok=true then wpAny (model prog w) A (eval elt env) (fun x s4=>
        wpAny (model prog w) A (call (.builtin "list.append") [acc,x]) (fun _ s5=>∃m,m<n/\I m s5) (fun _ _=>False) s4) (fun _ _=>False) s3
       else ∃m,m<n/\I m s3) (fun _ _=>False) s2) (fun _ _=>False) s1') (fun _ _=>False) s1) (fun _ _=>False) s)
 (n:Nat) (h:I n s):
 codeAny (model prog w) A (.compLoop (.ListComp elt [⟨target,iter,ifs,0⟩] scope pos) 0 it acc env) R s:=by
 refine codeAny_loop rfl I (fun n s hI=> ?_) n h;show wpAny _ A ((compTurn (.ListComp elt [⟨target,iter,ifs,0⟩] scope pos) 0 it acc env).onRaise (fun x=>do noteFrame x env;theTreesLotGoes x)) _ _ s;refine wpAny_noted ?_;rw [compTurn_list];refine wpAny_bind (wpAny_standAt (wpAny_bind (wpAny_mono (turn n s hI) (fun r s1 h1=> ?_) fun _ _ h'=>h'.elim)));cases r with
 | none=>exact wpAny_pure h1
 | some v=>
   refine wpAny_bind (wpAny_mono h1 (fun _ s1' h1'=> ?_) fun _ _ h'=>h'.elim);refine wpAny_bind (wpAny_mono h1' (fun _ s2 h2=>wpAny_bind (wpAny_mono h2 (fun ok s3 h3=> ?_) fun _ _ h'=>h'.elim)) fun _ _ h'=>h'.elim);cases ok with
   | false=>exact wpAny_pure ⟨rfl,h3⟩
   | true=>
     exact wpAny_bind (wpAny_bind (wpAny_mono h3 (fun x s4 h4=>wpAny_bind (wpAny_mono h4 (fun _ s5 h5=>wpAny_pure (wpAny_pure ⟨rfl,h5⟩)) fun _ _ h'=>h'.elim)) fun _ _ h'=>h'.elim))
end
def PTs (X:Cx) (ifs:List Expr) (t:TT):Prop:=
 ∀(pins:List (Addr×Obj)) (s:Shared) (σ:St) (H:Hp) (Q:Bool->Hp->Prop),Inv X pins σ H s->t σ H Q ->
  wpAny (model X.prog X.w) X.A (forIn ifs true fun c r=>if r=true then do let ok ←isTrue c X.env (eval c X.env);pure (ForInStep.yield ok) else pure (ForInStep.yield r)) (TP X pins σ Q) X.xe s
def wM:TT:=fun _ H Q=>Q true H
theorem dR {X:Cx}:PTs X [] wM:=fun _ _ _ H _ I h=>wpAny_tests_nil ⟨H,I,h⟩
theorem uG {X:Cx} {c:Expr} {t:TT} (h:PT X c t):PTs X [c] t:=fun pins s σ H Q I q=>wpAny_tests_one (h pins s σ H Q I q)
def mL (J:It) (g:TG) (tc:TT) (te:TE) (Q:VK) (D:Addr) (σ0:St) (H1:Hp):Prop:=
 ∃W:Nat->Nat->St->Hp->Prop,(∃m,W 0 m σ0 (upd H1 D (.lst []))) /\ ∀i m σ H,W i m σ H ->
  (J.stop i H/\Q (.ref D) H)\/(J.go i H /\ ∃N:St->Hp->Prop,(∀σ' H',N σ' H' -> ∃m',m'<m/\W (i+1) m' σ' H') /\ ∀x H',J.Xw i H x H'->g x σ H' fun σ2 H2=>tc σ2 H2 fun b H3=>
    if b=true then te σ2 H3 fun y H4=>∃acc,H4 D=some (.lst acc)/\acc.length<sizeLine/\N σ2 (upd H4 D (.lst (acc++[y]))) else N σ2 H3)
def M5 (own:List Str) (caps:List Nat) (wi:TI) (g:TG) (tc:TT) (te:TE):TE:=fun σ H Q=>wi σ H fun J H1=>∀D,H1 D=none->mL J g tc te Q D (st0 own caps σ) H1
section
variable {X:Cx} {elt tg iter:Expr} {ifs:List Expr} {scope:Scope} {pos:Pos} {N own:List Str} {caps:List Nat} {wi:TI} {g:TG} {tc:TT} {te:TE}
theorem Gu {use:Option (Value->Sem Unit)} {Qv:Value->Shared->Prop} {pins:List (Addr×Obj)} {σ:St} {H:Hp} {s:Shared} {Q:VK} (hc:X.calm=true) (S:bh N own caps X.N X.env.scope scope)
 (hg:∀C s H fp,PG (h_ X scope C N s H fp) tg g) (hcs:∀C s H fp,PTs (h_ X scope C N s H fp) ifs tc) (he:∀C s H fp,PE (h_ X scope C N s H fp) elt te)
 (hi:PI X tg iter wi) (hs:∀x,foldedSetIterable iter X.env x=pure x)
 (I:Inv X pins σ H s) (h:M5 own caps wi g tc te σ H Q)
 (fin:∀(D C:Addr) (H':Hp) (s':Shared),(∃m,s'.heap.Ns C m)->Inv X pins σ H' s'->(∀h',Heap.SameBut C s'.heap h'->Inv X pins σ H' {s' with heap:=h'})->qL X pins H' C->Q (.ref D) H' ->
   compPost (model X.prog X.w) X.A X.xe use Qv (.ref D) C (.ok .next) s'):
 wpAny (model X.prog X.w) X.A (comprehension (.ListComp elt [⟨tg,iter,ifs,0⟩] scope pos) scope X.env (firstIterPos [⟨tg,iter,ifs,0⟩] pos) (newList []) false (eval iter X.env) use) Qv X.xe s:=by
 refine wpAny_comprehension_free (use:=use) rfl hs (Iu (S.Py I.ok)) S.kind S.names (eF (hi pins s σ H _ I h) fun xv s1 h1=>eF h1 fun itv s2 h2=> ?_);obtain ⟨it,fp,tn,J,H2,e,I2,T,st2,f2,q2⟩:=h2;subst e;refine wpAny_newList ?_;refine wpAny_newFunctionEnv S.Oc (by intro y hy;simp at hy) (fun h1 ZX hsb1=> ?_) S.kind;dsimp only at ZX hsb1 ⊢;have hD:H2 s2.heap.objs.size=none:=I2.hok.fresh (Nat.le_refl _);have hsz:(s2.heap.push {cls:= .type "list",data:= .seq ([]:List Value).toArray}).objs.size=s2.heap.objs.size+1:=Heap.size_push ..
 have old:∀b o,s2.heap.get? b=some o->h1.get? b=some o:=fun b o e=>by
  refine hsb1.extBut b o (Nat.ne_of_lt (by have:=Bm (Heap.lt_size e);rw [hsz];omega)) (Heap.get?_push_of_some _ (Heap.get?_push_of_some _ e))
 have hl:h1.get? s2.heap.objs.size=some {cls:= .type "list",data:= .seq #[]}:=
  hsb1.extBut _ _ (Nat.ne_of_lt (by rw [hsz];omega)) (Heap.get?_push_of_some _ (Heap.get?_push_size _ rfl))
 have hfo:∀b∈fp,∃o,s2.heap.get? b=some o:=fun b hb=>let ⟨o,e,_⟩:=T.obj _ _ st2 b hb;⟨o,e⟩
 have I4:=Inv.comp (C:=(s2.heap.push {cls:= .type "list",data:= .seq ([]:List Value).toArray}).objs.size) (t:=s2.toks+([]:List (Str×Value)).length) I2 S f2 hfo rfl hsz old ZX hl;obtain ⟨W,⟨m0,w0⟩,turn⟩:=q2 _ hD;generalize hCe:(s2.heap.push {cls:= .type "list",data:= .seq ([]:List Value).toArray}).objs.size=C at *;generalize hDe:s2.heap.objs.size=D at *;have hDC:D≠C:=by omega
 have loop:∀s3:Shared,s3={s2 with heap:=h1,toks:=s2.toks+([]:List (Str×Value)).length} ->
  codeAny (model X.prog X.w) X.A (.compLoop (.ListComp elt [⟨tg,iter,ifs,0⟩] scope pos) 0 (.ref it) (.ref D) (h_ X scope C N s2 H2 fp).env) (compPost (model X.prog X.w) X.A X.xe use Qv (.ref D) C) s3:=by
  rintro s3 rfl
  have Gf:∀b∈fp,(upd H2 D (.lst [])) b=none:=fun b hb=>by
   obtain ⟨o,e⟩:=hfo b hb;rw [aF (Nat.ne_of_lt (by have:=Bm (Heap.lt_size e);omega))];exact (f2 b hb).1
  have stat:∀{H':Hp},(∀b∈fp,H' b=none) -> ∀b∈fp,qL (h_ X scope C N s2 H2 fp) [] H' b:=fun hn b hb=>by
   obtain ⟨o,e⟩:=hfo b hb;have hlt:=Bm (Heap.lt_size e);refine ⟨hn b hb, ?_,fun z=> ?_,.inl hb,fun x c e'=>(f2 b hb).2.2.2.2.1 x c (S.csub I2.ok e'),fun p hp=>(by cases hp)⟩
   ·exact Nat.ne_of_lt (show @LT.lt Nat _ b C by omega)
   ·rcases List.mem_cons.mp (I2.yt b z) with q|q
    ·exact (f2 b hb).2.1 q
    ·exact (f2 b hb).2.2.1 q
  refine D_ (fun n s'=>∃i σ' H',Inv (h_ X scope C N s2 H2 fp) [] σ' H' s'/\tn i s'.heap/\(∀b∈fp,H' b=none)/\W i n σ' H') ?_ m0
   ⟨0,_,_,I4,T.keep _ _ _ st2 fun b _ o e=>old b o e,Gf,w0⟩
  rintro n s3 ⟨i,σ3,H3,I3,st3,Z8,w3⟩;rcases turn i n σ3 H3 w3 with ⟨stop,qn⟩|⟨go,Nx,hNx,step⟩
  ·refine eF (T.done (h_ X scope C N s2 H2 fp) rfl rfl rfl hc i [] s3 σ3 H3 _ I3 (stat Z8) st3 stop) fun r s4 ⟨hr,J4⟩=> ?_
   subst hr;obtain ⟨m4,hn4,_⟩:=J4.loc;exact fin D C H3 s4 ⟨m4,hn4⟩ (I2.Mt f2 (by omega) J4 (Heap.SameBut.refl _ _)) (fun h' hs'=>I2.Mt f2 (by omega) J4 hs') (I2.zp (show s2.heap.objs.size<=C by omega) J4.free) qn
  ·refine eF (T.item (h_ X scope C N s2 H2 fp) rfl rfl rfl hc i [] s3 σ3 H3 _ I3 (stat Z8) st3 go) fun r s4 ⟨u,hr,h4⟩=> ?_
   subst hr;refine eF h4 fun _ s5 ⟨x,H5,I5,r5,y5,Vq,fr5⟩=> ?_;have I5':=I5.pinned (stat fr5) (T.obj _ _ Vq);refine eF (hg C s2 H2 fp _ s5 σ3 H5 x u _ I5' r5 (step x H5 y5)) fun _ s6 ⟨σ6,H6,I6,q6⟩=> ?_;refine eF (hcs C s2 H2 fp _ s6 σ6 H6 _ I6 q6) fun ok s7 ⟨H7,I7,q7⟩=> ?_
   have again:∀{σ8:St} {H8:Hp} {s8:Shared},Inv (h_ X scope C N s2 H2 fp) ([]++yS fp s5.heap) σ8 H8 s8->Nx σ8 H8 -> ∃m,m<n /\ ∃i σ' H',Inv (h_ X scope C N s2 H2 fp) [] σ' H' s8/\tn i s8.heap/\(∀b∈fp,H' b=none)/\W i m σ' H':=fun {σ8 H8 s8} I8 n8=>by
    obtain ⟨m',hm,w8⟩:=hNx _ _ n8;refine ⟨m',hm,i+1,σ8,H8,I8.ud,T.keep _ _ _ Vq fun b hb o e=>(I8.pin (b,o) (List.mem_append_right _ (List.mem_append_right _ (o9 hb e)))).1,fun b hb=> ?_,w8⟩;obtain ⟨o,e,d⟩:=T.obj _ _ Vq b hb;exact (I8.pin (b,o) (List.mem_append_right _ (List.mem_append_right _ (o9 hb e)))).2.1
   cases ok with
   | false=>
     rw [if_neg (by decide)] at q7;exact again I7 q7
   | true=>
     rw [if_pos rfl] at q7;refine eF (he C s2 H2 fp _ s7 σ6 H7 _ I7 q7) fun y s8 ⟨yv,H8,I8,r8,acc,ha,hlen,q8⟩=> ?_;exact eF (Bp _ s8 σ6 H8 (.ref D) [yv] (.ref D) [y] (fun v H9=>Nx σ6 H9) I8 rfl (.cons r8 .nil) ⟨D,acc,yv,rfl,rfl,ha,hlen,q8⟩) fun _ s9 ⟨_,H9,I9,_,q9⟩=>again I9 q9
 exact codeAny_compStart_list (loop _ rfl) (T.self _ 0 _ _ _ (T.keep _ _ _ st2 fun b _ o e=>old b o e) (loop _ rfl))
theorem dU (hc:X.calm=true) (S:bh N own caps X.N X.env.scope scope) (hi:PI X tg iter wi)
 (hg:∀C s H fp,PG (h_ X scope C N s H fp) tg g) (hcs:∀C s H fp,PTs (h_ X scope C N s H fp) ifs tc) (he:∀C s H fp,PE (h_ X scope C N s H fp) elt te)
 (hs:∀x,foldedSetIterable iter X.env x=pure x:=by intro _;rfl):PE X (.ListComp elt [⟨tg,iter,ifs,0⟩] scope pos) (M5 own caps wi g tc te):=by
 intro pins s σ H Q I h;rw [eval_ListComp];refine Gu (use:=none) hc S hg hcs he hi hs I h ?_;intro D C H' s' hn I' hk _ q;obtain ⟨m,hn⟩:=hn;exact ⟨m,hn,fun h' hs'=>⟨.ref D,H',hk h' hs',rfl,q⟩⟩
theorem uH {i:Nat} {x:Str} {px sp:Pos} (hc:X.calm=true) (hN:X.N.Nodup) (hx:X.N[i]? = some x) (hl:Loc X.env.scope x) (S:bh N own caps X.N X.env.scope scope) (hi:PI X tg iter wi)
 (hg:∀C s H fp,PG (h_ X scope C N s H fp) tg g) (hcs:∀C s H fp,PTs (h_ X scope C N s H fp) ifs tc) (he:∀C s H fp,PE (h_ X scope C N s H fp) elt te)
 (hsw:swapsWith (.ListComp elt [⟨tg,iter,ifs,0⟩] scope pos) (some (.Name x px)) sp.line X.env=pure true:=by rfl)
 (hs:∀x,foldedSetIterable iter X.env x=pure x:=by intro _;rfl) (hf:X.fn x=true\/X.env.scope.names.lookup x=some .local:=by first |exact .inl rfl|exact .inr rfl|assumption):
 PS X (.Assign [.Name x px] (.ListComp elt [⟨tg,iter,ifs,0⟩] scope pos) sp) (Vp (M5 own caps wi g tc te) (gD i)):=by
 intro pins s σ H D I h;rw [exec_Assign_Name_used _ _ _ _ hsw];refine wpAny_bind (wpAny_standAt (wpAny_bind ?_));show wpAny _ X.A (do let _ ←comprehension (.ListComp elt [⟨tg,iter,ifs,0⟩] scope pos) scope X.env (firstIterPos [⟨tg,iter,ifs,0⟩] pos) (newList []) false (eval iter X.env) (some (assign (.Name x px) X.env))) _ _ s;refine wpAny_bind (wpAny_mono (Gu (use:=some (assign (.Name x px) X.env)) (Qv:=fun _ s'=>SP X pins D .next s') hc S hg hcs he hi hs I h ?_) (fun _ s' hq=>wpAny_pure (wpAny_pure hq)) fun _ _ e=>e);intro E C H' s' hn I' hk fC q;obtain ⟨m,hn⟩:=hn;obtain ⟨f0,f1,f2,f3,f4,f5⟩:=fC;show wpAny _ X.A (assign (.Name x px) X.env (.ref E)) _ _ _;refine wpAny_assign_Name (Bh I' hN hx hl (v:= .ref E) rfl (fun s2 I2 k=> ?_) hf);refine ⟨m, ?_,fun h' hs'=> ?_⟩
 ·obtain ⟨o,es,ep,ho,r⟩:=hn
  obtain ⟨a,ks,ka⟩:=k
  have hCa:C≠a:=fun z=>by
   rcases ka with q'|q'
   ·exact f1 (z.trans q')
   ·exact f4 x a q' z.symm
  exact ⟨o,es,ep,(ks.2 C hCa).trans ho,r⟩
 ·exact ⟨_,H',I2.turned (t':=s2.toks) (fun b o hb e=>(hs'.2 b hb).trans e) f0 f1 f3 f4 f5,q⟩
end
def PJ (N own:List Str) (caps:List Nat) (XN:List Str) (outer scope:Scope):Bool:=
 decide (scope.kind = .function)&&scope.names.all (fun y=>decide (y.2 ≠ .cell))&&scope.names.all (fun y=>decide (y.2 ≠ .local)||decide (scope.names.lookup y.1=some .local)) &&
 scope.names.all (fun y=>decide (y.2 ≠ .free)||decide (outer.names.lookup y.1=some .cell)||decide (outer.names.lookup y.1=some .free))&&decide N.Nodup&&decide (N.length=own.length+caps.length) &&
 (List.range caps.length).all (fun j=>match N[own.length+j]? with |some x=>decide (XN[caps.getD j 0]? = some x)&&decide ((x,NameKind.free)∈scope.names)&&decide (scope.names.lookup x=some .free)|none=>false)
theorem bh.of {N own:List Str} {caps:List Nat} {XN:List Str} {outer scope:Scope} (h:PJ N own caps XN outer scope=true):bh N own caps XN outer scope:=by
 unfold PJ at h;simp only [Bool.and_eq_true,decide_eq_true_eq,List.all_eq_true,Bool.or_eq_true] at h;obtain ⟨⟨⟨⟨⟨⟨h1,h2⟩,h3⟩,h4⟩,h5⟩,h6⟩,h7⟩:=h;refine ⟨h1,h2,fun y hy e=> ?_,fun y hy e=> ?_,h5,h6,fun j hj=> ?_⟩
 ·rcases h3 y hy with z|z
  ·exact absurd e z
  ·exact z
 ·rcases h4 y hy with (z|z)|z
  ·exact absurd e z
  ·exact .inl z
  ·exact .inr z
 ·have q:=h7 j (List.mem_range.mpr hj)
  cases e:N[own.length+j]? with
  | none=>rw [e] at q;cases q
  | some x=>
    rw [e] at q;simp only [Bool.and_eq_true,decide_eq_true_eq] at q;exact ⟨q.1.1.symm,x,rfl,q.1.2,q.2⟩
end L2
set_option Elab.async false
set_option linter.all false
set_option maxRecDepth 100000
set_option maxHeartbeats 4000000
namespace L2
open PySem PySem.Spec PyProof.Rows
mutual
def Dat (H:Hp):V->PyData->Prop
 | v,.none=>v = .non
 | v,.bool b=>v = .bl b
 | v,.int i=>v = .int i
 | v,.str x=>v = .str x
 | v,.list ds=>∃a vs,v = .ref a/\H a=some (.lst vs)/\bf H vs ds
 | v,.tuple ds=>∃a vs,v = .ref a/\H a=some (.tup vs)/\bf H vs ds
 | _,.dict _=>False
def bf (H:Hp):List V->List PyData->Prop
 | [],[]=>True
 | v::vs,d::ds=>Dat H v d/\bf H vs ds
 | [],_::_=>False
 | _::_,[]=>False
end
section
variable {H H':Hp}
theorem bf.length:∀{vs:List V} {ds:List PyData},bf H vs ds->vs.length=ds.length
 | [],[],_=>rfl
 | _::_,_::_,h=>by simp only [bf] at h;simp [bf.length h.2]
 | [],_::_,h=>by simp only [bf] at h
 | _::_,[],h=>by simp only [bf] at h
theorem bf.get:∀{vs:List V} {ds:List PyData} {i:Nat} {v:V},bf H vs ds->vs[i]? = some v -> ∃d,ds[i]? = some d/\Dat H v d
 | _::_,_::_,0,_,h,e=>by simp only [bf] at h;simp at e;subst e;exact ⟨_,rfl,h.1⟩
 | _::_,_::_,i+1,_,h,e=>by simp only [bf] at h;simp at e;obtain ⟨d,q,r⟩:=bf.get h.2 e;exact ⟨d,by simpa using q,r⟩
 | [],[],_,_,_,e=>by simp at e
 | [],_::_,_,_,h,_=>by simp only [bf] at h
 | _::_,[],_,_,h,_=>by simp only [bf] at h
theorem bf.getD:∀{vs:List V} {ds:List PyData} {i:Nat} {d:PyData},bf H vs ds->ds[i]? = some d -> ∃v,vs[i]? = some v/\Dat H v d
 | _::_,_::_,0,_,h,e=>by simp only [bf] at h;simp at e;subst e;exact ⟨_,rfl,h.1⟩
 | _::_,_::_,i+1,_,h,e=>by simp only [bf] at h;simp at e;obtain ⟨d,q,r⟩:=bf.getD h.2 e;exact ⟨d,by simpa using q,r⟩
 | [],[],_,_,_,e=>by simp at e
 | [],_::_,_,_,h,_=>by simp only [bf] at h
 | _::_,[],_,_,h,_=>by simp only [bf] at h
theorem bf.append:∀{vs ws:List V} {ds es:List PyData},bf H vs ds->bf H ws es->bf H (vs++ws) (ds++es)
 | [],_,[],_,_,g=>g
 | _::_,_,_::_,_,h,g=>by simp only [bf,List.cons_append] at h ⊢;exact ⟨h.1,bf.append h.2 g⟩
 | [],_,_::_,_,h,_=>by simp only [bf] at h
 | _::_,_,[],_,h,_=>by simp only [bf] at h
theorem bf.ints (ns:List Int):bf H (ns.map V.int) (ns.map PyData.int):=by
 induction ns with
 | nil=>simp only [List.map_nil,bf]
 | cons n r ih=>simp only [List.map_cons,bf,Dat];exact ⟨trivial,ih⟩
mutual
theorem Dat.mono (hl:∀a xs,H a=some (HO.lst xs)->H' a=some (HO.lst xs)) (ht:∀a xs,H a=some (HO.tup xs)->H' a=some (HO.tup xs)):∀(d:PyData) {v:V},Dat H v d->Dat H' v d
 | .none,_,h=>by simp only [Dat] at h ⊢;exact h
 | .bool _,_,h=>by simp only [Dat] at h ⊢;exact h
 | .int _,_,h=>by simp only [Dat] at h ⊢;exact h
 | .str _,_,h=>by simp only [Dat] at h ⊢;exact h
 | .list ds,_,h=>by simp only [Dat] at h ⊢;obtain ⟨a,vs,e,q,r⟩:=h;exact ⟨a,vs,e,hl _ _ q,bf.mono hl ht ds r⟩
 | .tuple ds,_,h=>by simp only [Dat] at h ⊢;obtain ⟨a,vs,e,q,r⟩:=h;exact ⟨a,vs,e,ht _ _ q,bf.mono hl ht ds r⟩
 | .dict _,_,h=>by simp only [Dat] at h
theorem bf.mono (hl:∀a xs,H a=some (HO.lst xs)->H' a=some (HO.lst xs)) (ht:∀a xs,H a=some (HO.tup xs)->H' a=some (HO.tup xs)):∀(ds:List PyData) {vs:List V},bf H vs ds->bf H' vs ds
 | [],[],_=>by simp only [bf]
 | d::ds,v::vs,h=>by simp only [bf] at h ⊢;exact ⟨Dat.mono hl ht d h.1,bf.mono hl ht ds h.2⟩
 | _::_,[],h=>by simp only [bf] at h
 | [],_::_,h=>by simp only [bf] at h
end
mutual
def Ew:PyData->Bool
 | .tuple ds=>tO ds
 | .list _ | .dict _=>false
 | .none | .bool _ | .int _ | .str _=>true
def tO:List PyData->Bool
 | []=>true
 | d::ds=>Ew d&&tO ds
end
mutual
theorem Dat.keep (ht:∀a xs,H a=some (HO.tup xs)->H' a=some (HO.tup xs)):∀(d:PyData) {v:V},Ew d=true->Dat H v d->Dat H' v d
 | .none,_,_,h=>by simp only [Dat] at h ⊢;exact h
 | .bool _,_,_,h=>by simp only [Dat] at h ⊢;exact h
 | .int _,_,_,h=>by simp only [Dat] at h ⊢;exact h
 | .str _,_,_,h=>by simp only [Dat] at h ⊢;exact h
 | .list ds,_,i,h=>by simp only [Ew] at i;cases i
 | .tuple ds,_,i,h=>by simp only [Dat] at h ⊢;simp only [Ew] at i;obtain ⟨a,vs,e,q,r⟩:=h;exact ⟨a,vs,e,ht _ _ q,bf.keep ht ds i r⟩
 | .dict _,_,_,h=>by simp only [Dat] at h
theorem bf.keep (ht:∀a xs,H a=some (HO.tup xs)->H' a=some (HO.tup xs)):∀(ds:List PyData) {vs:List V},tO ds=true->bf H vs ds->bf H' vs ds
 | [],[],_,_=>by simp only [bf]
 | d::ds,v::vs,i,h=>by simp only [bf] at h ⊢;simp only [tO,Bool.and_eq_true] at i;exact ⟨Dat.keep ht d i.1 h.1,bf.keep ht ds i.2 h.2⟩
 | _::_,[],_,h=>by simp only [bf] at h
 | [],_::_,_,h=>by simp only [bf] at h
end
theorem gW {α:Type} (f:α->PyData) (h:∀x,Ew (f x)=true):∀l:List α,tO (l.map f)=true
 | []=>rfl
 | a::l=>by simp only [List.map_cons,tO,h a,gW f h l,Bool.and_self]
end
section
variable {X:Cx} {pins:List (Addr×Obj)} {σ:St} {H:Hp} {s:Shared}
mutual
theorem Inv.reads (I:Inv X pins σ H s):∀(d:PyData) {v:V} {u:Value},Dat H v d->RelV v u -> ∃as,Reads s.heap u d as
 | .none,v,u,h,r=>by
   simp only [Dat] at h;subst h;cases (show u=Value.none from r);exact ⟨_,.none⟩
 | .bool b,v,u,h,r=>by
   simp only [Dat] at h;subst h;cases (show u=Value.bool b from r);exact ⟨_,.bool b⟩
 | .int i,v,u,h,r=>by
   simp only [Dat] at h;subst h;obtain ⟨t,q⟩:=(show ∃t,u=Value.int i t from r);cases q;exact ⟨_,.int i t⟩
 | .str x,v,u,h,r=>by
   simp only [Dat] at h;subst h;obtain ⟨t,q⟩:=(show ∃t,u=Value.str x t from r);cases q;exact ⟨_,.str x t⟩
 | .list ds,v,u,h,r=>by
   simp only [Dat] at h;obtain ⟨a,vs,rfl,q,g⟩:=h;cases (show u=Value.ref a from r);obtain ⟨its,rv,p,hz⟩:=I.list (bK.of q);obtain ⟨o,ho,hc,n,hd⟩:=p.isList;obtain ⟨as,ra⟩:=Inv.readsAll I ds g rv;exact ⟨_,.list ho hc hd (by simpa using ra)⟩
 | .tuple ds,v,u,h,r=>by
   simp only [Dat] at h;obtain ⟨a,vs,rfl,q,g⟩:=h;cases (show u=Value.ref a from r);obtain ⟨its,rv,p,hz⟩:=I.tuple (cO.of q);obtain ⟨o,ho,hc,n,hd⟩:=p;obtain ⟨as,ra⟩:=Inv.readsAll I ds g rv;exact ⟨_,.tuple ho hc hd (by simpa using ra)⟩
 | .dict _,_,_,h,_=>by simp only [Dat] at h
theorem Inv.readsAll (I:Inv X pins σ H s):∀(ds:List PyData) {vs:List V} {us:List Value},bf H vs ds->Vals vs us -> ∃as,ReadsAll s.heap us ds as
 | [],[],_,_,.nil=>⟨_,.nil⟩
 | d::ds,v::vs,_,h,.cons r rs=>by
   simp only [bf] at h;obtain ⟨as,ra⟩:=Inv.reads I d h.1 r;obtain ⟨bs,rb⟩:=Inv.readsAll I ds h.2 rs;exact ⟨_,.cons ra rb⟩
 | _::_,[],_,h,_=>by simp only [bf] at h
 | [],_::_,_,h,_=>by simp only [bf] at h
end
def QX (neg:Bool):R2:=fun x y H Q=>∃d e,Dat H x d/\Dat H y e/\SeqAt.shaped d=true/\SeqAt.shaped e=true/\Q (.bl (if neg then !PyData.eqv d e else PyData.eqv d e)) H
theorem Wb (hu:X.A.units+64<cLine):rB X (compareOp .Eq) (QX false):=by
 intro pins s σ H x y v u Q I rx ry h;obtain ⟨d,e,h1,h2,s1,s2,q⟩:=h;obtain ⟨as,ra⟩:=I.reads d h1 rx;obtain ⟨bs,rb⟩:=I.reads e h2 ry;exact SeqAt.compareEq_shaped ra rb s1 s2 hu ⟨.bl _,H,I,rfl,q⟩
theorem Wa (hu:X.A.units+64<cLine):rB X (compareOp .NotEq) (QX true):=by
 intro pins s σ H x y v u Q I rx ry h;obtain ⟨d,e,h1,h2,s1,s2,q⟩:=h;obtain ⟨as,ra⟩:=I.reads d h1 rx;obtain ⟨bs,rb⟩:=I.reads e h2 ry;exact SeqAt.compareNe_shaped ra rb s1 s2 hu ⟨.bl _,H,I,rfl,q⟩
theorem PK {c:Value} {cv:V} (rc:RelV cv c):kE X (.builtin "isinstance") (fun xs H Q=>∃x t b,xs=[x,cv]/\u9 X.K H x t/\PySem.W.kitOne X.K t c=some b/\Q (.bl b) H):=by
 intro pins s σ H xs us Q I r h;obtain ⟨x,t,b,rfl,ty,e,q⟩:=h;obtain ⟨u,w',rfl,r1,r2⟩:=vals2 r
 have:w'=c:=by
  cases cv with
  | non=>exact (show w'=Value.none from r2).trans (show c=Value.none from rc).symm
  | bl b=>exact (show w'=Value.bool b from r2).trans (show c=Value.bool b from rc).symm
  | ref a=>exact (show w'=Value.ref a from r2).trans (show c=Value.ref a from rc).symm
  | ty n=>exact (show w'=Value.type n from r2).trans (show c=Value.type n from rc).symm
  | int i=>obtain ⟨t1,rfl⟩:=(show ∃t,c=Value.int i t from rc);unfold PySem.W.kitOne at e;exact absurd e (by cases ty<;>simp [PySem.W.kitCls])
  | str i=>obtain ⟨t1,rfl⟩:=(show ∃t,c=Value.str i t from rc);unfold PySem.W.kitOne at e;exact absurd e (by cases ty<;>simp [PySem.W.kitCls])
  | Iw i=>obtain ⟨t1,rfl⟩:=(show ∃t,c=Value.bytes i t from rc);unfold PySem.W.kitOne at e;exact absurd e (by cases ty<;>simp [PySem.W.kitCls])
  | flt i=>obtain ⟨t1,rfl⟩:=(show ∃t,c=Value.float i t from rc);unfold PySem.W.kitOne at e;exact absurd e (by cases ty<;>simp [PySem.W.kitCls])
 subst this;exact KZ I r1 ty e fun tk=>⟨.bl b,H,I.tok _,rfl,q⟩
end
section
variable {prog:Program} {w:World} {A:Around}
theorem yj (hh:A.handled=none) (it a:Addr) (hne:it≠a) (its:List Value):Walks prog w A it [it,a] [it] its.length (fun i v=>its[i]? = some v) (fun i h=>h.IsListIter it a i/\h.IsList a its.toArray) where
 sub:=by simp
 frame:=fun i h h' ⟨s1,o,ho,hc⟩ k=>⟨s1.at fun o e=>k it (by simp) o e,o,k a (by simp) o ho,hc⟩
 item:=fun i s Q E hi ⟨s1,s2⟩ hQ=>wpAny_pyNext_list_item s1 s2 (x:=its[i]) (by simp [hi]) fun h' st' sb=>
  hQ _ h' s.toks (by simp [hi]) ⟨st',s2.extBut sb.extBut hne.symm⟩ fun b o hb e=>(sb.2 b (by simpa using hb)).trans e
 done:=fun s Q E ⟨s1,s2⟩ hQ=>wpAny_pyNext_list_end hh s1 s2 (by simp) fun h' eb=>hQ h' s.toks fun b o hb e=>eb b o (by simpa using hb) e
 self:=fun i s Q E ⟨s1,_⟩ hQ=>wpAny_pyIter_listiter s1 hQ
end
section
variable {X:Cx}
theorem Ac (bs:List Bool):(List.range bs.length).all (fun i=>(bs[i]?).getD false)=bs.all id:=by
 rw [Bool.eq_iff_iff,List.all_eq_true,List.all_eq_true];constructor
 ·intro h b hb
  obtain ⟨i,hi,rfl⟩:=List.getElem_of_mem hb;have:=h i (by simpa using hi);simpa [hi] using this
 ·intro h i hi
  have hi':i<bs.length:=by simpa using hi
  simpa [hi'] using h bs[i] (List.getElem_mem hi')
theorem G5 {bs:List Bool}:∀{us:List Value},Vals (bs.map V.bl) us->us=bs.map Value.bool:=by
 induction bs with
 | nil=>intro us r;cases r;rfl
 | cons b bs ih=>
   intro us r;cases r with
   | cons r rs=>cases (show _=Value.bool b from r);rw [ih rs];rfl
theorem zB (hc:X.calm=true):kE X (.builtin "all") (fun xs H Q=>∃(p:Addr) (bs:List Bool),xs=[.ref p]/\bK X.K H p (bs.map V.bl)/\Q (.bl (bs.all id)) H):=by
 intro pins s σ H xs us Q I r h;obtain ⟨p,bs,rfl,hq,q⟩:=h;obtain ⟨u,rfl,rx⟩:=vals1 r;cases rx;obtain ⟨its,rv,pl,hz⟩:=I.list hq;have e:=G5 rv;have hlen:its.length=bs.length:=by rw [e,List.length_map]
 refine call_all_walk (wpAny_pyIter_list pl.isList ⟨s.heap.objs.size,[s.heap.objs.size,p],[s.heap.objs.size],its.length,_,_,fun i=>(bs[i]?).getD false,rfl,
  yj (show X.A.in1.handled=none from I.ok.hd hc) s.heap.objs.size p ?_ its,⟨⟨_,Heap.get?_push_size _ rfl,rfl,rfl⟩, ?_⟩, ?_, ?_⟩)
 ·intro z
  obtain ⟨o,ho,_⟩:=pl.isList;have:=Heap.lt_size ho;rw [←z] at this;exact Nat.lt_irrefl _ this
 ·obtain ⟨o,ho,hcl⟩:=pl.isList
  exact ⟨o,Heap.get?_push_of_some _ ho,hcl⟩
 ·intro i v s1 Q1 E1 hP hQ
  rw [e,List.getElem?_map] at hP;cases r:bs[i]? with
  | none=>rw [r] at hP;cases hP
  | some b=>
    rw [r] at hP;cases hP;simp only [r,Option.getD_some] at hQ;exact wpAny_truthy_bool hQ
 ·intro h' tk k
  rw [hlen,Ac];have f:=I.zp (H':=H) (b:=s.heap.objs.size) (Nat.le_refl _) (I.hok.fresh (Nat.le_refl _));have I2:Inv X pins σ H {s with heap:=h',toks:=tk}:=I.turned (h':=h') (t':=tk) (it:=s.heap.objs.size) (fun b o hb e=>k b o (by simpa using hb) (Heap.get?_push_of_some _ e)) f.1 f.2.1 f.2.2.2.1 f.2.2.2.2.1 f.2.2.2.2.2;exact ⟨.bl _,H,I2,rfl,q⟩
end
end L2
set_option Elab.async false
set_option linter.all false
set_option maxRecDepth 100000
set_option maxHeartbeats 4000000
namespace L2
open PySem PySem.Spec PyProof.Rows
def FnAt (P:Program) (w:World) (K:PySem.W.Frag) (mg:Str->Option Value) (base:Heap) (k:Nat) (x:Str) (ps:List Str) (sp:Sp):Prop:=
 ∃f fd,bW P w K mg base lE k f fd ps sp/\mg x=some (.ref f)/\PySem.W.keepIn K (.ref f)=true/\Binds K fd ps []
section
variable {X:Cx} {k j:Nat} {x:Str} {ps:List Str} {sp:Sp} {e:Expr} {es:List Expr} {t:TA} {p pos:Pos}
theorem b_ (F:FnAt X.prog X.w X.K X.mg X.base k x ps sp) (hr:gR k X.A) (hg:Gl X x) (ha:PA X (e::es) t) (hd:(x==("__debug__" :Str))=false:=by decide)
 (he:starEach (e::es) X.env=(false,eval e X.env)::starEach es X.env:=by rfl) (hpl:(backTo pos (starEach es X.env)).any (·.1)=false:=by rfl):
 PE X (.Call (.Name x p) (e::es) [] pos) (TX sp [] E0 t):=by
 obtain ⟨f,fd,G,hm,hk,hb⟩:=F;exact Rc G hr hg hm hk hb .nil Jt ha (hdb:=hd) (he:=he) (hpl:=hpl)
end
theorem zE:bootBuiltins "all" = some (.builtin "all"):=by kernel_rfl
theorem cX:bootBuiltins "len" = some (.builtin "len"):=by kernel_rfl
theorem Xf:bootBuiltins "min" = some (.builtin "min"):=by kernel_rfl
theorem PX:bootBuiltins "sum" = some (.builtin "sum"):=by kernel_rfl
theorem Lp:bootBuiltins "sorted" = some (.builtin "sorted"):=by kernel_rfl
theorem bG:bootBuiltins "isinstance" = some (.builtin "isinstance"):=by kernel_rfl
theorem tX:bootBuiltins "int" = some (.type "int"):=by kernel_rfl
theorem uW:bootBuiltins "bool" = some (.type "bool"):=by kernel_rfl
theorem iu:bootBuiltins "list" = some (.type "list"):=by kernel_rfl
theorem uV:bootBuiltins "tuple" = some (.type "tuple"):=by kernel_rfl
theorem Xe:bootBuiltins "str" = some (.type "str"):=by kernel_rfl
section
variable {X:Cx}
theorem Jv:rB X (binaryOp .Mult) (rI IntMulOk fun i j=> .int (i*j)):=Zf fun _ _ _ _ _ _ _ hc q=>mul_int q hc
end
def Kp (r:Addr) (H H':Hp):Prop:=∀b o,H b=some o->b≠r->H' b=some o
theorem Kp.of_same {r:Addr} {H H':Hp} (h:Same H H'):Kp r H H':=fun b o e _=>h b o e
theorem Kp.trans {r:Addr} {H H1 H2:Hp} (a:Kp r H H1) (b:Kp r H1 H2):Kp r H H2:=fun c o h n=>b c o (a c o h n) n
theorem Kp.set {r:Addr} {H:Hp} {o:HO}:Kp r H (upd H r o):=fun b u e n=>by rw [aF n];exact e
theorem aH {H:Hp} {p:Addr} {o:HO} (h:H p=none):Same H (upd H p o):=fun b u e=>by rw [aF (aB e h)];exact e
theorem Same.tups {H H':Hp} (e:Same H H'):∀a xs,H a=some (HO.tup xs)->H' a=some (HO.tup xs):=fun a xs h=>e _ _ h
theorem Same.sqL {K:PySem.W.Frag} {H H':Hp} (e:Same H H'):∀a xs,bK K H a xs->bK K H' a xs:=fun a xs h=>e.seq h
theorem Kp.tups {H H':Hp} {r:Addr} {ys:List V} (e:Kp r H H') (hr:H r=some (.lst ys)):∀a xs,H a=some (HO.tup xs)->H' a=some (HO.tup xs):=fun a xs h=>e _ _ h (eY h hr (by intro z;cases z))
end L2
namespace L2
open PySem PySem.Spec PyProof.Rows
section
variable {X:Cx} {K:PySem.W.Frag}
theorem aZ (h:X.K=K):IxR X (Y7 K):=by subst h;exact RG
theorem bx (h:X.K=K):IxR X (Y6 K):=by subst h;exact Wz
theorem ur (h:X.K=K):SlR X (Y0 K):=by subst h;exact QG
theorem Jo (h:X.K=K):SlR X (YZ K):=by subst h;exact Vu
theorem HD (h:X.K=K):rB X (compareOp .In) (rIn K false):=by subst h;exact Kf
theorem Ad (h:X.K=K):rB X (compareOp .NotIn) (rIn K true):=by subst h;exact Dk
def aem (K:PySem.W.Frag):List V->Hp->VK->Prop:=fun xs H Q=>∃(p:Addr) (ys:List V),xs=[.ref p]/\(bK K H p ys\/cO K H p ys)/\Q (.int ys.length) H
theorem aX (h:X.K=K):kE X (.builtin "len") (aem K):=by subst h;exact Eb
def QV (K:PySem.W.Frag):List V->Hp->VK->Prop:=fun xs H Q=>∃(p:Addr) (ys:List V),xs=[.ref p]/\(bK K H p ys\/cO K H p ys) /\ ∀l,H l=none->Q (.ref l) (upd H l (.lst ys))
theorem cQ (h:X.K=K):kE X (.type "list") (QV K):=by subst h;exact Ea
def Y_ (K:PySem.W.Frag):List V->Hp->VK->Prop:=fun xs H Q=>∃(p:Addr) (bs:List Bool),xs=[.ref p]/\bK K H p (bs.map V.bl)/\Q (.bl (bs.all id)) H
theorem gY (h:X.K=K) (hc:X.calm=true):kE X (.builtin "all") (Y_ K):=by subst h;exact zB hc
theorem Dn (h:X.K=K) (hu:X.A.units+64<cLine):rB X (compareOp .Eq) (QX false):=by subst h;exact Wb hu
theorem Dl (h:X.K=K) (hu:X.A.units+64<cLine):rB X (compareOp .NotEq) (QX true):=by subst h;exact Wa hu
theorem d_ {tg l:Expr} {tl:TE} (h:X.K=K) (hl:PE X l tl):PI X tg l (Uq K tl):=by subst h;exact Q_ hl
theorem Q9 {tg l:Expr} {tl:TE} (h:X.K=K) (hl:PE X l tl):PI X tg l (ZF K tl):=by subst h;exact V2 hl
def aen (K:PySem.W.Frag) (c:Value) (cv:V):List V->Hp->VK->Prop:=fun xs H Q=>∃x t b,xs=[x,cv]/\u9 K H x t/\PySem.W.kitOne K t c=some b/\Q (.bl b) H
theorem cW {c:Value} {cv:V} (h:X.K=K) (rc:RelV cv c):kE X (.builtin "isinstance") (aen K c cv):=by subst h;exact PK rc
theorem mF {o e:Expr} {to:TE} {t:TA} {apos cpos:Pos} (h:X.K=K) (ho:PE X o to) (ha:PA X [e] t)
 (hbase:attributeBase o "append" X.env (eval o X.env)=eval o X.env:=by rfl)
 (hfew:((backTo cpos (starEach [e] X.env)).all (fun x=> !x.1)&&(backToKw cpos (keywordEach [] X.env)).all (fun x=>x.1.isSome)
   && decide (([e]:List Expr).length+([]:List Keyword).length+(if ([]:List Keyword).isEmpty then 0 else 1)<30))=true:=by rfl)
 (hline:(apos.endLine==cpos.line)=true:=by rfl) (hs:starEach [e] X.env=(false,eval e X.env)::starEach [] X.env:=by rfl) (hplain:(backTo cpos (starEach [] X.env)).any (·.1)=false:=by rfl):
 PE X (.Call (.Attribute o "append" apos) [e] [] cpos) (tBM K "list" Jq to t):=by
 subst h;exact Ue PySem.F.plainAttrs_list PySem.F.slot_list_append PySem.F.type_list_append Bp ho ha hbase hfew hline hs hplain
end
end L2
namespace L2
open PySem
section
variable {K:PySem.W.Frag} {a D:Addr} {xs:List V} {g:TG} {tc:TT} {te:TE} {Q:VK} {σ0:St} {H1:Hp}
theorem j4 (Pv:Nat->St->Hp->Prop) (h0:Pv 0 σ0 (upd H1 D (.lst []))) (hl:∀i σ H,i<=xs.length->Pv i σ H->bK K H a xs)
 (hs:∀i x σ H,xs[i]? = some x->Pv i σ H->g x σ H fun σ2 H2=>tc σ2 H2 fun b H3=>
   if b=true then te σ2 H3 fun y H4=>∃acc,H4 D=some (.lst acc)/\acc.length<sizeLine/\Pv (i+1) σ2 (upd H4 D (.lst (acc++[y]))) else Pv (i+1) σ2 H3)
 (hd:∀σ H,Pv xs.length σ H->Q (.ref D) H):mL (S_ K a) g tc te Q D σ0 H1:=by
 refine ⟨fun i m σ H=>m=xs.length - i/\i<=xs.length/\Pv i σ H,⟨xs.length,by simp,Nat.zero_le _,h0⟩, ?_⟩;rintro i m σ H ⟨rfl,hi,p⟩;have q:=hl i σ H hi p
 by_cases hlt:i<xs.length
 ·refine .inr ⟨⟨xs,xs[i],q,by simp [hlt]⟩,Pv (i+1),fun σ' H' p'=>⟨xs.length - (i+1),by omega,rfl,hlt,p'⟩,fun x H' y=> ?_⟩
  obtain ⟨e,y⟩:=y;subst e;exact hs i x σ _ (y xs q) p
 ·have e:i=xs.length:=by omega
  subst e;exact .inl ⟨⟨xs,q,Nat.le_refl _⟩,hd σ H p⟩
theorem PB (Pv:Nat->St->Hp->Prop) (h0:Pv 0 σ0 (upd H1 D (.lst []))) (hl:∀i σ H,i<=xs.length->Pv i σ H->cO K H a xs)
 (hs:∀i x σ H,xs[i]? = some x->Pv i σ H->g x σ H fun σ2 H2=>tc σ2 H2 fun b H3=>
   if b=true then te σ2 H3 fun y H4=>∃acc,H4 D=some (.lst acc)/\acc.length<sizeLine/\Pv (i+1) σ2 (upd H4 D (.lst (acc++[y]))) else Pv (i+1) σ2 H3)
 (hd:∀σ H,Pv xs.length σ H->Q (.ref D) H):mL (Itt K a) g tc te Q D σ0 H1:=by
 refine ⟨fun i m σ H=>m=xs.length - i/\i<=xs.length/\Pv i σ H,⟨xs.length,by simp,Nat.zero_le _,h0⟩, ?_⟩;rintro i m σ H ⟨rfl,hi,p⟩;have q:=hl i σ H hi p
 by_cases hlt:i<xs.length
 ·refine .inr ⟨⟨xs,xs[i],q,by simp [hlt]⟩,Pv (i+1),fun σ' H' p'=>⟨xs.length - (i+1),by omega,rfl,hlt,p'⟩,fun x H' y=> ?_⟩
  obtain ⟨e,y⟩:=y;subst e;exact hs i x σ _ (y xs q) p
 ·have e:i=xs.length:=by omega
  subst e;exact .inl ⟨⟨xs,q,Nat.le_refl _⟩,hd σ H p⟩
theorem pB {lo:Int} {n:Nat} (Pv:Nat->St->Hp->Prop) (h0:Pv 0 σ0 (upd H1 D (.lst [])))
 (hs:∀i σ H,i<n->Pv i σ H->g (.int (lo+i)) σ H fun σ2 H2=>tc σ2 H2 fun b H3=>
   if b=true then te σ2 H3 fun y H4=>∃acc,H4 D=some (.lst acc)/\acc.length<sizeLine/\Pv (i+1) σ2 (upd H4 D (.lst (acc++[y]))) else Pv (i+1) σ2 H3)
 (hd:∀σ H,Pv n σ H->Q (.ref D) H):mL (Qq lo n) g tc te Q D σ0 H1:=by
 refine ⟨fun i m σ H=>m=n - i/\i<=n/\Pv i σ H,⟨n,by simp,Nat.zero_le _,h0⟩, ?_⟩;rintro i m σ H ⟨rfl,hi,p⟩
 by_cases hlt:i<n
 ·refine .inr ⟨hlt,Pv (i+1),fun σ' H' p'=>⟨n - (i+1),by omega,rfl,hlt,p'⟩,fun x H' y=> ?_⟩
  obtain ⟨e,y⟩:=y;subst e y;exact hs i σ _ hlt p
 ·have e:i=n:=by omega
  subst e;exact .inl ⟨Nat.le_refl _,hd σ H p⟩
end
end L2
set_option Elab.async false
set_option linter.all false
set_option maxRecDepth 100000
set_option maxHeartbeats 4000000
namespace L2
open PySem PySem.Spec PyProof.Rows
section
variable {α:Type} (f:α->PyData)
theorem tW:∀(l:List α),(∀x∈l,(f x).canLay0=true)->PyData.canLayAll0 (l.map f)=true
 | [],_=>rfl
 | a::l,h=>by
   show (PyData.canLay0 (f a)&&PyData.canLayAll0 (l.map f))=true;rw [h a List.mem_cons_self,tW l fun x hx=>h x (List.mem_cons_of_mem _ hx)];rfl
theorem pA (k:Nat):∀(l:List α),(∀x∈l,(f x).depth<=k)->PyData.depthAll (l.map f)<=k
 | [],_=>Nat.zero_le _
 | a::l,h=>by
   show max (PyData.depth (f a)) (PyData.depthAll (l.map f))<=k;exact Nat.max_le.mpr ⟨h a List.mem_cons_self,pA k l fun x hx=>h x (List.mem_cons_of_mem _ hx)⟩
theorem Fd {l:List α} (k:Nat) (hk:k<64) (h1:∀x∈l,(f x).canLay0=true) (h2:∀x∈l,(f x).depth<=k):SeqAt.shaped (.list (l.map f))=true:=by
 unfold SeqAt.shaped;have e1:PyData.canLay0 (.list (l.map f))=true:=tW f l h1
 have e2:PyData.depth (.list (l.map f))<=64:=by
  show PyData.depthAll (l.map f)+1<=64;have:=pA f k l h2;omega
 rw [e1,decide_eq_true e2];rfl
theorem zx [DecidableEq α] (h:∀x y,PyData.eqv (f x) (f y)=decide (x=y)):∀(l m:List α),PyData.eqvAll (l.map f) (m.map f)=decide (l=m)
 | [],[]=>rfl
 | [],_::_=>by simp only [List.map_nil,List.map_cons,PyData.eqvAll];exact (decide_eq_false (by intro z;cases z)).symm
 | _::_,[]=>by simp only [List.map_nil,List.map_cons,PyData.eqvAll];exact (decide_eq_false (by intro z;cases z)).symm
 | a::l,b::m=>by
   simp only [List.map_cons,PyData.eqvAll];rw [h a b,zx h l m]
   by_cases e1:a=b
   ·subst e1
    by_cases e2:l=m
    ·subst e2;simp
    ·simp [e2]
   ·simp [e1]
theorem qy [DecidableEq α] (h:∀x y,PyData.eqv (f x) (f y)=decide (x=y)) (l m:List α):PyData.eqv (.list (l.map f)) (.list (m.map f))=decide (l=m):=by
 simp only [PyData.eqv];exact zx f h l m
end
theorem Gr {H:Hp} {a:Addr} {vs:List V} {ds:List PyData} (h:H a=some (.lst vs)) (d:bf H vs ds):Dat H (.ref a) (.list ds):=by
 simp only [Dat];exact ⟨a,vs,rfl,h,d⟩
theorem wI (K:PySem.W.Frag):PySem.W.kitOne K (.type "int") (.type "int")=some true:=rfl
theorem pq (K:PySem.W.Frag):PySem.W.kitOne K (.type "int") (.type "bool")=some false:=by kernel_rfl
theorem j8 (K:PySem.W.Frag):PySem.W.kitOne K (.type "list") (.type "list")=some true:=rfl
theorem ji (K:PySem.W.Frag):PySem.W.kitOne K (.type "tuple") (.type "tuple")=some true:=rfl
theorem nJ (K:PySem.W.Frag):PySem.W.kitOne K (.type "bool") (.type "bool")=some true:=rfl
end L2
namespace L2
open PySem
theorem Px (xs:List V) (k:Nat):qz xs none (some (k:Int))=xs.take k:=by
 unfold qz;rw [HT.yO,HT.C_,List.drop_zero,Nat.sub_zero]
 by_cases h:k<=xs.length
 ·rw [Nat.min_eq_left h]
 ·rw [Nat.min_eq_right (by omega),List.take_of_length_le (Nat.le_refl _),List.take_of_length_le (by omega)]
theorem Gs (xs:List V) (k:Nat):qz xs (some (k:Int)) none=xs.drop k:=by
 unfold qz;rw [HT.yO,HT.C_]
 by_cases h:k<=xs.length
 ·rw [Nat.min_eq_left h,List.take_of_length_le (by rw [List.length_drop];exact Nat.le_refl _)]
 ·rw [Nat.min_eq_right (by omega),Nat.sub_self,List.take_zero,List.drop_of_length_le (by omega)]
end L2
set_option Elab.async false
set_option linter.all false
set_option maxRecDepth 100000
set_option maxHeartbeats 4000000
namespace PySem.W
open PySem PySem.Spec PySem.Calls PyProof.Rows
theorem R0:builtinKind "BaseException.__getattribute__" = some .slot:=by decide +kernel
theorem O7:splitId "BaseException.__getattribute__" = some ("BaseException","__getattribute__"):=by decide +kernel
section
variable {prog:Program} {w:World} {A:Around} {E:Value->Shared->Prop} {s:Shared} {K:Frag} {x D:Addr} {ox:Obj} {odo:Option Obj} {name:Str}
theorem Lb {M:Model} {nameV:Value} {Q:Unit->Shared->Prop} (X:K.In s.heap) (I:InstAt s.heap x ox D odo) (hB:mroIn K D (.type "BaseException")=some true) (hq:Q () s):
 wpAny M A (checkBuiltinCall "BaseException.__getattribute__" ⟨[.ref x,nameV],[]⟩) Q E s:=by
 obtain ⟨hh,g,d,t,os⟩:=s;have L0:=I.type (M:=M);have L3:=looks_mroIn (M:=M) X hB;have ha:=F.args_bexc_ga (.ref x) nameV;simp only [checkBuiltinCall,R0,O7];unfold isInstance
 repeat (first |lk|wp_step)
 all_goals first |exact hq|trace_state
theorem Pg {Q:Option Value->Shared->Prop} {gv a:Value} (X:K.In s.heap) (I:InstAt s.heap x ox D odo) (hga:findIn K (.ref D) "__getattribute__" = some (some (.builtin "BaseException.__getattribute__")))
 (hk:findIn K (.ref D) "__getattr__" = some none) (hB:mroIn K D (.type "BaseException")=some true) (hf:findObj K D odo name=some (.bind gv a))
 (FB:Slot "Exception" "__getattribute__" "BaseException.__getattribute__")
 (h:∀A',codeAny (model prog w) A' (.call gv ⟨[a,.ref x,.ref D],[]⟩) (fun r s'=>match r with | .ok (.ret v)=>wpAny (model prog w) A (handedOut v) (fun v s''=>Q (some v) s'') (fun _ _=>False) s'|_=>False) {s with toks:=s.toks+1}):
 wpAny (model prog w) A (getAttr? (.ref x) name) Q E s:=by
 obtain ⟨hh,g,d,t,os⟩:=s;have L0:=I.type (M:=model prog w);have L1:=looks_findIn (M:=model prog w) X hga;have L2:=looks_findIn (M:=model prog w) X hk;have L4:=looks_find (M:=model prog w) X I hf;have hx2:(Value.builtin "BaseException.__getattribute__" == Value.builtin "object.__getattribute__")=false:=by decide +kernel
 have f3:=FB.bind (.ref x);unfold getAttr? getAttrBy? getAttrBy;refine wpAny_bind (wpAny_mkText (wpAny_bind (wpAny_attempt (wpAny_holding (wpAny_bind (L0.at (wpAny_bind (L1.at ?_))))))));simp only [hx2,Bool.and_false,Bool.false_eq_true,if_false];unfold getAttrByItsOwn hookBefore;show wpAny _ _ (typeLookup (.ref D) "__getattr__" >>= _) _ _ _;refine wpAny_bind (L2.at ?_);refine wpAny_bind (wpAny_attempt (wpAny_holding ?_));unfold callGetattribute boundAndCalled;rw [if_neg (by decide)];refine wpAny_bind (wpAny_of_eq f3 ?_);refine wpAny_call (codeAny_call_builtin FB.plain F.entry_bexc_ga (Lb (s:=⟨hh,g,d,t+1,os⟩) X I hB ?_));show wpAny _ _ (Builtin.«object.__getattribute__» ⟨[.ref x,.str name t],[]⟩) _ _ _;unfold Builtin.«object.__getattribute__»;refine wpAny_bind (wpAny_pure ?_);refine wpAny_bind (wpAny_pure ?_);refine wpAny_bind (L0.at (wpAny_bind (L4.at ?_)));show wpAny _ _ (Builtin.ObjectAttr.bindTo gv a (.ref x) (.ref D)) _ _ _;unfold Builtin.ObjectAttr.bindTo;show wpAny _ _ (holding [a] (call gv [a,.ref x,.ref D]) >>= fun v=>ret v) _ _ _;refine wpAny_bind (wpAny_holding (wpAny_call (codeAny_mono (h _) fun r s' hr=> ?_)))
 match r,hr with
 | .ok (.ret v),hr=>
   refine wpAny_pure ?_;exact wpAny_mono hr (fun v s'' q=>wpAny_pure q) fun _ _ z=>z.elim
end
theorem Pb:Slot "Exception" "__getattribute__" "BaseException.__getattribute__" :=F.attr_Exception.ga
theorem Ah {K:Frag} {C:Addr} {od:Option Obj} {name:Str} {a g:Value} (hc:(clsIn K C).isSome=true) (ha:findIn K (.ref C) name=some (some a)) (hg:specialIn K a "__get__" = some (some g)) (ht:takesIn K a=some true):findObj K C od name=some (.bind g a):=by
 obtain ⟨cd,hc⟩:=Option.isSome_iff_exists.mp hc;unfold findObj;rw [hc,Option.bind_some,ha,Option.bind_some];simp [hg,ht]
theorem K_ {prog:Program} {w:World} {A:Around} {E:Value->Shared->Prop} {s:Shared} {K:Frag} {x D:Addr} {ox:Obj} {odo:Option Obj} {Q:Option Value->Shared->Prop} (X:K.In s.heap) (I:InstAt s.heap x ox D odo)
 (hga:findIn K (.ref D) "__getattribute__" = some (some (.builtin "BaseException.__getattribute__"))) (hk:findIn K (.ref D) "__getattr__" = some none) (hB:mroIn K D (.type "BaseException")=some true)
 (hc:(clsIn K D).isSome=true) (ha:findIn K (.ref D) "__class__" = some (some (.builtin "object.__class__")))
 (hn:specialIn K (.builtin "object.__class__") "__get__" = some (some (.builtin "getset_descriptor.__get__"))) (htk:takesIn K (.builtin "object.__class__")=some true) (hm:mroIn K D (.type "object")=some true)
 (h:Q (some (.ref D)) {s with toks:=s.toks+1}):wpAny (model prog w) A (getAttr? (.ref x) "__class__") Q E s:=by
 have hf:findObj K D odo "__class__" = some (.bind (.builtin "getset_descriptor.__get__") (.builtin "object.__class__")):=Ah hc ha hn htk;exact Pg X I hga hk hB hf Pb fun A'=>class_get (s:={s with toks:=s.toks+1}) X I hm (handed_on rfl h)
structure SN (K:Frag) (D:Addr):Prop where
 hga:findIn K (.ref D) "__getattribute__" = some (some (.builtin "BaseException.__getattribute__"))
 hk:findIn K (.ref D) "__getattr__" = some none
 hB:mroIn K D (.type "BaseException")=some true
 hc:(clsIn K D).isSome=true
 ha:findIn K (.ref D) "__class__" = some (some (.builtin "object.__class__"))
 hn:specialIn K (.builtin "object.__class__") "__get__" = some (some (.builtin "getset_descriptor.__get__"))
 htk:takesIn K (.builtin "object.__class__")=some true
 hm:mroIn K D (.type "object")=some true
theorem FQ {K:Frag} {x D:Addr} (c:SN K D):KitX K (.ref x) (.ref D) (fun h=>∃ox odo,InstAt h x ox D odo) where
 ty:=fun _ _ _ ⟨_,_,I⟩=>I.type
 it:=fun _ _ X _=>by
  have hc:=c.hc;unfold clsIn at hc;split at hc
  ·rename_i c' d' cd' sl' ho
   intro A' Q' E' s' k q;unfold isType loadHead;exact wpAny_bind (wpAny_loadPart (k _ _ (X _ _ ho)) (wpAny_pure q))
  ·cases hc
 ne:=fun h tp dd its n sl X htp=>by
  have hc:=c.hc;refine Bool.eq_false_iff.mpr fun q=> ?_;have e:D=tp:=Value.ref.inj (beq_iff_eq.mp q);subst e;unfold clsIn at hc;split at hc
  ·rename_i c' d' cd' sl' ho
   have z:=(X _ _ ho).symm.trans htp;cases z
  ·cases hc
 ca:=fun X ⟨_,_,I⟩ k=>K_ X I c.hga c.hk c.hB c.hc c.ha c.hn c.htk c.hm k
end PySem.W
set_option Elab.async false
set_option linter.all false
set_option maxRecDepth 100000
set_option maxHeartbeats 4000000
namespace L2
open PySem PySem.Spec PyProof.Rows
def v9 (h:Heap) (e:Addr) (cls:Value) (dx:Option Addr) (lo:Addr->Prop):Option Value->Prop
 | none=>∃oe vs,h.get? e=some oe/\oe.cls=cls/\oe.dict=dx/\oe.data = .fields vs/\vs[1]? = some .none
 | some f=>∃oe vs T oT ts,h.get? e=some oe/\oe.cls=cls/\oe.dict=dx/\oe.data = .fields vs/\vs[1]? = some (.ref T)/\lo T/\T≠e/\h.get? T=some oT/\oT.data = .fields ts/\ts[3]? = some f
theorem v9.there {h:Heap} {e:Addr} {cls:Value} {dx:Option Addr} {lo:Addr->Prop} {f:Option Value} (x:v9 h e cls dx lo f):∃oe vs,h.get? e=some oe/\oe.cls=cls/\oe.dict=dx/\oe.data = .fields vs:=by
 cases f with
 | none=>obtain ⟨oe,vs,a,b,c,d,_⟩:=x;exact ⟨oe,vs,a,b,c,d⟩
 | some f=>obtain ⟨oe,vs,_,_,_,a,b,c,d,_⟩:=x;exact ⟨oe,vs,a,b,c,d⟩
section
variable {M:Model} {A:Around} {E:Value->Shared->Prop} {s:Shared} {base:Heap} {env:Env} {outer:List Env} {L e:Addr}
structure qG (fr:List Addr) (e:Addr) (lo:Addr->Prop) (h h':Heap):Prop where
 keep:∀b o,h.get? b=some o->b∉fr->b≠e -> ¬lo b->h'.get? b=some o
 slot:∀b o,h.get? b=some o->b∈fr->b≠e -> ¬lo b -> ∃sl,h'.get? b=some {o with slots:=sl}
 there:∀b o,h.get? b=some o -> ∃o',h'.get? b=some o'
theorem qG.trans {fr:List Addr} {lo:Addr->Prop} {h h1 h2:Heap} (a:qG fr e lo h h1) (b:qG fr e lo h1 h2):qG fr e lo h h2 where
 keep:=fun c o q n1 n2 n3=>b.keep c o (a.keep c o q n1 n2 n3) n1 n2 n3
 slot:=fun c o q n1 n2 n3=>by
  obtain ⟨sl,q1⟩:=a.slot c o q n1 n2 n3;obtain ⟨sl2,q2⟩:=b.slot c _ q1 n1 n2 n3;exact ⟨sl2,q2⟩
 there:=fun c o q=>by
  obtain ⟨o1,q1⟩:=a.there c o q;exact b.there c o1 q1
theorem oX {h:Heap} {a:Addr} {o:Obj} {vs:Array Value} (q:h.get? a=some o) (d:o.data = .fields vs) (i:Nat) (v:Value):
 (h.update a (Obj.mapFields (·.setIfInBounds i v))).get? a=some (Obj.mapFields (·.setIfInBounds i v) o)/\(Obj.mapFields (·.setIfInBounds i v) o).data = .fields (vs.setIfInBounds i v) /\
   (Obj.mapFields (·.setIfInBounds i v) o).cls=o.cls/\(Obj.mapFields (·.setIfInBounds i v) o).dict=o.dict:=by
 have d2:=Obj.data_mapFields d (·.setIfInBounds i v);refine ⟨Heap.get?_update_self _ q (Obj.isFreed_of_fields d2),d2,Obj.cls_mapFields _ _, ?_⟩;obtain ⟨c,dd,dt,sl⟩:=o;simp only at d;subst d;rfl
theorem Mq {oe:Obj} {vs:Array Value} {head:Value} {hadNext:Bool} {cls:Value} {dx:Option Addr} {lo:Addr->Prop} {Q:Unit->Shared->Prop} (hfr:A.frames=some (env::outer)) (hl:s.heap.FunFrames base (env::outer)) (hf:env.frame=some L)
 (he:s.heap.get? e=some oe) (hd:oe.data = .fields vs) (hsz:1<vs.size) (hc:oe.cls=cls) (hdx:oe.dict=dx) (hlo:∀T,s.heap.get? T=none->lo T)
 (h:∀h',qG (frs (env::outer)) e lo s.heap h'->v9 h' e cls dx lo (some (rawInt L))->Q () {s with heap:=h'}):
 wpAny M A (do let a ←frameOf env;let pl ←entryPlaceOf L hadNext;let b ←EntryCells.newEntry head a .none (rawInt L) .none pl;setField (.ref e) 1 b) Q E s:=by
 have nfr:e∉frs (env::outer):=fun hm=>by
  obtain ⟨_,o,q,nf⟩:=hl.mem hm;rw [he] at q;cases q;exact nf vs hd
 refine wpAny_bind (wpAny_frameOf_fun hfr hl hf fun h1 hs1=> ?_);refine wpAny_bind (wpAny_entryPlaceOf fun pl hpl=> ?_);unfold EntryCells.newEntry newFields;refine wpAny_bind (wpAny_newObj_type ?_ (hpl.sizeOk5 _ _ _ _ _));generalize hob:({cls:= .type "traceback",dict:=none,data:= .fields ([head,.ref L,.none,rawInt L,.none]++(if pl.isEmpty then List.replicate 6 Value.none else pl)).toArray}:Obj)=ob;have q1:h1.get? e=some oe:=(hs1.2.1 e nfr).trans he;have q2:=Heap.get?_push_of_some (h:=h1) ob q1;have nTe:h1.objs.size≠e:=Nat.ne_of_gt (Heap.lt_size q1);have sizes:h1.objs.size=s.heap.objs.size:=hs1.1;have newT:s.heap.get? h1.objs.size=none:=Heap.get?_none_of_le (by rw [sizes];exact Nat.le_refl _);refine wpAny_setField q2 hd hsz (h _ ⟨fun b o q n1 n2 n3=> ?_,fun b o q n1 n2 n3=> ?_,fun b o q=> ?_⟩ ?_)
 ·rw [Heap.get?_update_other _ _ (Ne.symm n2)]
  exact Heap.get?_push_of_some _ ((hs1.2.1 b n1).trans q)
 ·obtain ⟨sl,q3⟩:=hs1.2.2 b o q
  refine ⟨sl, ?_⟩;rw [Heap.get?_update_other _ _ (Ne.symm n2)];exact Heap.get?_push_of_some _ q3
 ·obtain ⟨sl,q3⟩:=hs1.2.2 b o q
  by_cases hb:b=e
  ·subst hb
   exact ⟨_,(oX q2 hd 1 _).1⟩
  ·refine ⟨{o with slots:=sl}, ?_⟩
   rw [Heap.get?_update_other _ _ (Ne.symm hb)];exact Heap.get?_push_of_some _ q3
 ·obtain ⟨u1,u2,u3,u4⟩:=oX q2 hd 1 (Value.ref h1.objs.size)
  refine ⟨_,_,h1.objs.size,ob,_,u1,u3.trans hc,u4.trans hdx,u2,by simp [hsz],hlo _ newT,nTe, ?_,by rw [←hob], ?_⟩
  ·rw [Heap.get?_update_other _ _ (Ne.symm nTe)]
   exact Heap.get?_push_size _ (by rw [←hob];rfl)
  ·first |(simp;done)|(rcases hpl with rfl|⟨_,_,_,_,_,_,_,rfl⟩<;>simp)
theorem Tq {cls:Value} {dx:Option Addr} {lo:Addr->Prop} {Q:Unit->Shared->Prop} {fl:Option Value} (hfl:fl=none\/fl=some .none) (hfr:A.frames=some (env::outer)) (hl:s.heap.FunFrames base (env::outer)) (hf:env.frame=some L)
 (x:v9 s.heap e cls dx lo fl) (hlo:∀T,s.heap.get? T=none->lo T)
 (h:∀h',qG (frs (env::outer)) e lo s.heap h'->v9 h' e cls dx lo (some (rawInt L))->Q () {s with heap:=h'}):wpAny M A (noteFrame (.ref e) env) Q E s:=by
 unfold noteFrame;simp only [hf];rcases hfl with rfl|rfl
 ·obtain ⟨oe,vs,he,hc,hdx,hd,h1⟩:=x
  refine wpAny_bind (wpAny_field he hd h1 ?_);rw [if_neg (by decide)];exact Mq hfr hl hf he hd (Array.getElem?_eq_some_iff.mp h1).1 hc hdx hlo h
 ·obtain ⟨oe,vs,T,oT,ts,he,hc,hdx,hd,h1,hT,nT,Qp,hdT,h3⟩:=x
  refine wpAny_bind (wpAny_field he hd h1 ?_);rw [if_pos (show (Value.ref T != Value.none)=true from by simp)];refine wpAny_bind (wpAny_field Qp hdT h3 ?_);rw [if_neg (show ¬((Value.none==rawInt L)=true) from by simp [rawInt])];have hs3:3<ts.size:=(Array.getElem?_eq_some_iff.mp h3).1;refine wpAny_bind (wpAny_setField Qp hdT hs3 ?_);have oth:∀b,b≠T->(s.heap.update T (Obj.mapFields (·.setIfInBounds 3 Value.none))).get? b=s.heap.get? b:=fun b hb=>Heap.get?_update_other _ _ (Ne.symm hb);obtain ⟨u1,u2,u3,u4⟩:=oX Qp hdT 3 Value.none
  have n0:qG (frs (env::outer)) e lo s.heap (s.heap.update T (Obj.mapFields (·.setIfInBounds 3 Value.none))):=by
   have nb:∀b,¬lo b->b≠T:=fun b hb z=>hb (by rw [z];exact hT);refine ⟨fun b o q _ _ n3=>(oth b (nb b n3)).trans q,fun b o q _ _ n3=>⟨o.slots,(oth b (nb b n3)).trans q⟩,fun b o q=> ?_⟩
   by_cases hb:b=T
   ·subst hb;exact ⟨_,u1⟩
   ·exact ⟨o,(oth b hb).trans q⟩
  have ffs:(s.heap.update T (Obj.mapFields (·.setIfInBounds 3 Value.none))).FunFrames base (env::outer):=hl.of_keeps fun b o q nf=>by
   by_cases hb:b=T
   ·subst hb;rw [Qp] at q;cases q;exact absurd hdT (nf ts)
   ·exact ⟨o,(oth b hb).trans q,rfl⟩
  refine Mq (s:={s with heap:=s.heap.update T (Obj.mapFields (·.setIfInBounds 3 Value.none))}) hfr ffs hf ((oth e (Ne.symm nT)).trans he) hd (Array.getElem?_eq_some_iff.mp h1).1 hc hdx (fun T' z=> ?_) fun h' n1 x1=>h h' (n0.trans n1) x1
  by_cases hb:T'=T
  ·rw [hb];exact hT
  ·exact hlo T' ((oth T' hb).symm.trans z)
theorem Mp {cls:Value} {dx:Option Addr} {lo:Addr->Prop} {Q:Unit->Shared->Prop} {fr:List Addr} {f:Value} (x:v9 s.heap e cls dx lo (some f))
 (h:∀h',qG fr e lo s.heap h'->v9 h' e cls dx lo (some .none)->Q () {s with heap:=h'}):wpAny M A (setFlight (.ref e) none) Q E s:=by
 obtain ⟨oe,vs,T,oT,ts,he,hc,hdx,hd,h1,hT,nT,Qp,hdT,h3⟩:=x;have hs3:3<ts.size:=(Array.getElem?_eq_some_iff.mp h3).1;unfold setFlight;refine wpAny_bind (wpAny_field he hd h1 ?_);rw [if_pos (show (Value.ref T != Value.none)=true from by simp)];have oth:∀b,b≠T->(s.heap.update T (Obj.mapFields (·.setIfInBounds 3 Value.none))).get? b=s.heap.get? b:=fun b hb=>Heap.get?_update_other _ _ (Ne.symm hb);obtain ⟨u1,u2,u3,u4⟩:=oX Qp hdT 3 Value.none;have nb:∀b,¬lo b->b≠T:=fun b hb z=>hb (by rw [z];exact hT);refine wpAny_setField Qp hdT hs3 (h _ ⟨fun b o q _ _ n3=>(oth b (nb b n3)).trans q,fun b o q _ _ n3=>⟨o.slots,(oth b (nb b n3)).trans q⟩,fun b o q=> ?_⟩ ?_)
 ·by_cases hb:b=T
  ·subst hb;exact ⟨_,u1⟩
  ·exact ⟨o,(oth b hb).trans q⟩
 ·exact ⟨oe,vs,T,_,_,(oth e (Ne.symm nT)).trans he,hc,hdx,hd,h1,hT,nT,u1,u2,by simp [hs3]⟩
end
section
variable {X:Cx} {pins:List (Addr×Obj)} {σ:St} {H:Hp} {s:Shared} {e:Addr}
theorem gw.there {P:Program} {w:World} {H:Hp} {h:Heap} {a:Addr} {o:HO} (x:gw P w H h a o):∃ob,h.get? a=some ob:=by
 induction o with
 | lst xs=>obtain ⟨_,_,_,_,q⟩:=x;exact ⟨_,q⟩
 | tup xs=>obtain ⟨_,_,_,ob,q,_⟩:=x;exact ⟨ob,q⟩
 | dK kvs=>obtain ⟨_,_,_,_,ob,_,_,q,_⟩:=x;exact ⟨ob,q⟩
 | dT kvs=>obtain ⟨_,_,_,_,ob,_,_,q,_⟩:=x;exact ⟨ob,q⟩
 | set S n=>obtain ⟨ob,_,_,_,q,_⟩:=x;exact ⟨ob,q⟩
 | ins C dx fs=>obtain ⟨_,_,_,q,_⟩:=x;exact ⟨_,q⟩
 | own y=>exact x
 | xd fs=>obtain ⟨_,⟨ob,_,_,q,_⟩,_⟩:=x;exact ⟨ob,q⟩
 | rng lo hi=>obtain ⟨_,_,_,q⟩:=x;exact ⟨_,q⟩
 | Gf ob u ih=>exact ⟨ob,x.1⟩
 | TJ ps=>exact ⟨_,x⟩
 | met f y=>exact ⟨_,x⟩
 | ext φ=>exact x.2.1
def El (X:Cx) (pins:List (Addr×Obj)) (H:Hp) (b:Addr):Prop:=
 H b=none/\b≠X.env.locals/\b∉X.fs/\X.s₀.heap.get? b=none/\(∀x c,X.env.cells.lookup x=some c->c≠b) /\ ∀p∈X.pn++pins,p.1≠b
theorem Inv.xfp (I:Inv X pins σ H s) (hx:X.ex=[]) {b:Addr} (hb:s.heap.get? b=none):El X pins H b:=by
 refine ⟨?_,fun z=> ?_,fun z=> ?_, ?_,fun x c q z=> ?_,fun p hp z=> ?_⟩
 ·cases q:H b with
  | none=>rfl
  | some o=>
    obtain ⟨ob,r⟩:=(I.hok b o q).there;rw [hb] at r;cases r
 ·obtain ⟨m,⟨o,_,_,r,_⟩,_⟩:=I.loc
  rw [←z,hb] at r;cases r
 ·obtain ⟨_,o,r,_⟩:=I.pO.mem z
  rw [hb] at r;cases r
 ·cases q:X.s₀.heap.get? b with
  | none=>rfl
  | some o=>
    obtain ⟨o',r⟩:=I.base.there b o q (by rw [hx];simp);rw [hb] at r;cases r
 ·obtain ⟨v,o,r,_⟩:=I.cell x c q
  rw [z,hb] at r;cases r
 ·obtain ⟨r,_⟩:=I.pin p hp
  rw [z,hb] at r;cases r
theorem Inv.noted {lo:Addr->Prop} {h':Heap} (I:Inv X pins σ H s) (n:qG (frs X.stack) e lo s.heap h') (hlo:∀b,(b=e\/lo b)->El X pins H b\/s.heap.get? b=none):Inv X pins σ H {s with heap:=h'}:=by
 have off:∀b o,s.heap.get? b=some o->(¬El X pins H b)->b≠e /\ ¬lo b:=fun b o q nx=>
  ⟨fun z=>(hlo b (.inl z)).elim nx fun r=>(by rw [r] at q;cases q),fun z=>(hlo b (.inr z)).elim nx fun r=>(by rw [r] at q;cases q)⟩
 have any:∀b o,s.heap.get? b=some o->(¬El X pins H b) -> ∃sl,h'.get? b=some {o with slots:=sl}:=fun b o q nx=>by
  obtain ⟨n1,n2⟩:=off b o q nx
  by_cases hb:b∈frs X.stack
  ·exact n.slot b o q hb n1 n2
  ·exact ⟨o.slots,n.keep b o q hb n1 n2⟩
 have s0:∀b o,X.s₀.heap.get? b=some o -> ¬El X pins H b:=fun b o q x=>by rw [x.2.2.2.1] at q;cases q
 have Uj:∀b o,X.s₀.heap.get? b=some o->b≠X.env.locals:=fun b o q=>Nat.ne_of_lt (Nat.lt_of_lt_of_le (Heap.lt_size q) I.ok.above);have nst:∀b,b≠X.env.locals->b∉X.fs->b∉frs X.stack:=fun b n1 n2 z=>(List.mem_cons.mp (I.yt b z)).elim n1 n2;have Qm:∀b o,H b=some o -> ¬El X pins H b:=fun b o q x=>by rw [x.1] at q;cases q
 have Yo:∀b o,H b=some o->b∉frs X.stack:=fun b o q z=>by rw [I.Cq b z] at q;cases q
 have cl:∀x c,X.env.cells.lookup x=some c -> ∀v,s.heap.IsCell c v->h'.IsCell c v:=fun x c q v ⟨o,ho,hd⟩=>by
  obtain ⟨sl,r⟩:=any c o ho fun z=>z.2.2.2.2.1 x c q rfl;exact ⟨_,r,hd⟩
 refine ⟨I.ok,I.os,I.bare,⟨fun b o q nn hb hx=> ?_,fun b o q nn hb hx=> ?_,I.base.free,fun b o q hx=> ?_,I.base.tups,I.base.vX,I.base.wL⟩, ?_,fun x c q=> ?_,I.free,I.kh,fun p hp=> ?_,fun a o q=> ?_,I.len⟩
 ·have q1:=I.base.keep b o q nn hb hx
  obtain ⟨n1,n2⟩:=off b o q1 (s0 b o q);exact n.keep b o q1 (nst b (Uj b o q) hb) n1 n2
 ·obtain ⟨sl,q1⟩:=I.base.slot b o q nn hb hx
  obtain ⟨sl2,q2⟩:=any b _ q1 (s0 b o q);exact ⟨sl2,q2⟩
 ·obtain ⟨o1,q1⟩:=I.base.there b o q hx
  exact n.there b o1 q1
 ·obtain ⟨m,⟨ob,es,ep,ho,r⟩,hl⟩:=I.loc
  obtain ⟨sl,q1⟩:=any _ ob ho fun z=>z.2.1 rfl;refine ⟨m,⟨_,es,ep,q1,r⟩,fun i x v e1 e2 e3=> ?_⟩;obtain ⟨u,ru,l⟩:=hl i x v e1 e2 e3;refine ⟨u,ru, ?_⟩;rcases l with l|⟨k,c,hc,z⟩
  ·exact .inl l
  ·exact .inr ⟨k,c,hc,cl x c hc _ z⟩
 ·obtain ⟨v,z⟩:=I.cell x c q
  exact ⟨v,cl x c q v z⟩
 ·obtain ⟨q,nn,n1,n2,d⟩:=I.pin p hp
  obtain ⟨m1,m2⟩:=off p.1 p.2 q fun z=>z.2.2.2.2.2 p hp rfl;exact ⟨n.keep p.1 p.2 q (nst p.1 n1 n2) m1 m2,nn,n1,n2,d⟩
 ·refine (I.hok a o q).stay (fun b u hb r=> ?_) (fun _ z=>z) fun _ _ z=>z
  rcases hb with rfl|hb
  ·obtain ⟨m1,m2⟩:=off b u r (Qm b o q)
   exact n.keep b u r (Yo b o q) m1 m2
  ·obtain ⟨m1,m2⟩:=off b u r (Qm b _ hb)
   exact n.keep b u r (Yo b _ hb) m1 m2
def vd (P:Program) (w:World):LQ:=fun outer H s E ev s'=>∃(e:Addr) (cls:Value) (dx:Option Addr) (H':Hp),ev = .ref e/\s'.os=s.os/\AllBare s'.gens/\Un (frs outer) [] H H' s.heap s'.heap/\rC P w H' s'.heap /\
 s.heap.get? e=none/\H' e=none/\v9 s'.heap e cls dx (fun T=>s.heap.get? T=none/\H' T=none) (some .none)/\E cls dx H'
def Rz (X:Cx) (E:St->XK):Prop:=∀(pins:List (Addr×Obj)) (σ:St) (H:Hp) (s:Shared) (e:Addr) (cls:Value) (dx:Option Addr) (fl:Option Value),(fl=none\/fl=some .none)->Inv X pins σ H s->El X pins H e ->
 v9 s.heap e cls dx (El X pins H) fl->E σ cls dx H->X.xe (.ref e) s
theorem v9.imp {h:Heap} {e:Addr} {cls:Value} {dx:Option Addr} {lo lo':Addr->Prop} {f:Option Value} (x:v9 h e cls dx lo f) (k:∀T,(∃o,h.get? T=some o)->lo T->lo' T):v9 h e cls dx lo' f:=by
 cases f with
 | none=>exact x
 | some f=>
   obtain ⟨oe,vs,T,oT,ts,he,hc,hdx,hd,h1,hT,nT,Qp,r⟩:=x;exact ⟨oe,vs,T,oT,ts,he,hc,hdx,hd,h1,k T ⟨oT,Qp⟩ hT,nT,Qp,r⟩
theorem Js {E:St->XK} {σ:St} (hx:X.ex=[]) (R:Rz X E) {pins:List (Addr×Obj)} {H:Hp} {s s':Shared} {ev:Value} (I:Inv X pins σ H s) (c:vd X.prog X.w X.stack H s (E σ) ev s'):X.xe ev s':=by
 obtain ⟨e,cls,dx,H',rfl,ho,hg,u,hok,ne,he,x,q⟩:=c;have I':Inv X pins σ H' s':=I.call' (ch:=[]) ho u hok hg (fun b hb=>by cases hb)
 have fp:∀T,s.heap.get? T=none->H' T=none->El X pins H' T:=fun T h1 h2=>by
  obtain ⟨_,a2,a3,a4,a5,a6⟩:=I.xfp hx h1;exact ⟨h2,a2,a3,a4,a5,a6⟩
 exact R pins σ H' s' e cls dx _ (.inr rfl) I' (fp e ne he) (x.imp fun T _ z=>fp T z.1 z.2) q
theorem Fj {P:Program} {w:World} {K:PySem.W.Frag} {mg:Str->Option Value} {base:Heap} {N:List Str} {qual:Str} {scope:Scope} {f:Addr} {cd:Value} {A:Around} {outer:List Env} {s:Shared} {H:Hp} {E:XK}:
 Rz (pP (vd P w) P w K mg base N qual scope f cd A outer s H E) (fun _=>E):=by
 intro pins σ H1 s1 e cls dx fl hfl I fe x q;show wpAny (model P w) _ (leaving _ (.ref e)) _ _ s1;unfold leaving;have lo1:∀b,(b=e\/(El (pP (vd P w) P w K mg base N qual scope f cd A outer s H E) pins H1 b\/s1.heap.get? b=none))->El (pP (vd P w) P w K mg base N qual scope f cd A outer s H E) pins H1 b\/s1.heap.get? b=none:=fun b z=>z.elim (fun z=> .inl (by rw [z];exact fe)) fun z=>z;have stk:(pP (vd P w) P w K mg base N qual scope f cd A outer s H E).A.frames=some ((pP (vd P w) P w K mg base N qual scope f cd A outer s H E).env::outer):=I.ok.frames;refine wpAny_bind (Tq (base:=base) (lo:=fun T=>El (pP (vd P w) P w K mg base N qual scope f cd A outer s H E) pins H1 T\/s1.heap.get? T=none) hfl stk I.stack rfl (x.imp fun T _ z=> .inl z) (fun T z=> .inr z) fun h1 n1 x1=> ?_);refine Mp (fr:=frs ((pP (vd P w) P w K mg base N qual scope f cd A outer s H E).env::outer)) x1 fun h2 n2 x2=> ?_;have I2:Inv (pP (vd P w) P w K mg base N qual scope f cd A outer s H E) pins σ H1 {s1 with heap:=h2}:=I.noted (n1.trans n2) lo1;refine ⟨e,cls,dx,H1,rfl,I2.os,I2.bare,I2.base,I2.hok,fe.2.2.2.1,fe.1,x2.imp fun T _ z=> ?_,q⟩;rcases z with z|z
 ·exact ⟨z.2.2.2.1,z.1⟩
 ·have y:=I.xfp rfl z
  exact ⟨y.2.2.2.1,y.1⟩
end
end L2
set_option Elab.async false
set_option linter.all false
set_option maxRecDepth 100000
set_option maxHeartbeats 4000000
namespace L2
open PySem PySem.Spec PyProof.Rows
def Qi (P:Program) (w:World) (K:PySem.W.Frag) (mg:Str->Option Value) (base:Heap) (k:Nat) (x:Str) (ps:List Str) (sp:Sp):Prop:=
 ∃f fd,bW P w K mg base (vd P w) k f fd ps sp/\mg x=some (.ref f)/\PySem.W.keepIn K (.ref f)=true/\Binds K fd ps []
def Vo (sp:Sp) (E:St->XK) (t:TA):TE:=fun σ H Q=>t σ H fun vs H1=>sp vs H1 Q (E σ)
section
variable {X:Cx} {k:Nat} {x:Str} {ps:List Str} {sp:Sp} {e:Expr} {es:List Expr} {t:TA} {p pos:Pos} {E:St->XK}
theorem V6 (F:Qi X.prog X.w X.K X.mg X.base k x ps sp) (hx:X.ex=[]) (R:Rz X E) (hr:gR k X.A) (hg:Gl X x) (ha:PA X (e::es) t) (hd:(x==("__debug__" :Str))=false:=by decide)
 (he:starEach (e::es) X.env=(false,eval e X.env)::starEach es X.env:=by rfl) (hpl:(backTo pos (starEach es X.env)).any (·.1)=false:=by rfl):
 PE X (.Call (.Name x p) (e::es) [] pos) (Vo sp E t):=by
 obtain ⟨f,fd,G,hm,hk,hb⟩:=F;intro pins s σ H Q I h;refine wpAny_Call_Name_kw (qY I hg hm ?_ hd);refine PySem.W.callWith_K (h₀:=X.base) I.ok.mod.RD hk (eF (ha pos pins s σ H _ I h) fun us s1 ⟨vs,H1,I1,r,q⟩=>⟨I1.rE, ?_⟩) he hpl;have hlen:us.length=ps.length:=by rw [←r.length];exact G.len _ _ _ _ q
 have hbd:=hb s1 us I1.rE (by rw [List.append_nil];exact hlen);rw [List.append_nil] at hbd;refine wpAny_call (codeAny_mono (G.run X.A X.stack s1 H1 ⟨us,[]⟩ us vs Q (E σ) hr I1.env0 hbd r q) fun res s' hq=> ?_)
 match res,hq with
 | .error ev,hq=>exact Js hx R I1 hq
 | .ok (.ret u),hq=>exact I1.after hq
end
section
variable {P:Program} {w:World} {K:PySem.W.Frag} {mg:Str->Option Value} {base:Heap}
theorem j9.Rp {x qual:Str} {st:Stmt} {f:Addr} {fd:FuncData} {N ps:List Str} {k:Nat} {sp:Sp} (F:j9 K x qual st f fd) (S:bA N ps (aA st)) (len:∀vs H Q E,sp vs H Q E->vs.length=ps.length)
 (hbody:∀(cdv:Value) (A:Around) (outer:List Env) (s:Shared) (H:Hp) (vs:List V) (Q:VK) (E:XK),gR k (A.deeper (envOfC qual (aA st) s.heap.objs.size f cdv))->sp vs H Q E ->
   Rz (pP (vd P w) P w K mg base N qual (aA st) f cdv A outer s H E) (fun _=>E) ->
   ∃t,GX (pP (vd P w) P w K mg base N qual (aA st) f cdv A outer s H E) (aM st) t/\t {nx:=fun _ H'=>Q .non H',rt:=Q} (start N vs) H):bW P w K mg base (vd P w) (k+1) f fd ps sp:=by
 obtain ⟨oc,od,kV,doc,pm,an,cdv,ct,osl,rfl,lk,hcd⟩:=F.ex;exact O_ lk hcd S len fun A outer s H vs Q E hr hsp=>hbody cdv A outer s H vs Q E hr hsp Fj
end
theorem R_ {K:PySem.W.Frag} {h:Heap} {C:Addr} {bmB:List Value} {newId:String} (X:K.In h) (q:PySem.W.excIn K C bmB newId=true):
 ∃bm N nm qn bs hdct sn sub ab col dd k0 k1 k2 k3 k5 mN,h.get? C=some (excClassObj nm qn C N bs bm hdct sn sub ab col dd k0 k1 k2 k3 k5 newId)/\h.Ns N mN/\mN "__init__" = none/\OwnTail h bmB bm:=by
 unfold PySem.W.excIn at q;split at q
 ·rename_i d0 c0 s0 lk
  split at q
  ·rename_i C1 tl a0 a1 a2 a3 nn a5 em es
   simp only [Bool.and_eq_true,beq_iff_eq,Bool.not_eq_true'] at q;obtain ⟨⟨⟨⟨⟨e1,e2⟩,e3⟩,e4⟩,e5⟩,e6⟩:=q;subst e1 e2;obtain ⟨f1,f2,f3,f4,f5,f6,f7,f8,f9,X7,f11⟩:=c0;dsimp only at em e3 e5 e6;subst em e3
   have ez:s0 = #[a0,a1,a2,a3,some (.builtin nn),a5]:=by
    obtain ⟨l⟩:=s0;simp only at es;rw [es]
   subst ez;exact ⟨tl,f4,_,_,_,_,_,_,_,_,_,_,_,_,_,_,_,X _ _ lk,.of_isNs (PySem.W.isNs_of_in X e5),PySem.W.nsMap_none_of_in X e5 e6,PySem.W.tail_of_in X e4⟩
  ·cases q
 ·cases q
def Vh (cls:Value) (E:St->XK) (ta:TA):TS:=fun _ σ H=>ta σ H fun vs H1=>vs.length<=sizeLine/\E σ cls none H1
section
variable {X:Cx} {E:St->XK} {x:Str} {C:Addr} {B newId initId:String} {bmB:List Value} {e0:Expr} {rest:List Expr} {ta:TA} {np cpos pos:Pos}
theorem mC (FB:ExcBaseFacts B newId initId bmB) (q:PySem.W.excIn X.K C bmB newId=true) (hm:X.mg x=some (.ref C)) (hg:Gl X x) (hc:X.calm=true) (hx:X.ex=[]) (R:Rz X E) (ha:PA X (e0::rest) ta)
 (he:starEach (e0::rest) X.env=(false,eval e0 X.env)::starEach rest X.env:=by rfl) (hplain:(backTo cpos (starEach rest X.env)).any (·.1)=false:=by rfl) (hd:(x==("__debug__" :Str))=false:=by decide):
 PS X (.Raise (some (.Call (.Name x np) (e0::rest) [] cpos)) none pos) (Vh (.ref C) E ta):=by
 intro pins s σ H D I h;obtain ⟨bm,N,nm,qn,bs,hdct,sn,sub,ab,col,dd,k0,k1,k2,k3,k5,mN,hC,hN,hni,T⟩:=R_ I.ok.mod.RD q
 refine wpAny_Raise_call_subT (k5:=k5) (k3:=k3) (k2:=k2) (k1:=k1) (k0:=k0) (dd:=dd) (col:=col) (ab:=ab) (sub:=sub) (sn:=sn) (hdct:=hdct) (bs:=bs) (q:=qn) (nm:=nm)
  (C:=C) (N:=N) (bm:=bm) (mN:=mN) FB (T.hasType FB.hasBase) (I.ok.hd hc) (by rw [he];show (false||(backTo cpos (starEach rest X.env)).any (·.1))=false;rw [hplain];rfl) hni (qY I hg hm ⟨rfl, ?_⟩ hd)
 have h2:=ha cpos pins s σ H _ I h;rw [he] at h2 ⊢;refine Calls.evalArgs_plain (eF h2 fun us s1 ⟨vs,H1,I1,r,hl,hE⟩=>⟨rfl,by rw [←r.length];exact hl,I1.bk _ _ hC,hN.keeps I1.bk,T.keeps I1.bk,fun h' e mk=> ?_⟩);obtain ⟨t,ht,_,_⟩:=mk.there;have I2:Inv X pins σ H1 {s1 with heap:=h'}:=I1.kept (t':=s1.toks) mk.keeps;exact R pins σ H1 _ e (.ref C) none none (.inl rfl) I2 (I1.xfp hx mk.new) ⟨_,_,ht,rfl,rfl,rfl,rfl⟩ hE
end
def XO (C:Addr) (dx:Option Addr) (e:Addr):HO:= .ext fun h=>∃oe vs,h.get? e=some oe/\oe.cls = .ref C/\oe.dict=dx/\oe.data = .fields vs
def DX (X:Cx) (e:Addr):Cx:={X with A:=X.A.mark (some (.ref e)),calm:=false,xe:=fun _ _=>False}
def zy (X:Cx) (pins:List (Addr×Obj)) (xe:Value->Shared->Prop):Cx:={X with pn:=X.pn++pins,xe:=xe}
section
variable {X:Cx} {pins:List (Addr×Obj)} {σ:St} {H:Hp} {s:Shared}
theorem Inv.Yq (I:Inv X pins σ H s) (xe:Value->Shared->Prop):Inv (zy X pins xe) [] σ H s:=
 ⟨⟨I.ok.mod,I.ok.kind,I.ok.glob,I.ok.blt,I.ok.above,I.ok.inj,I.ok.has,I.ok.cab,I.ok.hd,I.ok.frames,I.ok.stk,I.ok.X8,I.ok.bs,I.ok.Iz,I.ok.Ds,I.ok.Gh,I.ok.pO,I.ok.Lz⟩,I.os,I.bare,I.base,I.loc,I.cell,I.free,I.kh,
   fun p hp=>I.pin p (by rw [List.append_nil] at hp;exact hp),I.hok,I.len⟩
theorem Inv.Bl {xe:Value->Shared->Prop} {pL:List (Addr×Obj)} (I:Inv (zy X pins xe) pL σ H s):Inv X pins σ H s:=
 ⟨⟨I.ok.mod,I.ok.kind,I.ok.glob,I.ok.blt,I.ok.above,I.ok.inj,I.ok.has,I.ok.cab,I.ok.hd,I.ok.frames,I.ok.stk,I.ok.X8,I.ok.bs,I.ok.Iz,I.ok.Ds,I.ok.Gh,I.ok.pO,I.ok.Lz⟩,I.os,I.bare,I.base,I.loc,I.cell,I.free,I.kh,
   fun p hp=>I.pin p (List.mem_append_left _ hp),I.hok,I.len⟩
theorem Inv.MF (I:Inv X pins σ H s) (e:Addr):Inv (DX X e) pins σ H s:=
 ⟨⟨I.ok.mod,I.ok.kind,I.ok.glob,I.ok.blt,I.ok.above,I.ok.inj,I.ok.has,I.ok.cab,fun z=>(by cases z),I.ok.frames,I.ok.stk,I.ok.X8,I.ok.bs,I.ok.Iz,I.ok.Ds,I.ok.Gh,I.ok.pO,I.ok.Lz⟩,I.os,I.bare,I.base,I.loc,I.cell,I.free,I.kh,
   I.pin,I.hok,I.len⟩
theorem Inv.Dq {e:Addr} (I:Inv (DX X e) pins σ H s) (hd:X.calm=true->X.A.handled=none):Inv X pins σ H s:=
 ⟨⟨I.ok.mod,I.ok.kind,I.ok.glob,I.ok.blt,I.ok.above,I.ok.inj,I.ok.has,I.ok.cab,hd,I.ok.frames,I.ok.stk,I.ok.X8,I.ok.bs,I.ok.Iz,I.ok.Ds,I.ok.Gh,I.ok.pO,I.ok.Lz⟩,I.os,I.bare,I.base,I.loc,I.cell,I.free,I.kh,
   I.pin,I.hok,I.len⟩
theorem Inv.track {e C:Addr} {dx:Option Addr} {lo:Addr->Prop} {fl:Option Value} (I:Inv X pins σ H s) (hx:X.ex=[]) (fe:El X pins H e) (x:v9 s.heap e (.ref C) dx lo fl):Inv X pins σ (upd H e (XO C dx e)) s:=by
 obtain ⟨f1,f2,f3,f4,f5,f6⟩:=fe;obtain ⟨oe,vs,q,hc,hdx,hd⟩:=x.there;have ne:∀b o,H b=some o->b≠e:=fun b o r=>aB r f1;refine ⟨I.ok,I.os,I.bare,⟨I.base.keep,I.base.slot,fun b o r n hh=> ?_,I.base.there,fun b xs r=> ?_,fun b o u r=> ?_,fun b ps r=> ?_⟩,I.loc,I.cell, ?_,fun y c r=> ?_,fun p hp=> ?_,fun a o r=> ?_,I.len⟩
 ·rw [aF (fun z=>by rw [z,f4] at r;cases r)]
  exact I.base.free b o r n hh
 ·have r2:=I.base.tups b xs r
  rw [aF (ne b _ r2)];exact r2
 ·have r2:=I.base.vX b o u r
  rw [aF (ne b _ r2)];exact r2
 ·obtain ⟨m,r2⟩:=I.base.wL b ps r
  exact ⟨m,by rw [aF (ne b _ r2)];exact r2⟩
 ·rw [aF (Ne.symm f2)];exact I.free
 ·rw [aF (f5 y c r)];exact I.kh y c r
 ·obtain ⟨a1,a2,a3⟩:=I.pin p hp
  exact ⟨a1,by rw [aF (f6 p hp)];exact a2,a3⟩
 ·by_cases ha:a=e
  ·subst ha
   rw [ao] at r;cases r;exact ⟨⟨oe,vs,q,hc,hdx,hd⟩,⟨oe,q⟩,fun h1 h2 ⟨o1,v1,p1,p2⟩ k=>⟨o1,v1,k _ p1,p2⟩⟩
  ·rw [aF ha] at r
   refine (I.hok a o r).stay (fun _ _ _ z=>z) (fun b z=>by rw [aF (ne b _ z)];exact z) fun b ys z=>by rw [aF (ne b _ z)];exact z
end
section
variable {M:Model} {A:Around} {Er:Value->Shared->Prop} {s:Shared} {K:PySem.W.Frag} {e C D:Addr}
theorem FP {oe:Obj} {b:Bool} {Q:Bool->Shared->Prop} (X:K.In s.heap) (he:s.heap.get? e=some oe) (hc:oe.cls = .ref C) (hD:(PySem.W.clsIn K D).isSome=true) (hty:PySem.W.typeIn K (.ref D)=some (.type "type"))
 (hB:PySem.W.subIn K (.ref D) (.type "BaseException")=some true) (hs:PySem.W.subIn K (.ref C) (.ref D)=some b) (hq:Q b s):wpAny M A (excMatches (.ref e) (.ref D)) Q Er s:=by
 obtain ⟨hh,g,d,t,os⟩:=s;have L1:PySem.W.Looks M hh (typeOf (.ref D)) (.type "type"):=PySem.W.looks_typeIn X hty;have L2:PySem.W.Looks M hh (isSubtype (.ref D) (.type "BaseException")) true:=PySem.W.looks_subIn X hB;have L3:PySem.W.Looks M hh (isSubtype (.ref C) (.ref D)) b:=PySem.W.looks_subIn X hs
 have L4:PySem.W.Looks M hh (isType (.ref D)) true:=by
  unfold PySem.W.clsIn at hD;split at hD
  ·rename_i c' d' cd' sl' ho
   intro A' Q' E' s' k q;unfold isType loadHead;exact wpAny_bind (wpAny_loadPart (k _ _ (X _ _ ho)) (wpAny_pure q))
  ·cases hD
 have f:=tc_notTuple;unfold excMatches isExcClass isInstance;refine wpAny_bind (wpAny_bind (L1.at ?_));refine wpAny_of_eq f ?_;rw [if_neg (by decide)];refine wpAny_bind (wpAny_pure ?_);simp only [List.forIn_cons,List.forIn_nil];refine wpAny_bind (wpAny_bind (wpAny_bind (wpAny_bind (L4.at ?_))));rw [if_pos rfl];refine L2.at ?_;simp only [Bool.not_true,Bool.false_eq_true,if_false];refine wpAny_pure (wpAny_pure ?_)
 have L0:PySem.W.Looks M hh (typeOf (.ref e)) (.ref C):=by
  intro A' Q' E' s' k q;unfold typeOf;refine wpAny_bind (wpAny_loadPart (k _ _ he) ?_);rw [hc];exact wpAny_pure q
 refine wpAny_bind (L0.at ?_);refine wpAny_bind (wpAny_bind (wpAny_bind (L3.at ?_)));cases b with
 | true=>exact wpAny_pure (wpAny_pure (wpAny_pure hq))
 | false=>exact wpAny_pure (wpAny_pure (wpAny_pure hq))
end
end L2
set_option Elab.async false
set_option linter.all false
set_option maxRecDepth 100000
set_option maxHeartbeats 4000000
namespace L2
open PySem PySem.Spec PyProof.Rows
section
variable {X:Cx} {pins:List (Addr×Obj)} {σ:St} {H:Hp} {s:Shared}
theorem Inv.gone {i:Nat} {n:Str} {m:Str->Option Value} {v:Option Value} {h':Heap} {t:Nat} (I:Inv X pins σ H s) (hN:X.N.Nodup) (hi:X.N[i]? = some n)
 (hm:∀(j:Nat) (x:Str) (u:V),X.N[j]? = some x->σ[j]? = some (some u)->Vis X.env.scope x -> ∃w',RelV u w'/\Look X.env s.heap m x w')
 (hn:h'.Ns X.env.locals (fun x=>if x=n then v else m x)) (sb:Heap.SameBut X.env.locals s.heap h'):Inv X pins (σ.set i none) H {s with heap:=h',toks:=t}:=by
 have Uj:∀b o,X.s₀.heap.get? b=some o->b≠X.env.locals:=fun b o q=>Nat.ne_of_lt (Nat.lt_of_lt_of_le (Heap.lt_size q) I.ok.above);have cl:∀x c,X.env.cells.lookup x=some c -> ∀w',s.heap.IsCell c w'->h'.IsCell c w':=fun x c q w' ⟨o,ho,hd⟩=>⟨o,(sb.2 c (I.UL x c q)).trans ho,hd⟩;have Qm:∀b o,H b=some o->b≠X.env.locals:=fun b o q=>aB q I.free;refine ⟨I.ok,I.os,I.bare,⟨fun b o q nn hb hx=>(sb.2 b (Uj b o q)).trans (I.base.keep b o q nn hb hx),fun b o q nn hb hx=> ?_,I.base.free,fun b o q hx=> ?_,I.base.tups,I.base.vX,I.base.wL⟩,⟨_,hn,fun j x u e1 e2 e3=> ?_⟩,fun x c q=> ?_,I.free,I.kh,fun p hp=> ?_,fun a o q=> ?_, ?_⟩
 ·obtain ⟨sl,r⟩:=I.base.slot b o q nn hb hx
  exact ⟨sl,(sb.2 b (Uj b o q)).trans r⟩
 ·obtain ⟨o',r⟩:=I.base.there b o q hx
  exact ⟨o',(sb.2 b (Uj b o q)).trans r⟩
 ·have hji:j≠i:=by
   rintro rfl
   by_cases hlt:j<σ.length
   ·rw [List.getElem?_set_self hlt] at e2
    cases e2
   ·rw [List.getElem?_eq_none (by rw [List.length_set];omega)] at e2
    cases e2
  rw [List.getElem?_set_ne (Ne.symm hji)] at e2;obtain ⟨w',r,l⟩:=hm j x u e1 e2 e3;refine ⟨w',r, ?_⟩;have hxn:x≠n:=fun z=>hji (yW hN e1 (by rw [z];exact hi));rcases l with ⟨k,q⟩|⟨k,c,hc,z⟩
  ·exact .inl ⟨k,by show (if x=n then v else m x)=some w';rw [if_neg hxn];exact q⟩
  ·exact .inr ⟨k,c,hc,cl x c hc _ z⟩
 ·obtain ⟨w',z⟩:=I.cell x c q
  exact ⟨w',cl x c q w' z⟩
 ·obtain ⟨q,nn,n1,r⟩:=I.pin p hp
  exact ⟨(sb.2 p.1 n1).trans q,nn,n1,r⟩
 ·refine (I.hok a o q).stay (fun b u hb r=> ?_) (fun _ z=>z) fun _ _ z=>z
  rcases hb with rfl|hb
  ·exact (sb.2 b (Qm b o q)).trans r
  ·exact (sb.2 b (Qm b _ hb)).trans r
 ·show (σ.set i none).length=X.N.length
  rw [List.length_set];exact I.len
theorem qW {M:Model} {A:Around} {E:Value->Shared->Prop} {i:Nat} {n:Str} {pos:Pos} {Q:Unit->Shared->Prop} (I:Inv X pins σ H s) (hN:X.N.Nodup) (hi:X.N[i]? = some n) (hl:X.env.kindOf n=some .local)
 (h:∀s',Inv X pins (σ.set i none) H s'->Q () s'):wpAny M A (do bindName X.env n .none;unbindBehindTheSuite X.env n pos) Q E s:=by
 obtain ⟨m,hn,hm⟩:=I.loc;exact wpAny_nameGoes_keeps hl hn (by rw [I.ok.kind];rfl) fun h' v hn' sb=>h _ (I.gone hN hi hm hn' sb)
end
def aat (D:Ends) (i:Nat):Ends:={nx:=fun σ H=>D.nx (σ.set i none) H,rt:=D.rt,bk:=fun σ H=>D.bk (σ.set i none) H,ct:=fun σ H=>D.ct (σ.set i none) H}
def adl (K:PySem.W.Frag) (i:Nat) (Dc:Addr) (tb:(St->XK)->TS) (th:TS):TS:=fun D σ H=>
 tb (fun σ1 cls dx H1=>∃C,cls = .ref C/\PySem.W.subIn K (.ref C) (.ref Dc)=some true /\ ∀e,H1 e=none->th (aat D i) (σ1.set i (some (.ref e))) (upd H1 e (XO C dx e))) D σ H
structure XHd (K:PySem.W.Frag) (D:Addr):Prop where
 cl:(PySem.W.clsIn K D).isSome=true
 ty:PySem.W.typeIn K (.ref D)=some (.type "type")
 bs:PySem.W.subIn K (.ref D) (.type "BaseException")=some true
section
variable {X:Cx} {body suite:List Stmt} {b0:Stmt} {n cn:Str} {i:Nat} {Dc:Addr} {tb:(St->XK)->TS} {th:TS} {cp hpos pos:Pos}
theorem VP (hc:X.calm=true) (hx:X.ex=[]) (hst:X.stack=X.env::X.outer) (hfm:X.env.frame=some X.env.locals) (hN:X.N.Nodup) (hi:X.N[i]? = some n) (hl:X.env.kindOf n=some .local) (hg:Gl X cn) (hm:X.mg cn=some (.ref Dc)) (hD:XHd X.K Dc)
 (hb:∀(pn:List (Addr×Obj)) (xe:Value->Shared->Prop) (E:St->XK),PassesOwn (model X.prog X.w) X.A X.env xe->Rz {X with pn:=pn,xe:=xe} E->GX {X with pn:=pn,xe:=xe} body (tb E))
 (hh:∀e,GX (DX X e) (b0::suite) th) (hd:(cn==("__debug__" :Str))=false:=by decide):
 PS X (.Try body [.ExceptHandler (some (.Name cn cp)) (some n) (b0::suite) hpos] [] [] pos) (adl X.K i Dc tb th):=by
 intro pins s σ H D I h;refine wpAny_Try_except ?_
 refine wpAny_mono (hb (X.pn++pins) (fun e s₁=>wpAny (model X.prog X.w) X.A (noteFrame e X.env) (fun _ s₂=>wpAny (model X.prog X.w) X.A (setFlight e none) (fun _ s₃=>wpAny (model X.prog X.w) X.A (handleBy e X.env [.ExceptHandler (some (.Name cn cp)) (some n) (b0::suite) hpos]) (SP X pins D) X.xe s₃) X.xe s₂) X.xe s₁) _
  PassesOwn.looking ?_ [] s σ H D (I.Yq _) h) (fun f s1 q=> ?_) fun _ _ q=>q
 ·
  intro pL σ1 H1 s1 e cls dx fl hfl I1 fe x hE;obtain ⟨C,rfl,hsub,hth⟩:=hE;have lo1:∀b,(b=e\/(El (zy X pins X.xe) pL H1 b\/s1.heap.get? b=none))->El (zy X pins X.xe) pL H1 b\/s1.heap.get? b=none:=fun b z=>z.elim (fun z=> .inl (by rw [z];exact fe)) fun z=>z;have hfr:X.A.frames=some (X.env::X.outer):=by rw [←hst];exact I.ok.frames
  have hff:s1.heap.FunFrames X.base (X.env::X.outer):=by rw [←hst];exact I1.stack
  refine Tq (base:=X.base) (lo:=fun T=>El (zy X pins X.xe) pL H1 T\/s1.heap.get? T=none) hfl hfr hff hfm (x.imp fun T _ z=> .inl z) (fun T z=> .inr z) fun h1 n1 x1=> ?_;refine Mp (fr:=frs (X.env::X.outer)) x1 fun h2 n2 x2=> ?_;have n12:qG (frs X.stack) e (fun T=>El (zy X pins X.xe) pL H1 T\/s1.heap.get? T=none) s1.heap h2:=by rw [hst];exact n1.trans n2
  have I2:Inv X pins σ1 H1 {s1 with heap:=h2}:=(I1.noted n12 lo1).Bl;refine wpAny_handleBy_cons (codeAny_handlers_test (qY (I2.MF e) hg hm ?_ hd)) (by intro z;cases z);obtain ⟨oe,vs,q1,q2,q3,q4⟩:=x2.there;refine FP (K:=X.K) I2.rE q1 q2 hD.cl hD.ty hD.bs hsub ?_;rw [if_pos rfl];refine codeAny_handlers_suite_as ?_;refine Mp (fr:=frs (X.env::X.outer)) x2 fun h3 n3 x3=> ?_;have n13:qG (frs X.stack) e (fun T=>El (zy X pins X.xe) pL H1 T\/s1.heap.get? T=none) s1.heap h3:=by rw [hst];exact (n1.trans n2).trans n3
  have I3:Inv X pins σ1 H1 {s1 with heap:=h3}:=(I1.noted n13 lo1).Bl;have feX:El X pins H1 e:=⟨fe.1,fe.2.1,fe.2.2.1,fe.2.2.2.1,fe.2.2.2.2.1,fun p hp=>fe.2.2.2.2.2 p (List.mem_append_left _ hp)⟩;have I4:Inv X pins σ1 (upd H1 e (XO C dx e)) {s1 with heap:=h3}:=I3.track hx feX x3;refine uf (X:=DX X e) (I4.MF e) hN hi (.inl hl) (v:= .ref e) rfl (fun s5 I5=> ?_) (.inr hl);refine wpAny_mono (hh e pins s5 _ _ (aat D i) I5 (hth e fe.1)) (fun f s6 q6=> ?_) fun _ _ z=>z.elim;cases f with
  | next=>
    obtain ⟨σ6,H6,J6,r6⟩:=q6;exact qW (J6.Dq I.ok.hd) hN hi hl fun s7 J7=>⟨_,H6,J7,r6⟩
  | brk=>
    obtain ⟨σ6,H6,J6,r6⟩:=q6;exact qW (J6.Dq I.ok.hd) hN hi hl fun s7 J7=>⟨_,H6,J7,r6⟩
  | cont=>
    obtain ⟨σ6,H6,J6,r6⟩:=q6;exact qW (J6.Dq I.ok.hd) hN hi hl fun s7 J7=>⟨_,H6,J7,r6⟩
  | ret u=>
    obtain ⟨v6,σ6,H6,J6,rv,r6⟩:=q6;exact qW (J6.Dq I.ok.hd) hN hi hl fun s7 J7=>⟨v6,_,H6,J7,rv,r6⟩
 ·cases f with
  | next=>obtain ⟨σ1,H1,J,r⟩:=q;exact wpAny_execs_nil ⟨σ1,H1,J.Bl,r⟩
  | brk=>obtain ⟨σ1,H1,J,r⟩:=q;exact ⟨σ1,H1,J.Bl,r⟩
  | cont=>obtain ⟨σ1,H1,J,r⟩:=q;exact ⟨σ1,H1,J.Bl,r⟩
  | ret u=>obtain ⟨v,σ1,H1,J,rv,r⟩:=q;exact ⟨v,σ1,H1,J.Bl,rv,r⟩
end
section
variable {X:Cx} {K:PySem.W.Frag}
theorem Af {o:Obj} {vs:Array Value} (h:o.data = .fields vs):PySem.W.notCls o=true:=by
 obtain ⟨c,d,dt,sl⟩:=o;simp only at h;subst h;rfl
theorem Ji {C e:Addr} {P:Program} {w:World} {H:Hp} {h:Heap} (x:gw P w H h e (XO C none e)):∃ox odo,PySem.W.InstAt h e ox C odo:=by
 obtain ⟨⟨oe,vs,q,hc,hd,hf⟩,_⟩:=x;exact ⟨oe,none,⟨q,hc,Af hf,by rw [hd];trivial⟩⟩
theorem zA {c:Value} {cv:V} (hk:X.K=K) (rc:∀u,RelV cv u->u=c):kE X (.builtin "isinstance") (fun xs H Q=>∃(e C:Addr) (b:Bool),xs=[.ref e,cv]/\H e=some (XO C none e)/\PySem.W.SN K C/\PySem.W.kitOne K (.ref C) c=some b/\Q (.bl b) H):=by
 subst hk;intro pins s σ H xs us Q I r h;obtain ⟨e,C,b,rfl,he,xc,hb,q⟩:=h;obtain ⟨u,w',rfl,r1,r2⟩:=vals2 r;cases (show u=Value.ref e from r1);have:=rc _ r2;subst this;exact PySem.W.kia_one (PySem.W.FQ xc) I.rE (Ji (I.hok e _ he)) hb (by intro z;cases z) fun tk=>⟨.bl b,H,I.tok _,rfl,q⟩
theorem J1 {cs:List Addr}:∀{us:List Value},Vals (cs.map V.ref) us->us=cs.map Value.ref:=by
 induction cs with
 | nil=>intro us r;cases r;rfl
 | cons c cs ih=>
   intro us r;cases r with
   | cons r rs=>cases (show _=Value.ref c from r);rw [ih rs];rfl
end
end L2
set_option Elab.async false
set_option linter.all false
set_option maxRecDepth 100000
set_option maxHeartbeats 4000000
namespace L2
open PySem PySem.Spec PyProof.Rows
section
variable {X:Cx} {K:PySem.W.Frag}
theorem Ln (hk:X.K=K):kE X (.builtin "isinstance") (fun xs H Q=>∃(e t C:Addr) (cs:List Addr) (b:Bool),xs=[.ref e,.ref t]/\H e=some (XO C none e)/\PySem.W.SN K C/\H t=some (.tup (cs.map V.ref)) /\
 PySem.W.kitAny K (.ref C) (cs.map Value.ref)=some b/\Q (.bl b) H):=by
 subst hk;intro pins s σ H xs us Q I r h;obtain ⟨e,t,C,cs,b,rfl,he,xc,ht,hb,q⟩:=h;obtain ⟨u,w',rfl,r1,r2⟩:=vals2 r;cases (show u=Value.ref e from r1);cases (show w'=Value.ref t from r2);obtain ⟨its,rv,⟨o,ho,hc,m,hd⟩,hz⟩:=I.tuple (cO.of ht);have ei:=J1 rv;subst ei;obtain ⟨c0,d0,dt,sl⟩:=o;simp only at hc hd;subst hc hd;exact PySem.W.kia_tup (PySem.W.FQ xc) I.rE (Ji (I.hok e _ he)) ho hb (by intro z;cases z) fun tk=>⟨.bl b,H,I.tok _,rfl,q⟩
end
structure bV (K:PySem.W.Frag) (C D:Addr) (b:Bool):Prop where
 ne:(Value.ref C==Value.ref D)=false
 sub:PySem.W.subIn K (.ref C) (.ref D)=some b
theorem qZ {K:PySem.W.Frag} {C D:Addr} {b:Bool} (h:XHd K D) (p:bV K C D b):PySem.W.kitOne K (.ref C) (.ref D)=some b:=by
 unfold PySem.W.kitOne;rw [if_neg (by rw [p.ne];decide)];show (if ((PySem.W.clsIn K D).isSome&&PySem.W.typeIn K (.ref D)==some (.type "type"))=true then PySem.W.subIn K (.ref C) (.ref D) else none)=some b;rw [if_pos (by rw [h.cl,h.ty];rfl)];exact p.sub
theorem FT {K:PySem.W.Frag} {C:Addr}:PySem.W.kitOne K (.ref C) (.ref C)=some true:=by
 unfold PySem.W.kitOne;rw [if_pos (by simp)]
theorem Br {K:PySem.W.Frag} {C:Addr} {b:Bool} (h:PySem.W.subIn K (.ref C) (.type "ValueError")=some b):PySem.W.kitOne K (.ref C) (.type "ValueError")=some b:=by
 unfold PySem.W.kitOne;rw [if_neg (by intro z;cases beq_iff_eq.mp z)];show (if PySem.W.kitMeta "ValueError" = true then PySem.W.subIn K (.ref C) (.type "ValueError") else none)=some b;rw [if_pos (by decide +kernel)];exact h
theorem qu {K:PySem.W.Frag} {C:Addr}:∀{cs:List Addr},(∀D∈cs,PySem.W.kitOne K (.ref C) (.ref D)=some false)->PySem.W.kitAny K (.ref C) (cs.map Value.ref)=some false
 | [],_=>rfl
 | D::cs,h=>by
   show PySem.W.kitAny K (.ref C) (.ref D::cs.map Value.ref)=some false;unfold PySem.W.kitAny;rw [h D List.mem_cons_self];exact qu fun D' hD=>h D' (List.mem_cons_of_mem _ hD)
theorem Ai:bootBuiltins "ValueError" = some (.type "ValueError"):=by kernel_rfl
end L2
namespace L2
open PySem
structure Xr (K:PySem.W.Frag) (mg:Str->Option Value) (C:Addr) (nm:Str):Prop where
 bd:mg nm=some (.ref C)
 hd:XHd K C
 xc:PySem.W.SN K C
 ex:PySem.W.excIn K C [.type "ValueError",.type "Exception",.type "BaseException",.type "object"] "ValueError.__new__" = true
 ve:PySem.W.subIn K (.ref C) (.type "ValueError")=some true
structure Xo (K:PySem.W.Frag) (mg:Str->Option Value) (C D:Addr) (nm:Str) (b:Bool):Prop where
 bd:mg nm=some (.ref D)
 hd:XHd K D
 pr:bV K C D b
end L2
set_option Elab.async false
set_option linter.all false
set_option maxRecDepth 100000
set_option maxHeartbeats 4000000
namespace L2
open PySem PySem.Spec PyProof.Rows
section
variable {X:Cx} {pins:List (Addr×Obj)} {σ:St} {H:Hp} {s:Shared} {h':Heap}
theorem Inv.qM {t':Nat} {fp:List Addr} (I:Inv X pins σ H s) (hf:∀b∈fp,qL X pins H b) (k:∀b o,b∉fp->s.heap.get? b=some o->h'.get? b=some o):Inv X pins σ H {s with heap:=h',toks:=t'}:=by
 have Zk:∀b u,H b=some u->b∉fp:=fun b u e z=>by rw [(hf b z).1] at e;cases e
 refine I.step (g':=s.gens) (d':=s.drawn) (ch:=fp) (fun b hb=> ?_) (fun b o _ _ hc e _=>k b o hc e) (fun b o _ _ hc e _=>⟨o.slots,k b o hc e⟩) (fun _ _ _ _ n=>n)
  (fun b o hc e=>⟨o,k b o hc e⟩) (fun _ _ e=>e) (fun _ _ _ e=>e) (fun b ps e=>⟨#[],by rw [e];simp⟩) (fun m hm=> ?_) (fun b u e=> ?_) I.bare
 ·obtain ⟨f0,f1,f2,f3,f4,f5⟩:=hf b hb
  exact ⟨f3,f1,f4,f5⟩
 ·obtain ⟨o,es,ep,ho,r⟩:=hm
  exact ⟨o,es,ep,k _ o (fun z=>(hf _ z).2.1 rfl) ho,r⟩
 ·refine (I.hok b u e).stay (fun c v hc q=>k c v ?_ q) (fun _ q=>q) fun _ _ q=>q
  rcases hc with z|z
  ·rw [z];exact Zk b u e
  ·exact Zk c _ z
theorem qL.upd {b p:Addr} {o:HO} (h:qL X pins H b) (n:b≠p):qL X pins (upd H p o) b:=by
 obtain ⟨f0,r⟩:=h;exact ⟨by rw [aF n];exact f0,r⟩
theorem zj {h:Heap} {o u:Obj} {b:Addr} (ho:o.isFreed=false) (e:(h.push o).get? b=some u):(b=h.objs.size/\u=o)\/h.get? b=some u:=by
 by_cases hb:b=h.objs.size
 ·subst hb
  rw [Heap.get?_push_size _ ho] at e;exact .inl ⟨rfl,(Option.some.inj e).symm⟩
 ·refine .inr ?_
  have lt:=Heap.lt_size e
  have Uk:b<h.objs.size:=by
   have:(h.push o).objs.size=h.objs.size+1:=by simp [Heap.push]
   rw [this] at lt;exact Nat.lt_of_le_of_ne (Nat.le_of_lt_succ lt) hb
  have:(h.push o).get? b=h.get? b:=by
   simp only [Heap.get?,Heap.push];rw [Array.getElem?_push_lt Uk,Array.getElem?_eq_getElem Uk]
  rw [←this];exact e
end
def Ite (K:PySem.W.Frag) (l:Addr):It:=
 ⟨fun i H=>∃xs x,bK K H l xs/\xs[i]? = some x,fun i H x H'=>∃(p:Addr) (y:V),x = .ref p/\H p=none/\(∀xs,bK K H l xs->xs[i]? = some y)/\H'=upd H p (.tup [.int i,y]),fun i H=>∃xs,bK K H l xs/\xs.length<=i⟩
theorem J8 {P:Program} {w:World} {K:PySem.W.Frag} {elts:List Expr} {x1:Nat} {pos:Pos} (l e it:Addr) (hne:e≠it):Turn P w K (.Tuple elts x1 pos) (Ite K l) [e,it] e (fun i h=>(∃old,IsEnum h e it i old)/\h.IsListIter it l i) where
 mem:=by simp
 obj:=fun i h st b hb=>by
  obtain ⟨⟨old,he⟩,o,ho,c,d⟩:=st;have hb':b=e\/b=it:=by simpa using hb
  rcases hb' with rfl|rfl
  ·exact ⟨_,he,fun v z=>by cases z⟩
  ·exact ⟨o,ho,fun v z=>by rw [d] at z;cases z⟩
 keep:=fun i h h' st k=>by
  obtain ⟨⟨old,he⟩,o,ho,c,d⟩:=st;exact ⟨⟨old,k e (by simp) _ he⟩,o,k it (by simp) _ ho,c,d⟩
 item:=by
  intro X hP hw hK hc i pins s σ H E I hf st hg;subst hP hw hK;obtain ⟨xs,x,hq,hx⟩:=hg;obtain ⟨its,rv,p,hz⟩:=I.list hq;obtain ⟨u,hu,ru⟩:=rv.get hx;obtain ⟨⟨old,he⟩,hi⟩:=st;have elt:=Heap.lt_size he;have ilt:it<s.heap.objs.size:=by obtain ⟨o,ho,_⟩:=id hi;exact Heap.lt_size ho
  refine wpAny_pyNext_enum_item he hi p.isList (x:=u) (by simpa using hu) hne fun h' hout hit htup hsz hk=> ?_;refine ⟨_,rfl, ?_⟩;refine wpAny_letOwnedTupleGo_enum hout fun h2 he2 sb=> ?_;have hfr:H s.heap.objs.size=none:=I.hok.fresh (Nat.le_refl _)
  have I0:Inv X pins σ (upd H s.heap.objs.size (.tup [.int i,x])) {s with heap:=s.heap.push {cls:= .type "tuple",data:= .seq #[.int i s.toks,u]}}:=
   I.laid (t':=s.toks) (fun b u e=>Heap.get?_push_of_some _ e) (Nat.le_refl _) ⟨by show 2<=sizeLine;decide,[.int i s.toks,u],.cons ⟨_,rfl⟩ (.cons ru .nil),⟨_,Heap.get?_push_size _ rfl,rfl,_,rfl⟩⟩
  have ne1:e≠s.heap.objs.size:=Nat.ne_of_lt elt;have ne2:it≠s.heap.objs.size:=Nat.ne_of_lt ilt
  have Uw:∀b∈[e,it],qL X pins (upd H s.heap.objs.size (.tup [.int i,x])) b:=fun b hb=>by
   have hb':b=e\/b=it:=by simpa using hb
   rcases hb' with rfl|rfl
   ·exact (hf _ (by simp)).upd ne1
   ·exact (hf _ (by simp)).upd ne2
  have I1:=I0.qM (h':=h2) (t':=s.toks+1) Uw (fun b o hb eb=>by
   have b1:b≠e:=fun z=>hb (by simp [z]);have b2:b≠it:=fun z=>hb (by simp [z]);rw [sb.2 b b1];rcases zj rfl eb with ⟨rfl,rfl⟩|eb
   ·exact htup
   ·exact hk b o b1 b2 eb)
  refine ⟨.ref s.heap.objs.size,_,I1,rfl,⟨s.heap.objs.size,x,rfl,hfr,fun ys hy=>by rw [I.uK hy hq];exact hx,rfl⟩,⟨⟨u,he2⟩, ?_⟩,fun b hb=>(Uw b hb).1⟩;obtain ⟨o,ho,c,d⟩:=hit;exact ⟨o,(sb.2 it (Ne.symm hne)).trans ho,c,d⟩
 done:=by
  intro X hP hw hK hc i pins s σ H E I hf st hg;subst hP hw hK;obtain ⟨xs,hq,hx⟩:=hg;obtain ⟨its,rv,p,hz⟩:=I.list hq;obtain ⟨⟨old,he⟩,hi⟩:=st;have hl:=rv.length;exact wpAny_pyNext_enum_end (I.ok.hd hc) he hi p.isList (by simp;omega) fun h' eb=>⟨rfl,I.qM (t':=s.toks) hf (fun b o hb e=>eb b o (fun z=>hb (by simp [z])) e)⟩
 self:=fun _ _ _ _ _ st h=>by
  obtain ⟨⟨old,he⟩,_⟩:=st;exact wpAny_pyIter_enum he h
section
variable {X:Cx}
def ZK (K:PySem.W.Frag) (ta:TA):TI:=fun σ H R=>ta σ H fun vs H1=>∃l xs,vs=[.ref l]/\bK K H1 l xs/\R (Ite K l) H1
theorem Ec:bootBuiltins "enumerate" = some (.type "enumerate"):=by kernel_rfl
theorem Nk {K:PySem.W.Frag} {a:Expr} {ta:TA} {p pos:Pos} {elts:List Expr} {x1:Nat} {tpos:Pos} (hK:X.K=K) (hg:Gl X "enumerate") (hm:X.mg "enumerate" = none) (ha:PA X [a] ta) (hs:starEach [a] X.env=[(false,eval a X.env)]:=by rfl):PI X (.Tuple elts x1 tpos) (.Call (.Name "enumerate" p) [a] [] pos) (ZK K ta):=by
 subst hK;intro pins s σ H R I h;refine Call_ (tK I hg hm Ec (PyProof.Rows.callWith_type1 (eF (ha pos pins s σ H _ I h) fun us s1 ⟨vs,H1,I1,r1,q1⟩=> ?_) hs rfl));obtain ⟨l,xs,e,hq,q⟩:=q1;subst e;cases r1 with
 | cons r rr=>
   cases rr;cases r;obtain ⟨its,rv,pl,hz⟩:=I1.list hq;refine call_enumerate_list pl.isList fun h' hE hI hsz hk=> ?_;refine wpAny_pyIter_enum hE ?_;have I2:Inv X pins σ H1 {s1 with heap:=h'}:=I1.kept (t':=s1.toks) hk;refine ⟨s1.heap.objs.size+1,[s1.heap.objs.size+1,s1.heap.objs.size],_,_,H1,rfl,I2,J8 l _ _ (by simp),⟨⟨_,hE⟩,hI⟩,fun b hb=> ?_,q⟩;have hb':b=s1.heap.objs.size+1\/b=s1.heap.objs.size:=by simpa using hb
   rcases hb' with rfl|rfl
   ·exact I1.zp (Nat.le_succ _) (I1.hok.fresh (Nat.le_succ _))
   ·exact I1.zp (Nat.le_refl _) (I1.hok.fresh (Nat.le_refl _))
end
def Itz (K:PySem.W.Frag) (l1 l2:Addr):It:=
 ⟨fun i H=>∃xs ys x y,bK K H l1 xs/\bK K H l2 ys/\xs[i]? = some x/\ys[i]? = some y,
  fun i H x H'=>∃(p:Addr) (y z:V),x = .ref p/\H p=none/\(∀xs,bK K H l1 xs->xs[i]? = some y)/\(∀ys,bK K H l2 ys->ys[i]? = some z)/\H'=upd H p (.tup [y,z]),
  fun i H=>∃xs ys,bK K H l1 xs/\bK K H l2 ys/\(xs.length<=i\/ys.length<=i)⟩
theorem Mw {P:Program} {w:World} {K:PySem.W.Frag} {elts:List Expr} {x1:Nat} {pos:Pos} (z TI TO i1 i2 l1 l2:Addr) (ap:ZipApart z TI TO i1 i2 l1 l2):Turn P w K (.Tuple elts x1 pos) (Itz K l1 l2) [z,TI,TO,i1,i2] z
 (fun i h=>IsZip h z TI TO .none/\IsPair h TI (.ref i1) (.ref i2)/\(∃a b,IsPair h TO a b)/\h.IsListIter i1 l1 i/\h.IsListIter i2 l2 i) where
 mem:=by simp
 obj:=fun i h st b hb=>by
  obtain ⟨hz,hTI,⟨a,c,hTO⟩,⟨o1,h1,c1,d1⟩,⟨o2,h2,c2,d2⟩⟩:=st;have hb':b=z\/b=TI\/b=TO\/b=i1\/b=i2:=by simpa using hb
  rcases hb' with rfl|rfl|rfl|rfl|rfl
  ·exact ⟨_,hz,fun v z=>by cases z⟩
  ·exact ⟨_,hTI,fun v z=>by cases z⟩
  ·exact ⟨_,hTO,fun v z=>by cases z⟩
  ·exact ⟨_,h1,fun v z=>by rw [d1] at z;cases z⟩
  ·exact ⟨_,h2,fun v z=>by rw [d2] at z;cases z⟩
 keep:=fun i h h' st k=>by
  obtain ⟨hz,hTI,⟨a,c,hTO⟩,⟨o1,h1,c1,d1⟩,⟨o2,h2,c2,d2⟩⟩:=st;exact ⟨k z (by simp) _ hz,k TI (by simp) _ hTI,⟨a,c,k TO (by simp) _ hTO⟩,⟨o1,k i1 (by simp) _ h1,c1,d1⟩,⟨o2,k i2 (by simp) _ h2,c2,d2⟩⟩
 item:=by
  intro X hP hw hK hc i pins s σ H E I hf st hg;subst hP hw hK;obtain ⟨xs,ys,x,y,hq1,hq2,hx,hy⟩:=hg;obtain ⟨FW,QK,p1,hz1⟩:=I.list hq1;obtain ⟨its2,Ua,p2,hz2⟩:=I.list hq2;obtain ⟨u1,hu1,ru1⟩:=QK.get hx;obtain ⟨u2,hu2,ru2⟩:=Ua.get hy;obtain ⟨hz,hTI,⟨a,c,hTO⟩,hi1,hi2⟩:=st;have Xv:=Heap.lt_size hz;have Xl:=Heap.lt_size hTI;have Xk:=Heap.lt_size hTO;have WK:i1<s.heap.objs.size:=by obtain ⟨o,ho,_⟩:=id hi1;exact Heap.lt_size ho
  have WD:i2<s.heap.objs.size:=by obtain ⟨o,ho,_⟩:=id hi2;exact Heap.lt_size ho
  refine wpAny_pyNext_zip_item ap hz hTI hTO hi1 hi2 p1.isList p2.isList (x:=u1) (y:=u2) (by simpa using hu1) (by simpa using hu2) fun h' hz' WT WR hi2' hnew hsz hk=> ?_;refine ⟨_,rfl, ?_⟩;refine wpAny_letOwnedTupleGo_zip hz' fun h2 WL sb=> ?_;have hfr:H s.heap.objs.size=none:=I.hok.fresh (Nat.le_refl _)
  have I0:Inv X pins σ (upd H s.heap.objs.size (.tup [x,y])) {s with heap:=s.heap.push {cls:= .type "tuple",data:= .seq #[u1,u2]}}:=
   I.laid (t':=s.toks) (fun b u e=>Heap.get?_push_of_some _ e) (Nat.le_refl _) ⟨by show 2<=sizeLine;decide,[u1,u2],.cons ru1 (.cons ru2 .nil),⟨_,Heap.get?_push_size _ rfl,rfl,_,rfl⟩⟩
  have Uw:∀b∈[z,TI,TO,i1,i2],qL X pins (upd H s.heap.objs.size (.tup [x,y])) b:=fun b hb=>by
   refine (hf b hb).upd ?_;have hb':b=z\/b=TI\/b=TO\/b=i1\/b=i2:=by simpa using hb
   rcases hb' with rfl|rfl|rfl|rfl|rfl
   ·exact Nat.ne_of_lt Xv
   ·exact Nat.ne_of_lt Xl
   ·exact Nat.ne_of_lt Xk
   ·exact Nat.ne_of_lt WK
   ·exact Nat.ne_of_lt WD
  have I1:=I0.qM (h':=h2) (t':=s.toks) Uw (fun b o hb eb=>by
   have b1:b≠z:=fun e=>hb (by simp [e]);have b2:b≠TO:=fun e=>hb (by simp [e]);have b3:b≠i1:=fun e=>hb (by simp [e]);have b4:b≠i2:=fun e=>hb (by simp [e]);rw [sb.2 b b1];rcases zj rfl eb with ⟨rfl,rfl⟩|eb
   ·exact hnew
   ·exact hk b o b1 b2 b3 b4 eb)
  refine ⟨.ref s.heap.objs.size,_,I1,rfl,⟨s.heap.objs.size,x,y,rfl,hfr,fun ys hy=>by rw [I.uK hy hq1];exact hx,fun ys' hy'=>by rw [I.uK hy' hq2];exact hy,rfl⟩, ?_,fun b hb=>(Uw b hb).1⟩;obtain ⟨o1,ho1,c1,d1⟩:=WR;obtain ⟨o2,ho2,c2,d2⟩:=hi2';exact ⟨WL,(sb.2 TI ap.TIz).trans (hk TI _ ap.TIz ap.TITO ap.TIi1 ap.TIi2 hTI),⟨_,_,(sb.2 TO ap.TOz).trans WT⟩,⟨o1,(sb.2 i1 ap.i1z).trans ho1,c1,d1⟩,⟨o2,(sb.2 i2 ap.i2z).trans ho2,c2,d2⟩⟩
 done:=by
  intro X hP hw hK hc i pins s σ H E I hf st hg;subst hP hw hK;obtain ⟨xs,ys,hq1,hq2,hx⟩:=hg;obtain ⟨FW,QK,p1,hz1⟩:=I.list hq1;obtain ⟨its2,Ua,p2,hz2⟩:=I.list hq2;obtain ⟨hz,hTI,⟨a,c,hTO⟩,hi1,hi2⟩:=st;have hl1:=QK.length;have hl2:=Ua.length;refine wpAny_pyNext_zip_end (I.ok.hd hc) ap hz hTI hTO hi1 hi2 p1.isList p2.isList ?_ fun h' eb=>⟨rfl,I.qM (t':=s.toks) hf (fun b o hb e=>eb b o (fun z=>hb (by simp [z])) (fun z=>hb (by simp [z])) (fun z=>hb (by simp [z])) (fun z=>hb (by simp [z])) e)⟩;rcases hx with hx|hx
  ·exact .inl (by simp;omega)
  ·exact .inr (by simp;omega)
 self:=fun _ _ _ _ _ st h=>wpAny_pyIter_zip st.1 h
section
variable {X:Cx}
end
end L2
set_option Elab.async false
set_option linter.all false
set_option maxRecDepth 100000
set_option maxHeartbeats 4000000
namespace L2
open PySem PySem.Spec PyProof.Rows
section
variable {K:PySem.W.Frag} {a l1 l2 D:Addr} {xs ys:List V} {g:TG} {tc:TT} {te:TE} {Q:VK} {σ0:St} {H1:Hp}
theorem Pz {n:Nat} (hn1:xs.length=n) (hn2:ys.length=n) (Pv:Nat->St->Hp->Prop) (h0:Pv 0 σ0 (upd H1 D (.lst []))) (hl:∀i σ H,i<=n->Pv i σ H->bK K H l1 xs/\bK K H l2 ys)
 (hs:∀i x y σ H p,xs[i]? = some x->ys[i]? = some y->Pv i σ H->H p=none->g (.ref p) σ (upd H p (.tup [x,y])) fun σ2 H2=>tc σ2 H2 fun b H3=>
   if b=true then te σ2 H3 fun y H4=>∃acc,H4 D=some (.lst acc)/\acc.length<sizeLine/\Pv (i+1) σ2 (upd H4 D (.lst (acc++[y]))) else Pv (i+1) σ2 H3)
 (hd:∀σ H,Pv n σ H->Q (.ref D) H):mL (Itz K l1 l2) g tc te Q D σ0 H1:=by
 refine ⟨fun i m σ H=>m=n - i/\i<=n/\Pv i σ H,⟨n,by simp,Nat.zero_le _,h0⟩, ?_⟩;rintro i m σ H ⟨rfl,hi,p⟩;obtain ⟨q1,q2⟩:=hl i σ H hi p
 by_cases hlt:i<n
 ·refine .inr ⟨⟨xs,ys,xs[i],ys[i],q1,q2,by simp [hn1,hlt],by simp [hn2,hlt]⟩,Pv (i+1),fun σ' H' p'=>⟨n - (i+1),by omega,rfl,hlt,p'⟩,fun x H' y=> ?_⟩
  obtain ⟨t,z,u,rfl,ht,hz,hu,rfl⟩:=y;exact hs i z u σ _ t (hz xs q1) (hu ys q2) p ht
 ·have e:i=n:=by omega
  subst e;exact .inl ⟨⟨xs,ys,q1,q2,.inl (by omega)⟩,hd σ H p⟩
end
section
variable {K:PySem.W.Frag} {a l1 l2:Addr} {xs ys:List V} {g:TG} {tb:TS} {D:Ends} {σ:St} {H:Hp}
theorem O9 (Pv:Nat->St->Hp->Prop) (h0:Pv 0 σ H) (hl:∀i σ H,i<=xs.length->Pv i σ H->bK K H a xs)
 (hs:∀i x σ H p,xs[i]? = some x->Pv i σ H->H p=none->g (.ref p) σ (upd H p (.tup [.int i,x])) fun σ2 H2=>tb {D with nx:=Pv (i+1),ct:=Pv (i+1),bk:=D.nx} σ2 H2) (hd:∀σ H,Pv xs.length σ H->D.nx σ H):
 ∃W:Nat->Nat->St->Hp->Prop,(∃m,W 0 m σ H) /\ ∀i m σ H,W i m σ H ->
  ((Ite K a).stop i H/\D.nx σ H)\/((Ite K a).go i H /\ ∃N:St->Hp->Prop,(∀σ' H',N σ' H' -> ∃m',m'<m/\W (i+1) m' σ' H') /\ ∀x H',(Ite K a).Xw i H x H'->g x σ H' fun σ2 H2=>tb {D with nx:=N,ct:=N,bk:=D.nx} σ2 H2):=by
 refine ⟨fun i m σ H=>m=xs.length - i/\i<=xs.length/\Pv i σ H,⟨xs.length,by simp,Nat.zero_le _,h0⟩, ?_⟩;rintro i m σ H ⟨rfl,hi,p⟩;have q:=hl i σ H hi p
 by_cases hlt:i<xs.length
 ·refine .inr ⟨⟨xs,xs[i],q,by simp [hlt]⟩,Pv (i+1),fun σ' H' p'=>⟨xs.length - (i+1),by omega,rfl,hlt,p'⟩,fun x H' y=> ?_⟩
  obtain ⟨t,z,rfl,ht,hz,rfl⟩:=y;exact hs i z σ _ t (hz xs q) p ht
 ·have e:i=xs.length:=by omega
  subst e;exact .inl ⟨⟨xs,q,Nat.le_refl _⟩,hd σ H p⟩
end
section
variable {X:Cx}
theorem yp:∀{ns:List Int} {us:List Value},Vals (ns.map V.int) us->IntsAre us ns
 | [],us,r=>by cases r;exact .nil
 | n::ns,us,r=>by
   cases r with
   | cons r rs=>
     obtain ⟨t,rfl⟩:=r;exact .cons n t (yp rs)
def QZ:V->List V->Hp->VK->Prop:=fun x vs H Q=>∃(l:Addr) (ns:List Int) (i:Int),x = .ref l/\vs=[.int i]/\bK X.K H l (ns.map V.int)/\Q (.int (ns.count i)) H
theorem Og:Xn X "list.count" (QZ (X:=X)):=by
 intro pins s σ H x vs v us Q I rx rv h;obtain ⟨l,ns,i,rfl,rfl,hq,q⟩:=h;cases rx;obtain ⟨u,rfl,ru⟩:=rv.one;obtain ⟨t,rfl⟩:=ru;obtain ⟨its,r',pl,hz⟩:=I.list hq;exact count_list_ints pl.isList (yp r') ⟨.int _,H,I.tok _,⟨_,rfl⟩,q⟩
theorem yR (ns:List Int):∀n,n<=ns.length->preSum (fun i=>(ns[i]?).getD 0) n=(ns.take n).sum
 | 0,_=>by simp [preSum]
 | n+1,h=>by
   have ih:=yR ns n (by omega);have hn:n<ns.length:=h;rw [List.take_succ,List.sum_append,←ih];simp [preSum,hn]
def aek (K:PySem.W.Frag):List V->Hp->VK->Prop:=fun xs H Q=>∃(p:Addr) (ns:List Int),xs=[.ref p]/\bK K H p (ns.map V.int)/\Q (.int ns.sum) H
theorem BW {K:PySem.W.Frag} (hK:X.K=K) (hc:X.calm=true):kE X (.builtin "sum") (aek K):=by
 subst hK;intro pins s σ H xs us Q I r h;obtain ⟨p,ns,rfl,hq,q⟩:=h;obtain ⟨u,rfl,rx⟩:=vals1 r;cases rx;obtain ⟨its,rv,pl,hz⟩:=I.list hq;have e:=yp rv;have hlen:its.length=ns.length:=by rw [←rv.length,List.length_map]
 refine call_sum_walkG (wpAny_pyIter_list pl.isList ⟨s.heap.objs.size,[s.heap.objs.size,p],[s.heap.objs.size],its.length,_,_,fun i=>(ns[i]?).getD 0,rfl,
  yj (show X.A.in1.handled=none from I.ok.hd hc) s.heap.objs.size p ?_ its,⟨⟨_,Heap.get?_push_size _ rfl,rfl,rfl⟩, ?_⟩, ?_, ?_, ?_⟩)
 ·intro z
  obtain ⟨o,ho,_⟩:=pl.isList;have:=Heap.lt_size ho;rw [←z] at this;exact Nat.lt_irrefl _ this
 ·obtain ⟨o,ho,hcl⟩:=pl.isList
  exact ⟨o,Heap.get?_push_of_some _ ho,hcl⟩
 ·intro b hb
  have hsz:(s.heap.push {cls:= .type "list_iterator",data:= .fields #[.ref p,.int 0 0]}).objs.size=s.heap.objs.size+1:=by simp [Heap.push]
  have hb':b=s.heap.objs.size\/b=p:=by simpa using hb
  show b<(s.heap.push _).objs.size;rw [hsz];rcases hb' with rfl|rfl
  ·exact Nat.lt_succ_self _
  ·obtain ⟨o,ho,_⟩:=pl.isList
   exact Nat.lt_succ_of_lt (Heap.lt_size ho)
 ·intro i v hP
  obtain ⟨j,hj,rj⟩:∃j,ns[i]? = some j /\ ∃t,v = .int j t:=by
   have hi:i<its.length:=(List.getElem?_eq_some_iff.mp hP).1;have hv:=(rv.get (i:=i) (x:=V.int (ns[i]'(by omega))) (by simp [show i<ns.length by omega]));obtain ⟨u,hu,ru⟩:=hv;rw [hP] at hu;cases hu;obtain ⟨t,ht⟩:=ru;exact ⟨ns[i]'(by omega),by simp [show i<ns.length by omega],t,ht⟩
  obtain ⟨t,rfl⟩:=rj;exact ⟨t,by simp [hj]⟩
 ·intro h' tk t' k
  rw [yR ns its.length (by omega),List.take_of_length_le (by omega)];have f:=I.zp (H':=H) (b:=s.heap.objs.size) (Nat.le_refl _) (I.hok.fresh (Nat.le_refl _));have I2:Inv X pins σ H {s with heap:=h',toks:=tk}:=I.turned (h':=h') (t':=tk) (it:=s.heap.objs.size) (fun b o hb e=>k b o (by simpa using hb) (Heap.get?_push_of_some _ e)) f.1 f.2.1 f.2.2.2.1 f.2.2.2.2.1 f.2.2.2.2.2;exact ⟨.int _,H,I2,⟨_,rfl⟩,q⟩
theorem Di {K:PySem.W.Frag} {T name id:String} {r:V->List V->Hp->VK->Prop} {o e:Expr} {es:List Expr} {to:TE} {t:TA} {apos cpos:Pos} (h:X.K=K) (pa:PlainAttrs T) (slot:Slot T name id) (hty:typeOf (.builtin id)=pure (.type "method_descriptor")) (hm:Xn X id r) (ho:PE X o to) (ha:PA X (e::es) t)
 (hbase:attributeBase o name X.env (eval o X.env)=eval o X.env:=by rfl)
 (hfew:((backTo cpos (starEach (e::es) X.env)).all (fun x=> !x.1)&&(backToKw cpos (keywordEach [] X.env)).all (fun x=>x.1.isSome)
   && decide ((e::es).length+([]:List Keyword).length+(if ([]:List Keyword).isEmpty then 0 else 1)<30))=true:=by rfl)
 (hline:(apos.endLine==cpos.line)=true:=by rfl) (hs:starEach (e::es) X.env=(false,eval e X.env)::starEach es X.env:=by rfl) (hplain:(backTo cpos (starEach es X.env)).any (·.1)=false:=by rfl):
 PE X (.Call (.Attribute o name apos) (e::es) [] cpos) (tBM K T r to t):=by
 subst h;exact Ue pa slot hty hm ho ha hbase hfew hline hs hplain
def VF (K:PySem.W.Frag):V->List V->Hp->VK->Prop:=fun x vs H Q=>∃(l:Addr) (ns:List Int) (i:Int),x = .ref l/\vs=[.int i]/\bK K H l (ns.map V.int)/\Q (.int (ns.count i)) H
theorem KD {K:PySem.W.Frag} (h:X.K=K):Xn X "list.count" (VF K):=by subst h;exact Og
theorem Dh {K:PySem.W.Frag} {es:List Expr} {k:Nat} {t:U4} {n:Nat} {pos:Pos} (hK:X.K=K) (hc:X.calm=true) (h:PGs X es t)
 (hn:(assignEach es X.env).length=n:=by rfl) (hst:(assignEach es X.env).findIdx? (·.1)=none:=by rfl):PG X (.Tuple es k pos) (R6 K n t):=by subst hK;exact V4 hc h hn hst
end
end L2
set_option Elab.async false
set_option linter.all false
set_option maxRecDepth 100000
set_option maxHeartbeats 4000000
namespace L2
open PySem
section
variable {K:PySem.W.Frag} {a D:Addr} {xs:List V} {tc:TT} {te:TE} {Q:VK} {rest:St} {H1:Hp}
theorem eV {α:Type} (f:Nat->Option α) (n:Nat):(List.range (n+1)).filterMap f=(List.range n).filterMap f++(f n).toList:=by
 rw [List.range_succ,List.filterMap_append];cases h:f n<;>simp [h]
theorem tU {α:Type} (f:Nat->Option α) (n:Nat):((List.range n).filterMap f).length<=n:=by
 have:=List.length_filterMap_le f (List.range n);simpa using this
theorem Same.newly {H H1:Hp} {D:Addr} {o:HO} (h:Same H H1) (n:H D=none):Same H (upd H1 D o):=fun b u e=>by rw [aF (aB e n)];exact h b u e
theorem qC (f:Nat->Option V) (hD:H1 D=none) (hq:bK K H1 a xs) (hx:xs.length<=100000)
 (hs:∀i x H (G:Hp->Prop) (F:VK),xs[i]? = some x->Same H1 H->(∀H',Same H H'->f i=none->G H')->(∀y H',Same H H'->f i=some y->F y H')->tc (some x::rest) H fun b H3=>if b=true then te (some x::rest) H3 F else G H3)
 (hd:∀H,Same H1 H->H D=some (.lst ((List.range xs.length).filterMap f))->Q (.ref D) H):mL (S_ K a) (gD 0) tc te Q D (none::rest) H1:=by
 refine j4 (K:=K) (xs:=xs) (fun i σ H=>(∃v,σ=v::rest)/\Same H1 H/\H D=some (.lst ((List.range i).filterMap f))) ⟨⟨none,rfl⟩,aH hD,ao⟩ (fun i σ H _ ⟨_,sm,_⟩=>sm.sqL _ _ hq) ?_ (fun σ H ⟨_,sm,e⟩=>hd H sm e);rintro i x σ H hi ⟨⟨v,rfl⟩,sm,e⟩;have hil:i<xs.length:=(List.getElem?_eq_some_iff.mp hi).1;refine hs i x H _ _ hi sm (fun H3 s3 ef=>⟨⟨_,rfl⟩,sm.trans s3,by rw [s3 _ _ e,eV,ef];simp⟩) (fun y H4 s4 ef=> ?_);refine ⟨_,s4 _ _ e, ?_,⟨_,rfl⟩,(sm.trans s4).newly hD, ?_⟩
 ·have:=tU f i
  rw [sizeLine_eq];omega
 ·rw [ao,eV,ef];rfl
theorem Lg (f:Nat->Option V) (hD:H1 D=none) (hq:H1 a=some (.tup xs)) (hx:xs.length<=100000)
 (hs:∀i x H (G:Hp->Prop) (F:VK),xs[i]? = some x->Same H1 H->(∀H',Same H H'->f i=none->G H')->(∀y H',Same H H'->f i=some y->F y H')->tc (some x::rest) H fun b H3=>if b=true then te (some x::rest) H3 F else G H3)
 (hd:∀H,Same H1 H->H D=some (.lst ((List.range xs.length).filterMap f))->Q (.ref D) H):mL (Itt K a) (gD 0) tc te Q D (none::rest) H1:=by
 refine PB (K:=K) (xs:=xs) (fun i σ H=>(∃v,σ=v::rest)/\Same H1 H/\H D=some (.lst ((List.range i).filterMap f))) ⟨⟨none,rfl⟩,aH hD,ao⟩ (fun i σ H _ ⟨_,sm,_⟩=>cO.of (sm.tups _ _ hq)) ?_ (fun σ H ⟨_,sm,e⟩=>hd H sm e);rintro i x σ H hi ⟨⟨v,rfl⟩,sm,e⟩;have hil:i<xs.length:=(List.getElem?_eq_some_iff.mp hi).1;refine hs i x H _ _ hi sm (fun H3 s3 ef=>⟨⟨_,rfl⟩,sm.trans s3,by rw [s3 _ _ e,eV,ef];simp⟩) (fun y H4 s4 ef=> ?_);refine ⟨_,s4 _ _ e, ?_,⟨_,rfl⟩,(sm.trans s4).newly hD, ?_⟩
 ·have:=tU f i
  rw [sizeLine_eq];omega
 ·rw [ao,eV,ef];rfl
theorem nZ {n:Nat} (f:Nat->Option V) (hD:H1 D=none) (hx:n<=100000)
 (hs:∀i H (G:Hp->Prop) (F:VK),i<n->Same H1 H->(∀H',Same H H'->f i=none->G H')->(∀y H',Same H H'->f i=some y->F y H')->tc (some (.int (0+i))::rest) H fun b H3=>if b=true then te (some (.int (0+i))::rest) H3 F else G H3)
 (hd:∀H,Same H1 H->H D=some (.lst ((List.range n).filterMap f))->Q (.ref D) H):mL (Qq 0 n) (gD 0) tc te Q D (none::rest) H1:=by
 refine pB (lo:=0) (n:=n) (fun i σ H=>(∃v,σ=v::rest)/\Same H1 H/\H D=some (.lst ((List.range i).filterMap f))) ⟨⟨none,rfl⟩,aH hD,ao⟩ ?_ (fun σ H ⟨_,sm,e⟩=>hd H sm e);rintro i σ H hi ⟨⟨v,rfl⟩,sm,e⟩;refine hs i H _ _ hi sm (fun H3 s3 ef=>⟨⟨_,rfl⟩,sm.trans s3,by rw [s3 _ _ e,eV,ef];simp⟩) (fun y H4 s4 ef=> ?_);refine ⟨_,s4 _ _ e, ?_,⟨_,rfl⟩,(sm.trans s4).newly hD, ?_⟩
 ·have:=tU f i
  rw [sizeLine_eq];omega
 ·rw [ao,eV,ef];rfl
theorem Lf {l1 l2:Addr} {ys:List V} {n:Nat} (hn1:xs.length=n) (hn2:ys.length=n) (f:Nat->Option V) (hD:H1 D=none) (hq1:bK K H1 l1 xs) (hq2:bK K H1 l2 ys) (hx:n<=100000)
 (hs:∀i x y H (G:Hp->Prop) (F:VK),xs[i]? = some x->ys[i]? = some y->Same H1 H->(∀H',Same H H'->f i=none->G H')->(∀y H',Same H H'->f i=some y->F y H')->tc (some x::some y::rest) H fun b H3=>if b=true then te (some x::some y::rest) H3 F else G H3)
 (hd:∀H,Same H1 H->H D=some (.lst ((List.range n).filterMap f))->Q (.ref D) H):mL (Itz K l1 l2) (R6 K 2 (Ge (gD 0) (Ge (gD 1) W0))) tc te Q D (none::none::rest) H1:=by
 refine Pz (K:=K) (xs:=xs) (ys:=ys) hn1 hn2 (fun i σ H=>(∃u v,σ=u::v::rest)/\Same H1 H/\H D=some (.lst ((List.range i).filterMap f))) ⟨⟨none,none,rfl⟩,aH hD,ao⟩ (fun i σ H _ ⟨_,sm,_⟩=>⟨sm.sqL _ _ hq1,sm.sqL _ _ hq2⟩) ?_ (fun σ H ⟨_,sm,e⟩=>hd H sm e);rintro i x y σ H p hix hiy ⟨⟨u,v,rfl⟩,sm,e⟩ hp;have sp:=aH (o:=HO.tup [x,y]) hp;refine ⟨p,[x,y],rfl,cO.of ao,rfl,_,_,rfl,_,_,rfl,rfl, ?_⟩;have hil:i<xs.length:=(List.getElem?_eq_some_iff.mp hix).1;refine hs i x y _ _ _ hix hiy (sm.trans sp) (fun H3 s3 ef=>⟨⟨_,_,rfl⟩,(sm.trans sp).trans s3,by rw [s3 _ _ (sp _ _ e),eV,ef];simp⟩) (fun y H4 s4 ef=> ?_);refine ⟨_,s4 _ _ (sp _ _ e), ?_,⟨_,_,rfl⟩,((sm.trans sp).trans s4).newly hD, ?_⟩
 ·have:=tU f i
  rw [sizeLine_eq];omega
 ·rw [ao,eV,ef];rfl
theorem Gg {α β:Type} {f g:α->Option β}:∀(l:List α) (_:True) (h:∀x∈l,f x=g x),l.filterMap f=l.filterMap g
 | [],_,_=>rfl
 | x::l,_,h=>by
   rw [List.filterMap_cons,List.filterMap_cons,h x (by simp),Gg l trivial fun y hy=>h y (by simp [hy])]
theorem snocInd {α:Type} {P:List α->Prop} (h0:P []) (hs:∀xs x,P xs->P (xs++[x])) (xs:List α):P xs:=by
 rw [←List.reverse_reverse xs]
 induction xs.reverse with
 | nil=>exact h0
 | cons x l ih=>rw [List.reverse_cons];exact hs _ _ ih
theorem JG {α β:Type} (xs:List α) (g:α->β):(List.range xs.length).filterMap (fun i=>(xs[i]?).map g)=xs.map g:=by
 refine snocInd (P:=fun xs=>(List.range xs.length).filterMap (fun i=>(xs[i]?).map g)=xs.map g) rfl (fun xs x ih=> ?_) xs
 ·show (List.range (xs++[x]).length).filterMap (fun i=>((xs++[x])[i]?).map g)=(xs++[x]).map g
  rw [List.length_append,List.length_singleton,eV,List.map_append];congr 1
  ·rw [←ih]
   refine Gg _ trivial fun i hi=> ?_;have:i<xs.length:=by simpa using hi
   rw [List.getElem?_append_left this]
  ·simp
end
end L2
namespace L2
open PySem
section
variable {X:Cx} {K:PySem.W.Frag}
end
end L2
namespace L2
open PySem
theorem uw {a b:TS} {D:Ends} {σ:St} {H:Hp} (h:∀R:St->Hp->Prop,(∀σ' H',b D σ' H'->R σ' H')->a {D with nx:=R} σ H):Vg a b D σ H:=h _ (fun _ _ x=>x)
theorem qQ {a b:TS} {D:Ends} {σ:St} {H:Hp} (P:St->Hp->Prop) (h1:∀D':Ends,(∀σ' H',P σ' H'->D'.nx σ' H')->D'.rt=D.rt->a D' σ H) (h2:∀σ' H',P σ' H'->b D σ' H'):Vg a b D σ H:=h1 _ h2 rfl
end L2
namespace L2
open PySem PySem.Spec PyProof.Rows
section
variable {X:Cx} {K:PySem.W.Frag} {a:Expr} {ta:TE} {pos:Pos}
def adn (K:PySem.W.Frag) (ta:TE):TT:=fun σ H Q=>ta σ H fun x H'=>∃k,Xj K x H' k/\Q k H'
theorem Bk (h:X.K=K) (ha:PE X a ta) (he:∀whole,isTrue a X.env whole=(do let v ←whole;standAt a.pos;holding [v] (truthy v)):=by intro _;rfl):PT X a (adn K ta):=by
 subst h;exact Ng ha he
end
end L2
set_option Elab.async false
set_option linter.all false
set_option maxRecDepth 100000
set_option maxHeartbeats 4000000
namespace L2
open PySem PySem.Spec PyProof.Rows
section
variable {X:Cx} {K:PySem.W.Frag}
theorem Dj {T name id:String} {r:V->List V->Hp->VK->Prop} {o:Expr} {to:TE} {apos cpos:Pos} (h:X.K=K) (pa:PlainAttrs T) (slot:Slot T name id) (hty:typeOf (.builtin id)=pure (.type "method_descriptor")) (hm:Xn X id r) (ho:PE X o to)
 (hbase:attributeBase o name X.env (eval o X.env)=eval o X.env:=by rfl) (hline:(apos.endLine==cpos.line)=true:=by rfl):PE X (.Call (.Attribute o name apos) [] [] cpos) (YJ K T r to):=by
 subst h;exact V8 pa slot hty hm ho hbase hline
end
section
variable {K:PySem.W.Frag} {a D:Addr} {xs:List V} {te:TE} {Q:VK} {rest:St} {H1:Hp}
theorem BK {H:Hp} {vs:List V} {ds:List PyData} {v:V} {d:PyData} (h:bf H vs ds) (hd:Dat H v d):bf H (vs++[v]) (ds++[d]):=bf.append h (by simp only [bf,and_true];exact hd)
end
end L2
set_option Elab.async false
set_option linter.all false
namespace L2
open PySem
def Gv (mg:Str->Option Value) (x:Str) (v:V):Prop:=∃u,mg x=some u/\RelV v u
end L2
set_option Elab.async false
set_option linter.all false
set_option maxRecDepth 100000
set_option maxHeartbeats 4000000
namespace L2
open PySem PySem.Spec PyProof.Rows
section
variable {prog:Program} {w:World} {K:Type} [DecidableEq K] {knd:HeapKind prog w K}
theorem Jb {xs:List (K×Addr×Value)} {k:K} (h:∀(j:Nat) (p:Addr×Value),xs[j]? ≠ some (k,p)):atKey xs k=none:=by
 unfold atKey;rw [Option.map_eq_none_iff,List.find?_eq_none];intro x hx e;obtain ⟨j,hj⟩:=List.getElem?_of_mem hx;have e':x.1=k:=of_decide_eq_true e;exact h j x.2 (by rw [hj,←e'])
theorem Ja {xs:List (K×Addr×Value)} {k:K} {j:Nat} {p:Addr×Value} (hn:(xs.map (·.1)).Nodup) (h:xs[j]? = some (k,p)):atKey xs k=some p:=by
 unfold atKey
 induction xs generalizing j with
 | nil=>cases h
 | cons x xs ih=>
   rw [List.find?_cons];cases j with
   | zero=>
     have:x=(k,p):=by simpa using h
     subst this;simp
   | succ j=>
     have hj:xs[j]? = some (k,p):=by simpa using h
     have hn':=List.nodup_cons.mp (by simpa using hn:(x.1::xs.map (·.1)).Nodup);have ne:¬x.1=k:=fun z=>hn'.1 (by rw [z];exact List.mem_map.mpr ⟨(k,p),List.mem_of_getElem? hj,rfl⟩);rw [decide_eq_false ne];exact ih hn'.2 hj
theorem rF {A:Around} {E:Value->Shared->Prop} {s:Shared} {d a:Addr} {xs:List (K×Addr×Value)} {k:K} {dflt:Value} {Q:Value->Shared->Prop}
 (hr:knd.room A) (hk:knd.is s.heap k a) (dd:Heap.DictOfH knd s.heap d xs) (hz:xs.length<=sizeLine)
 (h1:∀p,atKey xs k=some p->Q p.2 {s with toks:=s.toks+knd.draws k})
 (h2:atKey xs k=none -> ∀h',Heap.DictOfH knd h' d (xs++[(k,a,dflt)])->Heap.SameBut d s.heap h'->Q dflt {s with heap:=h',toks:=s.toks+knd.draws k}):
 wpAny (model prog w) A (dictSetDefault d (.ref a) dflt) Q E s:=by
 unfold dictSetDefault;refine wpAny_holding (wpAny_bind (knd.pyHash hr hk ?_));obtain ⟨o,es,ep,ho,hx,hd,he,hi,hn⟩:=id dd;have hl:es.size=xs.length:=by rw [←Array.length_toList,he,List.length_map]
 refine wpAny_bind (wpAny_dictFind_heap (s:={s with toks:=s.toks+knd.draws k}) hr hk ho hd he hi hn (fun hno=> ?_) (fun j p hj=> ?_))
 ·refine wpAny_bind (wpAny_rule ?_)
  have an:=Jb hno;refine wpAny_bind (wpAny_updateDictKeys (s:={s with toks:=s.toks+knd.draws k}) ho hd ?_ (by omega) (by simp));refine wpAny_pure ?_;have sb:=Heap.SameBut.update s.heap d (Obj.mapDictKeys fun x=>x.push {hash:=knd.hash k,key:= .ref a,val:=dflt});refine h2 an _ ?_ sb;obtain ⟨oc,od,amX,osl⟩:=o;simp only at hd;subst hd;refine ⟨_,es.push {hash:=knd.hash k,key:= .ref a,val:=dflt},ep+1,Heap.get?_update_self _ ho ?_,hx,rfl, ?_, ?_, ?_⟩
  ·obtain ⟨c1,c2,c3⟩:=hx
   simp only at c1;subst c1;rfl
  ·rw [Array.toList_push,he,List.map_append];rfl
  ·intro x ZL
   rcases List.mem_append.mp ZL with ZL|ZL
   ·exact knd.keeps (hi x ZL) ho rfl sb
   ·have:x=(k,a,dflt):=by simpa using ZL
    subst this;exact knd.keeps hk ho rfl sb
  ·rw [List.map_append]
   refine List.nodup_append.mpr ⟨hn,by simp, ?_⟩;intro y hy z hz' e;have:z=k:=by simpa using hz'
   subst this;subst e;obtain ⟨x,hx',rfl⟩:=List.mem_map.mp hy;obtain ⟨j,hj⟩:=List.getElem?_of_mem hx';exact hno j x.2 hj
 ·refine wpAny_bind (wpAny_dictEntries (s:={s with toks:=s.toks+knd.draws k}) ho hd ?_)
  have ej:es[j]? = some (entryOfKey knd (k,p)):=by
   rw [←Array.getElem?_toList,he,List.getElem?_map,hj];rfl
  rw [ej];exact wpAny_bind (wpAny_rule (wpAny_pure (h1 p (Ja hn hj))))
theorem uJ (knd:HeapKind prog w K) (d a:Addr) (hd:(d==sysModules)=false) (dflt:Value):MeetsIn prog w (Builtin.«dict.setdefault» {pos:=[.ref d,.ref a,dflt]}) fun A R s=>
 knd.room A.in1 /\ ∃k xs,knd.is s.heap k a/\Heap.DictOfH knd s.heap d xs/\xs.length<=sizeLine/\(∀p,atKey xs k=some p->R (.ok (.ret p.2)) {s with toks:=s.toks+knd.draws k}) /\
  (atKey xs k=none -> ∀h',Heap.DictOfH knd h' d (xs++[(k,a,dflt)])->Heap.SameBut d s.heap h'->R (.ok (.ret dflt)) {s with heap:=h',toks:=s.toks+knd.draws k}):=by
 rintro A R s ⟨hr,k,xs,hk,dd,hz,h1,h2⟩;obtain ⟨o,es,ep,ho,hx,hdat,_⟩:=id dd;unfold Builtin.«dict.setdefault»;have ht:s.TypeIs (.ref d) "dict" :=⟨o,ho,hx.1⟩;refine wpAny_bind ?_;unfold Builtin.Dict.keyAndDefault;refine wpAny_bind ?_;unfold Builtin.Dict.notOrdered;rw [if_pos (by decide)];refine wpAny_bind (wpAny_typeOf ht ?_);rw [if_neg (by decide)];refine wpAny_pure ?_;refine wpAny_bind ?_;unfold Builtin.Dict.nameIsSure;rw [if_neg (by show ¬(false=true);decide)];refine wpAny_pure ?_;refine wpAny_bind ?_;unfold selfAndSome noKeywords;refine wpAny_bind ?_;rw [if_pos (by rfl)];refine wpAny_pure ?_;show wpAny (model prog w) A.in1 (checkCount "setdefault" 1 2 2 >>= fun _=>pure (Value.ref d,[Value.ref a,dflt])) _ _ s;refine wpAny_bind ?_;have ck:checkCount "setdefault" 1 2 2=pure ():=rfl;rw [ck];refine wpAny_pure (wpAny_pure ?_);show wpAny (model prog w) A.in1 (Builtin.Dict.addrOf (.ref d) >>= fun x=>pure (x,Value.ref a,some dflt)) _ _ s;refine wpAny_bind (wpAny_pure (wpAny_pure ?_));show wpAny (model prog w) A.in1 (if (d==sysModules)=true then _ else (dictSetDefault d (.ref a) dflt >>= fun v=>ret v)) _ _ s;rw [if_neg (by rw [hd];decide)];refine wpAny_bind (rF hr hk dd hz (fun p hp=>wpAny_pure (h1 p hp)) (fun hn h' dd' sb=>wpAny_pure (h2 hn h' dd' sb)))
end
section
variable {X:Cx} {o e f:Expr} {td ty tx:TE} {apos cpos:Pos}
def Vk (td ty tx:TE):TE:=fun σ H Q=>td σ H fun x H1=>∃a,x = .ref a/\IsD H1 a/\ty σ H1 fun y H2=>tx σ H2 fun z H3=>∃kvs k b,H3 a=some (.dT kvs)/\y = .ref b/\H3 b=some (.tup (k.map kV))/\kvs.length<sizeLine /\
 (∀v,gU kvs k=some v->Q v H3)/\(gU kvs k=none->Q z (upd H3 a (.dT (putK kvs k z))))
theorem Nr (hu:X.A.units+1<cLine) (ho:PE X o td) (he:PE X e ty) (hf:PE X f tx) (m:M2 X o "setdefault" apos e f cpos):PE X (.Call (.Attribute o "setdefault" apos) [e,f] [] cpos) (Vk td ty tx):=by
 intro pins s σ H Q I h;refine wpAny_Call_method m.base m.few m.line PySem.F.plainAttrs_dict PySem.F.slot_dict_setdefault PySem.F.type_dict_setdefault (eF (ho pins s σ H _ I h) fun u s1 ⟨x,H1,I1,rx,a,ex,d,q1⟩=> ?_);subst ex;obtain rfl:u=Value.ref a:=rx;obtain ⟨t1,t2,_⟩:=Ot I1 d;refine ⟨t1,t2, ?_⟩;rw [m.trees]
 refine Calls.callWith_builtin rfl (Calls.evalArgs_plain (Calls.spliced_cons (eF (he pins s1 σ H1 _ I1 q1) fun iv s2 ⟨y,H2,I2,ry,q2⟩=>
  Calls.spliced_cons (eF (hf pins s2 σ H2 _ I2 q2) fun fv s3 ⟨z,H3,I3,rz,kvs,k,b,ea,ey,eb,hl,q3,q4⟩=>Calls.spliced_nil ?_))))
 subst ey;cases (show iv=Value.ref b from ry);obtain ⟨hz,hd,xs,rel,dd⟩:=aaz I3.hok ea;have hz':xs.length<=sizeLine:=by rw [←Paired.length rel];exact hz
 have rv:=rel.val k;refine call_meetsIn PySem.F.slot_dict_setdefault dd.typeIs PySem.F.entry_dict_setdefault (PySem.F.args_dict_setdefault_3 _ _ _) (uJ (tupleKind (gP X.prog X.w)) a b hd fv) ⟨tupleKind_room_in1 hu,k,xs,Ij I3.hok eb,dd,hz',fun p hp=> ?_,fun hn h' dd' sb=> ?_⟩
 ·rw [hp] at rv
  cases lv:gU kvs k with
  | none=>rw [lv] at rv;exact absurd rv (by simp [pQ])
  | some v=>
    rw [lv] at rv;exact ⟨v,H3,I3.tok _,rv,q3 v lv⟩
 ·rw [hn] at rv
  have lv:gU kvs k=none:=by
   cases lv:gU kvs k with
   | none=>rfl
   | some v=>rw [lv] at rv;exact absurd rv (by simp [pQ])
  have hl':(putK kvs k z).length<=sizeLine:=by have:=wG kvs k z;omega
  obtain ⟨q,es,ep,hq,h2,h3,h4,_,h5⟩:=dd';have est:storedH xs k b fv=xs++[(k,b,fv)]:=by unfold storedH;rw [hn];rfl
  have rp:=rel.put k eb rz;rw [est] at rp;refine ⟨z,upd H3 a (.dT (putK kvs k z)),Sh (ob:= .dT (putK kvs k z)) I3 (by rw [ea];exact True.intro) sb ⟨q,hq⟩ ⟨hl',hd,_,rp.keeps fun c ys ec=> ?_,q,es,ep,hq,h2,h3,h4,h5⟩,rz,q4 lv⟩;rw [aF (eY ec ea (fun z=>nomatch z))];exact ec
end
end L2
namespace L2
open PySem PySem.Spec PyProof.Rows
section
variable {X:Cx} {K:PySem.W.Frag}
def Y9 (K:PySem.W.Frag):V->V->Hp->VK->Prop:=fun x y H Q=>∃p xs i v,x = .ref p/\y = .int i/\bK K H p xs/\0<=i/\xs[i.toNat]? = some v/\Q v H
theorem HB (h:X.K=K):abw X (Y9 K):=by
 subst h;intro pins s σ H o i ov iv Q I ro ri h;obtain ⟨p,xs,k,v,rfl,rfl,hq,k0,he,q⟩:=h;cases ro;obtain ⟨t,rfl⟩:=ri;obtain ⟨its,r,pl,hz⟩:=I.list hq;obtain ⟨w,ew,rw'⟩:=r.get he;have hl:=r.length;have hn:=vR;have:k.toNat<xs.length:=(List.getElem?_eq_some_iff.mp he).1;exact getItem_listL pl.isList k0 (by omega) ew ⟨v,H,I,rw',q⟩
end
end L2
namespace L2
open PySem
theorem Gn {K:PySem.W.Frag} {T:String} {r:V->List V->Hp->VK->Prop} {to:TE} {t:TA} {D:Ends} {σ:St} {H:Hp} (P:V->Hp->Prop) (h1:∀Q':VK,(∀v H',P v H'->Q' v H')->to σ H Q') (h2:∀v H',P v H'->tyV K T v H'/\t σ H' fun xs H2=>r v xs H2 fun _ H3=>D.nx σ H3):TV (tBM K T r to t) D σ H:=h1 _ h2
end L2
set_option Elab.async false
set_option linter.all false
set_option maxRecDepth 100000
set_option maxHeartbeats 4000000
namespace L2
open PySem PySem.Spec PyProof.Rows
section
variable {X:Cx} {K:PySem.W.Frag}
end
def cat:List Str->Str
 | []=>Str.empty
 | x::xs=>x++cat xs
end L2
set_option Elab.async false
set_option linter.all false
set_option maxRecDepth 100000
set_option maxHeartbeats 4000000
namespace L2
open PySem PySem.Spec PyProof.Rows
section
variable {X:Cx} {body suite:List Stmt} {b0:Stmt} {cn:Str} {Dc:Addr} {tb:(St->XK)->TS} {th:TS} {cp hpos pos:Pos}
end
end L2
namespace L2
open PySem PySem.Spec PyProof.Rows
section
variable {X:Cx}
def abE (i j:Int):Prop:=0<j/\j<1329227995784915872903807060280344576
theorem Fp:rB X (binaryOp .FloorDiv) (rI abE fun i j=> .int (i / j)):=Zf fun i j _ _ _ _ _ hc q=>by
 have h1:(0:Int)<j:=hc.1;have h2:j<1329227995784915872903807060280344576:=hc.2;refine floordiv_int (by omega) (by rw [Int.fdiv_eq_ediv_of_nonneg i (by omega)];exact q) (.inl ?_);unfold Builtin.divisionGoesByPylong;have hn:j.natAbs<2 ^ 120:=by omega
 have hl:j.natAbs.log2<120:=(Nat.log2_lt (by omega)).mpr hn
 have hz:(j==0)=false:=by
  rw [beq_eq_false_iff_ne];omega
 simp only [hz,Bool.false_eq_true,if_false];have:¬j.natAbs.log2 / 30+1>300:=by omega
 rw [decide_eq_false this,Bool.false_and]
end
end L2
set_option Elab.async false
set_option linter.all false
set_option maxRecDepth 100000
set_option maxHeartbeats 4000000
namespace L2
open PySem PySem.Spec PyProof.Rows
section
variable {X:Cx} {pins:List (Addr×Obj)} {σ:St} {H:Hp} {s:Shared} {d:Addr} {u u':HO}
end
section
variable {X:Cx} {tg:Expr}
end
section
variable {d D:Addr} {o:Obj} {kvs:List (Key×V)} {tc:TT} {te:TE} {Q:VK} {rest:St} {H1:Hp}
end
end L2
set_option Elab.async false
set_option linter.all false
set_option maxRecDepth 100000
set_option maxHeartbeats 4000000
namespace L2
open PySem PySem.Spec PyProof.Rows
section
variable {X:Cx} {tg:Expr}
end
end L2
set_option Elab.async false
set_option linter.all false
set_option maxRecDepth 100000
set_option maxHeartbeats 4000000
namespace L2
open PySem PySem.Spec PyProof.Rows
section
variable {X:Cx} {tg:Expr}
end
end L2
set_option Elab.async false
set_option linter.all false
set_option maxRecDepth 100000
set_option maxHeartbeats 4000000
namespace L2
open PySem PySem.Spec PyProof.Rows
section
variable {X:Cx}
end
end L2
set_option Elab.async false
set_option linter.all false
set_option maxRecDepth 100000
set_option maxHeartbeats 4000000
namespace L2
open PySem PySem.Spec PyProof.Rows
section
variable {H H':Hp}
mutual
theorem Dat.same (k:Same H H'):∀(d:PyData) {v:V},Dat H v d->Dat H' v d
 | .none,_,h=>by simp only [Dat] at h ⊢;exact h
 | .bool _,_,h=>by simp only [Dat] at h ⊢;exact h
 | .int _,_,h=>by simp only [Dat] at h ⊢;exact h
 | .str _,_,h=>by simp only [Dat] at h ⊢;exact h
 | .list ds,_,h=>by simp only [Dat] at h ⊢;obtain ⟨a,vs,e,q,r⟩:=h;exact ⟨a,vs,e,k _ _ q,bf.same k ds r⟩
 | .tuple ds,_,h=>by simp only [Dat] at h ⊢;obtain ⟨a,vs,e,q,r⟩:=h;exact ⟨a,vs,e,k _ _ q,bf.same k ds r⟩
 | .dict _,_,h=>by simp only [Dat] at h
theorem bf.same (k:Same H H'):∀(ds:List PyData) {vs:List V},bf H vs ds->bf H' vs ds
 | [],[],_=>by simp only [bf]
 | d::ds,v::vs,h=>by simp only [bf] at h ⊢;exact ⟨Dat.same k d h.1,bf.same k ds h.2⟩
 | _::_,[],h=>by simp only [bf] at h
 | [],_::_,h=>by simp only [bf] at h
end
end
section
variable {X:Cx} {K:PySem.W.Frag}
theorem qw (K:PySem.W.Frag):PySem.W.kitOne K (.type "tuple") (.type "list")=some false:=by kernel_rfl
theorem mG (K:PySem.W.Frag):PySem.W.kitOne K (.type "list") (.type "tuple")=some false:=by kernel_rfl
end
section
variable {K:PySem.W.Frag} {a D:Addr} {xs:List V} {tc:TT} {te:TE} {Q:VK} {rest:St} {H1:Hp}
theorem DG {f:Nat->Option PyData} (hf:∀i d,f i=some d->Ew d=true):∀l:List Nat,tO (l.filterMap f)=true
 | []=>rfl
 | i::l=>by
   rw [List.filterMap_cons];cases e:f i with
   | none=>exact DG hf l
   | some d=>simp only [tO,hf i d e,DG hf l,Bool.and_self]
theorem BP (f:Nat->Option PyData) (hf:∀i d,f i=some d->Ew d=true) (hD:H1 D=none) (hq:bK K H1 a xs) (hx:xs.length<=100000)
 (hs:∀i x H (G:Hp->Prop) (F:VK),xs[i]? = some x->Same H1 H->(∀H',Same H H'->f i=none->G H')->(∀y d H',Same H H'->f i=some d->Dat H' y d->F y H')->tc (some x::rest) H fun b H3=>if b=true then te (some x::rest) H3 F else G H3)
 (hd:∀H vs,Same H1 H->H D=some (.lst vs)->bf H vs ((List.range xs.length).filterMap f)->Q (.ref D) H):mL (S_ K a) (gD 0) tc te Q D (none::rest) H1:=by
 refine j4 (K:=K) (xs:=xs) (fun i σ H=>(∃v,σ=v::rest)/\Same H1 H /\ ∃vs,H D=some (.lst vs)/\bf H vs ((List.range i).filterMap f)) ⟨⟨none,rfl⟩,aH hD,[],ao,by simp [bf]⟩ (fun i σ H _ ⟨_,sm,_⟩=>sm.sqL _ _ hq) ?_ (fun σ H ⟨_,sm,vs,e,d⟩=>hd H vs sm e d);rintro i x σ H hi ⟨⟨v,rfl⟩,sm,vs,e,d⟩;have hil:i<xs.length:=(List.getElem?_eq_some_iff.mp hi).1;have im:=DG hf (List.range i);refine hs i x H _ _ hi sm (fun H3 s3 ef=>⟨⟨_,rfl⟩,sm.trans s3,vs,s3 _ _ e, ?_⟩) (fun y dd H4 s4 ef dy=> ?_)
 ·rw [eV,ef]
  simpa using bf.keep s3.tups _ im d
 ·have hl:vs.length<=i:=by rw [d.length];exact tU f i
  have kp:Kp D H4 (upd H4 D (.lst (vs++[y]))):=Kp.set;have tp:=kp.tups (s4 _ _ e);refine ⟨vs,s4 _ _ e, ?_,⟨_,rfl⟩,(sm.trans s4).newly hD,vs++[y],ao, ?_⟩
  ·rw [sizeLine_eq];omega
  ·rw [eV,ef]
   exact BK (bf.keep (fun a xs h=>tp _ _ (s4.tups _ _ h)) _ im d) (Dat.keep tp _ (hf i dd ef) dy)
end
section
variable {X:Cx}
def VH:R2:=fun x y H Q=>∃a b xs ys,x = .ref a/\y = .ref b/\H a=some (.tup xs)/\H b=some (.tup ys)/\xs.length+ys.length<=sizeLine /\ ∀p H',H' p=some (.tup (xs++ys))->Same H H'->Q (.ref p) H'
theorem NK:rB X (binaryOp .Add) VH:=by
 intro pins s σ H x y v u Q I rx ry h;obtain ⟨a,b,xs,ys,rfl,rfl,ha,hb,hz,q⟩:=h;cases rx;cases ry;obtain ⟨its,r1,p1,_⟩:=I.tuple (cO.of ha);obtain ⟨its2,r2,p2,_⟩:=I.tuple (cO.of hb)
 by_cases hv:its=[]
 ·obtain ⟨⟨cls,dd,data,sl⟩,ho,hc,n,hd⟩:=id p1
  obtain ⟨⟨cls2,dd2,data2,sl2⟩,ho2,hc2,n2,hd2⟩:=id p2;simp only at hc hd hc2 hd2;subst hc hd hc2 hd2
  exact concat_meets ⟨_,ho,rfl⟩ ⟨_,ho2,rfl⟩ noFill_tuple_add seq_tuple_add PySem.F.slot_tuple_add PySem.F.entry_tuple_add (PySem.F.args_tuple_add_2 _ _)
   (tuple_addW0 a b its.toArray its2.toArray n n2 dd dd2 sl sl2 (by simp [hv])) ⟨ho,ho2,⟨.ref b,H,I,rfl,q b H (by rw [hb,r1.Jy.mp hv];rfl) (Same.refl _)⟩⟩
 refine HT.Ss p1 p2 hv (fun z=>⟨.ref a,H,I,rfl,q a H (by rw [ha,r2.Jy.mp z,List.append_nil]) (Same.refl _)⟩) (fun z=> ?_) (by rw [←r1.length,←r2.length];exact hz);have fr:=I.hok.fresh (Nat.le_refl s.heap.objs.size);refine ⟨.ref s.heap.objs.size,_,I.laid (t':=s.toks) (o:= .tup (xs++ys)) (fun b ob q=>Heap.get?_push_of_some _ q) (Nat.le_refl _) ?_,rfl,q _ _ ao (aH fr)⟩;exact ⟨by rw [List.length_append];exact hz,_,r1.append r2,IsTup.new _ _⟩
end
end L2
set_option Elab.async false
set_option linter.all false
set_option maxRecDepth 100000
set_option maxHeartbeats 4000000
namespace L2
open PySem PySem.Spec PyProof.Rows
section
variable {X:Cx} {K:PySem.W.Frag} {e st:Expr} {te tk:TE} {pos p2:Pos}
end
end L2
set_option Elab.async false
set_option linter.all false
set_option maxRecDepth 100000
set_option maxHeartbeats 4000000
namespace L2
open PySem PySem.Spec PyProof.Rows
section
variable {H:Hp}
mutual
theorem Dat.fn:∀(d e:PyData) {v:V},Dat H v d->Dat H v e->d=e
 | .none,e,v,h,g=>by cases e<;>simp only [Dat] at h g<;>first |rfl|(subst h;first |(obtain ⟨_,_,z,_⟩:=g;cases z;done)|(cases g;done))
 | .bool _,e,v,h,g=>by cases e<;>simp only [Dat] at h g<;>first |(subst h;first |(injection g with g;rw [g];done)|(obtain ⟨_,_,z,_⟩:=g;cases z;done)|(cases g;done))
 | .int _,e,v,h,g=>by cases e<;>simp only [Dat] at h g<;>first |(subst h;first |(injection g with g;rw [g];done)|(obtain ⟨_,_,z,_⟩:=g;cases z;done)|(cases g;done))
 | .str _,e,v,h,g=>by cases e<;>simp only [Dat] at h g<;>first |(subst h;first |(injection g with g;rw [g];done)|(obtain ⟨_,_,z,_⟩:=g;cases z;done)|(cases g;done))
 | .list ds,.list es,v,h,g=>by
   simp only [Dat] at h g;obtain ⟨a,vs,rfl,ha,da⟩:=h;obtain ⟨b,ws,e,hb,db⟩:=g;injection e with e
   subst e;rw [ha] at hb;injection hb with hb
   injection hb with hb
   subst hb;rw [bf.fn ds es da db]
 | .tuple ds,.tuple es,v,h,g=>by
   simp only [Dat] at h g;obtain ⟨a,vs,rfl,ha,da⟩:=h;obtain ⟨b,ws,e,hb,db⟩:=g;injection e with e
   subst e;rw [ha] at hb;injection hb with hb
   injection hb with hb
   subst hb;rw [bf.fn ds es da db]
 | .list ds,.tuple es,v,h,g=>by
   simp only [Dat] at h g;obtain ⟨a,vs,rfl,ha,da⟩:=h;obtain ⟨b,ws,e,hb,db⟩:=g;injection e with e
   subst e;rw [ha] at hb;injection hb with hb
   cases hb
 | .tuple ds,.list es,v,h,g=>by
   simp only [Dat] at h g;obtain ⟨a,vs,rfl,ha,da⟩:=h;obtain ⟨b,ws,e,hb,db⟩:=g;injection e with e
   subst e;rw [ha] at hb;injection hb with hb
   cases hb
 | .list ds,.none,v,h,g=>by simp only [Dat] at h g;obtain ⟨a,vs,rfl,_⟩:=h;cases g
 | .list ds,.bool _,v,h,g=>by simp only [Dat] at h g;obtain ⟨a,vs,rfl,_⟩:=h;cases g
 | .list ds,.int _,v,h,g=>by simp only [Dat] at h g;obtain ⟨a,vs,rfl,_⟩:=h;cases g
 | .list ds,.str _,v,h,g=>by simp only [Dat] at h g;obtain ⟨a,vs,rfl,_⟩:=h;cases g
 | .tuple ds,.none,v,h,g=>by simp only [Dat] at h g;obtain ⟨a,vs,rfl,_⟩:=h;cases g
 | .tuple ds,.bool _,v,h,g=>by simp only [Dat] at h g;obtain ⟨a,vs,rfl,_⟩:=h;cases g
 | .tuple ds,.int _,v,h,g=>by simp only [Dat] at h g;obtain ⟨a,vs,rfl,_⟩:=h;cases g
 | .tuple ds,.str _,v,h,g=>by simp only [Dat] at h g;obtain ⟨a,vs,rfl,_⟩:=h;cases g
 | .list ds,.dict _,v,h,g=>by simp only [Dat] at g
 | .tuple ds,.dict _,v,h,g=>by simp only [Dat] at g
 | .dict _,_,v,h,g=>by simp only [Dat] at h
theorem bf.fn:∀(ds es:List PyData) {vs:List V},bf H vs ds->bf H vs es->ds=es
 | [],[],_,_,_=>rfl
 | d::ds,e::es,v::vs,h,g=>by
   simp only [bf] at h g;rw [Dat.fn d e h.1 g.1,bf.fn ds es h.2 g.2]
 | [],_::_,[],_,g=>by simp only [bf] at g
 | [],_::_,_::_,h,_=>by simp only [bf] at h
 | _::_,[],[],h,_=>by simp only [bf] at h
 | _::_,[],_::_,_,g=>by simp only [bf] at g
 | _::_,_::_,[],h,_=>by simp only [bf] at h
end
end
section
variable {X:Cx}
end
end L2
set_option Elab.async false
set_option linter.all false
set_option maxRecDepth 100000
set_option maxHeartbeats 4000000
namespace L2
open PySem PySem.Spec PyProof.Rows
section
variable {X:Cx} {K:PySem.W.Frag} {e e1 e2 l:Expr} {te t1 t2 tl:TE} {pos:Pos} {tg:Expr}
end
section
variable {X:Cx}
end
end L2
set_option Elab.async false
set_option linter.all false
set_option maxRecDepth 100000
set_option maxHeartbeats 4000000
namespace L2
open PySem PySem.Spec PyProof.Rows PySem.Builtin PySem.Builtin.Str
section
variable {X:Cx} {K:PySem.W.Frag}
def Its (x:Str):It:=⟨fun i _=>i<x.cps.size,fun i H v H'=>H'=H /\ ∃c,x.cps[i]? = some c/\v = .str ⟨#[c]⟩,fun i _=>x.cps.size<=i⟩
theorem Mx {P:Program} {w:World} {K:PySem.W.Frag} {tg:Expr} (x:Str) (t:Tok) (it:Addr):Turn P w K tg (Its x) [it] it (fun i h=>i<=x.cps.size/\(h.IsStrIter it "str_ascii_iterator" x t i\/h.IsStrIter it "str_iterator" x t i)) where
 mem:=by simp
 obj:=fun i h st b hb=>by
  have e:b=it:=by simpa using hb
  subst e;rcases st.2 with ⟨o,e,c,d⟩|⟨o,e,c,d⟩
  ·exact ⟨o,e,fun v z=>by rw [d] at z;cases z⟩
  ·exact ⟨o,e,fun v z=>by rw [d] at z;cases z⟩
 keep:=fun i h h' st k=>⟨st.1,st.2.imp (fun ⟨o,e,r⟩=>⟨o,k it (by simp) o e,r⟩) (fun ⟨o,e,r⟩=>⟨o,k it (by simp) o e,r⟩)⟩
 item:=by
  intro X hP hw hK hc i pins s σ H E I hf st hg;subst hP hw hK;have hi:i<x.cps.size:=hg;have hx:x.cps[i]? = some x.cps[i]:=by simp [hi]
  obtain ⟨f0,f1,f2,f3,f4,f5⟩:=hf it (by simp);rcases st.2 with st|st
  ·refine wpAny_pyNext_ascii_item st hx fun h' st' sb=> ?_
   have I1:Inv X pins σ H {s with heap:=h',toks:=s.toks+1}:=I.turned (t':=s.toks+1) (fun b o hb e=>(sb.2 b hb).trans e) f0 f1 f3 f4 f5;obtain ⟨o,e,c,d⟩:=id st';exact ⟨_,rfl,Gd (s:={s with heap:=h',toks:=s.toks+1}) e c d (by decide) ⟨.str ⟨#[x.cps[i]]⟩,H,I1,⟨_,rfl⟩,⟨rfl,_,hx,rfl⟩,⟨hi,.inl st'⟩,fun b hb=>(hf b hb).1⟩⟩
  ·refine wpAny_pyNext_wide_item st hx fun h' st' sb=> ?_
   have I1:Inv X pins σ H {s with heap:=h',toks:=s.toks+1}:=I.turned (t':=s.toks+1) (fun b o hb e=>(sb.2 b hb).trans e) f0 f1 f3 f4 f5;obtain ⟨o,e,c,d⟩:=id st';exact ⟨_,rfl,Gd (s:={s with heap:=h',toks:=s.toks+1}) e c d (by decide) ⟨.str ⟨#[x.cps[i]]⟩,H,I1,⟨_,rfl⟩,⟨rfl,_,hx,rfl⟩,⟨hi,.inr st'⟩,fun b hb=>(hf b hb).1⟩⟩
 done:=by
  intro X hP hw hK hc i pins s σ H E I hf st hg;subst hP hw hK;have hx:x.cps[i]? = none:=by simpa using (show x.cps.size<=i from hg)
  obtain ⟨f0,f1,f2,f3,f4,f5⟩:=hf it (by simp);rcases st.2 with st|st
  ·exact wpAny_pyNext_ascii_end (I.ok.hd hc) st hx fun h' eb=>⟨rfl,I.turned (t':=s.toks) (fun b o hb e=>eb b o hb e) f0 f1 f3 f4 f5⟩
  ·exact wpAny_pyNext_wide_end (I.ok.hd hc) st hx fun h' eb=>⟨rfl,I.turned (t':=s.toks) (fun b o hb e=>eb b o hb e) f0 f1 f3 f4 f5⟩
 self:=fun _ _ _ _ _ st h=>st.2.elim (fun st=>wpAny_pyIter_striter_ascii st h) (fun st=>wpAny_pyIter_striter_wide st h)
def ahJ (tl:TE):TI:=fun σ H R=>tl σ H fun x H1=>∃a,x = .str a/\R (Its a) H1
theorem V3 {tg l:Expr} {tl:TE} (hl:PE X l tl):PI X tg l (ahJ tl):=by
 intro pins s σ H R I h;refine eF (hl pins s σ H _ I h) fun v s1 ⟨x,H1,I1,r1,q1⟩=> ?_;obtain ⟨a,rfl,q⟩:=q1;obtain ⟨t,rfl⟩:=r1
 have fin:∀o,(s1.heap.push o).IsStrIter s1.heap.objs.size "str_ascii_iterator" a t 0\/(s1.heap.push o).IsStrIter s1.heap.objs.size "str_iterator" a t 0->PIE X pins σ tg R (.ref s1.heap.objs.size) {s1 with heap:=s1.heap.push o}:=by
  intro o st;refine ⟨s1.heap.objs.size,[s1.heap.objs.size],_,_,H1,rfl,I1.kept (t':=s1.toks) fun b o e=>Heap.get?_push_of_some _ e,Mx a t _,⟨Nat.zero_le _,st⟩,fun b hb=> ?_,q⟩;have e:b=s1.heap.objs.size:=by simpa using hb
  subst e;exact I1.zp (Nat.le_refl _) (I1.hok.fresh (Nat.le_refl _))
 cases ha:a.cps.all (· < 128)
 ·exact wpAny_pyIter_wide ha (fin _ (.inr ⟨_,Heap.get?_push_size _ rfl,rfl,rfl⟩))
 ·exact wpAny_pyIter_ascii ha (fin _ (.inl ⟨_,Heap.get?_push_size _ rfl,rfl,rfl⟩))
end
section
variable {K:PySem.W.Frag} {D:Addr} {tc:TT} {te:TE} {Q:VK} {rest:St} {H1:Hp}
theorem Li {x:Str} {g:TG} {σ0:St} (Pv:Nat->St->Hp->Prop) (h0:Pv 0 σ0 (upd H1 D (.lst [])))
 (hs:∀i c σ H,x.cps[i]? = some c->Pv i σ H->g (.str ⟨#[c]⟩) σ H fun σ2 H2=>tc σ2 H2 fun b H3=>
   if b=true then te σ2 H3 fun y H4=>∃acc,H4 D=some (.lst acc)/\acc.length<sizeLine/\Pv (i+1) σ2 (upd H4 D (.lst (acc++[y]))) else Pv (i+1) σ2 H3)
 (hd:∀σ H,Pv x.cps.size σ H->Q (.ref D) H):mL (Its x) g tc te Q D σ0 H1:=by
 refine ⟨fun i m σ H=>m=x.cps.size - i/\i<=x.cps.size/\Pv i σ H,⟨x.cps.size,by simp,Nat.zero_le _,h0⟩, ?_⟩;rintro i m σ H ⟨rfl,hi,p⟩
 by_cases hlt:i<x.cps.size
 ·refine .inr ⟨hlt,Pv (i+1),fun σ' H' p'=>⟨x.cps.size - (i+1),by omega,rfl,hlt,p'⟩,fun y H' e=> ?_⟩
  obtain ⟨e,c,hc,rfl⟩:=e;subst e;exact hs i c σ _ hc p
 ·have e:i=x.cps.size:=by omega
  subst e;exact .inl ⟨Nat.le_refl _,hd σ H p⟩
theorem Lh {x:Str} (f:Nat->Option V) (hD:H1 D=none) (hx:x.cps.size<=100000)
 (hs:∀i c H (G:Hp->Prop) (F:VK),x.cps[i]? = some c->Same H1 H->(∀H',Same H H'->f i=none->G H')->(∀y H',Same H H'->f i=some y->F y H')->tc (some (.str ⟨#[c]⟩)::rest) H fun b H3=>if b=true then te (some (.str ⟨#[c]⟩)::rest) H3 F else G H3)
 (hd:∀H,Same H1 H->H D=some (.lst ((List.range x.cps.size).filterMap f))->Q (.ref D) H):mL (Its x) (gD 0) tc te Q D (none::rest) H1:=by
 refine Li (fun i σ H=>(∃v,σ=v::rest)/\Same H1 H/\H D=some (.lst ((List.range i).filterMap f))) ⟨⟨none,rfl⟩,aH hD,ao⟩ ?_ (fun σ H ⟨_,sm,e⟩=>hd H sm e);rintro i c σ H hi ⟨⟨v,rfl⟩,sm,e⟩;have hil:i<x.cps.size:=(Array.getElem?_eq_some_iff.mp hi).1;refine hs i c H _ _ hi sm (fun H3 s3 ef=>⟨⟨_,rfl⟩,sm.trans s3,by rw [s3 _ _ e,eV,ef];simp⟩) (fun y H4 s4 ef=> ?_);refine ⟨_,s4 _ _ e, ?_,⟨_,rfl⟩,(sm.trans s4).newly hD, ?_⟩
 ·have:=tU f i
  rw [sizeLine_eq];omega
 ·rw [ao,eV,ef];rfl
end
section
variable {X:Cx}
end
end L2
set_option Elab.async false
set_option linter.all false
set_option maxRecDepth 100000
set_option maxHeartbeats 4000000
namespace L2
open PySem PySem.Spec PyProof.Rows PySem.Builtin PySem.Builtin.Str
end L2
set_option Elab.async false
set_option linter.all false
set_option maxRecDepth 100000
set_option maxHeartbeats 4000000
namespace L2
open PySem PySem.Spec PyProof.Rows
section
variable (P:Program) (w:World) (K:PySem.W.Frag) (mg:Str->Option Value) (base:Heap)
def MethAt (k:Nat) (C:Addr) (m:Str) (ps:List Str) (sp:Sp):Prop:=∃f fd,bW P w K mg base lE k f fd ps sp/\Meth K C m f/\Binds K fd ps []
def iV (k:Nat) (C:Addr) (m:Str) (ps:List Str) (sp:Sp):Prop:=∃f fd,bW P w K mg base (vd P w) k f fd ps sp/\Meth K C m f/\Binds K fd ps []
def qH (k:Nat) (C:Addr) (x:Str) (ps:List Str) (tV:List V) (sp:Sp):Prop:=∃f fd ds,bW P w K mg base lE k f fd ps sp/\Mk K C f/\mg x=some (.ref C)/\Binds K fd ps ds/\Vals tV ds
def u_ (k:Nat) (C:Addr) (x:Str) (ps:List Str) (tV:List V) (sp:Sp):Prop:=∃f fd ds,bW P w K mg base (vd P w) k f fd ps sp/\Mk K C f/\mg x=some (.ref C)/\Binds K fd ps ds/\Vals tV ds
def SX (k:Nat) (C:Addr) (x:Str) (ps:List Str) (kn:Str) (sp:Sp):Prop:=∃f fd,bW P w K mg base (vd P w) k f fd ps sp/\Mk K C f/\mg x=some (.ref C) /\
 ∀(s:Shared) (us:List Value) (z:Value),K.In s.heap->(us++[z]).length=ps.length->BindsTo s fd ⟨us,[(kn,z)]⟩ (ps.zip (us++[z]))
end
section
variable {P:Program} {w:World} {K:PySem.W.Frag} {mg:Str->Option Value} {base:Heap} {k:Nat} {C:Addr} {m x:Str} {ps:List Str} {sp:Sp} {tV:List V}
theorem bW.calm {f:Addr} {fd:FuncData} (G:bW P w K mg base (vd P w) k f fd ps sp):bW P w K mg base lE k f fd ps (fun vs H Q _=>sp vs H Q fun _ _ _=>False):=by
 refine ⟨fun vs H Q E q=>G.len vs H Q _ q,fun A outer s H args us vs Q E hr he hbd hv hs=> ?_⟩;refine codeAny_mono (G.run A outer s H args us vs Q (fun _ _ _=>False) hr he hbd hv hs) fun res s' hq=> ?_
 match res,hq with
 | .error ev,hq=>
   obtain ⟨e,cls,dx,H',_,_,_,_,_,_,_,_,z⟩:=hq;exact z.elim
 | .ok (.ret u),hq=>exact hq
theorem iV.calm (F:iV P w K mg base k C m ps sp):MethAt P w K mg base k C m ps (fun vs H Q _=>sp vs H Q fun _ _ _=>False):=by
 obtain ⟨f,fd,G,r⟩:=F;exact ⟨f,fd,G.calm,r⟩
theorem u_.calm (F:u_ P w K mg base k C x ps tV sp):qH P w K mg base k C x ps tV (fun vs H Q _=>sp vs H Q fun _ _ _=>False):=by
 obtain ⟨f,fd,ds,G,r⟩:=F;exact ⟨f,fd,ds,G.calm,r⟩
end
section
variable {X:Cx} {k:Nat} {C:Addr} {x m:Str} {ps:List Str} {sp:Sp} {tV:List V} {e o:Expr} {es:List Expr} {ta:TE} {t:TA} {p pos apos:Pos} {E:St->XK}
theorem cF {pl:Sem Bool} (M:MethAt X.prog X.w X.K X.mg X.base k C m ps sp) (c:Cls X.K C) (hr:gR k X.A) (he:PE X o ta) (ha:PA X (e::es) t)
 (hst:starEach (e::es) X.env=(false,eval e X.env)::starEach es X.env:=by rfl) (hpl:(backTo pos (starEach es X.env)).any (·.1)=false:=by rfl)
 (ht:eval (.Call (.Attribute o m apos) (e::es) [] pos) X.env=(do
   let ov ←eval o X.env
   standAt apos.atName
   let (f,first) ←holding [ov] (getMethod ov m pl)
   callWith pos f first (backTo pos (starEach (e::es) X.env)) (backToKw pos (keywordEach [] X.env))):=by rfl):
 PE X (.Call (.Attribute o m apos) (e::es) [] pos) (Jk C m sp [] E0 ta t):=by
 obtain ⟨f,fd,G,hm,hb⟩:=M;exact Ra he c hm G hr hb .nil Jt ha hst hpl ht
theorem eX {pl:Sem Bool} (M:MethAt X.prog X.w X.K X.mg X.base k C m ps sp) (c:Cls X.K C) (hr:gR k X.A) (he:PE X o ta)
 (ht:eval (.Call (.Attribute o m apos) [] [] pos) X.env=(do
   let ov ←eval o X.env
   standAt apos.atName
   let (f,first) ←holding [ov] (getMethod ov m pl)
   callWith pos f first (backTo pos (starEach [] X.env)) (backToKw pos (keywordEach [] X.env))):=by rfl):
 PE X (.Call (.Attribute o m apos) [] [] pos) (Jk C m sp [] E0 ta M4):=by
 obtain ⟨f,fd,G,hm,hb⟩:=M;exact Nq he c hm G hr hb .nil Jt ht
def Vj (C:Addr) (m:Str) (sp:Sp) (E:St->XK) (ta:TE) (t:TA):TE:=fun σ H Q=>ta σ H fun x H1=>∃a dx fs,x = .ref a/\H1 a=some (.ins C dx fs)/\fs.lookup m=none/\t σ H1 fun vs H2=>sp (x::vs) H2 Q (E σ)
theorem QM {pins:List (Addr×Obj)} {σ:St} {H:Hp} {s:Shared} {Q:VK} {us:List Value} {vs:List V} {f:Addr} {fd:FuncData} (G:bW X.prog X.w X.K X.mg X.base (vd X.prog X.w) k f fd ps sp) (hx:X.ex=[]) (R:Rz X E) (hr:gR k X.A) (hb:Binds X.K fd ps [])
 (I:Inv X pins σ H s) (r:Vals vs us) (q:sp vs H Q (E σ)):wpAny (model X.prog X.w) X.A (call (.ref f) us) (EP X pins σ Q) X.xe s:=by
 have hlen:us.length=ps.length:=by rw [←r.length];exact G.len _ _ _ _ q
 have hbd:=hb s us I.rE (by rw [List.append_nil];exact hlen);rw [List.append_nil] at hbd;refine wpAny_call (codeAny_mono (G.run X.A X.stack s H ⟨us,[]⟩ us vs Q (E σ) hr I.env0 hbd r q) fun res s' hq=> ?_)
 match res,hq with
 | .error ev,hq=>exact Js hx R I hq
 | .ok (.ret u),hq=>exact I.after hq
theorem qg {pl:Sem Bool} (M:iV X.prog X.w X.K X.mg X.base k C m ps sp) (c:Cls X.K C) (hx:X.ex=[]) (R:Rz X E) (hr:gR k X.A) (he:PE X o ta) (ha:PA X (e::es) t)
 (hst:starEach (e::es) X.env=(false,eval e X.env)::starEach es X.env:=by rfl) (hpl:(backTo pos (starEach es X.env)).any (·.1)=false:=by rfl)
 (ht:eval (.Call (.Attribute o m apos) (e::es) [] pos) X.env=(do
   let ov ←eval o X.env
   standAt apos.atName
   let (f,first) ←holding [ov] (getMethod ov m pl)
   callWith pos f first (backTo pos (starEach (e::es) X.env)) (backToKw pos (keywordEach [] X.env))):=by rfl):
 PE X (.Call (.Attribute o m apos) (e::es) [] pos) (Vj C m sp E ta t):=by
 obtain ⟨f,fd,G,hm,hb⟩:=M;intro pins s σ H Q I h;refine PySem.W.methodCall_KW (pl:=pl) (eF (he pins s σ H _ I h) fun u s1 ⟨x,H1,I1,rx,a,dx,fs,ex,ea,l,q⟩=> ?_) ht;subst ex;obtain rfl:u=Value.ref a:=rx;refine tR I1 ea c hm l ?_;refine PySem.W.callWith_K (first:=[.ref a]) (h₀:=X.base) I.ok.mod.RD hm.kp (eF (ha pos pins s1 σ H1 _ I1 q) fun us s2 ⟨vs,H2,I2,r,q2⟩=>⟨I2.rE, ?_⟩) hst hpl;exact QM (us:= .ref a::us) (vs:= .ref a::vs) G hx R hr hb I2 (.cons rfl r) q2
theorem ql (M:qH X.prog X.w X.K X.mg X.base k C x ps tV sp) (hr:gR (k+1) X.A) (hg:Gl X x) (ha:PA X (e::es) t) (hdb:(x==("__debug__" :Str))=false:=by decide)
 (he:starEach (e::es) X.env=(false,eval e X.env)::starEach es X.env:=by rfl) (hpl:(backTo pos (starEach es X.env)).any (·.1)=false:=by rfl):
 PE X (.Call (.Name x p) (e::es) [] pos) (TQ C sp tV E0 t):=by
 obtain ⟨f,fd,ds,G,mk,hm,hb,hd⟩:=M;exact Rb mk G hr hg hm hb hd Jt ha hdb he hpl
end
end L2
namespace L2
open PySem PySem.Spec PyProof.Rows PySem.Builtin PySem.Builtin.Str
section
variable {X:Cx} {K:PySem.W.Frag} {o e value:Expr} {f:Str} {pos pos' tpos:Pos} {ta tv:TE}
theorem bw (hK:X.K=K) (he:PE X e ta) (hb:attributeBase e f X.env (eval e X.env)=eval e X.env):PE X (.Attribute e f pos) (YG K ta f):=by subst hK;exact V7 he hb
theorem cY (hK:X.K=K) (ha:PE X o ta) (hv:PE X value tv) (hs:swapsWith value (some (.Attribute o f pos')) pos.line X.env=pure false):PS X (.Assign [.Attribute o f pos'] value pos) (YW K ta tv f):=by subst hK;exact VR ha hv hs
theorem yQ {op:Operator} {rd:V->V->Hp->VK->Prop} (hK:X.K=K) (ha:PE X o ta) (hv:PE X value tv) (hop:abC X op rd):PS X (.AugAssign (.Attribute o f tpos) op value pos) (Jp K ta tv rd f):=by subst hK;exact Kc ha hv hop
def Y8:V->List V->Hp->VK->Prop:=fun x vs H Q=>∃(a y:Str) (i:Nat) (r:List Nat),x = .str a/\vs=[.str y]/\occurrences a y 0 a.length 1=i::r/\Q (.int i) H
theorem Bo:Xn X "str.index" Y8:=by
 intro pins s σ H x vs v us Q I rx rv h;obtain ⟨a,y,i,r,rfl,rfl,ho,q⟩:=h;obtain ⟨t,rfl⟩:=rx;obtain ⟨u,rfl,ru⟩:=rv.one;obtain ⟨t2,rfl⟩:=ru;exact call_meets PySem.F.slot_str_index (typeIs_str _ _ _) PySem.F.entry_str_index (PySem.F.args_str_index_2 _ _) (gives_str_index a y t t2 i r ho).meets ⟨.int i,H,I.tok _,⟨_,rfl⟩,q⟩
end
structure Ti (K:PySem.W.Frag) (x qual:Str) (st:Stmt) (ds:List Value) (f:Addr) (fd:FuncData):Prop where
 ex:∃(oc:Value) (od:Option Addr) (T:Addr) (kV doc pm:Value) (an:Option Addr) (cdv ct:Value) (osl:Array (Option Value)) (tc:Value) (td:Option Addr) (tn:Nat) (TF:Array (Option Value)),
  fd=PySem.W.fnOf x qual (aO st) (aM st) (aA st) (.ref T) kV doc pm an cdv ct/\K.lookup f=some ⟨oc,od,.func fd,osl⟩/\PySem.W.codeIn K cdv qual=true/\K.lookup T=some ⟨tc,td,.seq ds.toArray tn,TF⟩
 kp:PySem.W.keepIn K (.ref f)=true
section
variable {P:Program} {w:World} {K:PySem.W.Frag} {mg:Str->Option Value} {base:Heap}
theorem Ti.Rp {x qual:Str} {st:Stmt} {ds:List Value} {f:Addr} {fd:FuncData} {N ps:List Str} {k:Nat} {sp:Sp} (F:Ti K x qual st ds f fd) (S:bA N ps (aA st)) (len:∀vs H Q E,sp vs H Q E->vs.length=ps.length)
 (hbody:∀(cdv:Value) (A:Around) (outer:List Env) (s:Shared) (H:Hp) (vs:List V) (Q:VK) (E:XK),gR k (A.deeper (envOfC qual (aA st) s.heap.objs.size f cdv))->sp vs H Q E ->
   Rz (pP (vd P w) P w K mg base N qual (aA st) f cdv A outer s H E) (fun _=>E) ->
   ∃t,GX (pP (vd P w) P w K mg base N qual (aA st) f cdv A outer s H E) (aM st) t/\t {nx:=fun _ H'=>Q .non H',rt:=Q} (start N vs) H):bW P w K mg base (vd P w) (k+1) f fd ps sp:=by
 obtain ⟨oc,od,T,kV,doc,pm,an,cdv,ct,osl,tc,td,tn,TF,rfl,lk,hcd,_⟩:=F.ex;exact O_ lk hcd S len fun A outer s H vs Q E hr hsp=>hbody cdv A outer s H vs Q E hr hsp Fj
end
section
variable {X:Cx} {k:Nat} {C:Addr} {x kn:Str} {ps:List Str} {sp:Sp} {e ke:Expr} {es:List Expr} {te:TE} {t:TA} {p pos kpos:Pos} {E:St->XK}
end
end L2
set_option Elab.async false
set_option linter.all false
set_option maxRecDepth 100000
set_option maxHeartbeats 4000000
namespace L2
open PySem PySem.Spec PyProof.Rows
section
variable {prog:Program} {w:World} {A:Around} {E:Value->Shared->Prop} {s:Shared} {it d:Addr} {ep:Nat} {od:Obj} {es:Array DictEntry}
end
end L2
set_option Elab.async false
set_option linter.all false
set_option maxRecDepth 100000
set_option maxHeartbeats 4000000
namespace L2
open PySem PySem.Spec PyProof.Rows
section
variable {X:Cx} {pins:List (Addr×Obj)} {σ:St} {H:Hp} {s:Shared} {d:Addr}
end
section
variable {X:Cx} {tg:Expr}
end
section
variable {d D:Addr} {o:Obj} {kvs:List (List Key×V)} {tc:TT} {te:TE} {Q:VK} {rest:St} {H1:Hp}
end
end L2
set_option Elab.async false
set_option linter.all false
set_option maxRecDepth 100000
set_option maxHeartbeats 4000000
namespace L2
open PySem PySem.Spec PyProof.Rows
section
variable {prog:Program} {w:World} {A:Around} {E:Value->Shared->Prop} {s:Shared}
end
section
variable {X:Cx} {pos:Pos}
end
end L2
set_option Elab.async false
set_option linter.all false
set_option maxRecDepth 100000
set_option maxHeartbeats 4000000
namespace L2
open PySem
abbrev Tg:=Addr->List Nat
def aR (τ:Tg) (x:Addr) (t:List Nat):Tg:=fun y=>if y=x then t else τ y
theorem bB {τ:Tg} {x:Addr} {t:List Nat}:aR τ x t x=t:=if_pos rfl
theorem aU {τ:Tg} {x y:Addr} {t:List Nat} (h:y≠x):aR τ x t y=τ y:=if_neg h
def rA (τ:Tg) (H:Hp):Prop:=∀x,H x=none->τ x=[]
theorem rA.dom {τ:Tg} {H H':Hp} (u:rA τ H) (d:∀x,H' x=none->H x=none):rA τ H':=fun x e=>u x (d x e)
theorem rA.same {τ:Tg} {H H':Hp} (u:rA τ H) (k:Same H H'):rA τ H':=u.dom fun _ e=>k.free e
theorem rA.claim {τ:Tg} {H H':Hp} {p:Addr} {t:List Nat} (u:rA τ H) (k:Same H H') (hp:∃o,H' p=some o):rA (aR τ p t) H':=fun x e=>by
 have n:x≠p:=fun z=>by
  obtain ⟨o,ho⟩:=hp;rw [z,ho] at e;cases e
 rw [aU n];exact u.same k x e
theorem fD {τ:Tg} {a b:Addr} {s t:List Nat} (ha:τ a=s) (hb:τ b=t) (h:s≠t):a≠b:=fun e=>h (by rw [←ha,←hb,e])
structure mH (i:Nat) (τ:Tg) (H H':Hp):Prop where
 keep:∀x o,H x=some o->(τ x).head?≠some i->H' x=some o
 tup:∀x xs,H x=some (.tup xs)->H' x=some (.tup xs)
 dom:∀x,H' x=none->H x=none
theorem mH.of_same {i:Nat} {τ:Tg} {H H':Hp} (k:Same H H'):mH i τ H H':=⟨fun x o e _=>k _ _ e,fun x xs e=>k _ _ e,fun x e=>k.free e⟩
theorem mH.trans {i:Nat} {τ:Tg} {H H1 H2:Hp} (a:mH i τ H H1) (b:mH i τ H1 H2):mH i τ H H2:=⟨fun x o e n=>b.keep _ _ (a.keep _ _ e n) n,fun x xs e=>b.tup _ _ (a.tup _ _ e),fun x e=>a.dom _ (b.dom _ e)⟩
theorem mH.set {i:Nat} {τ:Tg} {H:Hp} {x:Addr} {o u:HO} (ht:(τ x).head?=some i) (hx:H x=some o) (hn:∀xs,o ≠ .tup xs):mH i τ H (upd H x u):=by
 refine ⟨fun y v e n=> ?_,fun y xs e=> ?_,fun y e=> ?_⟩
 ·have z:y≠x:=fun z=>n (by rw [z];exact ht)
  rw [aF z];exact e
 ·rw [aF (eY e hx fun z=>hn xs z.symm)];exact e
 ·by_cases z:y=x
  ·rw [z,ao] at e;cases e
  ·rw [aF z] at e;exact e
theorem mH.un {i:Nat} {τ:Tg} {H H':Hp} (a:mH i τ H H') (u:rA τ H):rA τ H':=u.dom a.dom
structure Mv (i:Nat) (τ:Tg) (H:Hp) (τ':Tg) (H':Hp):Prop where
 keep:∀x o,H x=some o->τ x=[0]\/(τ x).head?=some i->H' x=some o/\τ' x=τ x
 tup:∀x xs,H x=some (.tup xs)->H' x=some (.tup xs)
theorem Mv.of_same {i:Nat} {τ:Tg} {H H':Hp} (k:Same H H'):Mv i τ H τ H':=⟨fun x o e _=>⟨k _ _ e,rfl⟩,fun x xs e=>k _ _ e⟩
theorem Mv.tags {i:Nat} {τ τ':Tg} {H H':Hp} (k:Same H H') (t:∀x o,H x=some o->τ' x=τ x):Mv i τ H τ' H':=⟨fun x o e _=>⟨k _ _ e,t x o e⟩,fun x xs e=>k _ _ e⟩
theorem Mv.claim {i:Nat} {τ:Tg} {H H':Hp} {p:Addr} {t:List Nat} (k:Same H H') (hp:H p=none):Mv i τ H (aR τ p t) H':= .tags k fun x o e=>aU (aB e hp)
theorem Mv.jY {i j:Nat} {τ:Tg} {H H':Hp} (k:mH j τ H H') (h:j≠i) (h0:j≠0):Mv i τ H τ H':=⟨fun x o e t=>⟨k.keep _ _ e (by
 rcases t with t|t
 ·rw [t];intro z;exact h0 (Option.some.inj z).symm
 ·rw [t];intro z;exact h (Option.some.inj z).symm),rfl⟩,k.tup⟩
theorem Mv.trans {i:Nat} {τ τ1 τ2:Tg} {H H1 H2:Hp} (a:Mv i τ H τ1 H1) (b:Mv i τ1 H1 τ2 H2):Mv i τ H τ2 H2:=⟨fun x o e t=>by
 obtain ⟨e1,t1⟩:=a.keep x o e t;obtain ⟨e2,t2⟩:=b.keep x o e1 (by rw [t1];exact t);exact ⟨e2,by rw [t2,t1]⟩,fun x xs e=>b.tup _ _ (a.tup _ _ e)⟩
end L2
set_option Elab.async false
set_option linter.all false
set_option maxRecDepth 100000
set_option maxHeartbeats 4000000
namespace Prf
open PySem L2
inductive U6 where
 | num (n:Int)
 | box (b:Nat)
 deriving DecidableEq
inductive Jh where
 | one (x:U6)
 | two (p:Bool) (x y:U6)
 deriving DecidableEq
inductive Rw where
 | load (b c:Nat)
 | store (c:Nat) (e:Jh)
 | swap (b c:Nat) (e:Jh)
 | Du (b:Nat) (e:Jh)
 | say (e:Jh)
 | go (k:Nat)
 | Eu (q:Bool) (e f:Jh) (k:Nat)
 deriving DecidableEq
def LC (b:Nat):Str:=⟨#[97+b]⟩
def Tr:U6->PyData
 | .num n=> .tuple [.str "number",.int n]
 | .box b=> .tuple [.str "box",.str (LC b)]
def Gj:Jh->PyData
 | .one x=>Tr x
 | .two p x y=> .tuple [.str (if p then "plus" else "minus"),Tr x,Tr y]
def z9:Rw->PyData
 | .load b c=> .tuple [.str "load",.str (LC b),.int c]
 | .store c e=> .tuple [.str "store",.int c,Gj e]
 | .swap b c e=> .tuple [.str "swap",.str (LC b),.int c,Gj e]
 | .Du b e=> .tuple [.str "let",.str (LC b),Gj e]
 | .say e=> .tuple [.str "say",Gj e]
 | .go k=> .tuple [.str "go",.int k]
 | .Eu q e f k=> .tuple [.str "unless",.str (if q then "=" else "<"),Gj e,Gj f,.int k]
def U_:U6->Prop
 | .num n=>0<=n/\n<1000
 | .box b=>b<8
def zu:Jh->Prop
 | .one x=>U_ x
 | .two _ x y=>U_ x/\U_ y
def YX (m:Nat):Rw->Prop
 | .load b c=>b<8/\c<m
 | .store c e=>c<m/\zu e
 | .swap b c e=>b<8/\c<m/\zu e
 | .Du b e=>b<8/\zu e
 | .say e=>zu e
 | .go _=>True
 | .Eu _ e f _=>zu e/\zu f
theorem Ou:∀x:U6,Ew (Tr x)=true
 | .num _=>rfl
 | .box _=>rfl
theorem zc:∀e:Jh,Ew (Gj e)=true
 | .one x=>Ou x
 | .two p x y=>by simp only [Gj,Ew,tO,Ou,Bool.and_self]
theorem Il:∀r:Rw,Ew (z9 r)=true
 | .load _ _=>rfl
 | .store _ e=>by simp only [z9,Ew,tO,zc,Bool.and_self]
 | .swap _ _ e=>by simp only [z9,Ew,tO,zc,Bool.and_self]
 | .Du _ e=>by simp only [z9,Ew,tO,zc,Bool.and_self]
 | .say e=>by simp only [z9,Ew,tO,zc,Bool.and_self]
 | .go _=>rfl
 | .Eu _ e f _=>by simp only [z9,Ew,tO,zc,Bool.and_self]
section
variable {H:Hp} {v:V}
theorem U0 {x:U6} (h:Dat H v (Tr x)):∃t,v = .ref t/\H t=some (.tup (match x with | .num n=>[.str "number",.int n] | .box b=>[.str "box",.str (LC b)])):=by
 cases x<;>simp only [Tr,Dat] at h<;>obtain ⟨t,vs,rfl,e,d⟩:=h<;>refine ⟨t,rfl, ?_⟩<;>rw [e] <;>
 ·match vs,d with
  | [a,b],d=>
    simp only [bf,Dat,and_true] at d;obtain ⟨rfl,rfl⟩:=d;rfl
theorem Xi {p:Bool} {x y:U6} (h:Dat H v (Gj (.two p x y))):∃t a b,v = .ref t/\H t=some (.tup [.str (if p then "plus" else "minus"),a,b])/\Dat H a (Tr x)/\Dat H b (Tr y):=by
 simp only [Gj,Dat] at h;obtain ⟨t,vs,rfl,e,d⟩:=h
 match vs,d with
 | [a,b,c],d=>
   simp only [bf,Dat,and_true] at d;obtain ⟨rfl,d1,d2⟩:=d;exact ⟨t,_,_,rfl,e,d1,d2⟩
def Parts (H:Hp) (vs:List V):Rw->Prop
 | .load b c=>vs=[.str "load",.str (LC b),.int c]
 | .store c e=>∃x,vs=[.str "store",.int c,x]/\Dat H x (Gj e)
 | .swap b c e=>∃x,vs=[.str "swap",.str (LC b),.int c,x]/\Dat H x (Gj e)
 | .Du b e=>∃x,vs=[.str "let",.str (LC b),x]/\Dat H x (Gj e)
 | .say e=>∃x,vs=[.str "say",x]/\Dat H x (Gj e)
 | .go k=>vs=[.str "go",.int k]
 | .Eu q e f k=>∃x y,vs=[.str "unless",.str (if q then "=" else "<"),x,y,.int k]/\Dat H x (Gj e)/\Dat H y (Gj f)
theorem JT {r:Rw} (h:Dat H v (z9 r)):∃t vs,v = .ref t/\H t=some (.tup vs)/\Parts H vs r:=by
 cases r<;>simp only [z9,Dat] at h<;>obtain ⟨t,vs,rfl,e,d⟩:=h<;>refine ⟨t,vs,rfl,e, ?_⟩
 ·match vs,d with
  | [a,b,c],d=>
    simp only [bf,Dat,and_true] at d;obtain ⟨rfl,rfl,rfl⟩:=d;rfl
 ·match vs,d with
  | [a,b,c],d=>
    simp only [bf,Dat,and_true] at d;obtain ⟨rfl,rfl,d⟩:=d;exact ⟨_,rfl,d⟩
 ·match vs,d with
  | [a,b,c,x],d=>
    simp only [bf,Dat,and_true] at d;obtain ⟨rfl,rfl,rfl,d⟩:=d;exact ⟨_,rfl,d⟩
 ·match vs,d with
  | [a,b,c],d=>
    simp only [bf,Dat,and_true] at d;obtain ⟨rfl,rfl,d⟩:=d;exact ⟨_,rfl,d⟩
 ·match vs,d with
  | [a,b],d=>
    simp only [bf,Dat,and_true] at d;obtain ⟨rfl,d⟩:=d;exact ⟨_,rfl,d⟩
 ·match vs,d with
  | [a,b],d=>
    simp only [bf,Dat,and_true] at d;obtain ⟨rfl,rfl⟩:=d;rfl
 ·match vs,d with
  | [a,b,c,x,y],d=>
    simp only [bf,Dat,and_true] at d;obtain ⟨rfl,rfl,d1,d2,rfl⟩:=d;exact ⟨_,_,rfl,d1,d2⟩
end
def v1 (bs:List Int):U6->Int
 | .num n=>n % 1000
 | .box b=>(bs[b]?).getD 0
def vx (bs:List Int):Jh->Int
 | .one x=>v1 bs x
 | .two true x y=>(v1 bs x+v1 bs y) % 1000
 | .two false x y=>(v1 bs x - v1 bs y) % 1000
structure bH where
 (rws:List Rw) (pos:Nat) (bs sy:List Int) (st:Str)
def touch:Rw->Bool
 | .load _ _=>true
 | .store _ _=>true
 | .swap _ _ _=>true
 | _=>false
def vW (bs:List Int):Rw->Bool
 | .Eu true e f _=>decide (vx bs e=vx bs f)
 | .Eu false e f _=>decide (vx bs e<vx bs f)
 | _=>false
def rK (s:bH):Rw->bH
 | .Du b e=>{s with pos:=s.pos+1,bs:=s.bs.set b (vx s.bs e)}
 | .say e=>{s with pos:=s.pos+1,sy:=s.sy++[vx s.bs e]}
 | .go k=>{s with pos:=k}
 | .Eu q e f k=>{s with pos:=if vW s.bs (.Eu q e f k) then s.pos+1 else k}
 | _=>s
def led:Nat->bH->bH
 | 0,s=>match s.rws[s.pos]? with
   | none=>{s with st:= "ends" }
   | some r=>if touch r then {s with st:= "waits" } else {s with st:= "lost" }
 | n+1,s=>match s.rws[s.pos]? with
   | none=>{s with st:= "ends" }
   | some r=>if touch r then {s with st:= "waits" } else led n (rK s r)
def lead (s:bH):bH:=led 60 s
theorem BJ (s:bH) (r:Rw):(rK s r).rws=s.rws:=by cases r<;>rfl
theorem Gp (s:bH) (r:Rw):(rK s r).sy.length<=s.sy.length+1:=by cases r<;>simp [rK]
theorem uL:∀(n:Nat) (s:bH),(led n s).rws=s.rws
 | 0,s=>by
   unfold led;split
   ·rfl
   ·split<;>rfl
 | n+1,s=>by
   unfold led;split
   ·rfl
   ·split
    ·rfl
    ·rw [uL,BJ]
theorem Ih:∀(n:Nat) (s:bH),(led n s).sy.length<=s.sy.length+n
 | 0,s=>by
   unfold led;split
   ·simp
   ·split<;>simp
 | n+1,s=>by
   unfold led;split
   ·simp
   ·split
    ·simp
    ·rename_i r _ _
     have:=Ih n (rK s r);have:=Gp s r;omega
def rC (s:bH):Prop:=s.st = "waits" -> ∃r,s.rws[s.pos]? = some r/\touch r=true
theorem DW:(Str.ofString "ends")≠Str.ofString "waits" :=by decide +kernel
theorem Jz:(Str.ofString "lost")≠Str.ofString "waits" :=by decide +kernel
theorem Ii:∀(n:Nat) (s:bH),rC (led n s)
 | 0,s=>by
   unfold led rC;split
   ·intro z;exact absurd z DW
   ·rename_i r e
    split
    ·intro _;exact ⟨r,e,by assumption⟩
    ·intro z;exact absurd z Jz
 | n+1,s=>by
   unfold led;split
   ·intro z;exact absurd z DW
   ·rename_i r e
    split
    ·intro _;exact ⟨r,e,by assumption⟩
    ·exact Ii n _
def new (rws:List Rw):bH:=⟨rws,0,List.replicate 8 0,[],"waits"⟩
structure lQ where
 (m:Nat) (ns:List Int) (hs:List bH) (ts:List Int)
def BR:Rw->Nat
 | .load _ c=>c
 | .store c _=>c
 | .swap _ c _=>c
 | _=>0
def Tv:Rw->Str
 | .load _ _=> "load"
 | .store _ _=> "store"
 | .swap _ _ _=> "swap"
 | .Du _ _=> "let"
 | .say _=> "say"
 | .go _=> "go"
 | .Eu _ _ _ _=> "unless"
def Ub (ns:List Int):Rw->Option Int
 | .load _ c=>ns[c]?
 | .swap _ c _=>ns[c]?
 | _=>none
def Tt (bs:List Int):Rw->Option Int
 | .store _ e=>some (vx bs e)
 | .swap _ _ e=>some (vx bs e)
 | _=>none
def oV:Option Int->V
 | none=> .non
 | some i=> .int i
def oD:Option Int->PyData
 | none=> .none
 | some i=> .int i
def vB (ns bs:List Int) (r:Rw):List V:=[.str (Tv r),.int (BR r),oV (Ub ns r),oV (Tt bs r)]
def Ed (ns bs:List Int):Rw->List Int
 | .load b c=>bs.set b ((ns[c]?).getD 0)
 | .swap b c _=>bs.set b ((ns[c]?).getD 0)
 | _=>bs
def pC (ns bs:List Int):Rw->List Int
 | .store c e=>ns.set c (vx bs e)
 | .swap _ c e=>ns.set c (vx bs e)
 | _=>ns
def nY (ns:List Int) (s:bH) (r:Rw):bH:=lead {s with pos:=s.pos+1,bs:=Ed ns s.bs r}
def j_ (S:lQ) (k:Nat):lQ:=match S.hs[k]? with
 | none=>S
 | some s=>match s.rws[s.pos]? with
   | none=>S
   | some r=>{S with ns:=pC S.ns s.bs r,hs:=S.hs.set k (nY S.ns s r),ts:=S.ts++[(k:Int)]}
def Ao (m:Nat) (ns:List Int) (rws:List (List Rw)):lQ:=⟨m,ns,rws.map fun r=>lead (new r),[]⟩
end Prf
namespace L2
open PySem Prf
end L2
set_option Elab.async false
set_option linter.all false
set_option maxRecDepth 100000
set_option maxHeartbeats 4000000
namespace L2
open PySem PySem.Spec PyProof.Rows
section
variable {X:Cx} {k:Nat} {C:Addr} {sp:Sp}
theorem QL {pins:List (Addr×Obj)} {σ:St} {H:Hp} {s:Shared} {Q:VK} {us:List Value} {vs:List V} {f:Addr} {fd:FuncData} {ps:List Str} (G:bW X.prog X.w X.K X.mg X.base lE k f fd ps sp) (hr:gR (k+1) X.A) (hb:Binds X.K fd ps [])
 (I:Inv X pins σ H s) (r:Vals vs us) (q:sp vs H Q E0):wpAny (model X.prog X.w) X.A.in1 (call (.ref f) us) (EP X pins σ Q) X.xe s:=by
 have hlen:us.length=ps.length:=by rw [←r.length];exact G.len _ _ _ _ q
 have hbd:=hb s us I.rE (by rw [List.append_nil];exact hlen);rw [List.append_nil] at hbd;refine wpAny_call (codeAny_mono (G.run X.A.in1 X.stack s H ⟨us,[]⟩ us vs Q E0 hr.in1 I.env0.in1 hbd r q) fun res s' hq=> ?_)
 match res,hq with
 | .error ev,hq=>exact False.elim hq
 | .ok (.ret u),hq=>exact I.after hq
def Y5 (C:Addr) (sp:Sp):List V->Hp->VK->Prop:=fun xs H Q=>∃(a dx:Addr) (fs:List (Str×V)),xs=[.ref a]/\H a=some (.ins C dx fs)/\sp [.ref a] H (fun v H'=>∃n:Int,v = .int n/\0<=n/\n<2 ^ 62/\Q (.int n) H') E0
theorem Lk (M:MethAt X.prog X.w X.K X.mg X.base k C "__len__" ["self"] sp) (hr:gR (k+1) X.A):kE X (.builtin "len") (Y5 C sp):=by
 intro pins s σ H xs us Q I rv h;obtain ⟨f,fd,G,hm,hb⟩:=M;obtain ⟨a,dx,fs,rfl,ea,q⟩:=h;obtain ⟨u,rfl,ru⟩:=rv.one;obtain rfl:u=Value.ref a:=ru;obtain ⟨mm,Fm⟩:=I.fr;obtain ⟨mA,O,_⟩:=uN I.hok ea;obtain ⟨od,J,_⟩:=O.look;refine PySem.W.len_K Fm I.mod.RD J hm.at_ hm.fn (eF (QL (us:=[.ref a]) (vs:=[.ref a]) G hr hb I (.cons rfl .nil) q) fun v s' hv=> ?_)
 obtain ⟨x,H',I',rx,n,rfl,n0,n1,q'⟩:=hv;obtain ⟨t,rfl⟩:=rx;exact ⟨⟨n0,by omega⟩,.int n,H',I'.tok _,⟨_,rfl⟩,q'⟩
end
end L2
set_option Elab.async false
set_option linter.all false
set_option maxRecDepth 100000
set_option maxHeartbeats 4000000
namespace L2
open PySem PySem.Spec PyProof.Rows
section
variable {prog:Program} {w:World} {A:Around} {E:Value->Shared->Prop} {s:Shared}
theorem nxT {it t:Addr} {i:Nat} {its:Array Value} {x:Value} {Q:Value->Shared->Prop} (hi:s.heap.IsTupleIter it t i) (ht:s.heap.IsTuple t its) (hx:its[i]? = some x)
 (k:∀h',h'.IsTupleIter it t (i+1)->Heap.SameBut it s.heap h'->Q x {s with heap:=h'}):wpAny (model prog w) A (Builtin.SmallTypes.nextOf (.ref it)) Q E s:=by
 obtain ⟨ob,e1,e2,e3⟩:=id hi;obtain ⟨ot,f1,_,nn,f3⟩:=ht;unfold Builtin.SmallTypes.nextOf;refine wpAny_bind (wpAny_callSpecial?_slot (name:=Str.ofString "__next__") hi.typeIs PySem.F.slot_tuple_iterator_next (wpAny_call_entry PySem.F.slot_tuple_iterator_next hi.typeIs PySem.F.entry_tuple_iterator_next ?_ (PySem.F.args_tuple_iterator_next_1 _)));show wpAny _ _ (field (.ref it) 0 >>= _) _ _ s;refine wpAny_bind (wpAny_field e1 e3 (x:= .ref t) rfl ?_);show wpAny _ _ (if (Value.ref t==Value.none)=true then _ else _) _ _ s;rw [if_neg (show ¬((Value.ref t==Value.none)=true) from Bool.false_ne_true)];show wpAny _ _ (field (.ref it) 1 >>= _) _ _ s;refine wpAny_bind (wpAny_field e1 e3 (x:= .int i 0) rfl ?_);show wpAny _ _ (seqItems? (.ref t) >>= _) _ _ s;refine wpAny_bind (wpAny_seqItems f1 f3 ?_);simp only [Int.toNat_natCast,hx];refine wpAny_bind (wpAny_setField e1 e3 (by simp) (wpAny_pure ⟨x,rfl,wpAny_pure (k _ ?_ (Heap.SameBut.update ..))⟩));refine ⟨_,Heap.get?_update_self _ e1 (Obj.isFreed_of_fields (Obj.data_mapFields e3 _)),(Obj.cls_mapFields ..).trans e2, ?_⟩;rw [Obj.data_mapFields e3];simp [rawInt]
theorem af_ {it t:Addr} {i:Nat} {its:Array Value} {Q:Value->Shared->Prop} (hh:A.handled=none) (hi:s.heap.IsTupleIter it t i) (ht:s.heap.IsTuple t its) (hx:its[i]? = none)
 (k:∀h' e,Heap.ExtBut it s.heap h'->(∃o,h'.get? e=some o/\o.cls = .type "StopIteration")->E (.ref e) {s with heap:=h'}):wpAny (model prog w) A (Builtin.SmallTypes.nextOf (.ref it)) Q E s:=by
 obtain ⟨ob,e1,e2,e3⟩:=id hi;obtain ⟨ot,f1,_,nn,f3⟩:=ht;unfold Builtin.SmallTypes.nextOf;refine wpAny_bind (wpAny_callSpecial?_slot (name:=Str.ofString "__next__") hi.typeIs PySem.F.slot_tuple_iterator_next (wpAny_call_entry PySem.F.slot_tuple_iterator_next hi.typeIs PySem.F.entry_tuple_iterator_next ?_ (PySem.F.args_tuple_iterator_next_1 _)));show wpAny _ _ (field (.ref it) 0 >>= _) _ _ s;refine wpAny_bind (wpAny_field e1 e3 (x:= .ref t) rfl ?_);show wpAny _ _ (if (Value.ref t==Value.none)=true then _ else _) _ _ s;rw [if_neg (show ¬((Value.ref t==Value.none)=true) from Bool.false_ne_true)];show wpAny _ _ (field (.ref it) 1 >>= _) _ _ s;refine wpAny_bind (wpAny_field e1 e3 (x:= .int i 0) rfl ?_);show wpAny _ _ (seqItems? (.ref t) >>= _) _ _ s;refine wpAny_bind (wpAny_seqItems f1 f3 ?_);simp only [Int.toNat_natCast,hx];refine wpAny_bind (wpAny_rule (wpAny_bind (wpAny_setField e1 e3 (by simp) ?_)));show wpAny _ _ (newExc (.type "StopIteration") [] >>= _) _ _ _;refine wpAny_bind ?_;simp only [newExc,newTuple];refine wpAny_bind (wpAny_newObj_type ?_ (by size_fits));refine wpAny_bind (m:=firstArgMember _ _) (wpAny_of_eq (a:=Value.none) (by first |rfl|(simp only [firstArgMember];rfl)) ?_);refine wpAny_newObj_type ?_ (by size_fits);simp only [raiseNew];refine wpAny_bind (wpAny_handled ?_)
 first |rw [show A.in1.handled=none from hh]|rw [hh]
 refine wpAny_bind (wpAny_pure (wpAny_throw (k _ _ (((Heap.SameBut.update ..).extBut.push _).push _) ⟨_,Heap.get?_push_size _ rfl,rfl⟩)))
theorem U8 {z TI TO i1 i2 l1 l2:Addr} {k1 k2:Nat} {xs ys:Array Value} {x y a b:Value} {Q:Option Value->Shared->Prop} (D:ZipApart z TI TO i1 i2 l1 l2) (hz:IsZip s.heap z TI TO .none) (hI:IsPair s.heap TI (.ref i1) (.ref i2)) (hO:IsPair s.heap TO a b)
 (h1:s.heap.IsTupleIter i1 l1 k1) (h2:s.heap.IsTupleIter i2 l2 k2) (m1:s.heap.IsTuple l1 xs) (m2:s.heap.IsTuple l2 ys) (hx:xs[k1]? = some x) (hy:ys[k2]? = some y)
 (k:∀h',IsZip h' z TI TO (rawInt s.heap.objs.size)->IsPair h' TO x y->h'.IsTupleIter i1 l1 (k1+1)->h'.IsTupleIter i2 l2 (k2+1)->IsPair h' s.heap.objs.size x y->h'.objs.size=s.heap.objs.size+1->(∀c o,c≠z->c≠TO->c≠i1->c≠i2->s.heap.get? c=some o->h'.get? c=some o)->Q (some (.ref s.heap.objs.size)) {s with heap:=h'}):
 wpAny (model prog w) A (pyNext (.ref z)) Q E s:=by
 have tz:s.TypeIs (.ref z) "zip" :=⟨_,hz,rfl⟩;unfold pyNext;refine wpAny_bind (wpAny_attempt (wpAny_callSpecial?_slot (name:=Str.ofString "__next__") tz PySem.F.slot_zip_next (wpAny_call_entry PySem.F.slot_zip_next tz PySem.F.entry_zip_next ?_ (PySem.F.args_zip_next_1 _))));show wpAny _ _ (field (.ref z) 2 >>= _) _ _ _;refine wpAny_bind (wpAny_field hz rfl (x:= .bool false) rfl ?_);show wpAny _ _ (field (.ref z) 3 >>= _) _ _ _;refine wpAny_bind (wpAny_field hz rfl (x:= .ref TI) rfl ?_);refine wpAny_bind (wpAny_seqItems hI rfl ?_);show wpAny _ _ (Builtin.SmallTypes.ownedTupleIsFree (.ref z) >>= _) _ _ _;refine wpAny_bind ?_;unfold Builtin.SmallTypes.ownedTupleIsFree;refine wpAny_bind (wpAny_field hz rfl (x:= .none) rfl (wpAny_pure ?_));simp only [if_true];refine wpAny_bind (wpAny_rule (wpAny_bind (wpAny_field hz rfl (x:= .ref TO) rfl ?_)));refine wpAny_bind (wpAny_setField_rec hz (by simp) fun g1 z1 s1=> ?_)
 replace z1:IsZip g1 z TI TO .ellipsis:=z1
 refine wpAny_bind ?_;simp only [List.zipIdx_cons,List.zipIdx_nil,List.forIn_cons,List.forIn_nil];refine wpAny_bind (wpAny_bind (wpAny_onRaise ?_));show wpAny _ _ (Builtin.SmallTypes.nextOf (.ref i1) >>= _) _ _ _
 refine wpAny_bind (nxT (h1.extBut s1.extBut D.i1z) (m1.extBut s1.extBut D.l1z) hx fun g2 j1 s2=>wpAny_pure ?_);have O2:IsPair g2 TO a b:=s2.extBut _ _ D.TOi1 (s1.extBut _ _ D.TOz hO);refine wpAny_bind (wpAny_seqItems O2 rfl ?_);refine wpAny_bind (wpAny_updateSeq_pair O2 fun g3 O3 s3=> ?_)
 replace O3:IsPair g3 TO x b:=O3
 refine wpAny_bind (wpAny_letGo (wpAny_pure (wpAny_bind (wpAny_bind (wpAny_onRaise ?_)))));show wpAny _ _ (Builtin.SmallTypes.nextOf (.ref i2) >>= _) _ _ _
 refine wpAny_bind (nxT (((h2.extBut s1.extBut D.i2z).extBut s2.extBut D.i12.symm).extBut s3.extBut D.TOi2.symm) (((m2.extBut s1.extBut D.l2z).extBut s2.extBut D.l2i1).extBut s3.extBut D.l2TO) hy fun g4 j2 s4=>wpAny_pure ?_);have O4:IsPair g4 TO x b:=s4.extBut _ _ D.TOi2 O3;refine wpAny_bind (wpAny_seqItems O4 rfl ?_);refine wpAny_bind (wpAny_updateSeq_pair O4 fun g5 O5 s5=> ?_)
 replace O5:IsPair g5 TO x y:=O5
 refine wpAny_bind (wpAny_letGo (wpAny_pure (wpAny_pure (wpAny_bind (wpAny_seqItems O5 rfl (wpAny_bind (wpAny_newTuple ?_)))))));have sz:g5.objs.size=s.heap.objs.size:=by rw [s5.1,s4.1,s3.1,s2.1,s1.1]
 have z5:IsZip g5 z TI TO .ellipsis:=s5.extBut _ _ D.TOz.symm (s4.extBut _ _ D.i2z.symm (s3.extBut _ _ D.TOz.symm (s2.extBut _ _ D.i1z.symm z1)));have k5:∀c o,c≠z->c≠TO->c≠i1->c≠i2->s.heap.get? c=some o->g5.get? c=some o:=fun c o n1 n2 n3 n4 e=>s5.extBut _ _ n2 (s4.extBut _ _ n4 (s3.extBut _ _ n2 (s2.extBut _ _ n3 (s1.extBut _ _ n1 e))));have p1:g5.IsTupleIter i1 l1 (k1+1):=((j1.extBut s3.extBut D.TOi1.symm).extBut s4.extBut D.i12).extBut s5.extBut D.TOi1.symm;have p2:g5.IsTupleIter i2 l2 (k2+1):=j2.extBut s5.extBut D.TOi2.symm;have Xv:z<g5.objs.size:=Heap.lt_size z5;show wpAny _ _ (Builtin.SmallTypes.ownedTupleHandOut (.ref z) (.ref g5.objs.size) >>= _) _ _ _;refine wpAny_bind ?_;unfold Builtin.SmallTypes.ownedTupleHandOut;have z6:IsZip (g5.push {cls:= .type "tuple",data:= .seq #[x,y]}) z TI TO .ellipsis:=Heap.get?_push_of_some _ z5;refine wpAny_bind (wpAny_setField_rec z6 (by simp) fun g7 z7 s7=> ?_)
 replace z7:IsZip g7 z TI TO (rawInt g5.objs.size):=z7
 refine wpAny_setField_rec z7 (by simp) fun g8 z8 s8=> ?_
 replace z8:IsZip g8 z TI TO (rawInt g5.objs.size):=z8
 have up:∀c o,c≠z->g5.get? c=some o->g8.get? c=some o:=fun c o n1 e=>s8.extBut _ _ n1 (s7.extBut _ _ n1 (Heap.get?_push_of_some _ e));have t8:IsPair g8 g5.objs.size x y:=s8.extBut _ _ (Nat.ne_of_gt Xv) (s7.extBut _ _ (Nat.ne_of_gt Xv) (Heap.get?_push_size _ rfl));have e8:g8.objs.size=g5.objs.size+1:=by rw [s8.1,s7.1,Heap.size_push]
 rw [sz] at z8 t8 e8;refine wpAny_pure ⟨_,rfl,wpAny_pure ?_⟩;show Q (some (.ref g5.objs.size)) _;rw [sz];refine k g8 z8 (up _ _ D.TOz O5) ?_ ?_ t8 e8 fun c o n1 n2 n3 n4 e=>up c o n1 (k5 c o n1 n2 n3 n4 e)
 ·obtain ⟨o,e,r⟩:=p1;exact ⟨o,up _ _ D.i1z e,r⟩
 ·obtain ⟨o,e,r⟩:=p2;exact ⟨o,up _ _ D.i2z e,r⟩
theorem Yi {z TI TO i1 i2 l1 l2:Addr} {k1 k2:Nat} {xs ys:Array Value} {a b:Value} {Q:Option Value->Shared->Prop} (hh:A.handled=none) (D:ZipApart z TI TO i1 i2 l1 l2) (hz:IsZip s.heap z TI TO .none) (hI:IsPair s.heap TI (.ref i1) (.ref i2)) (hO:IsPair s.heap TO a b)
 (h1:s.heap.IsTupleIter i1 l1 k1) (h2:s.heap.IsTupleIter i2 l2 k2) (m1:s.heap.IsTuple l1 xs) (m2:s.heap.IsTuple l2 ys) (hx:xs[k1]? = none)
 (k:∀h',(∀c o,c≠z->c≠TO->c≠i1->c≠i2->s.heap.get? c=some o->h'.get? c=some o)->Q none {s with heap:=h'}):wpAny (model prog w) A (pyNext (.ref z)) Q E s:=by
 have tz:s.TypeIs (.ref z) "zip" :=⟨_,hz,rfl⟩
 have stop:∀(h':Heap) (e:Addr),(∀c o,c≠z->c≠TO->c≠i1->c≠i2->s.heap.get? c=some o->h'.get? c=some o)->(∃o,h'.get? e=some o/\o.cls = .type "StopIteration")->wpAny (model prog w) A (do if ←isInstance (.ref e) (.type "StopIteration") then pure none else throw (.ref e)) Q E {s with heap:=h'}:=fun h' e hk he=>by
  obtain ⟨o,ho,hc⟩:=he;exact wpAny_bind (wpAny_isInstance (T:= "StopIteration") (b:=true) ⟨o,ho,hc⟩ isSubtype_stop (wpAny_pure (k _ hk)))
 unfold pyNext;refine wpAny_bind (wpAny_attempt (wpAny_callSpecial?_slot (name:=Str.ofString "__next__") tz PySem.F.slot_zip_next (wpAny_call_entry PySem.F.slot_zip_next tz PySem.F.entry_zip_next ?_ (PySem.F.args_zip_next_1 _))));show wpAny _ _ (field (.ref z) 2 >>= _) _ _ _;refine wpAny_bind (wpAny_field hz rfl (x:= .bool false) rfl ?_);show wpAny _ _ (field (.ref z) 3 >>= _) _ _ _;refine wpAny_bind (wpAny_field hz rfl (x:= .ref TI) rfl ?_);refine wpAny_bind (wpAny_seqItems hI rfl ?_);show wpAny _ _ (Builtin.SmallTypes.ownedTupleIsFree (.ref z) >>= _) _ _ _;refine wpAny_bind ?_;unfold Builtin.SmallTypes.ownedTupleIsFree;refine wpAny_bind (wpAny_field hz rfl (x:= .none) rfl (wpAny_pure ?_));simp only [if_true];refine wpAny_bind (wpAny_rule (wpAny_bind (wpAny_field hz rfl (x:= .ref TO) rfl ?_)));refine wpAny_bind (wpAny_setField_rec hz (by simp) fun g1 z1 s1=> ?_)
 replace z1:IsZip g1 z TI TO .ellipsis:=z1
 refine wpAny_bind ?_;simp only [List.zipIdx_cons,List.zipIdx_nil,List.forIn_cons,List.forIn_nil];refine wpAny_bind (wpAny_bind (wpAny_onRaise ?_));show wpAny _ _ (Builtin.SmallTypes.nextOf (.ref i1) >>= _) _ _ _
 refine wpAny_bind (af_ hh (h1.extBut s1.extBut D.i1z) (m1.extBut s1.extBut D.l1z) hx fun g2 e s2 he=> ?_);obtain ⟨oe,hoe,hce⟩:=he;have z2:IsZip g2 z TI TO .ellipsis:=s2 _ _ D.i1z.symm z1;have nez:e≠z:=fun q=>by subst q;rw [z2] at hoe;cases hoe;simp at hce
 refine wpAny_setField_rec z2 (by simp) fun g3 _ s3=> ?_;obtain st:=stop g3 e (fun c o n1 _ n3 _ q=>s3.extBut _ _ n1 (s2 _ _ n3 (s1.extBut _ _ n1 q))) ⟨oe,s3.extBut _ _ nez hoe,hce⟩;exact st
end
end L2
set_option Elab.async false
set_option linter.all false
set_option maxRecDepth 100000
set_option maxHeartbeats 4000000
namespace L2
open PySem PySem.Spec PyProof.Rows
abbrev LR (l:Addr):Obj:={cls:= .type "tuple_iterator",data:= .fields #[.ref l,.int 0 0]}
abbrev zt3 (h:Heap) (l1 l2:Addr):Heap:=((h.push (LR l1)).push (LR l2)).push {cls:= .type "tuple",data:= .seq #[.ref h.objs.size,.ref (h.push (LR l1)).objs.size]}
abbrev zt4 (h:Heap) (l1 l2:Addr):Heap:=(zt3 h l1 l2).push {cls:= .type "tuple",data:= .seq #[.none,.none]}
abbrev Xu (h:Heap) (l1 l2:Addr):Heap:=(zt4 h l1 l2).push {cls:= .type "zip",data:= .fields #[.none,.bool false,.bool false,.ref ((h.push (LR l1)).push (LR l2)).objs.size,.ref (zt3 h l1 l2).objs.size]}
theorem Yh (l1 l2:Addr) (xs ys:Array Value):Meets (Builtin.«zip.__new__» ⟨[.type "zip",.ref l1,.ref l2],[]⟩) (fun _ R s=>s.heap.IsTuple l1 xs/\s.heap.IsTuple l2 ys/\R (.ok (.ret (.ref (zt4 s.heap l1 l2).objs.size))) {s with heap:=Xu s.heap l1 l2}):=
 .of_wp fun prog w A R s h=>by
  obtain ⟨hp,g,d,tk,os⟩:=s;obtain ⟨m1,m2,h⟩:=h;have sub:=sub_zip;have M1:Heap.IsTuple (Shared.heap ⟨hp,g,d,tk,os⟩) l1 xs:=m1;have M2:Heap.IsTuple (Shared.heap ⟨hp.push {cls:= .type "tuple_iterator",data:= .fields #[.ref l1,.int 0 0]},g,d,tk,os⟩) l2 ys:=Heap.IsTuple.push m2 _
  wp_walk using wpAny_pyIter_tuple M1,wpAny_pyIter_tuple M2
  exact ⟨_,rfl,h⟩
section
variable {prog:Program} {w:World} {A:Around} {E:Value->Shared->Prop} {s:Shared}
theorem U9 {l1 l2:Addr} {xs ys:Array Value} {Q:Value->Shared->Prop} (m1:s.heap.IsTuple l1 xs) (m2:s.heap.IsTuple l2 ys)
 (k:∀h',IsZip h' (s.heap.objs.size+4) (s.heap.objs.size+2) (s.heap.objs.size+3) .none->IsPair h' (s.heap.objs.size+2) (.ref s.heap.objs.size) (.ref (s.heap.objs.size+1))->IsPair h' (s.heap.objs.size+3) .none .none->h'.IsTupleIter s.heap.objs.size l1 0->h'.IsTupleIter (s.heap.objs.size+1) l2 0 ->
   (∀c o,s.heap.get? c=some o->h'.get? c=some o)->Q (.ref (s.heap.objs.size+4)) {s with heap:=h'}):wpAny (model prog w) A (call (.type "zip") [.ref l1,.ref l2]) Q E s:=by
 refine callType_new PySem.F.called_zip (by decide) (PySem.F.typeCall_zip_2 _ _) (PySem.F.newCall_zip_2 _ _) (fun obj=>PySem.F.args_object_init_3 obj _ _) PySem.F.entry_zip_new (Yh l1 l2 xs ys) ⟨m1,m2, ?_⟩;have n1:(s.heap.push (LR l1)).objs.size=s.heap.objs.size+1:=Heap.size_push ..;have n2:((s.heap.push (LR l1)).push (LR l2)).objs.size=s.heap.objs.size+2:=by rw [Heap.size_push,n1]
 have n3:(zt3 s.heap l1 l2).objs.size=s.heap.objs.size+3:=by rw [Heap.size_push,n2]
 have n4:(zt4 s.heap l1 l2).objs.size=s.heap.objs.size+4:=by rw [Heap.size_push,n3]
 have e5:(Xu s.heap l1 l2).get? (zt4 s.heap l1 l2).objs.size=some _:=Heap.get?_push_size _ rfl;have e4:(Xu s.heap l1 l2).get? (zt3 s.heap l1 l2).objs.size=some _:=Heap.get?_push_of_some _ (Heap.get?_push_size _ rfl);have e3:(Xu s.heap l1 l2).get? ((s.heap.push (LR l1)).push (LR l2)).objs.size=some _:=Heap.get?_push_of_some _ (Heap.get?_push_of_some _ (Heap.get?_push_size _ rfl));have e2:(Xu s.heap l1 l2).get? (s.heap.push (LR l1)).objs.size=some _:=Heap.get?_push_of_some _ (Heap.get?_push_of_some _ (Heap.get?_push_of_some _ (Heap.get?_push_size _ rfl)));have e1:(Xu s.heap l1 l2).get? s.heap.objs.size=some _:=Heap.get?_push_of_some _ (Heap.get?_push_of_some _ (Heap.get?_push_of_some _ (Heap.get?_push_of_some _ (Heap.get?_push_size _ rfl))));show _/\_;rw [n2,n3,n4] at e5;rw [n1,n2] at e3;rw [n3] at e4;rw [n1] at e2;rw [n4];refine ⟨⟨_,e5,rfl⟩,k _ e5 e3 e4 ⟨_,e1,rfl,rfl⟩ ⟨_,e2,rfl,rfl⟩ fun c o q=> ?_⟩
 iterate 5 refine Heap.get?_push_of_some _ ?_
 exact q
end
def Xp (K:PySem.W.Frag) (l1 l2:Addr):It:=
 ⟨fun i H=>∃xs ys x y,cO K H l1 xs/\cO K H l2 ys/\xs[i]? = some x/\ys[i]? = some y,
  fun i H x H'=>∃(p:Addr) (y z:V),x = .ref p/\H p=none/\(∀xs,cO K H l1 xs->xs[i]? = some y)/\(∀ys,cO K H l2 ys->ys[i]? = some z)/\H'=upd H p (.tup [y,z]),
  fun i H=>∃xs ys,cO K H l1 xs/\cO K H l2 ys/\xs.length<=i⟩
theorem J3 {P:Program} {w:World} {K:PySem.W.Frag} {elts:List Expr} {x1:Nat} {pos:Pos} (z TI TO i1 i2 l1 l2:Addr) (ap:ZipApart z TI TO i1 i2 l1 l2):Turn P w K (.Tuple elts x1 pos) (Xp K l1 l2) [z,TI,TO,i1,i2] z
 (fun i h=>IsZip h z TI TO .none/\IsPair h TI (.ref i1) (.ref i2)/\(∃a b,IsPair h TO a b)/\h.IsTupleIter i1 l1 i/\h.IsTupleIter i2 l2 i) where
 mem:=by simp
 obj:=fun i h st b hb=>by
  obtain ⟨hz,hTI,⟨a,c,hTO⟩,⟨o1,h1,c1,d1⟩,⟨o2,h2,c2,d2⟩⟩:=st;have hb':b=z\/b=TI\/b=TO\/b=i1\/b=i2:=by simpa using hb
  rcases hb' with rfl|rfl|rfl|rfl|rfl
  ·exact ⟨_,hz,fun v z=>by cases z⟩
  ·exact ⟨_,hTI,fun v z=>by cases z⟩
  ·exact ⟨_,hTO,fun v z=>by cases z⟩
  ·exact ⟨_,h1,fun v z=>by rw [d1] at z;cases z⟩
  ·exact ⟨_,h2,fun v z=>by rw [d2] at z;cases z⟩
 keep:=fun i h h' st k=>by
  obtain ⟨hz,hTI,⟨a,c,hTO⟩,⟨o1,h1,c1,d1⟩,⟨o2,h2,c2,d2⟩⟩:=st;exact ⟨k z (by simp) _ hz,k TI (by simp) _ hTI,⟨a,c,k TO (by simp) _ hTO⟩,⟨o1,k i1 (by simp) _ h1,c1,d1⟩,⟨o2,k i2 (by simp) _ h2,c2,d2⟩⟩
 item:=by
  intro X hP hw hK hc i pins s σ H E I hf st hg;subst hP hw hK;obtain ⟨xs,ys,x,y,hq1,hq2,hx,hy⟩:=hg;obtain ⟨FW,QK,p1,hz1⟩:=I.tuple hq1;obtain ⟨its2,Ua,p2,hz2⟩:=I.tuple hq2;obtain ⟨u1,hu1,ru1⟩:=QK.get hx;obtain ⟨u2,hu2,ru2⟩:=Ua.get hy;obtain ⟨hz,hTI,⟨a,c,hTO⟩,hi1,hi2⟩:=st;have Xv:=Heap.lt_size hz;have Xl:=Heap.lt_size hTI;have Xk:=Heap.lt_size hTO;have WK:i1<s.heap.objs.size:=by obtain ⟨o,ho,_⟩:=id hi1;exact Heap.lt_size ho
  have WD:i2<s.heap.objs.size:=by obtain ⟨o,ho,_⟩:=id hi2;exact Heap.lt_size ho
  refine U8 ap hz hTI hTO hi1 hi2 (show s.heap.IsTuple l1 FW.toArray from p1) (show s.heap.IsTuple l2 its2.toArray from p2) (x:=u1) (y:=u2) (by simpa using hu1) (by simpa using hu2) fun h' hz' WT WR hi2' hnew hsz hk=> ?_;refine ⟨_,rfl, ?_⟩;refine wpAny_letOwnedTupleGo_zip hz' fun h2 WL sb=> ?_;have hfr:H s.heap.objs.size=none:=I.hok.fresh (Nat.le_refl _)
  have I0:Inv X pins σ (upd H s.heap.objs.size (.tup [x,y])) {s with heap:=s.heap.push {cls:= .type "tuple",data:= .seq #[u1,u2]}}:=
   I.laid (t':=s.toks) (fun b u e=>Heap.get?_push_of_some _ e) (Nat.le_refl _) ⟨by show 2<=sizeLine;decide,[u1,u2],.cons ru1 (.cons ru2 .nil),⟨_,Heap.get?_push_size _ rfl,rfl,_,rfl⟩⟩
  have Uw:∀b∈[z,TI,TO,i1,i2],qL X pins (upd H s.heap.objs.size (.tup [x,y])) b:=fun b hb=>by
   refine (hf b hb).upd ?_;have hb':b=z\/b=TI\/b=TO\/b=i1\/b=i2:=by simpa using hb
   rcases hb' with rfl|rfl|rfl|rfl|rfl
   ·exact Nat.ne_of_lt Xv
   ·exact Nat.ne_of_lt Xl
   ·exact Nat.ne_of_lt Xk
   ·exact Nat.ne_of_lt WK
   ·exact Nat.ne_of_lt WD
  have I1:=I0.qM (h':=h2) (t':=s.toks) Uw (fun b o hb eb=>by
   have b1:b≠z:=fun e=>hb (by simp [e]);have b2:b≠TO:=fun e=>hb (by simp [e]);have b3:b≠i1:=fun e=>hb (by simp [e]);have b4:b≠i2:=fun e=>hb (by simp [e]);rw [sb.2 b b1];rcases zj rfl eb with ⟨rfl,rfl⟩|eb
   ·exact hnew
   ·exact hk b o b1 b2 b3 b4 eb)
  refine ⟨.ref s.heap.objs.size,_,I1,rfl,⟨s.heap.objs.size,x,y,rfl,hfr,fun ys hy=>by rw [I.vA hy hq1];exact hx,fun ys' hy'=>by rw [I.vA hy' hq2];exact hy,rfl⟩, ?_,fun b hb=>(Uw b hb).1⟩;obtain ⟨o1,ho1,c1,d1⟩:=WR;obtain ⟨o2,ho2,c2,d2⟩:=hi2';exact ⟨WL,(sb.2 TI ap.TIz).trans (hk TI _ ap.TIz ap.TITO ap.TIi1 ap.TIi2 hTI),⟨_,_,(sb.2 TO ap.TOz).trans WT⟩,⟨o1,(sb.2 i1 ap.i1z).trans ho1,c1,d1⟩,⟨o2,(sb.2 i2 ap.i2z).trans ho2,c2,d2⟩⟩
 done:=by
  intro X hP hw hK hc i pins s σ H E I hf st hg;subst hP hw hK;obtain ⟨xs,ys,hq1,hq2,hx⟩:=hg;obtain ⟨FW,QK,p1,hz1⟩:=I.tuple hq1;obtain ⟨its2,Ua,p2,hz2⟩:=I.tuple hq2;obtain ⟨hz,hTI,⟨a,c,hTO⟩,hi1,hi2⟩:=st;have hl1:=QK.length;refine Yi (I.ok.hd hc) ap hz hTI hTO hi1 hi2 (show s.heap.IsTuple l1 FW.toArray from p1) (show s.heap.IsTuple l2 its2.toArray from p2) (by simp;omega) fun h' eb=>⟨rfl,I.qM (t':=s.toks) hf (fun b o hb e=>eb b o (fun z=>hb (by simp [z])) (fun z=>hb (by simp [z])) (fun z=>hb (by simp [z])) (fun z=>hb (by simp [z])) e)⟩
 self:=fun _ _ _ _ _ st h=>wpAny_pyIter_zip st.1 h
section
variable {X:Cx}
def ZD (K:PySem.W.Frag) (ta:TA):TI:=fun σ H R=>ta σ H fun vs H1=>∃l1 l2 xs ys,vs=[.ref l1,.ref l2]/\((bK K H1 l1 xs/\bK K H1 l2 ys/\R (Itz K l1 l2) H1)\/(cO K H1 l1 xs/\cO K H1 l2 ys/\R (Xp K l1 l2) H1))
theorem Q7 {K:PySem.W.Frag} {a b:Expr} {ta:TA} {p pos:Pos} {elts:List Expr} {x1:Nat} {tpos:Pos} (hK:X.K=K) (hg:Gl X "zip") (hm:X.mg "zip" = none) (ha:PA X [a,b] ta) (hs:starEach [a,b] X.env=[(false,eval a X.env),(false,eval b X.env)]:=by rfl) (hs2:starEach [b] X.env=[(false,eval b X.env)]:=by rfl):PI X (.Tuple elts x1 tpos) (.Call (.Name "zip" p) [a,b] [] pos) (ZD K ta):=by
 subst hK;intro pins s σ H R I h;refine Call_ (tK I hg hm boot_zip (PyProof.Rows.callWith_type1 (eF (ha pos pins s σ H _ I h) fun us s1 ⟨vs,H1,I1,r1,q1⟩=> ?_) (by rw [hs,hs2]) (by rw [hs2];rfl)));obtain ⟨l1,l2,xs,ys,e,q1⟩:=q1;subst e
 obtain ⟨u1,us',rfl,r,rr⟩:∃u1 us',us=u1::us'/\RelV (.ref l1) u1/\Vals [.ref l2] us':=by
  cases r1 with
  | cons r rr=>exact ⟨_,_,rfl,r,rr⟩
 obtain ⟨u2,rfl,r'⟩:=rr.one;cases r;cases r'
 have Ru:∀b∈[s1.heap.objs.size+4,s1.heap.objs.size+2,s1.heap.objs.size+3,s1.heap.objs.size,s1.heap.objs.size+1],s1.heap.objs.size<=b:=fun b hb=>by
  have:b=s1.heap.objs.size+4\/b=s1.heap.objs.size+2\/b=s1.heap.objs.size+3\/b=s1.heap.objs.size\/b=s1.heap.objs.size+1:=by simpa using hb
  rcases this with rfl|rfl|rfl|rfl|rfl
  ·exact Nat.le_add_right _ _
  ·exact Nat.le_add_right _ _
  ·exact Nat.le_add_right _ _
  ·exact Nat.le_refl _
  ·exact Nat.le_add_right _ _
 rcases q1 with ⟨hq1,hq2,q⟩|⟨hq1,hq2,q⟩
 ·obtain ⟨FW,QK,Xz,hz1⟩:=I1.list hq1
  obtain ⟨its2,Ua,pl2,hz2⟩:=I1.list hq2;have lt1:l1<s1.heap.objs.size:=by obtain ⟨o,ho,_⟩:=Xz.isList;exact Heap.lt_size ho
  have Uk:l2<s1.heap.objs.size:=by obtain ⟨o,ho,_⟩:=pl2.isList;exact Heap.lt_size ho
  refine call_zip_2 Xz.isList pl2.isList fun h' hZ hTI hTO hi1 hi2 hsz hk=> ?_;refine wpAny_pyIter_zip hZ ?_;have I2:Inv X pins σ H1 {s1 with heap:=h'}:=I1.kept (t':=s1.toks) hk;exact ⟨s1.heap.objs.size+4,[s1.heap.objs.size+4,s1.heap.objs.size+2,s1.heap.objs.size+3,s1.heap.objs.size,s1.heap.objs.size+1],_,_,H1,rfl,I2,Mw _ _ _ _ _ l1 l2 (zipApart_new lt1 Uk),⟨hZ,hTI,⟨_,_,hTO⟩,hi1,hi2⟩,fun b hb=>I1.zp (Ru b hb) (I1.hok.fresh (Ru b hb)),q⟩
 ·obtain ⟨FW,QK,Xz,hz1⟩:=I1.tuple hq1
  obtain ⟨its2,Ua,pl2,hz2⟩:=I1.tuple hq2;have m1:s1.heap.IsTuple l1 FW.toArray:=Xz;have m2:s1.heap.IsTuple l2 its2.toArray:=pl2;have lt1:l1<s1.heap.objs.size:=by obtain ⟨o,ho,_⟩:=id m1;exact Heap.lt_size ho
  have Uk:l2<s1.heap.objs.size:=by obtain ⟨o,ho,_⟩:=id m2;exact Heap.lt_size ho
  refine U9 m1 m2 fun h' hZ hTI hTO hi1 hi2 hk=> ?_;refine wpAny_pyIter_zip hZ ?_;have I2:Inv X pins σ H1 {s1 with heap:=h'}:=I1.kept (t':=s1.toks) hk;exact ⟨s1.heap.objs.size+4,[s1.heap.objs.size+4,s1.heap.objs.size+2,s1.heap.objs.size+3,s1.heap.objs.size,s1.heap.objs.size+1],_,_,H1,rfl,I2,J3 _ _ _ _ _ l1 l2 (zipApart_new lt1 Uk),⟨hZ,hTI,⟨_,_,hTO⟩,hi1,hi2⟩,fun b hb=>I1.zp (Ru b hb) (I1.hok.fresh (Ru b hb)),q⟩
end
section
variable {K:PySem.W.Frag} {D:Addr} {xs:List V} {tc:TT} {te:TE} {Q:VK} {rest:St} {H1:Hp}
theorem Ir {l1 l2:Addr} {ys:List V} {n:Nat} (hn1:xs.length=n) (hn2:ys.length=n) (f:Nat->Option V) (hD:H1 D=none) (hq1:H1 l1=some (.tup xs)) (hq2:H1 l2=some (.tup ys)) (hx:n<=100000)
 (hs:∀i x y H (G:Hp->Prop) (F:VK),xs[i]? = some x->ys[i]? = some y->Same H1 H->(∀H',Same H H'->f i=none->G H')->(∀y H',Same H H'->f i=some y->F y H')->tc (some x::some y::rest) H fun b H3=>if b=true then te (some x::some y::rest) H3 F else G H3)
 (hd:∀H,Same H1 H->H D=some (.lst ((List.range n).filterMap f))->Q (.ref D) H):mL (Xp K l1 l2) (R6 K 2 (Ge (gD 0) (Ge (gD 1) W0))) tc te Q D (none::none::rest) H1:=by
 refine ⟨fun i m σ H=>m=n - i/\i<=n/\(∃u v,σ=u::v::rest)/\Same H1 H/\H D=some (.lst ((List.range i).filterMap f)),⟨n,by simp,Nat.zero_le _,⟨none,none,rfl⟩,aH hD,ao⟩, ?_⟩;rintro i m σ H ⟨rfl,hi,⟨u,v,rfl⟩,sm,e⟩
 by_cases hlt:i<n
 ·have q1:cO K H l1 xs:=cO.of (sm _ _ hq1)
  have q2:cO K H l2 ys:=cO.of (sm _ _ hq2);have hx1:xs[i]? = some (xs[i]'(by omega)):=List.getElem?_eq_getElem _;have hy1:ys[i]? = some (ys[i]'(by omega)):=List.getElem?_eq_getElem _;refine .inr ⟨⟨xs,ys,_,_,q1,q2,hx1,hy1⟩,fun σ' H'=>(∃u v,σ'=u::v::rest)/\Same H1 H'/\H' D=some (.lst ((List.range (i+1)).filterMap f)),fun σ' H' p'=>⟨n - (i+1),by omega,rfl,hlt,p'⟩, ?_⟩;rintro x H' ⟨p,y,z,rfl,hp,e1,e2,rfl⟩;have sp:=aH (o:=HO.tup [y,z]) hp;refine ⟨p,[y,z],rfl,cO.of ao,rfl,_,_,rfl,_,_,rfl,rfl, ?_⟩;refine hs i y z _ _ _ (e1 _ q1) (e2 _ q2) (sm.trans sp) (fun H3 s3 ef=>⟨⟨_,_,rfl⟩,(sm.trans sp).trans s3,by rw [s3 _ _ (sp _ _ e),eV,ef];simp⟩) (fun y H4 s4 ef=> ?_);refine ⟨_,s4 _ _ (sp _ _ e), ?_,⟨_,_,rfl⟩,((sm.trans sp).trans s4).newly hD, ?_⟩
  ·have:=tU f i
   rw [sizeLine_eq];omega
  ·rw [ao,eV,ef];rfl
 ·have ei:i=n:=by omega
  subst ei;exact .inl ⟨⟨xs,ys,cO.of (sm _ _ hq1),cO.of (sm _ _ hq2),by omega⟩,hd H sm e⟩
end
end L2
set_option Elab.async false
set_option linter.all false
set_option maxRecDepth 100000
set_option maxHeartbeats 4000000
namespace Prf
open PySem L2
def inR (x:Int):Prop:=0<=x/\x<1000
def allR (l:List Int):Prop:=∀x∈l,inR x
theorem GR {l:List Int} (h:allR l) (i:Nat):inR ((l[i]?).getD 0):=by
 cases e:l[i]? with
 | none=>exact ⟨by decide,by decide⟩
 | some x=>exact h x (List.mem_of_getElem? e)
theorem zU {l:List Int} (h:allR l) (i:Nat) {x:Int} (hx:inR x):allR (l.set i x):=fun y hy=>by
 rcases List.mem_or_eq_of_mem_set hy with m|e
 ·exact h y m
 ·rw [e];exact hx
theorem Dt (x:Int):inR (x % 1000):=⟨Int.emod_nonneg _ (by decide),Int.emod_lt_of_pos _ (by decide)⟩
theorem Ms {bs:List Int} (h:allR bs):∀e:Jh,inR (vx bs e)
 | .one (.num n)=>Dt n
 | .one (.box b)=>GR h b
 | .two true x y=>Dt _
 | .two false x y=>Dt _
theorem Sg {s:bH} (h:allR s.bs) (r:Rw):allR (rK s r).bs:=by
 cases r<;>first |exact h|exact zU h _ (Ms h _)
theorem Om:∀(n:Nat) (s:bH),allR s.bs->allR (led n s).bs
 | 0,s,h=>by
   unfold led;split
   ·exact h
   ·split<;>exact h
 | n+1,s,h=>by
   unfold led;split
   ·exact h
   ·split
    ·exact h
    ·exact Om n _ (Sg h _)
def YM (x:Str):Prop:=x = "waits" \/ x = "ends" \/ x = "lost"
theorem yZ:∀(n:Nat) (s:bH),YM (led n s).st
 | 0,s=>by
   unfold led;split
   ·exact .inr (.inl rfl)
   ·split
    ·exact .inl rfl
    ·exact .inr (.inr rfl)
 | n+1,s=>by
   unfold led;split
   ·exact .inr (.inl rfl)
   ·split
    ·exact .inl rfl
    ·exact yZ n _
structure wK (S:lQ):Prop where
 n:allR S.ns
 b:∀s∈S.hs,allR s.bs
 t:∀s∈S.hs,YM s.st
theorem Sq {ns bs:List Int} (h:allR ns) (hb:allR bs) (r:Rw):allR (pC ns bs r):=by
 cases r<;>first |exact h|exact zU h _ (Ms hb _)
theorem Sw {ns bs:List Int} (h:allR ns) (hb:allR bs) (r:Rw):allR (Ed ns bs r):=by
 cases r<;>first |exact hb|exact zU hb _ (GR h _)
theorem wK.turn {S:lQ} (g:wK S) (k:Nat):wK (j_ S k):=by
 unfold j_;split
 ·exact g
 ·rename_i s es
  split
  ·exact g
  ·rename_i r er
   have hb:=g.b s (List.mem_of_getElem? es);refine ⟨Sq g.n hb r,fun s' hs'=> ?_,fun s' hs'=> ?_⟩
   ·rcases List.mem_or_eq_of_mem_set hs' with m|e
    ·exact g.b s' m
    ·rw [e]
     exact Om _ _ (Sw g.n hb r)
   ·rcases List.mem_or_eq_of_mem_set hs' with m|e
    ·exact g.t s' m
    ·rw [e]
     exact yZ _ _
theorem K8 {m:Nat} {ns:List Int} {rws:List (List Rw)} (h:allR ns):wK (Ao m ns rws):=⟨h,fun s hs=>by
 obtain ⟨r,_,rfl⟩:=List.mem_map.mp hs;refine Om _ _ fun x hx=> ?_;rw [(List.mem_replicate.mp hx).2];exact ⟨by decide,by decide⟩,fun s hs=>by
 obtain ⟨r,_,rfl⟩:=List.mem_map.mp hs;exact yZ _ _⟩
def jq (l:List Int):PyData:= .list (l.map PyData.int)
theorem Gz (l:List Int):(jq l).canLay0=true/\(jq l).depth<=1:=⟨tW PyData.int l fun _ _=>rfl,by
 have:=pA PyData.int 0 l fun _ _=>by show 0<=0;decide
 show PyData.depthAll (l.map PyData.int)+1<=1;omega⟩
mutual
theorem Gm:∀d:PyData,d.canLay0=true->PyData.eqv d d=true
 | .none,_=>rfl
 | .bool b,_=>by simp [PyData.eqv]
 | .int i,_=>by simp [PyData.eqv]
 | .str x,_=>by simp [PyData.eqv]
 | .list ds,h=>by simp only [PyData.eqv];exact vY ds (by simpa [PyData.canLay0] using h)
 | .tuple ds,h=>by simp only [PyData.eqv];exact vY ds (by simpa [PyData.canLay0] using h)
 | .dict _,h=>by simp [PyData.canLay0] at h
theorem vY:∀ds:List PyData,PyData.canLayAll0 ds=true->PyData.eqvAll ds ds=true
 | [],_=>rfl
 | d::ds,h=>by
   simp only [PyData.canLayAll0,Bool.and_eq_true] at h;simp only [PyData.eqvAll,Bool.and_eq_true];exact ⟨Gm d h.1,vY ds h.2⟩
end
theorem W4 {d:PyData} (h:SeqAt.shaped d=true):PyData.eqv d d=true:=by
 unfold SeqAt.shaped at h;rw [Bool.and_eq_true] at h;exact Gm d h.1
def isLoad:Rw->Bool
 | .load _ _=>true
 | _=>false
def apart (r q:Rw):Prop:=BR r≠BR q\/(isLoad r=true/\isLoad q=true)
theorem EY {S:lQ} {k:Nat} {s:bH} {r:Rw} (es:S.hs[k]? = some s) (er:s.rws[s.pos]? = some r):j_ S k={S with ns:=pC S.ns s.bs r,hs:=S.hs.set k (nY S.ns s r),ts:=S.ts++[(k:Int)]}:=by
 unfold j_;simp only [es,er]
end Prf
set_option Elab.async false
set_option linter.all false
set_option maxRecDepth 100000
set_option maxHeartbeats 4000000
namespace L2
open PySem
section
variable {K:PySem.W.Frag} {a D:Addr} {xs:List V} {te:TE} {Q:VK} {rest:St} {H1:Hp}
end
end L2
set_option Elab.async false
set_option linter.all false
set_option maxRecDepth 100000
set_option maxHeartbeats 4000000
namespace L2
open PySem PySem.Spec PyProof.Rows
def VD (K:PySem.W.Frag):List V->Hp->VK->Prop:=fun xs H Q=>∃p:Addr,xs=[.ref p]/\bK K H p [] /\ ∀l,H l=none->Q (.ref l) (upd H l (.lst []))
theorem GC {X:Cx} {K:PySem.W.Frag} (hK:X.K=K):kE X (.builtin "sorted") (VD K):=by
 subst hK;intro pins s σ H xs us Q I r h;obtain ⟨p,rfl,hq,q⟩:=h;obtain ⟨u,rfl,rx⟩:=vals1 r;cases rx;obtain ⟨its,rv,pl,hz⟩:=I.list hq;have e:its=[]:=by cases rv;rfl
 subst e;refine PyProof.Rows.sorted_ints (vs:=[]) (ns:=[]) pl.isList .nil (by decide) fun out ns' hi hp _=> ?_;have en:ns'=[]:=hp.eq_nil;subst en;have key:∀l:List Value,IntsAre l []->l=[]:=fun l hl=>by cases hl;rfl
 have eo:out = #[]:=by
  have h1:=key _ hi;simpa using h1
 subst eo;obtain ⟨e,he⟩:=sortedAll_at s.heap [] #[];exact ⟨.ref _,_,I.laid (t':=s.toks) (a:=s.heap.objs.size+1) (o:= .lst []) (fun b o=>sortedAll_old) (Nat.le_succ _) ⟨Nat.zero_le _,[],e,.nil,he⟩,rfl,q _ (I.hok.fresh (Nat.le_succ _))⟩
end L2
set_option Elab.async false
set_option linter.all false
set_option maxRecDepth 100000
set_option maxHeartbeats 4000000
namespace Prf
open PySem L2
def top (i:Nat):Stmt:=PySem.Challenge.pw_fewnotes_k51_counts_alone.main.body.getD i (.Pass ⟨0,0,0,0⟩)
abbrev gK:Stmt:=top 9
abbrev gM:Stmt:=top 10
abbrev iQ:Stmt:=top 13
abbrev fP:Stmt:=inClass (top 17) 0
abbrev cV:Stmt:=inClass (top 17) 1
abbrev cU:Stmt:=inClass (top 17) 3
abbrev iT:Stmt:=inClass (top 17) 4
abbrev eO:Stmt:=inClass (top 17) 5
abbrev fO:Stmt:=inClass (top 17) 6
abbrev bY:Stmt:=inClass (top 17) 7
abbrev bU:Stmt:=inClass (top 18) 0
abbrev eN:Stmt:=inClass (top 18) 1
abbrev cj:Stmt:=inClass (top 18) 2
abbrev dG:Stmt:=inClass (top 18) 4
abbrev fM:Stmt:=inClass (top 18) 6
abbrev cR:Stmt:=inClass (top 18) 7
abbrev eH:Stmt:=inClass (top 18) 8
abbrev cJ:Stmt:=inClass (top 18) 9
abbrev cI:Stmt:=top 19
abbrev iM:Stmt:=top 21
abbrev dF:Stmt:=top 23
abbrev eG:Stmt:=top 24
abbrev uF:Stmt:=top 25
abbrev fL:Stmt:=top 26
abbrev dJ:Stmt:=inClass (top 28) 0
abbrev dH:Stmt:=inClass (top 28) 1
abbrev cu:Stmt:=inClass (top 28) 2
abbrev cA:Stmt:=inClass (top 28) 3
abbrev dM:Stmt:=inClass (top 28) 4
abbrev cL:Stmt:=inClass (top 28) 5
abbrev dN:Stmt:=inClass (top 28) 6
abbrev cT:Stmt:=inClass (top 28) 7
abbrev dI:Stmt:=inClass (top 28) 9
abbrev cB:Stmt:=inClass (top 28) 10
abbrev lM:Stmt:=top 30
abbrev lO:Stmt:=top 31
abbrev jg:Stmt:=top 32
abbrev jH:Stmt:=top 33
abbrev lK:Stmt:=top 34
abbrev lN:Stmt:=top 35
abbrev dO:Stmt:=top 36
abbrev lH:Stmt:=top 37
abbrev gO:Stmt:=top 38
abbrev iR:Stmt:=top 39
abbrev lJ:Stmt:=top 40
abbrev uE:Stmt:=top 41
structure rD (mg:Str->Option Value):Prop where
 Ek:mg "ValueError" = none
 GP:mg "all" = none
 zT:mg "bool" = none
 GK:mg "enumerate" = none
 zR:mg "int" = none
 bJ:mg "isinstance" = none
 gq:mg "len" = none
 jM:mg "list" = none
 al_:mg "max" = none
 abh:mg "min" = none
 iU:mg "range" = none
 Qf:mg "sorted" = none
 abg:mg "str" = none
 UW:mg "sum" = none
 xG:mg "tuple" = none
 abf:mg "zip" = none
theorem Fe:bA ["value"] ["value"] (aA gK):=⟨rfl,rfl,rfl,by decide +kernel,rfl,by decide +kernel,by decide +kernel⟩
theorem Fg:bA ["value","count"] ["value","count"] (aA gM):=⟨rfl,rfl,rfl,by decide +kernel,rfl,by decide +kernel,by decide +kernel⟩
theorem Hl:bA ["row"] ["row"] (aA iQ):=⟨rfl,rfl,rfl,by decide +kernel,rfl,by decide +kernel,by decide +kernel⟩
theorem CZ:bA ["self","rows"] ["self","rows"] (aA fP):=⟨rfl,rfl,rfl,by decide +kernel,rfl,by decide +kernel,by decide +kernel⟩
theorem pJ:bA ["self","other"] ["self"] (aA cV):=⟨rfl,rfl,rfl,by decide +kernel,rfl,by decide +kernel,by decide +kernel⟩
theorem lD:bA ["self","done"] ["self"] (aA cU):=⟨rfl,rfl,rfl,by decide +kernel,rfl,by decide +kernel,by decide +kernel⟩
theorem Ho:bA ["self","row"] ["self","row"] (aA iT):=⟨rfl,rfl,rfl,by decide +kernel,rfl,by decide +kernel,by decide +kernel⟩
theorem nH:bA ["self","row","left","right"] ["self","row"] (aA eO):=⟨rfl,rfl,rfl,by decide +kernel,rfl,by decide +kernel,by decide +kernel⟩
theorem CV:bA ["self","box","number"] ["self","box","number"] (aA fO):=⟨rfl,rfl,rfl,by decide +kernel,rfl,by decide +kernel,by decide +kernel⟩
theorem iK:bA ["self","part","left","right"] ["self","part"] (aA bY):=⟨rfl,rfl,rfl,by decide +kernel,rfl,by decide +kernel,by decide +kernel⟩
theorem nG:bA ["self","program","cells","one"] ["self","program","cells"] (aA bU):=⟨rfl,rfl,rfl,by decide +kernel,rfl,by decide +kernel,by decide +kernel⟩
theorem nF:bA ["self","hand","one","touch"] ["self","hand"] (aA eN):=⟨rfl,rfl,rfl,by decide +kernel,rfl,by decide +kernel,by decide +kernel⟩
theorem fK:bA ["self","one","row","cell","read","written"] ["self","one"] (aA cj):=⟨rfl,rfl,rfl,by decide +kernel,rfl,by decide +kernel,by decide +kernel⟩
theorem yK:bA ["self","hand"] ["self","hand"] (aA dG):=⟨rfl,rfl,rfl,by decide +kernel,rfl,by decide +kernel,by decide +kernel⟩
theorem CT:bA ["self","hand"] ["self","hand"] (aA fM):=⟨rfl,rfl,rfl,by decide +kernel,rfl,by decide +kernel,by decide +kernel⟩
theorem wN:bA ["self"] ["self"] (aA cR):=⟨rfl,rfl,rfl,by decide +kernel,rfl,by decide +kernel,by decide +kernel⟩
theorem rH:bA ["self","other"] ["self"] (aA eH):=⟨rfl,rfl,rfl,by decide +kernel,rfl,by decide +kernel,by decide +kernel⟩
theorem vK:bA ["self","hand"] ["self","hand"] (aA cJ):=⟨rfl,rfl,rfl,by decide +kernel,rfl,by decide +kernel,by decide +kernel⟩
theorem vJ:bA ["cells","count"] ["cells","count"] (aA cI):=⟨rfl,rfl,rfl,by decide +kernel,rfl,by decide +kernel,by decide +kernel⟩
theorem Hj:bA ["value"] ["value"] (aA iM):=⟨rfl,rfl,rfl,by decide +kernel,rfl,by decide +kernel,by decide +kernel⟩
theorem yJ:bA ["record"] ["record"] (aA dF):=⟨rfl,rfl,rfl,by decide +kernel,rfl,by decide +kernel,by decide +kernel⟩
theorem Ab:bA ["counts","note"] ["counts","note"] (aA eG):=⟨rfl,rfl,rfl,by decide +kernel,rfl,by decide +kernel,by decide +kernel⟩
theorem Vx:bA ["done","touch"] ["done","touch"] (aA uF):=⟨rfl,rfl,rfl,by decide +kernel,rfl,by decide +kernel,by decide +kernel⟩
theorem oY:bA ["record","firsts","note"] ["record"] (aA fL):=⟨rfl,rfl,rfl,by decide +kernel,rfl,by decide +kernel,by decide +kernel⟩
theorem yL:bA ["self","works","record"] ["self","works","record"] (aA dJ):=⟨rfl,rfl,rfl,by decide +kernel,rfl,by decide +kernel,by decide +kernel⟩
theorem lY:bA ["self","hand","holding","touch"] ["self","hand"] (aA dH):=⟨rfl,rfl,rfl,by decide +kernel,rfl,by decide +kernel,by decide +kernel⟩
theorem ux:bA ["self","hand"] ["self","hand"] (aA cu):=⟨rfl,rfl,rfl,by decide +kernel,rfl,by decide +kernel,by decide +kernel⟩
theorem mQ:bA ["self","hand","touch"] ["self","hand"] (aA cA):=⟨rfl,rfl,rfl,by decide +kernel,rfl,by decide +kernel,by decide +kernel⟩
theorem yM:bA ["self"] ["self"] (aA dM):=⟨rfl,rfl,rfl,by decide +kernel,rfl,by decide +kernel,by decide +kernel⟩
theorem vL:bA ["self"] ["self"] (aA cL):=⟨rfl,rfl,rfl,by decide +kernel,rfl,by decide +kernel,by decide +kernel⟩
theorem yN:bA ["self"] ["self"] (aA dN):=⟨rfl,rfl,rfl,by decide +kernel,rfl,by decide +kernel,by decide +kernel⟩
theorem wO:bA ["self"] ["self"] (aA cT):=⟨rfl,rfl,rfl,by decide +kernel,rfl,by decide +kernel,by decide +kernel⟩
theorem jG:bA ["self","touches","hand","count"] ["self"] (aA dI):=⟨rfl,rfl,rfl,by decide +kernel,rfl,by decide +kernel,by decide +kernel⟩
theorem uy:bA ["self"] ["self"] (aA cB):=⟨rfl,rfl,rfl,by decide +kernel,rfl,by decide +kernel,by decide +kernel⟩
theorem qd:bA ["script","stir","cell","great"] ["script"] (aA lM):=⟨rfl,rfl,rfl,by decide +kernel,rfl,by decide +kernel,by decide +kernel⟩
theorem uD:bA ["reel","many","rest","told","stir"] ["reel","many"] (aA lO):=⟨rfl,rfl,rfl,by decide +kernel,rfl,by decide +kernel,by decide +kernel⟩
theorem Bj:bA ["found","due"] ["found","due"] (aA jg):=⟨rfl,rfl,rfl,by decide +kernel,rfl,by decide +kernel,by decide +kernel⟩
theorem vM:bA ["reel","many","most","loads","k"] ["reel","many","most"] (aA jH):=⟨rfl,rfl,rfl,by decide +kernel,rfl,by decide +kernel,by decide +kernel⟩
theorem M9:bA ["row","lost"] ["row","lost"] (aA lK):=⟨rfl,rfl,rfl,by decide +kernel,rfl,by decide +kernel,by decide +kernel⟩
theorem M_:bA ["loads","counts","gone"] ["loads","counts","gone"] (aA lN):=⟨rfl,rfl,rfl,by decide +kernel,rfl,by decide +kernel,by decide +kernel⟩
theorem iH:bA ["one","loads","numbers","gone","works","k","boxes","waiting"] ["one","loads","numbers","gone"] (aA dO):=⟨rfl,rfl,rfl,by decide +kernel,rfl,by decide +kernel,by decide +kernel⟩
theorem uz:bA ["one","loads","numbers","counts","gone","held","free","again","told"] ["one","loads","numbers","counts","gone","held"] (aA lH):=⟨rfl,rfl,rfl,by decide +kernel,rfl,by decide +kernel,by decide +kernel⟩
theorem mR:bA ["one","number","caught","e"] ["one","number"] (aA gO):=⟨rfl,rfl,rfl,by decide +kernel,rfl,by decide +kernel,by decide +kernel⟩
theorem sZ:bA ["reel","many","pick","far"] ["reel","many"] (aA iR):=⟨rfl,rfl,rfl,by decide +kernel,rfl,by decide +kernel,by decide +kernel⟩
theorem Fi:bA ["one","number","loads","numbers","counts","gone","cell"] ["one","number","loads","numbers","counts","gone"] (aA lJ):=⟨rfl,rfl,rfl,by decide +kernel,rfl,by decide +kernel,by decide +kernel⟩
theorem jF:bA ["script","reel","wide","many","loads","numbers","lost","works","counts","handed","one","gone","held","k"] ["script"] (aA uE):=⟨rfl,rfl,rfl,by decide +kernel,rfl,by decide +kernel,by decide +kernel⟩
structure iz (K:PySem.W.Frag) (C:Addr):Prop where
 cls:Cls K C
 qp:gC K C "rows"
 vQ:gC K C "at"
 jZ:gC K C "in_boxes"
 qX:gC K C "sayings"
 mV:gC K C "state"
structure eZ (K:PySem.W.Frag) (C:Addr):Prop where
 cls:Cls K C
 vP:gC K C "program"
 lV:gC K C "numbers"
 o8:gC K C "hands"
 uI:gC K C "turns"
structure dD (K:PySem.W.Frag) (C:Addr):Prop where
 cls:Cls K C
 nW:gC K C "record"
 Fz:gC K C "firsts"
 xr:gC K C "stage"
 fV:gC K C "progress"
section
variable {P:Program} {w:World} {K:PySem.W.Frag} {mg:Str->Option Value} {base:Heap}
theorem xu {α β:Type} (p:α->Bool) (g:α->β):∀l:List α,(List.range l.length).filterMap (fun i=>(l[i]?).bind fun x=>if p x then some (g x) else none)=(l.filter p).map g
 | []=>rfl
 | x::l=>by
   have ih:=xu p g l;rw [List.length_cons,List.range_succ_eq_map,List.filterMap_cons,List.filterMap_map,List.filter_cons];cases q:p x
   ·simp [q];exact ih
   ·simp [q];exact ih
theorem uT (x y:Int):PyData.eqv (.int x) (.int y)=decide (x=y):=by
 simp only [PyData.eqv];rw [Bool.eq_iff_iff];simp
theorem eE {H:Hp} {a:Addr} {ns:List Int} (h:H a=some (.lst (ns.map V.int))):Dat H (.ref a) (.list (ns.map PyData.int)):=Gr h (bf.ints ns)
theorem shaped_ints (ns:List Int):SeqAt.shaped (.list (ns.map PyData.int))=true:=Fd PyData.int 0 (by decide) (fun _ _=>rfl) (fun _ _=>by show 0<=0;decide)
abbrev Nt:=Int×Int×Int×Int
def nD (x:Nt):PyData:= .tuple [.int x.1,.int x.2.1,.int x.2.2.1,.int x.2.2.2]
def nV (x:Nt):List V:=[.int x.1,.int x.2.1,.int x.2.2.1,.int x.2.2.2]
theorem Ov (x:Nt):Ew (nD x)=true:=rfl
theorem UJ {H:Hp} {v:V} {d:PyData} (h:Dat H v d):bf H [v] [d]:=by
 simp only [bf,and_true];exact h
theorem Xa {H:Hp} {t:Addr} {x:Nt} (h:H t=some (.tup (nV x))):Dat H (.ref t) (nD x):=by
 simp only [nD,Dat];exact ⟨t,_,rfl,h,by simp only [nV,bf,Dat,and_self]⟩
theorem Ip {H:Hp} {v:V} {x:Nt} (h:Dat H v (nD x)):∃t,v = .ref t/\H t=some (.tup (nV x)):=by
 simp only [nD,Dat] at h;obtain ⟨t,vs,e,q,d⟩:=h
 match vs,d with
 | [a,b,c,z],d=>
   simp only [bf,Dat,and_true] at d;obtain ⟨rfl,rfl,rfl,rfl⟩:=d;exact ⟨t,e,q⟩
 | [],d=>simp only [bf] at d
 | [_],d=>simp only [bf,and_false] at d
 | [_,_],d=>simp only [bf,and_false] at d
 | [_,_,_],d=>simp only [bf,and_false] at d
 | _::_::_::_::_::_,d=>simp only [bf,and_false] at d
def Ce (H:Hp) (a:Addr) (ns:List Nt):Prop:=∃vs,H a=some (.lst vs)/\bf H vs (ns.map nD)
theorem Ce.same {H H':Hp} {a:Addr} {ns:List Nt} (h:Ce H a ns) (k:Same H H'):Ce H' a ns:=by
 obtain ⟨vs,e,d⟩:=h;exact ⟨vs,k _ _ e,bf.keep k.tups _ (gW _ Ov ns) d⟩
theorem Jx {H:Hp} {vs:List V} {ns:List Nt} {i:Nat} {v:V} (d:bf H vs (ns.map nD)) (e:vs[i]? = some v):∃x t,ns[i]? = some x/\v = .ref t/\H t=some (.tup (nV x)):=by
 obtain ⟨q,eq,dq⟩:=d.get e;rw [List.getElem?_map] at eq;cases ex:ns[i]? with
 | none=>rw [ex] at eq;cases eq
 | some x=>
   rw [ex] at eq;cases eq;obtain ⟨t,rfl,ht⟩:=Ip dq;exact ⟨x,t,rfl,rfl,ht⟩
def gI (cs:List Int) (h:Int):Int:=(cs[h.toNat]?).getD 0
theorem jo {cs:List Int} {h:Int} (h0:0<=h) (h1:h<cs.length):JW (cs.map V.int) h=some (.int (gI cs h)):=by
 obtain ⟨m,rfl⟩:=Int.eq_ofNat_of_zero_le h0;have:m<cs.length:=by (clear h0;omega)
 refine dW ?_;simp [gI,this]
theorem zm {cs:List Int} {i:Nat} {c:Int} (h:cs[i]? = some c):gI cs i=c:=by simp [gI,h]
theorem Dw {n:Nat} {i:Int} (h0:0<=i) (h1:i<n):KY n i=some i.toNat:=by unfold KY;rw [if_pos h0,if_pos h1]
theorem O8 {cs:List Int} {h k v:Int} (h0:0<=h) (h1:h<cs.length) (k0:0<=k):gI (cs.set h.toNat v) k=if k=h then v else gI cs k:=by
 unfold gI;rw [List.getElem?_set]
 by_cases e:k=h
 ·subst e
  have:k.toNat<cs.length:=by (clear h0;omega)
  simp [this]
 ·have:¬h.toNat=k.toNat:=by (clear h1;omega)
  simp [e,this]
def abx (cs:List Int) (x:Nt):Prop:=(0<=x.1/\x.1<cs.length)/\(0<=x.2.1/\x.2.1<gI cs x.1)/\(0<=x.2.2.1/\x.2.2.1<cs.length)/\(0<=x.2.2.2/\x.2.2.2<gI cs x.2.2.1)/\x.1≠x.2.2.1
def Ql (cs:List Int):Prop:=cs.length<=8 /\ ∀c∈cs,0<=c/\c<=300
theorem Ql.gI {cs:List Int} (h:Ql cs) (i:Int):0<=gI cs i/\gI cs i<=300:=by
 unfold Prf.gI;cases e:cs[i.toNat]? with
 | none=>simp
 | some c=>exact h.2 c (List.mem_of_getElem? e)
def RecAt (H:Hp) (t c a:Addr) (cs:List Int) (ns:List Nt):Prop:=H t=some (.tup [.ref c,.ref a])/\H c=some (.lst (cs.map V.int))/\Ce H a ns
theorem RecAt.same {H H':Hp} {t c a:Addr} {cs:List Int} {ns:List Nt} (h:RecAt H t c a cs ns) (k:Same H H'):RecAt H' t c a cs ns:=⟨k _ _ h.1,k _ _ h.2.1,h.2.2.same k⟩
def Cd (cs:List Int) (ns:List Nt):Prop:=Ql cs/\ns.length<=100 /\ ∀x∈ns,abx cs x
def M127:Int:=170141183460469231731687303715884105727
theorem Sy:Builtin.Int.intBits M127<=127:=PySem.intBits_le_iff.mpr (by decide)
theorem JQ {t:Int} (h0:0<=t) (h1:t<M127):Builtin.Int.intBits t<=127:=PySem.intBits_le_of_natAbs (y:=M127) (by unfold M127 at h1 ⊢;omega) Sy
theorem Oe {t:Int} (h0:0<=t) (h1:t<M127):IntMulOk t t:=IntMulOk.of_le (JQ h0 h1) (JQ h0 h1) (by omega)
def gF (H:Hp) (r:Addr):Prop:=∃(g c:Addr) (gs cs:List Int) (p t:Int),H r=some (.lst [.ref g,.ref c,.int p,.int t])/\H g=some (.lst (gs.map V.int))/\H c=some (.lst (cs.map V.int))/\0<cs.length/\cs.length<=100/\gs.length<=100/\(∀x∈gs,0<=x)/\0<=p/\0<=t/\t<M127/\g≠r/\c≠r
theorem gF.keep {H H':Hp} {r:Addr} (h:gF H r) (k:Same H H'):gF H' r:=by
 obtain ⟨g,c,gs,cs,p,t,e1,e2,e3,q⟩:=h;exact ⟨g,c,gs,cs,p,t,k _ _ e1,k _ _ e2,k _ _ e3,q⟩
theorem gF.ne {H:Hp} {r p:Addr} (h:gF H r) (hp:H p=none):p≠r:=by
 obtain ⟨g,c,gs,cs,_,t,e1,_⟩:=h;exact (aB e1 hp).symm
theorem gF.at {H:Hp} {r:Addr} (h:gF H r):∃o,H r=some o:=by
 obtain ⟨g,c,gs,cs,p,t,e1,_⟩:=h;exact ⟨_,e1⟩
theorem gF.tups {H H':Hp} {r:Addr} (h:gF H r) (k:Kp r H H'):∀a xs,H a=some (HO.tup xs)->H' a=some (HO.tup xs):=by
 obtain ⟨g,c,gs,cs,p,t,e1,_⟩:=h;exact k.tups e1
def Off (H:Hp) (r x:Addr):Prop:=∀(g c:Addr) (u v:V),H r=some (.lst [.ref g,.ref c,u,v])->x≠g/\x≠c
def KR (r:Addr) (H H':Hp):Prop:=Kp r H H' /\ ∀x o,H x=some o->x≠r->Off H r x->Off H' r x
theorem KR.trans {r:Addr} {H H1 H2:Hp} (a:KR r H H1) (b:KR r H1 H2):KR r H H2:=⟨a.1.trans b.1,fun x o e n f=>b.2 x o (a.1 _ _ e n) n (a.2 x o e n f)⟩
theorem KR.tups {r:Addr} {H H':Hp} (k:KR r H H') (R:gF H r):∀a xs,H a=some (HO.tup xs)->H' a=some (HO.tup xs):=R.tups k.1
theorem KR.same {r:Addr} {H H':Hp} (R:gF H r) (k:Same H H'):KR r H H':=⟨.of_same k,fun x o e n f g c u v e2=>by
 obtain ⟨g',c',gs,cs,p,t,e1,_⟩:=R;rw [k _ _ e1] at e2;cases e2;exact f _ _ _ _ e1⟩
theorem gF.off {H:Hp} {r x:Addr} (R:gF H r) (hx:H x=none):Off H r x:=fun g c u v e=>by
 obtain ⟨g',c',gs,cs,p,t,e1,e2,e3,_⟩:=R;rw [e1] at e;cases e;exact ⟨fun z=>(by rw [z,e2] at hx;cases hx),fun z=>(by rw [z,e3] at hx;cases hx)⟩
theorem Off.same {H H':Hp} {r x:Addr} (R:gF H r) (k:Same H H') (f:Off H r x):Off H' r x:=fun g c u v e2=>by
 obtain ⟨g',c',gs,cs,p,t,e1,_⟩:=R;rw [k _ _ e1] at e2;cases e2;exact f _ _ _ _ e1
theorem gF.set {H:Hp} {r x:Addr} {o:HO} (R:gF H r) (n:x≠r) (f:Off H r x):gF (upd H x o) r:=by
 obtain ⟨g,c,gs,cs,p,t,e1,e2,e3,q⟩:=R;obtain ⟨n1,n2⟩:=f _ _ _ _ e1;exact ⟨g,c,gs,cs,p,t,by rw [aF n.symm];exact e1,by rw [aF n1.symm];exact e2,by rw [aF n2.symm];exact e3,q⟩
theorem Off.set {H:Hp} {r x y:Addr} {o:HO} (n:x≠r) (f:Off H r y):Off (upd H x o) r y:=fun g c u v e=>f g c u v (by rw [aF n.symm] at e;exact e)
theorem Kp.new {H H':Hp} {r p:Addr} (k:Kp r H H') (hp:H' p=none) (hr:∃o,H' r=some o):H p=none:=by
 cases e:H p with
 | none=>rfl
 | some o=>
   by_cases n:p=r
   ·subst n
    obtain ⟨o',ho⟩:=hr;rw [hp] at ho;cases ho
   ·rw [k _ _ e n] at hp
    cases hp
theorem DY {ns:List Int} (h:ns.length<=63):qz (ns.map V.int) none (some 63)=ns.map V.int:=by
 unfold qz;rw [HT.yO,show (some (63:Int))=some ((63:Nat):Int) from rfl,HT.C_,List.length_map,List.drop_zero,Nat.min_eq_right h,Nat.sub_zero,List.take_of_length_le (by simp)]
def Cv (K:PySem.W.Frag):Sp:=fun vs H Q _=>∃(a:Addr) (ns:List Int),vs=[.ref a]/\bK K H a (ns.map V.int)/\ns.length<=63 /\ ∀(r:Addr) (H':Hp),H r=none->gF H' r->Same H H'->Q (.ref r) H'
theorem N5 {f:Addr} {fd:FuncData} (F:j9 K "_law_reel" "_law_reel" lM f fd) (Bt:rD mg):bW P w K mg base lE 1 f fd ["script"] (Cv K):=by
 refine F.ok qd (fun vs H Q E h=> ?_) (fun cdv A outer s H vs Q E hr h=> ?_)
 ·obtain ⟨a,ns,rfl,_⟩:=h
  rfl
 ·obtain ⟨a,ns,rfl,hs,hlen,k⟩:=h
  refine ⟨_,(aD (bT (i:=1) qd.nd rfl (Or.inl rfl) (bR oZ aG aG))
   (aD (qe PassesOwn.never rfl (d_ (K:=K) rfl (nR (ur (K:=K) rfl) (pv 0) qT (qR aG))) (bO (i:=2) qd.nd rfl (Or.inl rfl))
   (aL (bT (i:=1) qd.nd rfl (Or.inl rfl) (bR o7 (bR jK (bR jK (bR Jv (pv 1) (pv 1)) (bR o7 (pv 2) aG)) aG) (bR qm (bR vN (bR oZ aG aG) (bR oZ aG aG)) aG)))))
   (aD (uH (i:=3) rfl qd.nd rfl (Or.inl rfl) (N:=["cell"]) (own:=["cell"]) (caps:=[]) (bh.of (by kernel_rfl)) (d_ (K:=K) rfl (nR (ur (K:=K) rfl) (pv 0) qT (qR aG))) (fun _ _ _ _=>(bO (i:=0) (show List.Nodup (["cell"]:List Str) by decide +kernel) rfl (Or.inl rfl))) (fun _ _ _ _=>(uG (bI Nz (pv 0) (bR oZ aG aG) (bF _)))) (fun _ _ _ _=>(bR qm (pv 0) (bR oZ aG aG))))
   (aL (bC (eU (aj (pv 3) (aj (bR HF (dU rfl (N:=["cell"]) (own:=["cell"]) (caps:=[]) (bh.of (by kernel_rfl)) (d_ (K:=K) rfl (nR (ur (K:=K) rfl) (pv 0) qT (qR aG))) (fun _ _ _ _=>(bO (i:=0) (show List.Nodup (["cell"]:List Str) by decide +kernel) rfl (Or.inl rfl))) (fun _ _ _ _=>dR) (fun _ _ _ _=>(bR o7 (pv 0) aG))) (eU (aj aG aC))) (aj aG (aj (pv 1) aC)))))))))), ?_⟩
  refine ⟨_,_,rfl,rfl,(by show Et 3 60;exact ⟨by decide,by decide,by decide⟩), ?_⟩;refine ⟨_,rfl,_,rfl,_,_,rfl,hs,fun p hp=> ?_⟩;rw [DY hlen];have s1:=aH (o:=HO.lst (ns.map V.int)) hp;have cp1:Et 2 64:=⟨by decide,by decide,by decide⟩;have cp2:Et 2 63:=⟨by decide,by decide,by decide⟩;have cp3:Et 10 18:=⟨by decide,by decide,by decide⟩
  refine ⟨p,rfl,⟨_,bK.of ao⟩,zq (K:=K) (a:=p) (xs:=ns.map V.int) (fun i σ H2=>∃(t:Int) (v:Option V),σ=[some (.ref a),some (.int t),v,none]/\H2=upd H p (.lst (ns.map V.int))/\0<=t/\t<M127)
   ⟨_,none,rfl,rfl,by decide,by decide⟩ (fun i σ H2 _ ⟨_,_,_,e,_⟩=>by rw [e];exact bK.of ao) ?_ ?_⟩
  ·rintro i y σ H2 hi ⟨t,v,rfl,rfl,t0,t1⟩
   obtain ⟨z,rfl⟩:∃z,y=V.int z:=by
    rw [List.getElem?_map] at hi;cases e:ns[i]? with
    | none=>rw [e] at hi;cases hi
    | some z=>rw [e] at hi;exact ⟨z,(Option.some.inj hi).symm⟩
   refine ⟨_,rfl,_,rfl,_,_,rfl,rfl,Oe t0 t1,_,rfl,_,_,rfl,rfl,(by show (0:Int)<1000000000000000003;decide),_,_,rfl,rfl,_,_,rfl,rfl, ?_⟩;refine ⟨_,_,rfl,rfl,cp1,_,_,rfl,rfl,cp2,_,_,rfl,rfl,.inr ⟨by decide,by decide⟩,_,_,rfl,rfl,_,_,rfl,rfl,(by show (0:Int)<2 ^ Int.toNat 64*2 ^ Int.toNat 63 - 1;decide), ?_⟩;refine ⟨_,_,rfl,rfl, ?_, ?_⟩
   ·exact Int.emod_nonneg _ (by decide)
   ·exact Int.emod_lt_of_pos _ (by decide)
  ·rintro σ H2 ⟨t,v,rfl,rfl,t0,t1⟩
   have hs1:=s1.seq hs;refine ⟨_,rfl,_,rfl,_,_,rfl,hs1,fun p2 hp2=> ?_⟩;rw [DY hlen];have s2:=aH (o:=HO.lst (ns.map V.int)) hp2;refine ⟨p2,rfl,⟨_,bK.of ao⟩,fun D hD=> ?_⟩;refine qC (K:=K) (fun i=>(ns[i]?).bind fun z=>if decide (z≥10 ^ (18:Int).toNat) then some (V.int (z - 10 ^ (18:Int).toNat)) else none) hD (bK.of ao) (by rw [List.length_map];omega) (fun i v H3 G F hi s3 kG kF=> ?_) (fun H3 s3 e3=> ?_)
   ·rw [List.getElem?_map] at hi
    cases e:ns[i]? with
    | none=>rw [e] at hi;cases hi
    | some z=>
      rw [e] at hi;cases hi;simp only [e,Option.bind_some] at kG kF;refine ⟨_,rfl,_,_,rfl,rfl,cp3,_,_,rfl,rfl,_,rfl, ?_⟩;refine dz (fun w=> ?_) (fun w=> ?_)
      ·exact ⟨_,rfl,_,_,rfl,rfl,cp3,_,_,rfl,rfl,kF _ H3 (Same.refl _) (by rw [if_pos w])⟩
      ·exact kG H3 (Same.refl _) (by rw [if_neg w])
   rw [List.length_map,xu (fun z:Int=>decide (z≥10 ^ (18:Int).toNat)) (fun z=>V.int (z - 10 ^ (18:Int).toNat))] at e3;have e3':H3 D=some (.lst (((ns.filter fun z=>decide (z≥10 ^ (18:Int).toNat)).map fun z=>z - 10 ^ (18:Int).toNat).map V.int)):=by rw [e3,List.map_map];rfl
   have s13:=(s1.trans s2).trans s3;refine ⟨_,rfl,_,rfl,_,rfl,_,_,rfl,s13.seq hs,fun p3 hp3=> ?_⟩;rw [DY hlen];have s4:=aH (o:=HO.lst (ns.map V.int)) hp3;refine ⟨p3,rfl,⟨_,bK.of ao⟩,fun D2 hD2=> ?_⟩;refine qC (K:=K) (fun i=>(ns[i]?).map fun z=>V.int (z % 1000003)) hD2 (bK.of ao) (by rw [List.length_map];omega) (fun i v H5 G F hi s5 kG kF=> ?_) (fun H5 s5 e5=> ?_)
   ·rw [List.getElem?_map] at hi
    cases e:ns[i]? with
    | none=>rw [e] at hi;cases hi
    | some z=>
      rw [e] at hi;cases hi;exact ⟨_,rfl,_,_,rfl,rfl,(by show (0:Int)<1000003;decide),kF _ H5 (Same.refl _) (by rw [e];rfl)⟩
   rw [List.length_map,JG] at e5;refine ⟨(by show 1<=sizeLine;decide),fun p4 hp4=> ?_⟩;have s6:=aH (o:=HO.lst [V.int 41]) hp4;refine ⟨D2,p4,_,_,rfl,rfl,s6 _ _ e5,ao,by rw [sizeLine_eq,List.length_map];simp only [List.length_singleton];omega,fun c hc=> ?_⟩;have s7:=aH (o:=HO.lst (ns.map (fun z=>V.int (z % 1000003))++[V.int 41])) hc;have s47:=(s4.trans s5).trans (s6.trans s7);refine ⟨_,rfl,(by show 4<=sizeLine;decide),fun r hr'=> ?_⟩;have s8:=aH (o:=HO.lst [V.ref D,V.ref c,V.int 0,V.int t]) hr';have eD:=s47 _ _ e3';have nDr:D≠r:=aB eD hr';have Wo:c≠r:=aB ao hr';have fl:(ns.filter fun z=>decide (z≥10 ^ (18:Int).toNat)).length<=ns.length:=List.length_filter_le _ _;refine k r _ ((s13.trans s47).free hr') ⟨D,c,_,ns.map (· % 1000003)++[41],0,t,ao,s8 _ _ eD, ?_,by simp,by simp;omega,by rw [List.length_map];omega,fun x hx=> ?_,by decide,t0,t1,nDr,Wo⟩ ((s13.trans s47).trans s8)
   ·refine s8 _ _ ?_
    rw [ao,List.map_append,List.map_map];rfl
   ·obtain ⟨z,hz,rfl⟩:=List.mem_map.mp hx
    have:=of_decide_eq_true (List.mem_filter.mp hz).2;omega
def uo (K:PySem.W.Frag):Sp:=fun vs H Q _=>∃(r:Addr) (m:Int),vs=[.ref r,.int m]/\gF H r/\0<m/\m<1329227995784915872903807060280344576 /\ ∀(z:Int) (H':Hp),0<=z->z<m->gF H' r->KR r H H'->Q (.int z) H'
theorem Oa {f:Addr} {fd:FuncData} (F:j9 K "_law_draw" "_law_draw" lO f fd) (Bt:rD mg):bW P w K mg base lE 1 f fd ["reel","many"] (uo K):=by
 refine F.ok uD (fun vs H Q E h=> ?_) (fun cdv A outer s H vs Q E hr h=> ?_)
 ·obtain ⟨r,m,rfl,_⟩:=h
  rfl
 ·obtain ⟨r,m,rfl,⟨g,c,gs,cs,p,t,hR,hG,hC,c0,c1,g1,WY,p0,t0,t1,ngr,Wo⟩,m0,m1,k⟩:=h
  have vV:=hr.units
  refine ⟨_,(aD (cD (bI (Dl (K:=K) rfl vV) (aY (aZ (K:=K) rfl) (pv 0) aG (fun _ _=>rfl)) (eU aC) (bF _)) (aD (bT (i:=2) uD.nd rfl (Or.inl rfl) (aY (aZ (K:=K) rfl) (aY (aZ (K:=K) rfl) (pv 0) aG (fun _ _=>rfl)) aG (fun _ _=>rfl)))
   (aD (tu (bR HF (bR yU (eU (aj (bR Fp (pv 2) (pv 1)) aC)) (dj n_ (by rfl) Bt.zR tX (aj (fu Nz (pv 2) (pv 1) (bF _)) aC))) (nR (ur (K:=K) rfl) (aY (aZ (K:=K) rfl) (pv 0) aG (fun _ _=>rfl)) (qR aG) qT)) (tE (pv 0) aG set_list))
   (aL (bC (bR o7 (pv 2) (pv 1)))))) bL)
   (aD (tu (bR jK (aY (aZ (K:=K) rfl) (pv 0) aG (fun _ _=>rfl)) aG) (tE (pv 0) aG set_list))
   (aD (bT (i:=3) uD.nd rfl (Or.inl rfl) (aY (aZ (K:=K) rfl) (aY (aZ (K:=K) rfl) (pv 0) aG (fun _ _=>rfl)) (bR o7 (aY (aZ (K:=K) rfl) (pv 0) aG (fun _ _=>rfl)) (aV (aX (K:=K) rfl) (by rfl) Bt.gq cX (aj (aY (aZ (K:=K) rfl) (pv 0) aG (fun _ _=>rfl)) aC))) (fun _ _=>rfl)))
   (aD (bT (i:=4) uD.nd rfl (Or.inl rfl) (bR jK (bR jK (bR Jv (aY (aZ (K:=K) rfl) (pv 0) aG (fun _ _=>rfl)) (aY (aZ (K:=K) rfl) (pv 0) aG (fun _ _=>rfl))) (bR vN (bR jK (pv 3) aG) aG)) (bR vN (aY (aZ (K:=K) rfl) (pv 0) aG (fun _ _=>rfl)) aG)))
   (aD (tu (bR o7 (pv 4) (bR qm (bR vN (bR oZ aG aG) (bR oZ aG aG)) aG)) (tE (pv 0) aG set_list))
   (aL (bC (bR o7 (bR Fp (aY (aZ (K:=K) rfl) (pv 0) aG (fun _ _=>rfl)) (bR oZ aG aG)) (pv 1))))))))), ?_⟩
  refine ⟨_,rfl,_,_,_,_,rfl,rfl,bK.of hR,rfl,(by show 0<=sizeLine;decide),fun q hq=> ?_⟩;have s1:=aH (o:=HO.lst []) hq;have X4:=s1 _ _ hR;have hG1:=s1 _ _ hG;have hC1:=s1 _ _ hC;refine ⟨_,_,eE hG1,eE (ns:=[]) ao,shaped_ints _,shaped_ints _,_,rfl, ?_⟩;rw [if_pos rfl,qy PyData.int uT];refine dz (fun w=> ?_) (fun _=> ?_)
  ·have w:gs≠[]:=by simpa using w
   obtain ⟨x,xs,rfl⟩:∃x xs,gs=x::xs:=by
    cases gs with
    | nil=>exact absurd rfl w
    | cons x xs=>exact ⟨x,xs,rfl⟩
   have x0:=WY x (by simp);refine ⟨_,rfl,_,_,_,_,rfl,rfl,bK.of X4,rfl,_,_,_,_,rfl,rfl,bK.of hG1,(by show JW (V.int x::xs.map V.int) 0=some (V.int x);simp [JW,KY]), ?_⟩;refine ⟨_,rfl,_,rfl,_,_,rfl,rfl,⟨m0,m1⟩,(by show 1<=sizeLine;decide),fun q2 hq2=> ?_⟩;have s2:=aH (o:=HO.lst [V.int (x / m)]) hq2;refine ⟨_,rfl,_,rfl,_,_,rfl,rfl,Or.inr ⟨_,rfl,q2,_,_,rfl,rfl,ao, ?_, ?_, ?_,fun q3 Ly=> ?_⟩⟩
   ·split<;>decide
   ·split<;>decide
   ·rw [sizeLine_eq];split<;>simp
   have s3:=aH (o:=HO.lst (List.replicate (if decide (x≥m)=true then (1:Int) else 0).toNat [V.int (x / m)]).flatten) Ly;have T_:=s2.trans s3;refine ⟨_,rfl,_,_,_,_,rfl,rfl,bK.of (T_ _ _ X4),rfl,_,rfl,g,_,rfl,bK.of (T_ _ _ hG1),fun q4 hq4=> ?_⟩;rw [show qz ((x::xs).map V.int) (some 1) none=xs.map V.int from Gs _ 1];have s4:=aH (o:=HO.lst (xs.map V.int)) hq4;have fl:(List.replicate (if decide (x≥m)=true then (1:Int) else 0).toNat [V.int (x / m)]).flatten.length<=1:=by split<;>simp
   have xl:xs.length<=100:=by have:(x::xs).length<=100:=g1;simp at this;omega
   refine ⟨q3,q4,_,_,rfl,rfl,s4 _ _ ao,ao,by rw [sizeLine_eq,List.length_map];exact Nat.le_trans (Nat.add_le_add fl xl) (by decide),fun q5 hq5=> ?_⟩;have s5:=aH (o:=HO.lst ((List.replicate (if decide (x≥m)=true then (1:Int) else 0).toNat [V.int (x / m)]).flatten++xs.map V.int)) hq5;have s25:=(T_.trans s4).trans s5;have hR5:=s25 _ _ X4;refine ⟨_,rfl,_,_,_,_,rfl,rfl,hR5,rfl, ?_⟩;have kr:Kp r (upd (upd (upd (upd (upd H q (HO.lst [])) q2 (HO.lst [V.int (x / m)])) q3 (HO.lst (List.replicate (if decide (x≥m)=true then (1:Int) else 0).toNat [V.int (x / m)]).flatten)) q4 (HO.lst (xs.map V.int))) q5 (HO.lst ((List.replicate (if decide (x≥m)=true then (1:Int) else 0).toNat [V.int (x / m)]).flatten++xs.map V.int))) _:=Kp.set (o:= .lst [.ref q5,.ref c,.int p,.int t]);have nq5:q5≠r:=(aB ((T_.trans s4) _ _ X4) hq5).symm
   have eq5:(List.replicate (if decide (x≥m)=true then (1:Int) else 0).toNat [V.int (x / m)]).flatten++xs.map V.int=((if decide (x≥m)=true then [x / m] else [])++xs).map V.int:=by
    split<;>simp
   refine ⟨_,rfl,_,rfl,_,_,rfl,rfl,m0, ?_⟩
   refine k _ _ (Int.emod_nonneg _ (by omega)) (Int.emod_lt_of_pos _ m0) ⟨q5,c,(if decide (x≥m)=true then [x / m] else [])++xs,cs,p,t,ao, ?_,kr _ _ (s25 _ _ hC1) Wo,c0,c1, ?_,fun y hy=> ?_,p0,t0,t1,nq5,Wo⟩ ⟨(Kp.of_same (s1.trans s25)).trans kr,fun y o ey ny f g' c' u v e=>by
    rw [ao] at e;cases e;exact ⟨aB ((s1.trans (T_.trans s4)) _ _ ey) hq5,(f _ _ _ _ hR).2⟩⟩
   ·refine kr _ _ ?_ nq5
    rw [ao,eq5]
   ·rw [List.length_append]
    have:(if decide (x≥m)=true then [x / m] else []).length<=1:=by split<;>simp
    have:(x::xs).length<=100:=g1;simp only [List.length_cons] at this;omega
   ·rcases List.mem_append.mp hy with hy|hy
    ·split at hy
     ·have:y=x / m:=by simpa using hy
      rw [this];exact Int.ediv_nonneg x0 (by omega)
     ·cases hy
    ·exact WY y (by simp [hy])
  ·have cp1:Et 2 64:=⟨by decide,by decide,by decide⟩
   have cp2:Et 2 63:=⟨by decide,by decide,by decide⟩;have cp4:Et 2 40:=⟨by decide,by decide,by decide⟩;refine ⟨_,rfl,_,_,_,_,rfl,rfl,bK.of X4,rfl,_,_,rfl,rfl,_,rfl,_,_,_,_,rfl,rfl,X4,rfl, ?_⟩;have kr:Kp r (upd H q (HO.lst [])) (upd (upd H q (HO.lst [])) r (.lst [.ref g,.ref c,.int (p+1),.int t])):=Kp.set;have WW:(upd (upd H q (HO.lst [])) r (.lst [.ref g,.ref c,.int (p+1),.int t])) r=some (.lst [.ref g,.ref c,.int (p+1),.int t]):=ao;have hC2:=kr _ _ hC1 Wo;have i0:0<=(p+1) % (cs.length:Int):=Int.emod_nonneg _ (by omega);have i1:(p+1) % (cs.length:Int)<cs.length:=Int.emod_lt_of_pos _ (by omega);refine ⟨_,rfl,_,_,_,_,rfl,rfl,bK.of WW,rfl,_,rfl,_,_,_,_,rfl,rfl,bK.of WW,rfl,_,rfl,_,_,_,_,rfl,rfl,bK.of WW,rfl,c,_,rfl,.inl (bK.of hC2),_,_,rfl,rfl,by rw [List.length_map];omega,_,_,_,_,rfl,rfl,bK.of hC2,by rw [List.length_map];exact jo i0 i1, ?_⟩;generalize gI cs ((p+1) % (cs.length:Int))=told;refine ⟨_,rfl,_,_,_,_,rfl,rfl,bK.of WW,rfl,_,rfl,_,_,_,_,rfl,rfl,bK.of WW,rfl,_,_,rfl,rfl,Oe t0 t1,_,rfl,_,_,rfl,rfl,_,_,rfl,rfl,.inr ⟨by decide,by decide⟩,_,_,rfl,rfl,_,rfl,_,_,_,_,rfl,rfl,bK.of WW,rfl,_,_,rfl,rfl,.inr ⟨by decide,by decide⟩,_,_,rfl,rfl, ?_⟩;refine ⟨_,rfl,_,_,rfl,rfl,cp1,_,_,rfl,rfl,cp2,_,_,rfl,rfl,.inr ⟨by decide,by decide⟩,_,_,rfl,rfl,_,_,rfl,rfl,(by show (0:Int)<2 ^ Int.toNat 64*2 ^ Int.toNat 63 - 1;decide),_,rfl,_,_,_,_,rfl,rfl,WW,rfl, ?_⟩;refine ⟨_,rfl,_,_,_,_,rfl,rfl,bK.of ao,rfl,_,_,rfl,rfl,cp4,_,_,rfl,rfl,⟨by decide,by decide⟩,_,rfl,_,_,rfl,rfl,m0, ?_⟩
   refine k _ _ (Int.emod_nonneg _ (by omega)) (Int.emod_lt_of_pos _ m0) ⟨g,c,gs,cs,p+1,_,ao, ?_, ?_,c0,c1,g1,WY,by omega,Int.emod_nonneg _ (by decide),Int.emod_lt_of_pos _ (by decide),ngr,Wo⟩ ⟨((Kp.of_same s1).trans kr).trans Kp.set,fun y o ey ny f g' c' u v e=>by
    rw [ao] at e;cases e;exact f _ _ _ _ hR⟩
   ·rw [aF ngr];exact kr _ _ hG1 ngr
   ·rw [aF Wo];exact hC2
def tM (i:Int) (n:Nat):Prop:=0<=i/\i<(n:Int)
instance (i:Int) (n:Nat):Decidable (tM i n):=inferInstanceAs (Decidable (_/\_))
def QF (K:PySem.W.Frag):Sp:=fun vs H Q _=>∃i:Int,vs=[.int i]/\Q (.bl true) H
theorem Ft {f:Addr} {fd:FuncData} (F:j9 K "is_whole" "is_whole" gK f fd) (Bt:rD mg):bW P w K mg base lE 1 f fd ["value"] (QF K):=by
 refine F.ok Fe (fun vs H Q E h=> ?_) (fun cdv A outer s H vs Q E hr h=> ?_)
 ·obtain ⟨i,rfl,_⟩:=h
  rfl
 ·obtain ⟨i,rfl,k⟩:=h
  refine ⟨_,(aL (bC (tH (aV (cW (K:=K) (cv:= .ty "int") (c:= .type "int") rfl rfl) (by rfl) Bt.bJ bG (aj (pv 0) (aj (fQ (v:= .ty "int") (by rfl) Bt.zR tX rfl) aC))) (tG (Np (aV (cW (K:=K) (cv:= .ty "bool") (c:= .type "bool") rfl rfl) (by rfl) Bt.bJ bG (aj (pv 0) (aj (fQ (v:= .ty "bool") (by rfl) Bt.zT uW rfl) aC)))))))), ?_⟩;refine ⟨_,rfl,_,_,true,rfl,.int i,wI K,true,rfl, ?_⟩;refine jr ?_;exact ⟨_,rfl,_,_,false,rfl,.int i,pq K,false,rfl,k⟩
def qP (K:PySem.W.Frag):Sp:=fun vs H Q _=>∃(i:Int) (n:Nat),vs=[.int i,.int n]/\Q (.bl (decide (tM i n))) H
theorem Fw {f:Addr} {fd:FuncData} (F:j9 K "is_below" "is_below" gM f fd) (tZ:FnAt P w K mg base 1 "is_whole" ["value"] (QF K)):bW P w K mg base lE 2 f fd ["value","count"] (qP K):=by
 refine F.ok Fg (fun vs H Q E h=> ?_) (fun cdv A outer s H vs Q E hr h=> ?_)
 ·obtain ⟨i,n,rfl,_⟩:=h
  rfl
 ·obtain ⟨i,n,rfl,k⟩:=h
  refine ⟨_,(aL (bC (tH (b_ tZ (hr.mono (by decide)) (by rfl) (aj (pv 0) aC)) (tG (Ny Zc wC aG (pv 0) (pv 1)))))), ?_⟩;refine ⟨_,rfl,i,rfl,true,rfl, ?_⟩;refine jr ?_;refine ⟨_,rfl,_,_,rfl,rfl,_,rfl, ?_⟩;refine dz (fun h0=> ?_) (fun h0=> ?_)
  ·refine ⟨_,rfl,_,_,rfl,rfl, ?_⟩
   have e:decide (tM i n)=decide (i<(n:Int)):=by
    have h0:=of_decide_eq_true h0;rw [Bool.eq_iff_iff,decide_eq_true_iff,decide_eq_true_iff];exact ⟨fun z=>z.2,fun z=>⟨h0,z⟩⟩
   show Q (.bl (decide (i<(n:Int)))) H;rw [←e];exact k
  ·have e:decide (tM i n)=false:=decide_eq_false fun z=>h0 (decide_eq_true z.1)
   rw [←e];exact k
def hF (r:Addr) (n:Int) (b sy:Addr) (st:Str):List (Str×V):=[("rows",.ref r),("at",.int n),("in_boxes",.ref b),("sayings",.ref sy),("state",.str st)]
structure qK where
 (h hx r b sy:Addr)
structure pN (CH:Addr) (H:Hp) (A:qK) (s:bH):Prop where
 h:H A.h=some (.ins CH A.hx (hF A.r s.pos A.b A.sy s.st))
 b:H A.b=some (.lst (s.bs.map V.int))
 y:H A.sy=some (.lst (s.sy.map V.int))
 Kz:A.b≠A.sy
 bl:s.bs.length=8
def KH (A:qK) (H H':Hp):Prop:=∀x o,H x=some o->x≠A.h->x≠A.b->x≠A.sy->H' x=some o
theorem KH.of_same {A:qK} {H H':Hp} (k:Same H H'):KH A H H':=fun x o e _ _ _=>k _ _ e
theorem KH.trans {A:qK} {H H1 H2:Hp} (a:KH A H H1) (b:KH A H1 H2):KH A H H2:=fun x o e n1 n2 n3=>b x o (a x o e n1 n2 n3) n1 n2 n3
theorem KH.sY {A:qK} {H:Hp} {o:HO}:KH A H (upd H A.h o):=fun x u e n _ _=>by rw [aF n];exact e
theorem KH.M8 {A:qK} {H:Hp} {o:HO}:KH A H (upd H A.b o):=fun x u e _ n _=>by rw [aF n];exact e
theorem KH.Vw {A:qK} {H:Hp} {o:HO}:KH A H (upd H A.sy o):=fun x u e _ _ n=>by rw [aF n];exact e
theorem pN.Rt {CH:Addr} {H:Hp} {A:qK} {s:bH} (c:pN CH H A s):A.h≠A.b:=eY c.h c.b (by intro z;cases z)
theorem pN.Ui {CH:Addr} {H:Hp} {A:qK} {s:bH} (c:pN CH H A s):A.h≠A.sy:=eY c.h c.y (by intro z;cases z)
theorem pN.same {CH:Addr} {H H':Hp} {A:qK} {s:bH} (c:pN CH H A s) (k:Same H H'):pN CH H' A s:=⟨k _ _ c.h,k _ _ c.b,k _ _ c.y,c.Kz,c.bl⟩
theorem pN.tup {CH:Addr} {H H':Hp} {A:qK} {s:bH} (c:pN CH H A s) (k:KH A H H'):∀x xs,H x=some (.tup xs)->H' x=some (.tup xs):=fun x xs e=>k _ _ e (eY e c.h (by intro z;cases z)) (eY e c.b (by intro z;cases z)) (eY e c.y (by intro z;cases z))
theorem pN.sY {CH:Addr} {H:Hp} {A:qK} {s:bH} (c:pN CH H A s) (n:Nat) (st:Str):pN CH (upd H A.h (.ins CH A.hx (hF A.r n A.b A.sy st))) A {s with pos:=n,st:=st}:=
 ⟨ao,by rw [aF c.Rt.symm];exact c.b,by rw [aF c.Ui.symm];exact c.y,c.Kz,c.bl⟩
theorem pN.M8 {CH:Addr} {H:Hp} {A:qK} {s:bH} (c:pN CH H A s) (bs:List Int) (l:bs.length=8):pN CH (upd H A.b (.lst (bs.map V.int))) A {s with bs:=bs}:=
 ⟨by rw [aF c.Rt];exact c.h,ao,by rw [aF c.Kz.symm];exact c.y,c.Kz,l⟩
theorem pN.Vw {CH:Addr} {H:Hp} {A:qK} {s:bH} (c:pN CH H A s) (ys:List Int):pN CH (upd H A.sy (.lst (ys.map V.int))) A {s with sy:=ys}:=
 ⟨by rw [aF c.Ui];exact c.h,by rw [aF c.Kz];exact c.b,ao,c.Kz,c.bl⟩
theorem yP (r b sy:Addr) (n m:Int) (st:Str):cC "at" (.int m) (hF r n b sy st)=hF r m b sy st:=by rfl
theorem Df (r b sy:Addr) (n:Int) (st st':Str):cC "state" (.str st') (hF r n b sy st)=hF r n b sy st':=by rfl
theorem DR (n:Nat):(List.range n).filterMap (fun _=>some (V.int 0))=(List.replicate n 0).map V.int:=by
 induction n with
 | zero=>rfl
 | succ n ih=>rw [eV,ih,List.replicate_succ',List.map_append];rfl
theorem JC {H H':Hp} {o p:Addr} (h:Kp o H H') (ne:p≠o) (n:H' p=none):H p=none:=by
 cases e:H p with
 | none=>rfl
 | some u=>rw [h _ _ e ne] at n;cases n
theorem abe:∀b:Fin 8,Builtin.Str.occurrences (Str.ofString "abcdefgh") (LC b.val) 0 (Str.ofString "abcdefgh").length 1=[b.val]:=by decide +kernel
theorem PN {b:Nat} (h:b<8):Builtin.Str.occurrences (Str.ofString "abcdefgh") (LC b) 0 (Str.ofString "abcdefgh").length 1=[b]:=abe ⟨b,h⟩
def xq (CH:Addr) (K:PySem.W.Frag):Sp:=fun vs H Q _=>∃(a r dx:Addr),vs=[.ref a,.ref r]/\H a=some (.ins CH dx []) /\ ∀(b sy:Addr) (H':Hp),H b=none->H sy=none->b≠sy ->
 H' a=some (.ins CH dx (hF r 0 b sy "waits"))->H' b=some (.lst ((List.replicate 8 0).map V.int))->H' sy=some (.lst [])->Kp a H H'->Q .non H'
theorem N_ {aq:Addr} {f:Addr} {fd:FuncData} (F:j9 K "__init__" "Hand.__init__" fP f fd) (aP:iz K aq) (iW:Gv mg "BOXES" (.str "abcdefgh")):bW P w K mg base lE 1 f fd ["self","rows"] (xq aq K):=by
 refine F.ok CZ (fun vs H Q E h=> ?_) (fun cdv A outer s H vs Q E hr h=> ?_)
 ·obtain ⟨a,r,dx,rfl,_⟩:=h
  rfl
 ·obtain ⟨a,r,dx,rfl,ha,k⟩:=h
  refine ⟨_,(aD (cY (K:=K) rfl (pv 0) (pv 1) rfl)
   (aD (cY (K:=K) rfl (pv 0) aG rfl)
   (aD (cY (K:=K) rfl (pv 0) (dU rfl (N:=["box"]) (own:=["box"]) (caps:=[]) (bh.of (by kernel_rfl)) (V3 (jJ (by rfl) iW.choose_spec.1 iW.choose_spec.2)) (fun _ _ _ _=>(bO (i:=0) (show List.Nodup (["box"]:List Str) by decide +kernel) rfl (Or.inl rfl))) (fun _ _ _ _=>dR) (fun _ _ _ _=>aG)) rfl)
   (aD (cY (K:=K) rfl (pv 0) (eU aC) rfl)
   (aL (cY (K:=K) rfl (pv 0) cN rfl)))))), ?_⟩
  refine ⟨_,rfl,_,rfl,a,aq,dx,[],rfl,ha,aP.cls,aP.qp,by decide, ?_⟩;refine ⟨_,rfl,a,aq,dx,_,rfl,ao,aP.cls,aP.vQ,(by show 1<1000;decide), ?_⟩;refine ⟨_,rfl,fun D hD=> ?_⟩;refine Lh (fun _=>some (.int 0)) hD (by decide) (fun i c H1 G F hi s1 kG kF=>kF _ H1 (Same.refl _) rfl) (fun H1 s1 e1=> ?_);rw [DR] at e1;refine ⟨_,rfl,a,aq,dx,_,rfl,s1 _ _ ao,aP.cls,aP.jZ,(by show 2<1000;decide), ?_⟩;have XJ:a≠D:=aB ao hD;refine ⟨(by show 0<=sizeLine;decide),fun q hq=> ?_⟩;have XH:a≠q:=aB ao hq;refine ⟨_,rfl,a,aq,dx,_,rfl,(by rw [aF XH];exact ao),aP.cls,aP.qX,(by show 3<1000;decide), ?_⟩;refine ⟨_,rfl,a,aq,dx,_,rfl,ao,aP.cls,aP.mV,(by show 4<1000;decide), ?_⟩;have hD0:H D=none:=by rw [aF XJ.symm,aF XJ.symm] at hD;exact hD
  have nDq:D≠q:=by
   intro e;rw [←e,aF XJ.symm,e1] at hq;cases hq
  have hq0:H q=none:=by
   rw [aF XH.symm] at hq;cases e:H q with
   | none=>rfl
   | some o=>
     have:=s1 q o (by rw [aF XH.symm,aF XH.symm];exact e);rw [this] at hq;cases hq
  refine k D q _ hD0 hq0 nDq ?_ ?_ ?_ ?_
  ·rw [ao];rfl
  ·rw [aF XJ.symm,aF XJ.symm,aF nDq,aF XJ.symm,e1];rfl
  ·rw [aF XH.symm,aF XH.symm,ao]
  ·intro x o e n
   have nq:x≠q:=aB e hq0;rw [aF n,aF n,aF nq,aF n];exact s1 x o (by rw [aF n,aF n];exact e)
theorem U3 {x:V} {l:List V}:JW (x::l) 0=some x:=dW (j:=0) rfl
theorem abj {x y z:V} {l:List V}:JW (x::y::z::l) 2=some z:=dW (j:=2) rfl
def Gy (r:Rw):V:=if touch r then .int (BR r) else .non
def uq (K:PySem.W.Frag):Sp:=fun vs H Q _=>∃(v:V) (r:Rw),vs=[v]/\Dat H v (z9 r) /\ ∀H',Same H H'->Q (Gy r) H'
theorem Kv {f:Addr} {fd:FuncData} (F:j9 K "cell_of" "cell_of" iQ f fd):bW P w K mg base lE 1 f fd ["row"] (uq K):=by
 refine F.ok Hl (fun vs H Q E h=> ?_) (fun cdv A outer s H vs Q E hr h=> ?_)
 ·obtain ⟨v,r,rfl,_⟩:=h
  rfl
 ·obtain ⟨v,r,rfl,d,k⟩:=h
  obtain ⟨t,ws,rfl,ht,ps⟩:=JT d
  refine ⟨_,(aD (cD (bI ig (aY (bx (K:=K) rfl) (pv 0) aG (fun _ _=>rfl)) cN (bF _)) (aL (bC (aY (bx (K:=K) rfl) (pv 0) aG (fun _ _=>rfl)))) bL)
   (aL (bC (nU (bI (HD (K:=K) rfl) (aY (bx (K:=K) rfl) (pv 0) aG (fun _ _=>rfl)) (jX (aj cN (aj cN aC))) (by with_unfolding_all rfl)) (aY (bx (K:=K) rfl) (pv 0) aG (fun _ _=>rfl)) mD)))), ?_⟩
  have cs:(∃c e,r = .store c e) \/ ∃(x:Str) (ys:List V),ws = .str x::ys/\x≠Str.ofString "store" /\ (x=Str.ofString "load" \/ x=Str.ofString "swap" -> ∃y z,ys=y :: .int (BR r)::z/\touch r=true)/\(x≠Str.ofString "load" -> x≠Str.ofString "swap" -> touch r=false):=by
   cases r with
   | store c e=>exact .inl ⟨c,e,rfl⟩
   | load b c=>exact .inr ⟨_,_,ps,by decide +kernel,fun _=>⟨_,_,rfl,rfl⟩,fun z=>absurd rfl z⟩
   | swap b c e=>
     obtain ⟨x,e1,_⟩:=ps;exact .inr ⟨_,_,e1,by decide +kernel,fun _=>⟨_,_,rfl,rfl⟩,fun _ z=>absurd rfl z⟩
   | Du b e=>
     obtain ⟨x,e1,_⟩:=ps;exact .inr ⟨_,_,e1,by decide +kernel,fun z=>absurd z (by decide +kernel),fun _ _=>rfl⟩
   | say e=>
     obtain ⟨x,e1,_⟩:=ps;exact .inr ⟨_,_,e1,by decide +kernel,fun z=>absurd z (by decide +kernel),fun _ _=>rfl⟩
   | go n=>exact .inr ⟨_,_,ps,by decide +kernel,fun z=>absurd z (by decide +kernel),fun _ _=>rfl⟩
   | Eu q e f n=>
     obtain ⟨x,y,e1,_⟩:=ps;exact .inr ⟨_,_,e1,by decide +kernel,fun z=>absurd z (by decide +kernel),fun _ _=>rfl⟩
  rcases cs with ⟨c,e,rfl⟩|⟨x,ys,rfl,nx,h1,h2⟩
  ·obtain ⟨x,rfl,_⟩:=ps
   refine ⟨_,rfl,_,_,_,_,rfl,rfl,cO.of ht,rfl,rfl,_,rfl, ?_⟩;refine dz (fun _=> ?_) (fun z=>absurd (decide_eq_true rfl) z);exact ⟨_,rfl,_,_,_,_,rfl,rfl,cO.of ht,rfl,k H (Same.refl _)⟩
  refine ⟨_,rfl,_,_,_,_,rfl,rfl,cO.of ht,U3,rfl,_,rfl, ?_⟩;refine dz (fun z=>absurd (by simpa using of_decide_eq_true z) nx) (fun _=> ?_);refine ⟨_,rfl,_,_,_,_,rfl,rfl,cO.of ht,U3,(by show 2<=sizeLine;decide),fun p hp=> ?_⟩;have sp:=aH (o:=HO.tup [V.str (Str.ofString "load"),V.str (Str.ofString "swap")]) hp;refine ⟨p,_,rfl,.inr (cO.of ao),rfl,rfl,_,rfl, ?_⟩
  by_cases z:x=Str.ofString "load" \/ x=Str.ofString "swap"
  ·obtain ⟨y,w',rfl,tr⟩:=h1 z
   refine dz (fun _=> ?_) (fun q=>absurd ?_ q)
   ·refine ⟨_,rfl,_,_,_,_,rfl,rfl,cO.of (sp _ _ ht),abj, ?_⟩
    have:=k _ sp;unfold Gy at this;rw [if_pos tr] at this;exact this
   ·rcases z with rfl|rfl<;>decide +kernel
  ·have n1:x≠Str.ofString "load" :=fun q=>z (.inl q)
   have n2:x≠Str.ofString "swap" :=fun q=>z (.inr q);have tr:=h2 n1 n2;refine dz (fun q=>absurd q ?_) (fun _=> ?_)
   ·simp [inV,Sd,n1.symm,n2.symm]
   ·have:=k _ sp
    unfold Gy at this;rw [if_neg (by rw [tr];decide)] at this;exact this
def Gi:Jh->Nat
 | .one _=>1
 | .two _ _ _=>2
def ug (CH:Addr) (n:Nat) (K:PySem.W.Frag):Sp:=fun vs H Q _=>∃(A:qK) (s:bH) (v:V) (e:Jh),vs=[.ref A.h,v]/\pN CH H A s/\Dat H v (Gj e)/\zu e/\Gi e<=n/\Q (.int (vx s.bs e)) H
theorem Rh {aq:Addr} {f:Addr} {fd:FuncData} (F:j9 K "value_of" "Hand.value_of" bY f fd):bW P w K mg base lE 1 f fd ["self","part"] (ug aq 0 K):=by
 refine F.ok iK (fun vs H Q E h=> ?_) (fun cdv A outer s H vs Q E hr h=> ?_)
 ·obtain ⟨A,s,v,e,rfl,_,_,_,z,_⟩:=h
  cases e<;>simp [Gi] at z
 ·obtain ⟨A,s,v,e,rfl,_,_,_,z,_⟩:=h
  cases e<;>simp [Gi] at z
theorem Jw {aq:Addr} {n:Nat} {f:Addr} {fd:FuncData} (F:j9 K "value_of" "Hand.value_of" bY f fd) (bZ:MethAt P w K mg base (n+1) aq "value_of" ["self","part"] (ug aq n K)) (aP:iz K aq) (iW:Gv mg "BOXES" (.str "abcdefgh")) (jO:Gv mg "ROUND" (.int 1000)):bW P w K mg base lE (n+1+1) f fd ["self","part"] (ug aq (n+1) K):=by
 refine F.ok iK (fun vs H Q E h=> ?_) (fun cdv A outer s H vs Q E hr h=> ?_)
 ·obtain ⟨A,s,v,e,rfl,_⟩:=h
  rfl
 ·obtain ⟨B,z,v,e,rfl,c,d,eo,dp,k⟩:=h
  refine ⟨_,(aD (cD (bI ig (aY (bx (K:=K) rfl) (pv 1) aG (fun _ _=>rfl)) cN (bF _)) (aL (bC (bR o7 (aY (bx (K:=K) rfl) (pv 1) aG (fun _ _=>rfl)) (jJ (by rfl) jO.choose_spec.1 jO.choose_spec.2)))) bL)
   (aD (cD (bI ig (aY (bx (K:=K) rfl) (pv 1) aG (fun _ _=>rfl)) cN (bF _)) (aL (bC (aY (aZ (K:=K) rfl) (bw (K:=K) rfl (pv 0) rfl) (Di (K:=K) rfl PySem.F.plainAttrs_str PySem.F.slot_str_index PySem.F.type_str_index Bo (jJ (by rfl) iW.choose_spec.1 iW.choose_spec.2) (aj (aY (bx (K:=K) rfl) (pv 1) aG (fun _ _=>rfl)) aC)) (fun _ _=>rfl)))) bL)
   (aD (bT (i:=2) iK.nd rfl (Or.inl rfl) (cF bZ aP.cls (hr.mono (Nat.le_refl _)) (pv 0) (aj (aY (bx (K:=K) rfl) (pv 1) aG (fun _ _=>rfl)) aC)))
   (aD (bT (i:=3) iK.nd rfl (Or.inl rfl) (cF bZ aP.cls (hr.mono (Nat.le_refl _)) (pv 0) (aj (aY (bx (K:=K) rfl) (pv 1) aG (fun _ _=>rfl)) aC)))
   (aL (bC (bR o7 (nU (bI ig (aY (bx (K:=K) rfl) (pv 1) aG (fun _ _=>rfl)) cN (bF _)) (bR jK (pv 2) (pv 3)) (bR qm (pv 2) (pv 3))) (jJ (by rfl) jO.choose_spec.1 jO.choose_spec.2)))))))), ?_⟩
  match e,d,eo,dp,k with
  | .one (.num m),d,eo,dp,k=>
    obtain ⟨t,rfl,ht⟩:=U0 (x:= .num m) d;refine ⟨_,rfl,_,_,_,_,rfl,rfl,cO.of ht,rfl,rfl,_,rfl, ?_⟩;refine dz (fun _=> ?_) (fun z=>absurd (decide_eq_true rfl) z);exact ⟨_,rfl,_,_,_,_,rfl,rfl,cO.of ht,rfl,_,_,rfl,rfl,(by show (0:Int)<1000;decide),k⟩
  | .one (.box b),d,eo,dp,k=>
    obtain ⟨t,rfl,ht⟩:=U0 (x:= .box b) d;refine ⟨_,rfl,_,_,_,_,rfl,rfl,cO.of ht,rfl,rfl,_,rfl, ?_⟩;refine dz (fun z=>absurd (of_decide_eq_true z) (by decide)) (fun _=> ?_);refine ⟨_,rfl,_,_,_,_,rfl,rfl,cO.of ht,rfl,rfl,_,rfl, ?_⟩;refine dz (fun _=> ?_) (fun z=>absurd (decide_eq_true rfl) z);have hb:b<8:=eo;refine ⟨_,rfl,B.h,aq,B.hx,_,_,rfl,c.h,aP.cls,aP.jZ,rfl,rfl,_,rfl,_,_,_,_,rfl,rfl,cO.of ht,rfl,_,_,b,[],rfl,rfl,PN hb,_,_,_,_,rfl,rfl,bK.of c.b,dW (v:= .int ((z.bs[b]?).getD 0)) ?_,k⟩;have hl:b<z.bs.length:=by rw [c.bl];exact hb
    rw [List.getElem?_map,List.getElem?_eq_getElem hl];rfl
  | .two p x y,d,eo,dp,k=>
    obtain ⟨t,u,w',rfl,ht,du,dw⟩:=Xi d;have e1:zu (.one x)/\zu (.one y):=eo
    have dn:1<=n:=by
     have:2<=n+1:=dp;omega
    have np:∀q:Bool,(Str.ofString "number")≠(if q then Str.ofString "plus" else Str.ofString "minus"):=by decide +kernel
    have nb:∀q:Bool,(Str.ofString "box")≠(if q then Str.ofString "plus" else Str.ofString "minus"):=by decide +kernel
    refine ⟨_,rfl,_,_,_,_,rfl,rfl,cO.of ht,rfl,rfl,_,rfl, ?_⟩;refine dz (fun z=>absurd (by simpa using (of_decide_eq_true z).symm) (np p)) (fun _=> ?_);refine ⟨_,rfl,_,_,_,_,rfl,rfl,cO.of ht,rfl,rfl,_,rfl, ?_⟩;refine dz (fun z=>absurd (by simpa using (of_decide_eq_true z).symm) (nb p)) (fun _=> ?_);refine ⟨_,rfl,B.h,B.hx,_,rfl,c.h,rfl,_,rfl,_,_,_,_,rfl,rfl,cO.of ht,rfl,B,z,u,.one x,rfl,c,du,e1.1,dn, ?_⟩;refine ⟨_,rfl,B.h,B.hx,_,rfl,c.h,rfl,_,rfl,_,_,_,_,rfl,rfl,cO.of ht,rfl,B,z,w',.one y,rfl,c,dw,e1.2,dn, ?_⟩;refine ⟨_,rfl,_,_,_,_,rfl,rfl,cO.of ht,rfl,rfl,_,rfl, ?_⟩;cases p with
    | true=>
      refine dz (fun _=> ?_) (fun z=>absurd (decide_eq_true rfl) z);exact ⟨_,rfl,_,rfl,_,_,rfl,rfl,_,_,rfl,rfl,(by show (0:Int)<1000;decide),k⟩
    | false=>
      refine dz (fun z=>absurd (of_decide_eq_true z) (by decide)) (fun _=> ?_);exact ⟨_,rfl,_,rfl,_,_,rfl,rfl,_,_,rfl,rfl,(by show (0:Int)<1000;decide),k⟩
theorem Le (e:Jh):Gi e<=2:=by cases e<;>simp [Gi]
def CK (CH:Addr) (K:PySem.W.Frag):Sp:=fun vs H Q _=>∃(A:qK) (s:bH) (v:V) (q:Bool) (e f:Jh) (n:Nat),vs=[.ref A.h,v]/\pN CH H A s/\Dat H v (z9 (.Eu q e f n))/\zu e/\zu f/\Q (.bl (vW s.bs (.Eu q e f n))) H
theorem N8 {aq:Addr} {f:Addr} {fd:FuncData} (F:j9 K "holds" "Hand.holds" eO f fd) (bZ:MethAt P w K mg base 3 aq "value_of" ["self","part"] (ug aq 2 K)) (aP:iz K aq):bW P w K mg base lE 4 f fd ["self","row"] (CK aq K):=by
 refine F.ok nH (fun vs H Q E h=> ?_) (fun cdv A outer s H vs Q E hr h=> ?_)
 ·obtain ⟨A,s,v,q,e,f,n,rfl,_⟩:=h
  rfl
 ·obtain ⟨B,z,v,q,e,f,n,rfl,c,d,o1,o2,k⟩:=h
  refine ⟨_,(aD (bT (i:=2) nH.nd rfl (Or.inl rfl) (cF bZ aP.cls (hr.mono (by decide)) (pv 0) (aj (aY (bx (K:=K) rfl) (pv 1) aG (fun _ _=>rfl)) aC)))
   (aD (bT (i:=3) nH.nd rfl (Or.inl rfl) (cF bZ aP.cls (hr.mono (by decide)) (pv 0) (aj (aY (bx (K:=K) rfl) (pv 1) aG (fun _ _=>rfl)) aC)))
   (aL (bC (nU (bI ig (aY (bx (K:=K) rfl) (pv 1) aG (fun _ _=>rfl)) cN (bF _)) (fu ig (pv 2) (pv 3) (bF _)) (fu wC (pv 2) (pv 3) (bF _))))))), ?_⟩
  obtain ⟨t,ws,rfl,ht,x,y,rfl,dx,dy⟩:=JT d;refine ⟨_,rfl,B.h,B.hx,_,rfl,c.h,rfl,_,rfl,_,_,_,_,rfl,rfl,cO.of ht,rfl,B,z,x,e,rfl,c,dx,o1,Le e, ?_⟩;refine ⟨_,rfl,B.h,B.hx,_,rfl,c.h,rfl,_,rfl,_,_,_,_,rfl,rfl,cO.of ht,rfl,B,z,y,f,rfl,c,dy,o2,Le f, ?_⟩;refine ⟨_,rfl,_,_,_,_,rfl,rfl,cO.of ht,rfl,rfl,_,rfl, ?_⟩;cases q with
  | true=>
    refine dz (fun _=> ?_) (fun z=>absurd (decide_eq_true rfl) z);refine ⟨_,rfl,_,rfl,rfl, ?_⟩
    have:decide (V.int (vx z.bs e)=V.int (vx z.bs f))=vW z.bs (.Eu true e f n):=by
     show _=decide (vx z.bs e=vx z.bs f);rw [Bool.eq_iff_iff,decide_eq_true_iff,decide_eq_true_iff];exact ⟨fun z=>V.int.inj z,fun z=>by rw [z]⟩
    rw [this];exact k
  | false=>
    refine dz (fun z=>absurd (of_decide_eq_true z) (by decide)) (fun _=> ?_);exact ⟨_,rfl,_,rfl,_,_,rfl,rfl,k⟩
def Cu (CH:Addr) (K:PySem.W.Frag):Sp:=fun vs H Q _=>∃(A:qK) (s:bH) (b:Nat) (i:Int),vs=[.ref A.h,.str (LC b),.int i]/\pN CH H A s/\b<8/\Q .non (upd H A.b (.lst ((s.bs.set b i).map V.int)))
theorem Rk {aq:Addr} {f:Addr} {fd:FuncData} (F:j9 K "take" "Hand.take" fO f fd) (aP:iz K aq) (iW:Gv mg "BOXES" (.str "abcdefgh")):bW P w K mg base lE 1 f fd ["self","box","number"] (Cu aq K):=by
 refine F.ok CV (fun vs H Q E h=> ?_) (fun cdv A outer s H vs Q E hr h=> ?_)
 ·obtain ⟨A,s,b,i,rfl,_⟩:=h
  rfl
 ·obtain ⟨B,z,b,i,rfl,c,hb,k⟩:=h
  refine ⟨_,(aL (tu (pv 2) (tE (bw (K:=K) rfl (pv 0) rfl) (Di (K:=K) rfl PySem.F.plainAttrs_str PySem.F.slot_str_index PySem.F.type_str_index Bo (jJ (by rfl) iW.choose_spec.1 iW.choose_spec.2) (aj (pv 1) aC)) set_list))), ?_⟩;refine ⟨_,rfl,_,rfl,B.h,aq,B.hx,_,_,rfl,c.h,aP.cls,aP.jZ,rfl,rfl,_,rfl,_,_,b,[],rfl,rfl,PN hb, ?_⟩;rw [List.map_set] at k;exact ⟨B.b,_,_,b,rfl,rfl,c.b,(by rw [List.length_map,c.bl];unfold KY;rw [if_pos (by omega),if_pos (by omega)];simp),k⟩
def Vs (CH:Addr) (K:PySem.W.Frag):Sp:=fun vs H Q _=>∃(A:qK) (s:bH) (v:V) (r:Rw) (m:Nat),vs=[.ref A.h,v]/\pN CH H A s/\Dat H v (z9 r)/\YX m r/\touch r=false/\s.sy.length<1000000 /\ ∀H',pN CH H' A (rK s r)->KH A H H'->Q .non H'
theorem Zg {aq:Addr} {f:Addr} {fd:FuncData} (F:j9 K "do" "Hand.do" iT f fd) (bZ:MethAt P w K mg base 3 aq "value_of" ["self","part"] (ug aq 2 K)) (qJ:MethAt P w K mg base 1 aq "take" ["self","box","number"] (Cu aq K)) (Eo:MethAt P w K mg base 4 aq "holds" ["self","row"] (CK aq K)) (aP:iz K aq):bW P w K mg base lE 5 f fd ["self","row"] (Vs aq K):=by
 refine F.ok Ho (fun vs H Q E h=> ?_) (fun cdv A outer s H vs Q E hr h=> ?_)
 ·obtain ⟨A,s,v,r,m,rfl,_⟩:=h
  rfl
 ·obtain ⟨B,z,v,r,m,rfl,c,d,ro,tr,sl,k⟩:=h
  refine ⟨_,(aD (yQ (K:=K) rfl (pv 0) aG Dz)
   (aL (cD (bI ig (aY (bx (K:=K) rfl) (pv 1) aG (fun _ _=>rfl)) cN (bF _)) (aL (fj (cF qJ aP.cls (hr.mono (by decide)) (pv 0) (aj (aY (bx (K:=K) rfl) (pv 1) aG (fun _ _=>rfl)) (aj (cF bZ aP.cls (hr.mono (by decide)) (pv 0) (aj (aY (bx (K:=K) rfl) (pv 1) aG (fun _ _=>rfl)) aC)) aC))))) (aL (cD (bI ig (aY (bx (K:=K) rfl) (pv 1) aG (fun _ _=>rfl)) cN (bF _)) (aL (fj (mF (K:=K) rfl (bw (K:=K) rfl (pv 0) rfl) (aj (cF bZ aP.cls (hr.mono (by decide)) (pv 0) (aj (aY (bx (K:=K) rfl) (pv 1) aG (fun _ _=>rfl)) aC)) aC)))) (aL (cD (PW.pt (pK (bI ig (aY (bx (K:=K) rfl) (pv 1) aG (fun _ _=>rfl)) cN (bF _)) (mj (fB (dh (cF Eo aP.cls (hr.mono (by decide)) (pv 0) (aj (pv 1) aC))))))) (aL (cY (K:=K) rfl (pv 0) (aY (bx (K:=K) rfl) (pv 1) (Nm G6 aG) (fun _ _=>rfl)) rfl)) bL))))))), ?_⟩
  refine ⟨_,rfl,B.h,aq,B.hx,_,_,rfl,c.h,aP.cls,aP.vQ,rfl,_,_,rfl,rfl,B.hx,_,c.h,(by show 5<1000;decide), ?_⟩;rw [yP];have c1:=c.sY (z.pos+1) z.st;have k1:KH B H (upd H B.h (.ins aq B.hx (hF B.r ((z.pos+1:Nat):Int) B.b B.sy z.st))):=KH.sY;have d1:=d.keep (c.tup k1) _ (Il r);dsimp only;rw [show ((z.pos:Nat):Int)+1=((z.pos+1:Nat):Int) by omega];generalize (upd H B.h (.ins aq B.hx (hF B.r ((z.pos+1:Nat):Int) B.b B.sy z.st)))=H1 at c1 k1 d1 ⊢;obtain ⟨t,ws,rfl,ht,ps⟩:=JT d1;cases r with
  | load b cc=>cases tr
  | store cc e=>cases tr
  | swap b cc e=>cases tr
  | Du b e=>
    obtain ⟨x,rfl,dx⟩:=ps;refine ⟨_,rfl,_,_,_,_,rfl,rfl,cO.of ht,rfl,rfl,_,rfl, ?_⟩;refine dz (fun _=> ?_) (fun z=>absurd (decide_eq_true rfl) z);refine ⟨_,rfl,B.h,B.hx,_,rfl,c1.h,rfl,_,rfl,_,_,_,_,rfl,rfl,cO.of ht,rfl,_,rfl,B.h,B.hx,_,rfl,c1.h,rfl,_,rfl,_,_,_,_,rfl,rfl,cO.of ht,rfl,B,_,x,e,rfl,c1,dx,ro.2,Le e, ?_⟩;exact ⟨B,_,b,_,rfl,c1,ro.1,k _ (c1.M8 _ (by rw [List.length_set];exact c1.bl)) (k1.trans KH.M8)⟩
  | say e=>
    obtain ⟨x,rfl,dx⟩:=ps;refine ⟨_,rfl,_,_,_,_,rfl,rfl,cO.of ht,rfl,rfl,_,rfl, ?_⟩;refine dz (fun z=>absurd (of_decide_eq_true z) (by decide)) (fun _=> ?_);refine ⟨_,rfl,_,_,_,_,rfl,rfl,cO.of ht,rfl,rfl,_,rfl, ?_⟩;refine dz (fun _=> ?_) (fun z=>absurd (decide_eq_true rfl) z);refine ⟨_,rfl,B.h,aq,B.hx,_,_,rfl,c1.h,aP.cls,aP.qX,rfl,.inl ⟨rfl,_,bK.of c1.y⟩,_,rfl,B.h,B.hx,_,rfl,c1.h,rfl,_,rfl,_,_,_,_,rfl,rfl,cO.of ht,rfl,B,_,x,e,rfl,c1,dx,ro,Le e, ?_⟩;refine ⟨_,_,_,rfl,rfl,c1.y,(by rw [List.length_map,sizeLine_eq];show z.sy.length<_;omega), ?_⟩;have:=k _ (c1.Vw (z.sy++[vx z.bs e])) (k1.trans KH.Vw);rw [List.map_append] at this;exact this
  | go n=>
    obtain rfl:=ps;refine ⟨_,rfl,_,_,_,_,rfl,rfl,cO.of ht,rfl,rfl,_,rfl, ?_⟩;refine dz (fun z=>absurd (of_decide_eq_true z) (by decide)) (fun _=> ?_);refine ⟨_,rfl,_,_,_,_,rfl,rfl,cO.of ht,rfl,rfl,_,rfl, ?_⟩;refine dz (fun z=>absurd (of_decide_eq_true z) (by decide)) (fun _=> ?_);refine ⟨_,rfl,_,_,_,_,rfl,rfl,cO.of ht,rfl,rfl,_,rfl, ?_⟩;refine dz (fun _=> ?_) (fun z=>absurd (decide_eq_true rfl) z);refine jr ?_;refine ⟨_,rfl,_,rfl,_,_,_,_,rfl,rfl,cO.of ht,rfl,_,rfl,B.h,aq,B.hx,_,rfl,c1.h,aP.cls,aP.vQ,(by show 5<1000;decide), ?_⟩;rw [yP];exact k _ (c1.sY n z.st) (k1.trans KH.sY)
  | Eu q e f n=>
    obtain ⟨x,y,rfl,dx,dy⟩:=ps;refine ⟨_,rfl,_,_,_,_,rfl,rfl,cO.of ht,rfl,rfl,_,rfl, ?_⟩;refine dz (fun z=>absurd (of_decide_eq_true z) (by decide)) (fun _=> ?_);refine ⟨_,rfl,_,_,_,_,rfl,rfl,cO.of ht,rfl,rfl,_,rfl, ?_⟩;refine dz (fun z=>absurd (of_decide_eq_true z) (by decide)) (fun _=> ?_);refine ⟨_,rfl,_,_,_,_,rfl,rfl,cO.of ht,rfl,rfl,_,rfl, ?_⟩;refine dz (fun z=>absurd (of_decide_eq_true z) (by decide)) (fun _=> ?_);refine ⟨_,rfl,B.h,B.hx,_,rfl,c1.h,rfl,_,rfl,B,_,_,q,e,f,n,rfl,c1,d1,ro.1,ro.2,_,rfl, ?_⟩;cases hh:vW z.bs (.Eu q e f n) with
    | true=>
      refine dZ ?_;refine k _ ?_ k1;show pN aq H1 B {z with pos:=if vW z.bs (.Eu q e f n) then z.pos+1 else n};rw [hh];exact c1
    | false=>
      refine jr ?_;refine ⟨_,rfl,_,rfl,_,_,_,_,rfl,rfl,cO.of ht,rfl,_,rfl,B.h,aq,B.hx,_,rfl,c1.h,aP.cls,aP.vQ,(by show 5<1000;decide), ?_⟩;rw [yP];refine k _ ?_ (k1.trans KH.sY);show pN aq _ B {z with pos:=if vW z.bs (.Eu q e f n) then z.pos+1 else n};rw [hh];exact c1.sY n z.st
def gZ (H:Hp) (r:Addr) (m:Nat) (rws:List Rw):Prop:=∃ts,H r=some (.lst ts)/\bf H ts (rws.map z9)/\(∀x∈rws,YX m x)/\rws.length<=1000
theorem Gb (rws:List Rw):tO (rws.map z9)=true:=gW z9 Il rws
theorem gZ.keep {H H':Hp} {r:Addr} {m:Nat} {rws:List Rw} (h:gZ H r m rws) (k:∀o,H r=some o->H' r=some o) (t:∀x xs,H x=some (.tup xs)->H' x=some (.tup xs)):gZ H' r m rws:=by
 obtain ⟨ts,e,d,q⟩:=h;exact ⟨ts,k _ e,d.keep t _ (Gb rws),q⟩
theorem gZ.same {H H':Hp} {r:Addr} {m:Nat} {rws:List Rw} (h:gZ H r m rws) (k:Same H H'):gZ H' r m rws:=h.keep (fun o e=>k _ _ e) k.tups
def CJ (CH:Addr) (K:PySem.W.Frag):Sp:=fun vs H Q _=>∃(A:qK) (s:bH) (m:Nat),vs=[.ref A.h]/\pN CH H A s/\gZ H A.r m s.rws/\A.r≠A.b/\A.r≠A.sy/\s.sy.length<900000 /\ ∀H',pN CH H' A (lead s)->KH A H H'->Q .non H'
theorem Ro {aq:Addr} {f:Addr} {fd:FuncData} (F:j9 K "lead_on" "Hand.lead_on" cU f fd) (wB:FnAt P w K mg base 1 "cell_of" ["row"] (uq K)) (Lr:MethAt P w K mg base 5 aq "do" ["self","row"] (Vs aq K)) (aP:iz K aq) (iw:Gv mg "MOST_UNTOUCHING" (.int 60)) (Bt:rD mg):bW P w K mg base lE 6 f fd ["self"] (CJ aq K):=by
 refine F.ok lD (fun vs H Q E h=> ?_) (fun cdv A outer s H vs Q E hr h=> ?_)
 ·obtain ⟨A,s,m,rfl,_⟩:=h
  rfl
 ·obtain ⟨B,s,m,rfl,c,R,Zh,nry,sl,k⟩:=h
  refine ⟨_,(aD (bT (i:=1) lD.nd rfl (Or.inl rfl) aG)
   (aD (Nh PassesOwn.never (PW.pt (Ht (bI wC (bw (K:=K) rfl (pv 0) rfl) (aV (aX (K:=K) rfl) (by rfl) Bt.gq cX (aj (bw (K:=K) rfl (pv 0) rfl) aC)) (bF _)) (Dd (bI Dm (b_ wB (hr.mono (by decide)) (by rfl) (aj (aY (aZ (K:=K) rfl) (bw (K:=K) rfl (pv 0) rfl) (bw (K:=K) rfl (pv 0) rfl) (fun _ _=>rfl)) aC)) mD (bF _))))) (aD (cD (bI ig (pv 1) (jJ (by rfl) iw.choose_spec.1 iw.choose_spec.2) (bF _)) (aD (cY (K:=K) rfl (pv 0) cN rfl)
   (aL Q0)) bL)
   (aD (fj (cF Lr aP.cls (hr.mono (by decide)) (pv 0) (aj (aY (aZ (K:=K) rfl) (bw (K:=K) rfl (pv 0) rfl) (bw (K:=K) rfl (pv 0) rfl) (fun _ _=>rfl)) aC)))
   (aL (V0 (i:=1) lD.nd rfl (Or.inl rfl) aG Dz)))))
   (aL (cY (K:=K) rfl (pv 0) (nU (bI wC (bw (K:=K) rfl (pv 0) rfl) (aV (aX (K:=K) rfl) (by rfl) Bt.gq cX (aj (bw (K:=K) rfl (pv 0) rfl) aC)) (bF _)) cN cN) rfl)))), ?_⟩
  have nrh:B.r≠B.h:=by
   obtain ⟨ts,e,_⟩:=R;exact eY e c.h (by intro z;cases z)
  refine ⟨fun n σ H1=>∃(d:Nat) (z:bH),σ=[some (.ref B.h),some (.int d)]/\d<=60/\n=60 - d/\pN aq H1 B z/\KH B H H1/\led (60 - d) z=lead s/\z.rws=s.rws/\z.sy.length<=s.sy.length+d,
   ⟨60,0,s,rfl,by decide,rfl,c,KH.of_same (Same.refl _),rfl,rfl,Nat.le_refl _⟩,fun n σ H1 hσ=> ?_⟩
  obtain ⟨d,z,rfl,d60,rfl,c1,k1,hl,zr,zs⟩:=hσ
  have R1:gZ H1 B.r m z.rws:=by
   rw [zr];exact R.keep (fun o e=>k1 _ _ e nrh Zh nry) (c.tup k1)
  obtain ⟨ts,hts,X_,ro,rl⟩:=R1;have ln:ts.length=z.rws.length:=by rw [X_.length,List.length_map]
  refine ⟨_,rfl,B.h,aq,B.hx,_,_,rfl,c1.h,aP.cls,aP.vQ,rfl,_,rfl,B.h,aq,B.hx,_,_,rfl,c1.h,aP.cls,aP.qp,rfl,B.r,_,rfl,.inl (bK.of hts),_,_,rfl,rfl,_,rfl, ?_⟩;cases er:z.rws[z.pos]? with
  | none=>
    have ge:z.rws.length<=z.pos:=List.getElem?_eq_none_iff.mp er;have lf:¬decide (((z.pos:Nat):Int)<((ts.length:Nat):Int))=true:=by rw [ln];simp;omega
    refine dz (fun q=>absurd q lf) (fun _=> ?_);refine dZ ?_;refine ⟨_,rfl,B.h,aq,B.hx,_,_,rfl,c1.h,aP.cls,aP.vQ,rfl,_,rfl,B.h,aq,B.hx,_,_,rfl,c1.h,aP.cls,aP.qp,rfl,B.r,_,rfl,.inl (bK.of hts),_,_,rfl,rfl,_,rfl, ?_⟩;refine dz (fun q=>absurd q lf) (fun _=> ?_);refine ⟨_,rfl,B.h,aq,B.hx,_,rfl,c1.h,aP.cls,aP.mV,(by show 5<1000;decide), ?_⟩;rw [Df];refine k _ ?_ (k1.trans KH.sY)
    have:lead s={z with st:= "ends" }:=by
     rw [←hl];cases e60:60 - d<;>simp only [led,er]
    rw [this];exact c1.sY z.pos "ends"
  | some r=>
    have lt:z.pos<z.rws.length:=(List.getElem?_eq_some_iff.mp er).1;have lT:decide (((z.pos:Nat):Int)<((ts.length:Nat):Int))=true:=by rw [ln];simp;omega
    obtain ⟨v,ev,dv⟩:=X_.getD (i:=z.pos) (d:=z9 r) (by rw [List.getElem?_map,er];rfl);refine dz (fun _=> ?_) (fun q=>absurd lT q);refine ⟨_,rfl,B.h,aq,B.hx,_,_,rfl,c1.h,aP.cls,aP.qp,rfl,_,rfl,B.h,aq,B.hx,_,_,rfl,c1.h,aP.cls,aP.vQ,rfl,_,_,_,_,rfl,rfl,bK.of hts,dW ev,v,r,rfl,dv,fun H2 s2=>⟨rfl,_,rfl, ?_⟩⟩;have c2:=c1.same s2;have ZM:=s2 _ _ hts;have k2:=k1.trans (KH.of_same (A:=B) s2);cases tr:touch r with
    | true=>
      refine dz (fun q=>absurd (of_decide_eq_true q) (by unfold Gy;rw [if_pos tr];intro z;cases z)) (fun _=> ?_);refine ⟨_,rfl,B.h,aq,B.hx,_,_,rfl,c2.h,aP.cls,aP.vQ,rfl,_,rfl,B.h,aq,B.hx,_,_,rfl,c2.h,aP.cls,aP.qp,rfl,B.r,_,rfl,.inl (bK.of ZM),_,_,rfl,rfl,_,rfl, ?_⟩;refine dz (fun _=> ?_) (fun q=>absurd lT q);refine ⟨_,rfl,B.h,aq,B.hx,_,rfl,c2.h,aP.cls,aP.mV,(by show 5<1000;decide), ?_⟩;rw [Df];refine k _ ?_ (k2.trans KH.sY)
      have:lead s={z with st:= "waits" }:=by
       rw [←hl];cases e60:60 - d<;>simp only [led,er,tr,if_true]
      rw [this];exact c2.sY z.pos "waits"
    | false=>
      refine dz (fun _=> ?_) (fun q=>absurd (decide_eq_true (by unfold Gy;rw [if_neg (by rw [tr];decide)])) q);refine ⟨fun σ' H'=>∃m',m'<60 - d /\ ∃(d:Nat) (z:bH),σ'=[some (.ref B.h),some (.int d)]/\d<=60/\m'=60 - d/\pN aq H' B z/\KH B H H'/\led (60 - d) z=lead s/\z.rws=s.rws/\z.sy.length<=s.sy.length+d,fun _ _ q=>q, ?_⟩;refine ⟨_,rfl,rfl,_,rfl, ?_⟩
      by_cases e6:d=60
      ·subst e6
       refine dz (fun _=> ?_) (fun q=>absurd (decide_eq_true rfl) q);refine ⟨_,rfl,B.h,aq,B.hx,_,rfl,c2.h,aP.cls,aP.mV,(by show 5<1000;decide), ?_⟩;rw [Df];refine k _ ?_ (k2.trans KH.sY)
       have:lead s={z with st:= "lost" }:=by
        rw [←hl];show led 0 z=_;simp only [led,er,tr];rfl
       rw [this];exact c2.sY z.pos "lost"
      ·refine dz (fun q=>absurd (by have:=V.int.inj (of_decide_eq_true q);omega) e6) (fun _=> ?_)
       refine ⟨_,rfl,B.h,B.hx,_,rfl,c2.h,rfl,_,rfl,B.h,aq,B.hx,_,_,rfl,c2.h,aP.cls,aP.qp,rfl,_,rfl,B.h,aq,B.hx,_,_,rfl,c2.h,aP.cls,aP.vQ,rfl,_,_,_,_,rfl,rfl,bK.of ZM,dW ev,B,z,v,r,m,rfl,c2,dv.same s2 _,ro r (List.mem_of_getElem? er),tr,by omega,fun H3 c3 k3=> ?_⟩;refine ⟨_,rfl,_,_,rfl,rfl,60 - (d+1),by omega,d+1,rK z r,rfl,by omega,rfl,c3,k2.trans k3, ?_,by rw [BJ,zr], ?_⟩
       ·rw [←hl,show 60 - d=(60 - (d+1))+1 by omega]
        simp only [led,er,tr];rfl
       ·have:=Gp z r
        omega
def wF (pg nb hs tn:Addr):List (Str×V):=[("program",.ref pg),("numbers",.ref nb),("hands",.ref hs),("turns",.ref tn)]
def vO (m:Int) (ns:List Int):Prop:=(ns.length:Int)=m /\ ∀x∈ns,0<=x/\x<1000
def sX (CN:Addr) (K:PySem.W.Frag):Sp:=fun vs H Q E=>∃(cl:Addr) (m:Int) (ns:List Int),vs=[.ref cl,.int m]/\H cl=some (.lst (ns.map V.int))/\ns.length<=100/\(vO m ns -> ∀H',Same H H'->Q .non H')/\(¬vO m ns -> ∀H',Same H H'->E (.ref CN) none H')
theorem Fx {f:Addr} {fd:FuncData} (F:j9 K "check_numbers" "check_numbers" cI f fd) (gj:FnAt P w K mg base 2 "is_below" ["value","count"] (qP K)) (jO:Gv mg "ROUND" (.int 1000)) (Bt:rD mg) {aJ:Addr} (d8:Xr K mg aJ "NoNumber"):bW P w K mg base (vd P w) 3 f fd ["cells","count"] (sX aJ K):=by
 refine F.Rp vJ (fun vs H Q E h=> ?_) (fun cdv A outer s H vs Q E hr h hR=> ?_)
 ·obtain ⟨cl,m,ns,rfl,_⟩:=h
  rfl
 ·obtain ⟨cl,m,ns,rfl,hc,nl,k1,k2⟩:=h
  refine ⟨_,(aD (cD (PW.pt (pK (fB (dh (aV (cW (K:=K) (cv:= .ty "list") (c:= .type "list") rfl rfl) (by rfl) Bt.bJ bG (aj (pv 0) (aj (fQ (v:= .ty "list") (by rfl) Bt.jM iu rfl) aC))))) (mj (bI rJ (aV (aX (K:=K) rfl) (by rfl) Bt.gq cX (aj (pv 0) aC)) (pv 1) (bF _))))) (aL (mC PySem.F.excBase_ValueError d8.ex d8.bd (by rfl) rfl rfl hR (aj cN aC))) bL)
   (aL (cD (fB (dh (aV (gY (K:=K) rfl rfl) (by rfl) Bt.GP zE (aj (dU rfl (N:=["number"]) (own:=["number"]) (caps:=[]) (bh.of (by kernel_rfl)) (d_ (K:=K) rfl (pv 0)) (fun _ _ _ _=>(bO (i:=0) (show List.Nodup (["number"]:List Str) by decide +kernel) rfl (Or.inl rfl))) (fun _ _ _ _=>dR) (fun _ _ _ _=>(b_ gj (hr.mono (by decide)) (by rfl) (aj (pv 0) (aj (jJ (by rfl) jO.choose_spec.1 jO.choose_spec.2) aC))))) aC)))) (aL (mC PySem.F.excBase_ValueError d8.ex d8.bd (by rfl) rfl rfl hR (aj cN aC))) bL))), ?_⟩
  refine ⟨_,rfl,_,_,true,rfl,.lst hc,j8 K,true,rfl, ?_⟩;refine dZ ?_;refine ⟨_,rfl,cl,_,rfl,.inl (bK.of hc),_,rfl,rfl,_,rfl, ?_⟩;rw [List.length_map]
  by_cases el:(ns.length:Int)=m
  rotate_left
  ·refine dz (fun _=> ?_) (fun z=>absurd (by simp [el]) z)
   exact ⟨(by show 1<=sizeLine;decide),k2 (fun z=>el z.1) H (Same.refl _)⟩
  refine uM (by rw [el]) ?_;refine ⟨_,rfl,cl,rfl,⟨_,bK.of hc⟩,fun D hD=> ?_⟩;refine qC (K:=K) (fun i=>(ns[i]?).map fun x=>V.bl (decide (tM x 1000))) hD (bK.of hc) (by rw [List.length_map];omega) (fun i v H2 G F hi s2 kG kF=> ?_) (fun H2 s2 e2=> ?_)
  ·rw [List.getElem?_map] at hi
   cases ei:ns[i]? with
   | none=>rw [ei] at hi;cases hi
   | some z=>
     rw [ei] at hi;cases hi;exact ⟨_,rfl,z,1000,rfl,kF _ H2 (Same.refl _) (by rw [ei];rfl)⟩
  rw [List.length_map,JG] at e2;refine ⟨D,ns.map (fun x=>decide (tM x 1000)),rfl,bK.of (by rw [e2,List.map_map];rfl),_,rfl, ?_⟩
  by_cases al:∀x∈ns,tM x 1000
  ·have ea:(ns.map (fun x=>decide (tM x 1000))).all id=true:=by
    rw [List.all_map,List.all_eq_true];intro h hh;exact decide_eq_true (al h hh)
   rw [ea];refine dZ ?_;exact k1 ⟨el,fun x hx=>al x hx⟩ H2 s2
  ·have ea:(ns.map (fun x=>decide (tM x 1000))).all id=false:=by
    rw [List.all_map,←Bool.not_eq_true,List.all_eq_true];intro z;exact al fun h hh=>of_decide_eq_true (p:=tM h 1000) (z h hh)
   rw [ea];refine jr ?_;exact ⟨(by show 1<=sizeLine;decide),k2 (fun z=>al fun x hx=>z.2 x hx) H2 s2⟩
def vC (CW CH:Addr) (K:PySem.W.Frag):Sp:=fun vs H Q _=>∃(o dx pg nb hl tn:Addr) (A:qK) (s:bH) (m:Nat) (ns:List Int) (r:Rw),vs=[.ref o,.ref A.h]/\H o=some (.ins CW dx (wF pg nb hl tn))/\H nb=some (.lst (ns.map V.int))/\ns.length=m/\pN CH H A s/\gZ H A.r m s.rws /\
 s.rws[s.pos]? = some r/\touch r=true/\nb≠A.b/\nb≠A.sy /\
 ∀t H',H t=none->H' t=some (.tup (vB ns s.bs r))->pN CH H' A {s with bs:=Ed ns s.bs r}->H' nb=some (.lst ((pC ns s.bs r).map V.int))->(∀x u,H x=some u->x≠nb->x≠A.b->H' x=some u)->Q (.ref t) H'
theorem HJ {ak aq:Addr} {f:Addr} {fd:FuncData} (F:j9 K "touch_by" "Works.touch_by" cj f fd) (wB:FnAt P w K mg base 1 "cell_of" ["row"] (uq K)) (bZ:MethAt P w K mg base 3 aq "value_of" ["self","part"] (ug aq 2 K)) (qJ:MethAt P w K mg base 1 aq "take" ["self","box","number"] (Cu aq K)) (aQ:eZ K ak) (aP:iz K aq):bW P w K mg base lE 4 f fd ["self","one"] (vC ak aq K):=by
 refine F.ok fK (fun vs H Q E h=> ?_) (fun cdv A outer s H vs Q E hr h=> ?_)
 ·obtain ⟨o,dx,pg,nb,hl,tn,A,s,m,ns,r,rfl,_⟩:=h
  rfl
 ·obtain ⟨o,dx,pg,nb,hl,tn,B,z,m,ns,r,rfl,ho,hnb,nl,c,R,er,tr,Uh,XD,k⟩:=h
  refine ⟨_,(aD (bT (i:=2) fK.nd rfl (Or.inl rfl) (aY (aZ (K:=K) rfl) (bw (K:=K) rfl (pv 1) rfl) (bw (K:=K) rfl (pv 1) rfl) (fun _ _=>rfl)))
   (aD (bT (i:=3) fK.nd rfl (Or.inl rfl) (b_ wB (hr.mono (by decide)) (by rfl) (aj (pv 2) aC)))
   (aD (bT (i:=4) fK.nd rfl (Or.inl rfl) (nU (bI ig (aY (bx (K:=K) rfl) (pv 2) aG (fun _ _=>rfl)) cN (bF _)) mD (aY (aZ (K:=K) rfl) (bw (K:=K) rfl (pv 0) rfl) (pv 3) (fun _ _=>rfl))))
   (aD (bT (i:=5) fK.nd rfl (Or.inl rfl) (nU (bI ig (aY (bx (K:=K) rfl) (pv 2) aG (fun _ _=>rfl)) cN (bF _)) mD (cF bZ aP.cls (hr.mono (by decide)) (pv 1) (aj (aY (bx (K:=K) rfl) (pv 2) (Nm G6 aG) (fun _ _=>rfl)) aC))))
   (aD (cD (bI Ju (pv 4) mD (bF _)) (aL (fj (cF qJ aP.cls (hr.mono (by decide)) (pv 1) (aj (aY (bx (K:=K) rfl) (pv 2) aG (fun _ _=>rfl)) (aj (pv 4) aC))))) bL)
   (aD (cD (bI Ju (pv 5) mD (bF _)) (aL (tu (pv 5) (tE (bw (K:=K) rfl (pv 0) rfl) (pv 3) set_list))) bL)
   (aL (bC (jX (aj (aY (bx (K:=K) rfl) (pv 2) aG (fun _ _=>rfl)) (aj (pv 3) (aj (pv 4) (aj (pv 5) aC))))))))))))), ?_⟩
  obtain ⟨ts,hts,X_,ro,rl⟩:=R;obtain ⟨v,ev,dv⟩:=X_.getD (i:=z.pos) (d:=z9 r) (by rw [List.getElem?_map,er];rfl);have Qn:=ro r (List.mem_of_getElem? er);refine ⟨_,rfl,B.h,aq,B.hx,_,_,rfl,c.h,aP.cls,aP.qp,rfl,_,rfl,B.h,aq,B.hx,_,_,rfl,c.h,aP.cls,aP.vQ,rfl,_,_,_,_,rfl,rfl,bK.of hts,dW ev, ?_⟩;refine ⟨_,rfl,v,r,rfl,dv,fun H1 s1=> ?_⟩;have c1:=c.same s1;have ho1:=s1 _ _ ho;have DK:=s1 _ _ hnb;obtain ⟨t,ws,rfl,ht,ps⟩:=JT (dv.same s1 _);have nob:o≠nb:=eY ho1 DK (by intro z;cases z);have noB:o≠B.b:=eY ho1 c1.b (by intro z;cases z);have ntb:t≠B.b:=eY ht c1.b (by intro z;cases z);have ntn:t≠nb:=eY ht DK (by intro z;cases z);have cellOf:∀cc,cc<m->ns[cc]? = some ((ns[cc]?).getD 0):=fun cc h=>by rw [List.getElem?_eq_getElem (by omega)];rfl
  have cellAt:∀cc,cc<m->(ns.map V.int)[cc]? = some (.int ((ns[cc]?).getD 0)):=fun cc h=>by rw [List.getElem?_map,cellOf cc h];rfl
  have Zz:∀cc,cc<m->KY (ns.map V.int).length ((cc:Nat):Int)=some cc:=fun cc h=>by rw [List.length_map];unfold KY;rw [if_pos (by omega),if_pos (by omega)];simp
  cases r with
  | load b cc=>
    obtain rfl:=ps;refine ⟨_,rfl,_,_,_,_,rfl,rfl,cO.of ht,rfl,rfl,_,rfl, ?_⟩;refine dz (fun z=>absurd (of_decide_eq_true z) (by decide)) (fun _=> ?_);refine ⟨_,rfl,o,ak,dx,_,_,rfl,ho1,aQ.cls,aQ.lV,rfl,_,rfl,_,_,_,_,rfl,rfl,bK.of DK,dW (cellAt cc Qn.2), ?_⟩;refine ⟨_,rfl,_,_,_,_,rfl,rfl,cO.of ht,rfl,rfl,_,rfl, ?_⟩;refine dz (fun _=> ?_) (fun z=>absurd (decide_eq_true rfl) z);refine ⟨_,rfl,rfl,_,rfl, ?_⟩;refine jr ?_;refine ⟨_,rfl,B.h,B.hx,_,rfl,c1.h,rfl,_,rfl,_,_,_,_,rfl,rfl,cO.of ht,rfl,_,rfl,B,z,b,_,rfl,c1,Qn.1, ?_⟩;refine ⟨_,rfl,rfl,_,rfl, ?_⟩;refine dZ ?_;have c2:=c1.M8 (z.bs.set b ((ns[cc]?).getD 0)) (by rw [List.length_set];exact c1.bl);refine ⟨_,rfl,_,_,_,_,rfl,rfl,cO.of (by rw [aF ntb];exact ht),rfl,_,rfl,_,rfl,_,rfl,(by show 4<=sizeLine;decide),fun p hp=> ?_⟩;have sp:=aH (o:=HO.tup [V.str (Str.ofString "load"),V.int cc,V.int ((ns[cc]?).getD 0),V.non]) hp;refine k p _ ?_ ?_ (c2.same sp) (sp _ _ (by rw [aF Uh];exact DK)) ?_
    ·refine s1.free ?_
     have:p≠B.b:=fun e=>by rw [e,ao] at hp;cases hp
     rw [aF this] at hp;exact hp
    ·rw [ao]
     show some (HO.tup [V.str (Str.ofString "load"),V.int cc,V.int ((ns[cc]?).getD 0),V.non])=some (HO.tup [V.str (Str.ofString "load"),V.int cc,oV (ns[cc]?),V.non]);rw [cellOf cc Qn.2];rfl
    ·intro x u e n1 n2
     exact sp _ _ (by rw [aF n2];exact s1 _ _ e)
  | store cc e=>
    obtain ⟨x,rfl,W_⟩:=ps;refine ⟨_,rfl,_,_,_,_,rfl,rfl,cO.of ht,rfl,rfl,_,rfl, ?_⟩;refine dz (fun _=> ?_) (fun z=>absurd (decide_eq_true rfl) z);refine ⟨_,rfl,_,_,_,_,rfl,rfl,cO.of ht,rfl,rfl,_,rfl, ?_⟩;refine dz (fun z=>absurd (of_decide_eq_true z) (by decide)) (fun _=> ?_);refine ⟨_,rfl,B.h,B.hx,_,rfl,c1.h,rfl,_,rfl,_,rfl,_,_,_,_,rfl,rfl,cO.of ht,rfl,B,z,x,e,rfl,c1,W_,Qn.2,Le e, ?_⟩;refine ⟨_,rfl,rfl,_,rfl, ?_⟩;refine dZ ?_;refine ⟨_,rfl,rfl,_,rfl, ?_⟩;refine jr ?_;refine ⟨_,rfl,_,rfl,o,ak,dx,_,_,rfl,ho1,aQ.cls,aQ.lV,rfl,_,rfl,nb,_,_,cc,rfl,rfl,DK,Zz cc Qn.1, ?_⟩;rw [←List.map_set];refine ⟨_,rfl,_,_,_,_,rfl,rfl,cO.of (by rw [aF ntn];exact ht),rfl,_,rfl,_,rfl,_,rfl,(by show 4<=sizeLine;decide),fun p hp=> ?_⟩;have sp:=aH (o:=HO.tup [V.str (Str.ofString "store"),V.int cc,V.non,V.int (vx z.bs e)]) hp;have nbh:B.h≠nb:=eY c1.h DK (by intro z;cases z);refine k p _ ?_ ao (pN.same ⟨by rw [aF nbh];exact c1.h,by rw [aF Uh.symm];exact c1.b,by rw [aF XD.symm];exact c1.y,c1.Kz,c1.bl⟩ sp) (sp _ _ ao) ?_
    ·refine s1.free ?_
     have:p≠nb:=fun e=>by rw [e,ao] at hp;cases hp
     rw [aF this] at hp;exact hp
    ·intro x u e n1 n2
     exact sp _ _ (by rw [aF n1];exact s1 _ _ e)
  | swap b cc e=>
    obtain ⟨x,rfl,W_⟩:=ps;refine ⟨_,rfl,_,_,_,_,rfl,rfl,cO.of ht,rfl,rfl,_,rfl, ?_⟩;refine dz (fun z=>absurd (of_decide_eq_true z) (by decide)) (fun _=> ?_);refine ⟨_,rfl,o,ak,dx,_,_,rfl,ho1,aQ.cls,aQ.lV,rfl,_,rfl,_,_,_,_,rfl,rfl,bK.of DK,dW (cellAt cc Qn.2.1), ?_⟩;refine ⟨_,rfl,_,_,_,_,rfl,rfl,cO.of ht,rfl,rfl,_,rfl, ?_⟩;refine dz (fun z=>absurd (of_decide_eq_true z) (by decide)) (fun _=> ?_);refine ⟨_,rfl,B.h,B.hx,_,rfl,c1.h,rfl,_,rfl,_,rfl,_,_,_,_,rfl,rfl,cO.of ht,rfl,B,z,x,e,rfl,c1,W_,Qn.2.2,Le e, ?_⟩;refine ⟨_,rfl,rfl,_,rfl, ?_⟩;refine jr ?_;refine ⟨_,rfl,B.h,B.hx,_,rfl,c1.h,rfl,_,rfl,_,_,_,_,rfl,rfl,cO.of ht,rfl,_,rfl,B,z,b,_,rfl,c1,Qn.1, ?_⟩;refine ⟨_,rfl,rfl,_,rfl, ?_⟩;refine jr ?_;have c2:=c1.M8 (z.bs.set b ((ns[cc]?).getD 0)) (by rw [List.length_set];exact c1.bl);have ahQ:(upd H1 B.b (.lst ((z.bs.set b ((ns[cc]?).getD 0)).map V.int))) nb=some (.lst (ns.map V.int)):=by rw [aF Uh];exact DK
    refine ⟨_,rfl,_,rfl,o,ak,dx,_,_,rfl,(by rw [aF noB];exact ho1),aQ.cls,aQ.lV,rfl,_,rfl,nb,_,_,cc,rfl,rfl,ahQ,Zz cc Qn.2.1, ?_⟩;rw [←List.map_set];refine ⟨_,rfl,_,_,_,_,rfl,rfl,cO.of (by rw [aF ntn,aF ntb];exact ht),rfl,_,rfl,_,rfl,_,rfl,(by show 4<=sizeLine;decide),fun p hp=> ?_⟩;have sp:=aH (o:=HO.tup [V.str (Str.ofString "swap"),V.int cc,V.int ((ns[cc]?).getD 0),V.int (vx z.bs e)]) hp;have nbh:B.h≠nb:=eY c1.h DK (by intro z;cases z);refine k p _ ?_ ?_ (pN.same ⟨by rw [aF nbh];exact c2.h,by rw [aF Uh.symm];exact c2.b,by rw [aF XD.symm];exact c2.y,c2.Kz,c2.bl⟩ sp) (sp _ _ ao) ?_
    ·refine s1.free ?_
     have n1:p≠nb:=fun e=>by rw [e,ao] at hp;cases hp
     rw [aF n1] at hp;have n2:p≠B.b:=fun e=>by rw [e,ao] at hp;cases hp
     rw [aF n2] at hp;exact hp
    ·rw [ao]
     show some (HO.tup [V.str (Str.ofString "swap"),V.int cc,V.int ((ns[cc]?).getD 0),V.int (vx z.bs e)])=some (HO.tup [V.str (Str.ofString "swap"),V.int cc,oV (ns[cc]?),V.int (vx z.bs e)]);rw [cellOf cc Qn.2.1];rfl
    ·intro x u e n1 n2
     exact sp _ _ (by rw [aF n1,aF n2];exact s1 _ _ e)
  | Du b e=>cases tr
  | say e=>cases tr
  | go n=>cases tr
  | Eu q e f n=>cases tr
structure Jd where
 (o dx pg L nb hl tn:Addr) (rs:List Addr) (hd:List qK)
structure wY (CH:Addr) (i k m:Nat) (τ:Tg) (H:Hp) (A:qK) (s:bH):Prop where
 c:pN CH H A s
 r:gZ H A.r m s.rws
 tr:τ A.r=[0]
 th:τ A.h=[i,4,k]
 tb:τ A.b=[i,5,k]
 ty:τ A.sy=[i,6,k]
structure tY (CW CH:Addr) (i:Nat) (τ:Tg) (H:Hp) (W:Jd) (S:lQ):Prop where
 un:rA τ H
 i0:i≠0
 o:H W.o=some (.ins CW W.dx (wF W.pg W.nb W.hl W.tn))
 pg:H W.pg=some (.tup [.int S.m,.ref W.L])
 L:H W.L=some (.lst (W.rs.map V.ref))
 nb:H W.nb=some (.lst (S.ns.map V.int))
 hl:H W.hl=some (.lst (W.hd.map fun a=> .ref a.h))
 tn:H W.tn=some (.lst (S.ts.map V.int))
 to:τ W.o=[i,0]
 tb:τ W.nb=[i,1]
 tl:τ W.hl=[i,2]
 tt:τ W.tn=[i,3]
 tL:τ W.L=[0]
 rl:W.rs.length=S.hs.length
 rs:∀(k:Nat) (r:Addr) (s:bH),W.rs[k]? = some r->S.hs[k]? = some s->τ r=[0]/\gZ H r S.m s.rws
 len:W.hd.length=S.hs.length
 hd:∀(k:Nat) (A:qK) (s:bH),W.hd[k]? = some A->S.hs[k]? = some s->wY CH i k S.m τ H A s
 ok:∀s∈S.hs,rC s
 sl:∀s∈S.hs,s.sy.length<=60*(S.ts.length+1)
 nl:S.ns.length=S.m
 hn:S.hs.length<=100
section
variable {CW CH:Addr} {i:Nat} {τ τ':Tg} {H H':Hp} {W:Jd} {S:lQ}
theorem wY.mv {k m:Nat} {A:qK} {s:bH} (h:wY CH i k m τ H A s) (q:Mv i τ H τ' H'):wY CH i k m τ' H' A s:=by
 obtain ⟨⟨c1,c2,c3,c4,c5⟩,r,tr,th,tb,ty⟩:=h;have e1:=q.keep _ _ c1 (.inr (by rw [th];rfl));have e2:=q.keep _ _ c2 (.inr (by rw [tb];rfl));have e3:=q.keep _ _ c3 (.inr (by rw [ty];rfl));have rr:=r;obtain ⟨ts,hr,_⟩:=rr;have e4:=q.keep _ _ hr (.inl tr);exact ⟨⟨e1.1,e2.1,e3.1,c4,c5⟩,r.keep (fun o e=>(q.keep _ _ e (.inl tr)).1) q.tup,e4.2.trans tr,e1.2.trans th,e2.2.trans tb,e3.2.trans ty⟩
theorem QT {r:Addr} {m:Nat} {rws:List Rw} (h:τ r=[0]/\gZ H r m rws) (q:Mv i τ H τ' H'):τ' r=[0]/\gZ H' r m rws:=by
 obtain ⟨t,R⟩:=h;have rr:=R;obtain ⟨ts,hr,_⟩:=rr;have e4:=q.keep _ _ hr (.inl t);exact ⟨e4.2.trans t,R.keep (fun o e=>(q.keep _ _ e (.inl t)).1) q.tup⟩
theorem tY.mv (w:tY CW CH i τ H W S) (q:Mv i τ H τ' H') (u:rA τ' H'):tY CW CH i τ' H' W S:=by
 have e1:=q.keep _ _ w.o (.inr (by rw [w.to];rfl));have e2:=q.keep _ _ w.nb (.inr (by rw [w.tb];rfl));have e3:=q.keep _ _ w.hl (.inr (by rw [w.tl];rfl));have e4:=q.keep _ _ w.tn (.inr (by rw [w.tt];rfl));have e5:=q.keep _ _ w.L (.inl w.tL);exact ⟨u,w.i0,e1.1,q.tup _ _ w.pg,e5.1,e2.1,e3.1,e4.1,e1.2.trans w.to,e2.2.trans w.tb,e3.2.trans w.tl,e4.2.trans w.tt,e5.2.trans w.tL,w.rl,fun k r s h1 h2=>QT (w.rs k r s h1 h2) q,w.len,fun k A s h1 h2=>(w.hd k A s h1 h2).mv q,w.ok,w.sl,w.nl,w.hn⟩
theorem tY.same (w:tY CW CH i τ H W S) (k:Same H H'):tY CW CH i τ H' W S:=w.mv (Mv.of_same k) (w.un.same k)
theorem tY.hand {k:Nat} {s:bH} (w:tY CW CH i τ H W S) (h:S.hs[k]? = some s):∃A,W.hd[k]? = some A/\wY CH i k S.m τ H A s:=by
 have:k<W.hd.length:=by rw [w.len];exact (List.getElem?_eq_some_iff.mp h).1
 exact ⟨W.hd[k],by simp [this],w.hd k _ _ (by simp [this]) h⟩
end
def p7 (CW CH CN:Addr) (K:PySem.W.Frag):Sp:=fun vs H Q E=>∃(i:Nat) (τ:Tg) (W:Jd) (S:lQ) (h:Int),vs=[.ref W.o,.int h]/\tY CW CH i τ H W S/\(∀(k:Nat) (A:qK) (s:bH),h=k->W.hd[k]? = some A->S.hs[k]? = some s->Q (.ref A.h) H)/\(¬tM h S.hs.length->E (.ref CN) none H)
theorem Kq {ak aq:Addr} {f:Addr} {fd:FuncData} (F:j9 K "hand_of" "Works.hand_of" cJ f fd) (gj:FnAt P w K mg base 2 "is_below" ["value","count"] (qP K)) (aQ:eZ K ak) (Bt:rD mg) {aK:Addr} (cH:Xr K mg aK "NoHand"):bW P w K mg base (vd P w) 3 f fd ["self","hand"] (p7 ak aq aK K):=by
 refine F.Rp vK (fun vs H Q E h=> ?_) (fun cdv A outer s H vs Q E hr h hR=> ?_)
 ·obtain ⟨i,τ,W,S,h,rfl,_⟩:=h
  rfl
 ·obtain ⟨i,τ,W,S,h,rfl,w,k1,k2⟩:=h
  refine ⟨_,(aD (cD (fB (dh (b_ gj (hr.mono (by decide)) (by rfl) (aj (pv 1) (aj (aV (aX (K:=K) rfl) (by rfl) Bt.gq cX (aj (bw (K:=K) rfl (pv 0) rfl) aC)) aC))))) (aL (mC PySem.F.excBase_ValueError cH.ex cH.bd (by rfl) rfl rfl hR (aj cN aC))) bL)
   (aL (bC (aY (aZ (K:=K) rfl) (bw (K:=K) rfl (pv 0) rfl) (pv 1) (fun _ _=>rfl))))), ?_⟩
  refine ⟨_,rfl,_,rfl,W.o,ak,W.dx,_,_,rfl,w.o,aQ.cls,aQ.o8,rfl,W.hl,_,rfl,.inl (bK.of w.hl),h,_,rfl,_,rfl, ?_⟩;have ll:(W.hd.map fun a=>V.ref a.h).length=S.hs.length:=by rw [List.length_map,w.len]
  by_cases hh:tM h (W.hd.map fun a=>V.ref a.h).length
  ·rw [decide_eq_true hh]
   refine dZ ?_;obtain ⟨n,rfl⟩:=Int.eq_ofNat_of_zero_le hh.1;have nl:n<S.hs.length:=by have:=hh.2;rw [ll] at this;omega
   have es:S.hs[n]? = some S.hs[n]:=by simp [nl]
   obtain ⟨A,eA,_⟩:=w.hand es;exact ⟨_,rfl,W.o,ak,W.dx,_,_,rfl,w.o,aQ.cls,aQ.o8,rfl,_,rfl,_,_,_,_,rfl,rfl,bK.of w.hl,dW (by rw [List.getElem?_map,eA];rfl),k1 n A _ rfl eA es⟩
  ·rw [decide_eq_false hh]
   refine jr ?_;rw [ll] at hh;exact ⟨(by show 1<=sizeLine;decide),k2 hh⟩
def G_ (f:bH->List Int) (CW CH CN:Addr) (K:PySem.W.Frag):Sp:=fun vs H Q E=>∃(i:Nat) (τ:Tg) (W:Jd) (S:lQ) (h:Int),vs=[.ref W.o,.int h]/\tY CW CH i τ H W S /\
 (∀(k:Nat) (s:bH) (l:Addr) (H':Hp),h=k->S.hs[k]? = some s->H l=none->H' l=some (.lst ((f s).map V.int))->Same H H'->Q (.ref l) H')/\(¬tM h S.hs.length->E (.ref CN) none H)
theorem Ob {ak aq aK:Addr} {f:Addr} {fd:FuncData} (F:j9 K "boxes" "Works.boxes" dG f fd) (g_:iV P w K mg base 3 ak "hand_of" ["self","hand"] (p7 ak aq aK K)) (aQ:eZ K ak) (aP:iz K aq) (Bt:rD mg):bW P w K mg base (vd P w) 4 f fd ["self","hand"] (G_ bH.bs ak aq aK K):=by
 refine F.Rp yK (fun vs H Q E h=> ?_) (fun cdv A outer s H vs Q E hr h hR=> ?_)
 ·obtain ⟨i,τ,W,S,h,rfl,_⟩:=h
  rfl
 ·obtain ⟨i,τ,W,S,h,rfl,w,k1,k2⟩:=h
  refine ⟨_,(aL (bC (dj (cQ (K:=K) rfl) (by rfl) Bt.jM iu (aj (bw (K:=K) rfl (qg g_ aQ.cls rfl hR (hr.mono (by decide)) (pv 0) (aj (pv 1) aC)) rfl) aC)))), ?_⟩;refine ⟨_,rfl,W.o,W.dx,_,rfl,w.o,rfl,_,rfl,i,τ,W,S,h,rfl,w,fun k A s e eA es=> ?_,k2⟩;have a:=w.hd k A s eA es;exact ⟨A.h,aq,A.hx,_,_,rfl,a.c.h,aP.cls,aP.jZ,rfl,A.b,_,rfl,.inl (bK.of a.c.b),fun l hl=>k1 k s l _ e es hl ao (aH hl)⟩
def Jm (CW CH CN:Addr) (K:PySem.W.Frag):Sp:=fun vs H Q E=>∃(i:Nat) (τ:Tg) (W:Jd) (S:lQ) (h:Int),vs=[.ref W.o,.int h]/\tY CW CH i τ H W S/\(∀(k:Nat) (s:bH),h=k->S.hs[k]? = some s->Q (.str s.st) H)/\(¬tM h S.hs.length->E (.ref CN) none H)
theorem Wd {ak aq aK:Addr} {f:Addr} {fd:FuncData} (F:j9 K "how" "Works.how" fM f fd) (g_:iV P w K mg base 3 ak "hand_of" ["self","hand"] (p7 ak aq aK K)) (aQ:eZ K ak) (aP:iz K aq):bW P w K mg base (vd P w) 4 f fd ["self","hand"] (Jm ak aq aK K):=by
 refine F.Rp CT (fun vs H Q E h=> ?_) (fun cdv A outer s H vs Q E hr h hR=> ?_)
 ·obtain ⟨i,τ,W,S,h,rfl,_⟩:=h
  rfl
 ·obtain ⟨i,τ,W,S,h,rfl,w,k1,k2⟩:=h
  refine ⟨_,(aL (bC (bw (K:=K) rfl (qg g_ aQ.cls rfl hR (hr.mono (by decide)) (pv 0) (aj (pv 1) aC)) rfl))), ?_⟩;refine ⟨_,rfl,W.o,W.dx,_,rfl,w.o,rfl,_,rfl,i,τ,W,S,h,rfl,w,fun k A s e eA es=> ?_,k2⟩;have a:=w.hd k A s eA es;exact ⟨A.h,aq,A.hx,_,_,rfl,a.c.h,aP.cls,aP.mV,rfl,k1 k s e es⟩
def Gw (S:lQ):List Int:=(List.range S.hs.length).map fun k:Nat=>((S.ts.count (k:Int):Nat):Int)
def p8 (CW CH:Addr) (K:PySem.W.Frag):Sp:=fun vs H Q _=>∃(i:Nat) (τ:Tg) (W:Jd) (S:lQ),vs=[.ref W.o]/\tY CW CH i τ H W S /\ ∀l H',H l=none->H' l=some (.lst ((Gw S).map V.int))->Same H H'->Q (.ref l) H'
theorem Ku {ak aq:Addr} {f:Addr} {fd:FuncData} (F:j9 K "counts" "Works.counts" cR f fd) (aQ:eZ K ak) (Bt:rD mg):bW P w K mg base lE 1 f fd ["self"] (p8 ak aq K):=by
 refine F.ok wN (fun vs H Q E h=> ?_) (fun cdv A outer s H vs Q E hr h=> ?_)
 ·obtain ⟨i,τ,W,S,rfl,_⟩:=h
  rfl
 ·obtain ⟨i,τ,W,S,rfl,w,k⟩:=h
  refine ⟨_,(aL (bC (dU rfl (N:=["hand","self"]) (own:=["hand"]) (caps:=[0]) (bh.of (by kernel_rfl)) (fG (by rfl) Bt.iU (aj (aV (aX (K:=K) rfl) (by rfl) Bt.gq cX (aj (bw (K:=K) rfl (pv 0) rfl) aC)) aC)) (fun _ _ _ _=>(bO (i:=0) (show List.Nodup (["hand","self"]:List Str) by decide +kernel) rfl (Or.inl rfl))) (fun _ _ _ _=>dR) (fun _ _ _ _=>(Di (K:=K) rfl PySem.F.plainAttrs_list PySem.F.slot_list_count PySem.F.type_list_count (KD (K:=K) rfl) (bw (K:=K) rfl (pv 1) rfl) (aj (pv 0) aC)))))), ?_⟩;have ll:(W.hd.map fun a=>V.ref a.h).length=S.hs.length:=by rw [List.length_map,w.len]
  refine ⟨_,rfl,W.o,ak,W.dx,_,_,rfl,w.o,aQ.cls,aQ.o8,rfl,W.hl,_,rfl,.inl (bK.of w.hl),_,rfl,(by rw [ll];have:=w.hn;omega),(by rw [ll];have:=w.hn;omega),fun D hD=> ?_⟩;rw [ll,Int.toNat_natCast];refine nZ (fun j:Nat=>some (.int ((S.ts.count (j:Int):Nat):Int))) hD (by have:=w.hn;omega) (fun j H1 G F hj s1 kG kF=> ?_) (fun H1 s1 e1=> ?_)
  ·refine ⟨_,rfl,W.o,ak,W.dx,_,_,rfl,s1 _ _ w.o,aQ.cls,aQ.uI,rfl,.inl ⟨rfl,_,bK.of (s1 _ _ w.tn)⟩,_,rfl,_,S.ts,_,rfl,rfl,bK.of (s1 _ _ w.tn),kF _ H1 (Same.refl _) (by rw [Int.zero_add])⟩
  ·refine k D H1 hD ?_ s1
   rw [e1];unfold Gw;rw [List.map_map,List.filterMap_eq_map'];rfl
structure rG (C:List (List Nat)) (τ:Tg) (H:Hp) (τ':Tg) (H':Hp):Prop where
 keep:∀x u,H x=some u->τ x∉C->H' x=some u/\τ' x=τ x
 tup:∀x xs,H x=some (.tup xs)->H' x=some (.tup xs)
theorem rG.of_same {C:List (List Nat)} {τ:Tg} {H H':Hp} (k:Same H H'):rG C τ H τ H':=⟨fun x u e _=>⟨k _ _ e,rfl⟩,k.tups⟩
theorem rG.claim {C:List (List Nat)} {τ:Tg} {H H':Hp} {p:Addr} {t:List Nat} (k:Same H H') (hp:H p=none):rG C τ H (aR τ p t) H':=⟨fun x u e _=>⟨k _ _ e,aU (aB e hp)⟩,k.tups⟩
theorem rG.set {C:List (List Nat)} {τ:Tg} {H:Hp} {x:Addr} {o u:HO} (ht:τ x∈C) (hx:H x=some o) (hn:∀xs,o ≠ .tup xs):rG C τ H τ (upd H x u):=
 ⟨fun y v e n=>⟨by rw [aF (fun z:y=x=>n (by rw [z];exact ht))];exact e,rfl⟩,fun y xs e=>by rw [aF (eY e hx fun z=>hn xs z.symm)];exact e⟩
theorem rG.trans {C:List (List Nat)} {τ τ1 τ2:Tg} {H H1 H2:Hp} (a:rG C τ H τ1 H1) (b:rG C τ1 H1 τ2 H2):rG C τ H τ2 H2:=⟨fun x u e n=>by
 obtain ⟨e1,t1⟩:=a.keep x u e n;obtain ⟨e2,t2⟩:=b.keep x u e1 (by rw [t1];exact n);exact ⟨e2,by rw [t2,t1]⟩,fun x xs e=>b.tup _ _ (a.tup _ _ e)⟩
theorem wY.XM {C:List (List Nat)} {CH:Addr} {i k m:Nat} {τ τ':Tg} {H H':Hp} {A:qK} {s:bH} (h:wY CH i k m τ H A s) (q:rG C τ H τ' H') (h0:[0]∉C) (h4:[i,4,k]∉C) (h5:[i,5,k]∉C) (h6:[i,6,k]∉C):wY CH i k m τ' H' A s:=by
 obtain ⟨⟨c1,c2,c3,c4,c5⟩,r,tr,th,tb,ty⟩:=h;have e1:=q.keep _ _ c1 (by rw [th];exact h4);have e2:=q.keep _ _ c2 (by rw [tb];exact h5);have e3:=q.keep _ _ c3 (by rw [ty];exact h6);have rr:=r;obtain ⟨ts,hr,_⟩:=rr;have e4:=q.keep _ _ hr (by rw [tr];exact h0);exact ⟨⟨e1.1,e2.1,e3.1,c4,c5⟩,r.keep (fun o e=>(q.keep _ _ e (by rw [tr];exact h0)).1) q.tup,e4.2.trans tr,e1.2.trans th,e2.2.trans tb,e3.2.trans ty⟩
theorem jh {C:List (List Nat)} {τ τ':Tg} {H H':Hp} {r:Addr} {m:Nat} {rws:List Rw} (h:τ r=[0]/\gZ H r m rws) (q:rG C τ H τ' H') (h0:[0]∉C):τ' r=[0]/\gZ H' r m rws:=by
 obtain ⟨t,R⟩:=h;have rr:=R;obtain ⟨ts,hr,_⟩:=rr;have e4:=q.keep _ _ hr (by rw [t];exact h0);exact ⟨e4.2.trans t,R.keep (fun o e=>(q.keep _ _ e (by rw [t];exact h0)).1) q.tup⟩
def yu (CW CH CN CO:Addr) (K:PySem.W.Frag):Sp:=fun vs H Q E=>∃(i:Nat) (τ:Tg) (W:Jd) (S:lQ) (h:Int),vs=[.ref W.o,.int h]/\tY CW CH i τ H W S/\S.ts.length<=10000 /\
 (∀(k:Nat) (s:bH) (r:Rw) (t:Addr) (H':Hp),h=k->S.hs[k]? = some s->s.st = "waits" -> s.rws[s.pos]? = some r->touch r=true->H t=none->H' t=some (.tup (vB S.ns s.bs r))->tY CW CH i τ H' W (j_ S k)->mH i τ H H'->Q (.ref t) H') /\
 (¬tM h S.hs.length->E (.ref CN) none H)/\(∀(k:Nat) (s:bH),h=k->S.hs[k]? = some s->s.st ≠ "waits" -> E (.ref CO) none H)
theorem Mz {S:lQ} {k:Nat} {s:bH} {r:Rw} (es:S.hs[k]? = some s) (er:s.rws[s.pos]? = some r):j_ S k={S with ns:=pC S.ns s.bs r,hs:=S.hs.set k (nY S.ns s r),ts:=S.ts++[(k:Int)]}:=by
 unfold j_;simp only [es,er]
theorem Iv (ns bs:List Int) (r:Rw):(pC ns bs r).length=ns.length:=by cases r<;>simp [pC]
theorem tY.turned {CW CH:Addr} {i:Nat} {τ:Tg} {H H':Hp} {W:Jd} {S:lQ} {k:Nat} {A:qK} {s:bH} {r:Rw} (w:tY CW CH i τ H W S) (eA:W.hd[k]? = some A) (es:S.hs[k]? = some s) (er:s.rws[s.pos]? = some r)
 (kp:∀x u,H x=some u->x≠W.nb->x≠A.b->x≠A.h->x≠A.sy->x≠W.tn->H' x=some u) (c:pN CH H' A (nY S.ns s r)) (hnb:H' W.nb=some (.lst ((pC S.ns s.bs r).map V.int))) (htn:H' W.tn=some (.lst ((S.ts++[(k:Int)]).map V.int))):tY CW CH i τ H' W (j_ S k)/\mH i τ H H':=by
 have a:=w.hd k A s eA es;have tup:∀x xs,H x=some (.tup xs)->H' x=some (.tup xs):=fun x xs e=>kp _ _ e (eY e w.nb (by intro z;cases z)) (eY e a.c.b (by intro z;cases z)) (eY e a.c.h (by intro z;cases z)) (eY e a.c.y (by intro z;cases z)) (eY e w.tn (by intro z;cases z))
 have st:mH i τ H H':=by
  refine ⟨fun x u e n=> ?_,tup,fun x e=> ?_⟩
  ·have ne:∀(y:Addr) (t:List Nat),τ y=i::t->x≠y:=fun y t ty z=>n (by rw [z,ty];rfl)
   exact kp _ _ e (ne _ _ w.tb) (ne _ _ a.tb) (ne _ _ a.th) (ne _ _ a.ty) (ne _ _ w.tt)
  ·cases q:H x with
   | none=>rfl
   | some u=>
     have no:∀y o,H' y=some o->x≠y:=fun y o h z=>by rw [z,h] at e;cases e
     rw [kp _ _ q (no _ _ hnb) (no _ _ c.b) (no _ _ c.h) (no _ _ c.y) (no _ _ htn)] at e;cases e
 refine ⟨?_,st⟩
 have q:rG [[i,1],[i,5,k],[i,4,k],[i,6,k],[i,3]] τ H τ H':=by
  refine ⟨fun x u e n=>⟨?_,rfl⟩,tup⟩;have ne:∀(y:Addr) (t:List Nat),τ y=t->t∈[[i,1],[i,5,k],[i,4,k],[i,6,k],[i,3]]->x≠y:=fun y t ty ht z=>n (by rw [z,ty];exact ht);exact kp _ _ e (ne _ _ w.tb (by simp)) (ne _ _ a.tb (by simp)) (ne _ _ a.th (by simp)) (ne _ _ a.ty (by simp)) (ne _ _ w.tt (by simp))
 have i0:=w.i0;have z0:[0]∉[[i,1],[i,5,k],[i,4,k],[i,6,k],[i,3]]:=by simp
 rw [Mz es er];have hk:k<S.hs.length:=(List.getElem?_eq_some_iff.mp es).1
 have get:∀(j:Nat) (s':bH),(S.hs.set k (nY S.ns s r))[j]? = some s'->(j=k/\s'=nY S.ns s r)\/(j≠k/\S.hs[j]? = some s'):=fun j s' e=>by
  rw [List.getElem?_set] at e
  by_cases z:k=j
  ·subst z
   simp [hk] at e;exact .inl ⟨rfl,e.symm⟩
  ·rw [if_neg z] at e
   exact .inr ⟨fun y=>z y.symm,e⟩
 have gr:(nY S.ns s r).rws=s.rws:=uL _ _;have mem:∀s'∈S.hs.set k (nY S.ns s r),s'=nY S.ns s r\/s'∈S.hs:=fun s' m=>(List.mem_or_eq_of_mem_set m).symm;refine ⟨st.un w.un,i0,(q.keep _ _ w.o (by rw [w.to];simp)).1,tup _ _ w.pg,(q.keep _ _ w.L (by rw [w.tL];exact z0)).1,hnb,(q.keep _ _ w.hl (by rw [w.tl];simp)).1,htn,w.to,w.tb,w.tl,w.tt,w.tL, ?_, ?_, ?_, ?_, ?_, ?_, ?_, ?_⟩
 ·simp [w.rl]
 ·intro j r' s' h1 h2
  rcases get j s' h2 with ⟨rfl,rfl⟩|⟨_,h2⟩
  ·rw [gr]
   exact jh (w.rs j r' s h1 es) q z0
  ·exact jh (w.rs j r' s' h1 h2) q z0
 ·simp [w.len]
 ·intro j A' s' h1 h2
  rcases get j s' h2 with ⟨rfl,rfl⟩|⟨nj,h2⟩
  ·rw [eA] at h1
   cases h1;refine ⟨c, ?_,a.tr,a.th,a.tb,a.ty⟩;rw [gr];exact (jh ⟨a.tr,a.r⟩ q z0).2
  ·exact (w.hd j A' s' h1 h2).XM q z0 (by simp [nj]) (by simp [nj]) (by simp [nj])
 ·intro s' m
  rcases mem s' m with rfl|m
  ·exact Ii _ _
  ·exact w.ok s' m
 ·intro s' m
  simp only [List.length_append,List.length_singleton];rcases mem s' m with rfl|m
  ·have:=Ih 60 {s with pos:=s.pos+1,bs:=Ed S.ns s.bs r}
   have:=w.sl s (List.mem_of_getElem? es);show (led 60 _).sy.length<=_;simp only at *;omega
  ·have:=w.sl s' m
   omega
 ·show (pC S.ns s.bs r).length=S.m
  rw [Iv,w.nl]
 ·simp [w.hn]
theorem Rj {ak aq aK aW:Addr} {f:Addr} {fd:FuncData} (F:j9 K "turn" "Works.turn" eN f fd) (g_:iV P w K mg base 3 ak "hand_of" ["self","hand"] (p7 ak aq aK K)) (wj:MethAt P w K mg base 4 ak "touch_by" ["self","one"] (vC ak aq K)) (mJ:MethAt P w K mg base 6 aq "lead_on" ["self"] (CJ aq K)) (aQ:eZ K ak) (aP:iz K aq) (gQ:Xr K mg aW "Over"):bW P w K mg base (vd P w) 7 f fd ["self","hand"] (yu ak aq aK aW K):=by
 refine F.Rp nF (fun vs H Q E h=> ?_) (fun cdv A outer s H vs Q E hr h hR=> ?_)
 ·obtain ⟨i,τ,W,S,h,rfl,_⟩:=h
  rfl
 ·obtain ⟨i,τ,W,S,h,rfl,w,tl,k1,k2,k3⟩:=h
  refine ⟨_,(aD (bT (i:=2) nF.nd rfl (Or.inl rfl) (qg g_ aQ.cls rfl hR (hr.mono (by decide)) (pv 0) (aj (pv 1) aC)))
   (aD (cD (bI rJ (bw (K:=K) rfl (pv 2) rfl) cN (bF _)) (aL (mC PySem.F.excBase_ValueError gQ.ex gQ.bd (by rfl) rfl rfl hR (aj cN aC))) bL)
   (aD (bT (i:=3) nF.nd rfl (Or.inl rfl) (cF wj aQ.cls (hr.mono (by decide)) (pv 0) (aj (pv 2) aC)))
   (aD (yQ (K:=K) rfl (pv 2) aG Dz)
   (aD (fj (eX mJ aP.cls (hr.mono (by decide)) (pv 2)))
   (aD (fj (mF (K:=K) rfl (bw (K:=K) rfl (pv 0) rfl) (aj (pv 1) aC)))
   (aL (bC (pv 3))))))))), ?_⟩
  refine ⟨_,rfl,W.o,W.dx,_,rfl,w.o,rfl,_,rfl,i,τ,W,S,h,rfl,w,fun k A s e eA es=> ?_,k2⟩;have a:=w.hd k A s eA es;refine ⟨_,rfl,A.h,aq,A.hx,_,_,rfl,a.c.h,aP.cls,aP.mV,rfl,rfl,_,rfl, ?_⟩
  by_cases wt:s.st = "waits"
  rotate_left
  ·refine dz (fun _=> ?_) (fun z=>absurd (by simp [wt]) z)
   exact ⟨(by show 1<=sizeLine;decide),k3 k s e es wt⟩
  refine uM (by rw [wt]) ?_;obtain ⟨r,er,tr⟩:=w.ok s (List.mem_of_getElem? es) wt;have Uh:W.nb≠A.b:=fD w.tb a.tb (by simp);have XD:W.nb≠A.sy:=fD w.tb a.ty (by simp);refine ⟨_,rfl,W.o,W.dx,_,rfl,w.o,rfl,_,rfl,W.o,W.dx,W.pg,W.nb,W.hl,W.tn,A,s,S.m,S.ns,r,rfl,w.o,w.nb,w.nl,a.c,a.r,er,tr,Uh,XD,fun t H1 tf t1 c1 nb1 p1=> ?_⟩;refine ⟨_,rfl,A.h,aq,A.hx,_,_,rfl,c1.h,aP.cls,aP.vQ,rfl,_,_,rfl,rfl,A.hx,_,c1.h,(by show 5<1000;decide), ?_⟩;rw [yP];have c2:=c1.sY (s.pos+1) s.st;have p2:KH A H1 (upd H1 A.h (.ins aq A.hx (hF A.r ((s.pos+1:Nat):Int) A.b A.sy s.st))):=KH.sY;have t2:=c1.tup p2 _ _ t1;dsimp only;rw [show ((s.pos:Nat):Int)+1=((s.pos+1:Nat):Int) by omega];generalize (upd H1 A.h (.ins aq A.hx (hF A.r ((s.pos+1:Nat):Int) A.b A.sy s.st)))=H2 at c2 p2 t2 ⊢;have Zh:A.r≠A.b:=fD a.tr a.tb (by intro z;cases z);have nry:A.r≠A.sy:=fD a.tr a.ty (by intro z;cases z);have nrh:A.r≠A.h:=fD a.tr a.th (by intro z;cases z);have nrn:A.r≠W.nb:=fD a.tr w.tb (by intro z;cases z);have ac7:∀x xs,H x=some (.tup xs)->H2 x=some (.tup xs):=fun x xs q=>c1.tup p2 _ _ (p1 _ _ q (eY q w.nb (by intro z;cases z)) (eY q a.c.b (by intro z;cases z)));have R2:gZ H2 A.r S.m s.rws:=a.r.keep (fun o q=>p2 _ _ (p1 _ _ q nrn Zh) nrh Zh nry) ac7;have sl:=w.sl s (List.mem_of_getElem? es);refine ⟨_,rfl,A.h,A.hx,_,rfl,c2.h,rfl,A,_,S.m,rfl,c2,R2,Zh,nry,by show s.sy.length<_;omega,fun H3 c3 p3=> ?_⟩;have k13:∀x u,H x=some u->x≠W.nb->x≠A.b->x≠A.h->x≠A.sy->H3 x=some u:=fun x u q n1 n2 n3 n4=>p3 _ _ (p2 _ _ (p1 _ _ q n1 n2) n3 n2 n4) n3 n2 n4;have o3:=k13 _ _ w.o (fD w.to w.tb (by simp)) (fD w.to a.tb (by simp)) (fD w.to a.th (by simp)) (fD w.to a.ty (by simp));have tn3:=k13 _ _ w.tn (fD w.tt w.tb (by simp)) (fD w.tt a.tb (by simp)) (fD w.tt a.th (by simp)) (fD w.tt a.ty (by simp));have nb3:=p3 _ _ (p2 _ _ nb1 (fD w.tb a.th (by simp)) Uh XD) (fD w.tb a.th (by simp)) Uh XD;have t3:=c2.tup p3 _ _ t2;refine ⟨_,rfl,W.o,ak,W.dx,_,_,rfl,o3,aQ.cls,aQ.uI,rfl,.inl ⟨rfl,_,bK.of tn3⟩,_,rfl,_,_,_,rfl,rfl,tn3,(by rw [List.length_map,sizeLine_eq];omega), ?_⟩;have k14:∀x u,H x=some u->x≠W.nb->x≠A.b->x≠A.h->x≠A.sy->x≠W.tn->(upd H3 W.tn (.lst (S.ts.map V.int++[V.int h]))) x=some u:=fun x u q n1 n2 n3 n4 n5=>by rw [aF n5];exact k13 x u q n1 n2 n3 n4
  have nbt:W.nb≠W.tn:=fD w.tb w.tt (by simp);have c4:pN aq (upd H3 W.tn (.lst (S.ts.map V.int++[V.int h]))) A (nY S.ns s r):=⟨by rw [aF (fD a.th w.tt (by simp))];exact c3.h,by rw [aF (fD a.tb w.tt (by simp))];exact c3.b,by rw [aF (fD a.ty w.tt (by simp))];exact c3.y,c3.Kz,c3.bl⟩;obtain ⟨w4,st⟩:=w.turned (H':=upd H3 W.tn (.lst (S.ts.map V.int++[V.int h]))) eA es er k14 c4 (by rw [aF nbt];exact nb3) (by rw [ao,List.map_append,e];rfl);refine ⟨_,rfl,k1 k s r t _ e es wt er tr tf ?_ w4 st⟩;rw [aF (eY t3 tn3 (by intro z;cases z))];exact t3
structure Bs (H0:Hp) (τ0:Tg) (o:Addr) (τ:Tg) (H:Hp):Prop where
 un:rA τ H
 kp:Kp o H0 H
 tg:∀x u,H0 x=some u->x≠o->τ x=τ0 x
theorem Bs.same {H0 H H':Hp} {τ0 τ:Tg} {o:Addr} (b:Bs H0 τ0 o τ H) (k:Same H H'):Bs H0 τ0 o τ H':=⟨b.un.same k,b.kp.trans (Kp.of_same k),b.tg⟩
theorem Bs.claim {H0 H H':Hp} {τ0 τ:Tg} {o p:Addr} {t:List Nat} (b:Bs H0 τ0 o τ H) (k:Same H H') (hp:H p=none) (hp':∃u,H' p=some u):Bs H0 τ0 o (aR τ p t) H':=
 ⟨b.un.claim k hp',b.kp.trans (Kp.of_same k),fun x u e n=>by rw [aU (aB (b.kp _ _ e n) hp)];exact b.tg x u e n⟩
theorem Bs.set {H0 H:Hp} {τ0 τ:Tg} {o x:Addr} {v:HO} (b:Bs H0 τ0 o τ H) (hx:x=o\/H0 x=none):Bs H0 τ0 o τ (upd H x v):=
 ⟨b.un.dom (fun y e=>by
   by_cases z:y=x
   ·rw [z,ao] at e;cases e
   ·rw [aF z] at e;exact e),fun y u e n=>by
   have z:y≠x:=by
    rcases hx with rfl|hx
    ·exact n
    ·exact aB e hx
   rw [aF z];exact b.kp _ _ e n,b.tg⟩
theorem Bs.fresh {H0 H:Hp} {τ0 τ:Tg} {o p:Addr} (b:Bs H0 τ0 o τ H) (hp:H p=none) (n:p≠o):H0 p=none:=JC b.kp n hp
def qO (CW CH CN:Addr) (K:PySem.W.Frag):Sp:=fun vs H Q E=>∃(i:Nat) (τ:Tg) (o dx p L0:Addr) (QS:List Addr) (m:Nat) (cv:V) (ns:List Int) (rws:List (List Rw)),vs=[.ref o,.ref p,cv]/\H o=some (.ins CW dx [])/\H p=some (.tup [.int m,.ref L0])/\H L0=some (.lst (QS.map V.ref))/\QS.length=rws.length /\
 (∀(k:Nat) (r:Addr) (x:List Rw),QS[k]? = some r->rws[k]? = some x->gZ H r m x)/\rws.length<=100/\m<=100/\rA τ H/\i≠0/\ns.length<=100/\((cv = .non/\ns=List.replicate m 0) \/ ∃cl,cv = .ref cl/\H cl=some (.lst (ns.map V.int))) /\
 (vO m ns -> ∀(τ':Tg) (W:Jd) (H':Hp),W.o=o->tY CW CH i τ' H' W (Ao m ns rws)->(∀x u,H x=some u->x≠o->τ' x=τ x)->Kp o H H'->Q .non H')/\(¬vO m ns -> ∀H',Kp o H H'->E (.ref CN) none H')
theorem uO {α:Type} {l:List α} {x y:α} {k:Nat} (h:(l++[x])[k]? = some y):l[k]? = some y\/(k=l.length/\y=x):=by
 by_cases e:k<l.length
 ·rw [List.getElem?_append_left e] at h
  exact .inl h
 ·rw [List.getElem?_append_right (by omega)] at h
  have lt:=(List.getElem?_eq_some_iff.mp h).1;simp at lt;have:k=l.length:=by omega
  subst this;simp at h;exact .inr ⟨rfl,h.symm⟩
theorem NP {ak aq:Addr} {f:Addr} {fd:FuncData} (F:Ti K "__init__" "Works.__init__" bU [.none] f fd) (aQ:eZ K ak) (aP:iz K aq) {aJ:Addr} (wZ:Qi P w K mg base 3 "check_numbers" ["cells","count"] (sX aJ K)) (Jf:qH P w K mg base 1 aq "Hand" ["self","rows"] [] (xq aq K)) (mJ:MethAt P w K mg base 6 aq "lead_on" ["self"] (CJ aq K)) (Bt:rD mg):bW P w K mg base (vd P w) 7 f fd ["self","program","cells"] (qO ak aq aJ K):=by
 refine F.Rp nG (fun vs H Q E h=> ?_) (fun cdv A outer s H vs Q E hr h hR=> ?_)
 ·obtain ⟨i,τ,o,dx,p,L0,QS,m,cv,ns,rws,rfl,_⟩:=h
  rfl
 ·obtain ⟨i,τ,o,dx,p,L0,QS,m,cv,ns,rws,rfl,ho,hp,hL,lr,ZQ,rl,ml,un,i0,nl,hcv,k1,k2⟩:=h
  refine ⟨_,(aD (cD (bI Dm (pv 2) mD (bF _)) (aL (uH (i:=2) rfl nG.nd rfl (Or.inl rfl) (N:=["cell"]) (own:=["cell"]) (caps:=[]) (bh.of (by kernel_rfl)) (fG (by rfl) Bt.iU (aj (aY (bx (K:=K) rfl) (pv 1) aG (fun _ _=>rfl)) aC)) (fun _ _ _ _=>(bO (i:=0) (show List.Nodup (["cell"]:List Str) by decide +kernel) rfl (Or.inl rfl))) (fun _ _ _ _=>dR) (fun _ _ _ _=>aG))) bL)
   (aD (fj (V6 wZ rfl hR (hr.mono (by decide)) (by rfl) (aj (pv 2) (aj (aY (bx (K:=K) rfl) (pv 1) aG (fun _ _=>rfl)) aC))))
   (aD (cY (K:=K) rfl (pv 0) (jX (aj (aY (bx (K:=K) rfl) (pv 1) aG (fun _ _=>rfl)) (aj (dU rfl (N:=["rows"]) (own:=["rows"]) (caps:=[]) (bh.of (by kernel_rfl)) (d_ (K:=K) rfl (aY (bx (K:=K) rfl) (pv 1) aG (fun _ _=>rfl))) (fun _ _ _ _=>(bO (i:=0) (show List.Nodup (["rows"]:List Str) by decide +kernel) rfl (Or.inl rfl))) (fun _ _ _ _=>dR) (fun _ _ _ _=>(dj (cQ (K:=K) rfl) (by rfl) Bt.jM iu (aj (pv 0) aC)))) aC))) rfl)
   (aD (cY (K:=K) rfl (pv 0) (dj (cQ (K:=K) rfl) (by rfl) Bt.jM iu (aj (pv 2) aC)) rfl)
   (aD (cY (K:=K) rfl (pv 0) (dU rfl (N:=["rows"]) (own:=["rows"]) (caps:=[]) (bh.of (by kernel_rfl)) (d_ (K:=K) rfl (aY (bx (K:=K) rfl) (bw (K:=K) rfl (pv 0) rfl) aG (fun _ _=>rfl))) (fun _ _ _ _=>(bO (i:=0) (show List.Nodup (["rows"]:List Str) by decide +kernel) rfl (Or.inl rfl))) (fun _ _ _ _=>dR) (fun _ _ _ _=>(ql Jf (hr.mono (by decide)) (by rfl) (aj (pv 0) aC)))) rfl)
   (aD (cY (K:=K) rfl (pv 0) (eU aC) rfl)
   (aL (qe PassesOwn.leaving rfl (d_ (K:=K) rfl (bw (K:=K) rfl (pv 0) rfl)) (bO (i:=3) nG.nd rfl (Or.inl rfl))
   (aL (fj (eX mJ aP.cls (hr.mono (by decide)) (pv 3)))))))))))), ?_⟩
  refine qQ (fun σ H1=>∃cl:Addr,σ=[some (.ref o),some (.ref p),some (.ref cl),none]/\H1 cl=some (.lst (ns.map V.int))/\Same H H1) (fun D' hD' rt'=> ?_) ?_
  ·refine ⟨_,rfl,rfl,_,rfl, ?_⟩
   rcases hcv with ⟨rfl,rfl⟩|⟨cl,rfl,hcl⟩
   ·refine jr ?_
    refine ⟨_,rfl,_,_,_,_,rfl,rfl,cO.of hp,rfl,_,rfl,by omega,by omega,fun D hD=> ?_⟩;rw [Int.toNat_natCast];refine nZ (fun _=>some (.int 0)) hD (by omega) (fun i H1 G F hi s1 kG kF=>kF _ H1 (Same.refl _) rfl) (fun H1 s1 e1=> ?_);rw [DR] at e1;exact hD' _ _ ⟨D,rfl,e1,s1⟩
   ·refine dZ ?_
    exact hD' _ _ ⟨cl,rfl,hcl,Same.refl _⟩
  rintro σ H1 ⟨cl,rfl,hcl,s1⟩;have hp1:=s1 _ _ hp;refine uw (fun R g=> ?_);refine ⟨_,rfl,_,rfl,_,_,_,_,rfl,rfl,cO.of hp1,rfl,cl,m,ns,rfl,hcl,nl,fun good H2 s2=> ?_,fun bad H2 s2=>k2 bad H2 (Kp.of_same (s1.trans s2))⟩;refine g _ _ ?_;have Vz:=s1.trans s2;have ho2:=Vz _ _ ho;have hp2:=Vz _ _ hp;have hL2:=Vz _ _ hL;have Z2:=s2 _ _ hcl;have WM:∀(k:Nat) (r:Addr) (x:List Rw),QS[k]? = some r->rws[k]? = some x->gZ H2 r m x:=fun k r x a b=>(ZQ k r x a b).same Vz;have B2:Bs H τ o (aR τ o [i,0]) H2:=⟨fun x e=>by rw [aU (aB ho2 e).symm];exact un.same Vz x e,Kp.of_same Vz,fun x u e n=>aU n⟩;have to2:aR τ o [i,0] o=[i,0]:=bB;generalize aR τ o [i,0]=τ2 at B2 to2;refine uw (fun R g=> ?_);refine ⟨_,rfl,_,_,_,_,rfl,rfl,cO.of hp2,rfl,_,rfl,_,_,_,_,rfl,rfl,cO.of hp2,rfl,L0,rfl,⟨_,bK.of hL2⟩,fun L Z4=> ?_⟩;have sL:=aH (o:=HO.lst []) Z4;have nLo:L≠o:=(aB ho2 Z4).symm;refine j4 (K:=K) (xs:=QS.map V.ref) (fun j σ Hc=>∃(v:Option V) (τc:Tg) (rs:List Addr),σ=[v]/\rs.length=j/\Same H2 Hc/\Hc L=some (.lst (rs.map V.ref))/\Bs H τ o τc Hc/\τc o=[i,0]/\τc L=[0] /\ ∀(k:Nat) (r:Addr) (x:List Rw),rs[k]? = some r->rws[k]? = some x->r≠L/\τc r=[0]/\gZ Hc r m x) ?_ ?_ ?_ ?_
  ·exact ⟨none,aR τ2 L [0],[],rfl,rfl,sL,ao,B2.claim sL Z4 ⟨_,ao⟩,by rw [aU nLo.symm];exact to2,bB,fun k r x h=>by simp at h⟩
  ·rintro j σ Hc hj ⟨v,τc,rs,rfl,_,sc,_⟩
   exact bK.of (sc _ _ hL2)
  ·rintro j x σ Hc hj ⟨v,τc,rs,rfl,lj,sc,hLc,Bc,toc,tLc,hc⟩
   rw [List.getElem?_map] at hj
   obtain ⟨r0,er0,rfl⟩:∃r0,QS[j]? = some r0/\x = .ref r0:=by
    cases e:QS[j]? with
    | none=>rw [e] at hj;cases hj
    | some r0=>rw [e] at hj;exact ⟨r0,rfl,(Option.some.inj hj).symm⟩
   have jl:j<rws.length:=by rw [←lr];exact (List.getElem?_eq_some_iff.mp er0).1
   have ex:rws[j]? = some rws[j]:=by simp [jl]
   have rr:=WM j r0 _ er0 ex;obtain ⟨ts,hts,X_,rq,rl'⟩:=rr;dsimp only [gD,wM];rw [if_pos rfl];refine ⟨_,rfl,r0,_,rfl,.inl (bK.of (sc _ _ hts)),fun r hrn=> ?_⟩;have sr:=aH (o:=HO.lst ts) hrn;have nrL:r≠L:=(aB hLc hrn).symm;have nro:r≠o:=(aB (sc _ _ ho2) hrn).symm;have hLf:H L=none:=Vz.free Z4;refine ⟨rs.map V.ref,sr _ _ hLc,(by rw [List.length_map,sizeLine_eq];omega),some (.ref r0),aR τc r [0],rs++[r],rfl,by simp [lj],fun y u e=> ?_,by rw [ao];simp,(Bc.claim sr hrn ⟨_,ao⟩).set (.inr hLf), ?_, ?_, ?_⟩
   ·rw [aF (aB e Z4)]
    exact sr _ _ (sc _ _ e)
   ·rw [aU nro.symm];exact toc
   ·rw [aU nrL.symm];exact tLc
   ·intro k r' x' h1 h2
    have tups:∀y ys,Hc y=some (.tup ys)->(upd (upd Hc r (.lst ts)) L (.lst (rs.map V.ref++[V.ref r]))) y=some (.tup ys):=fun y ys e=>by
     rw [aF (eY e hLc (by intro z;cases z))];exact sr _ _ e
    rcases uO h1 with h1|⟨e1,rfl⟩
    ·obtain ⟨n1,t1,R1⟩:=hc k r' x' h1 h2
     have rr:=R1;obtain ⟨ts',hr',_⟩:=rr;have n2:r'≠r:=aB hr' hrn;refine ⟨n1,by rw [aU n2];exact t1,R1.keep (fun u e=> ?_) tups⟩;rw [aF n1];exact sr _ _ e
    ·rw [e1,lj,ex] at h2
     cases h2;refine ⟨nrL,bB,ts,by rw [aF nrL,ao], ?_,rq,rl'⟩;exact X_.keep (fun y ys e=>tups _ _ (sc _ _ e)) _ (Gb _)
  rintro σ H3 ⟨v,τ3,rs,rfl,lrs,T_,hL3,B3,to3,tL3,hr3⟩;rw [List.length_map] at lrs;have WQ:=T_ _ _ ho2;refine ⟨(by show 2<=sizeLine;decide),fun pg hpg=> ?_⟩;have YS:=aH (o:=HO.tup [V.int m,V.ref L]) hpg;refine ⟨_,rfl,o,ak,dx,_,rfl,YS _ _ WQ,aQ.cls,aQ.vP,(by show 0<1000;decide), ?_⟩;refine g _ _ ?_;have agf:pg≠o:=(aB WQ hpg).symm;have XS:(upd (upd H3 pg (.tup [V.int m,V.ref L])) o (.ins ak dx (cC "program" (.ref pg) []))) o=some (.ins ak dx [("program",.ref pg)]):=ao;have ZS:(upd (upd H3 pg (.tup [V.int m,V.ref L])) o (.ins ak dx (cC "program" (.ref pg) []))) pg=some (.tup [V.int m,V.ref L]):=by rw [aF agf,ao]
  have q4:rG [[i,0]] τ3 H3 τ3 (upd (upd H3 pg (.tup [V.int m,V.ref L])) o (.ins ak dx (cC "program" (.ref pg) []))):=(rG.of_same YS).trans (rG.set (by rw [to3];simp) (YS _ _ WQ) (by intro xs z;cases z));have B4:Bs H τ o τ3 (upd (upd H3 pg (.tup [V.int m,V.ref L])) o (.ins ak dx (cC "program" (.ref pg) []))):=(B3.same YS).set (.inl rfl);have kp4:Kp o H3 (upd (upd H3 pg (.tup [V.int m,V.ref L])) o (.ins ak dx (cC "program" (.ref pg) []))):=(Kp.of_same YS).trans Kp.set;generalize (upd (upd H3 pg (.tup [V.int m,V.ref L])) o (.ins ak dx (cC "program" (.ref pg) [])))=H4 at XS ZS q4 B4 kp4 ⊢;have hL4:=(q4.keep _ _ hL3 (by rw [tL3];simp)).1;have hr4:∀(k:Nat) (r:Addr) (x:List Rw),rs[k]? = some r->rws[k]? = some x->τ3 r=[0]/\gZ H4 r m x:=fun k r x h1 h2=>jh ⟨(hr3 k r x h1 h2).2.1,(hr3 k r x h1 h2).2.2⟩ q4 (by simp);have agm:cl≠o:=eY Z2 ho2 (by intro z;cases z);have ahV:=kp4 _ _ (T_ _ _ Z2) agm;refine uw (fun R g=> ?_);refine ⟨_,rfl,cl,_,rfl,.inl (bK.of ahV),fun nb hnb=> ?_⟩;have snb:=aH (o:=HO.lst (ns.map V.int)) hnb;refine ⟨_,rfl,o,ak,dx,_,rfl,snb _ _ XS,aQ.cls,aQ.lV,(by show 1<1000;decide), ?_⟩;refine g _ _ ?_;have Wn:nb≠o:=(aB XS hnb).symm;have Qo:(upd (upd H4 nb (.lst (ns.map V.int))) o (.ins ak dx (cC "numbers" (.ref nb) [("program",.ref pg)]))) o=some (.ins ak dx [("program",.ref pg),("numbers",.ref nb)]):=ao;have Z0:(upd (upd H4 nb (.lst (ns.map V.int))) o (.ins ak dx (cC "numbers" (.ref nb) [("program",.ref pg)]))) nb=some (.lst (ns.map V.int)):=by rw [aF Wn,ao]
  have q5:rG [[i,0]] τ3 H4 (aR τ3 nb [i,1]) (upd (upd H4 nb (.lst (ns.map V.int))) o (.ins ak dx (cC "numbers" (.ref nb) [("program",.ref pg)]))):=(rG.claim snb hnb).trans (rG.set (by rw [aU Wn.symm,to3];simp) (snb _ _ XS) (by intro xs z;cases z));have B5:Bs H τ o (aR τ3 nb [i,1]) (upd (upd H4 nb (.lst (ns.map V.int))) o (.ins ak dx (cC "numbers" (.ref nb) [("program",.ref pg)]))):=(B4.claim snb hnb ⟨_,ao⟩).set (.inl rfl);have to5:aR τ3 nb [i,1] o=[i,0]:=by rw [aU Wn.symm];exact to3
  have tn5:aR τ3 nb [i,1] nb=[i,1]:=bB;generalize (upd (upd H4 nb (.lst (ns.map V.int))) o (.ins ak dx (cC "numbers" (.ref nb) [("program",.ref pg)])))=H5 at Qo Z0 q5 B5 ⊢;generalize aR τ3 nb [i,1]=τ5 at q5 B5 to5 tn5;have X5:=q5.keep _ _ hL4 (by rw [tL3];simp);have hr5:∀(k:Nat) (r:Addr) (x:List Rw),rs[k]? = some r->rws[k]? = some x->τ5 r=[0]/\gZ H5 r m x:=fun k r x h1 h2=>jh (hr4 k r x h1 h2) q5 (by simp);have ZR:=q5.tup _ _ ZS;have tL5:τ5 L=[0]:=X5.2.trans tL3;have X5:=X5.1;refine uw (fun R g=> ?_);refine ⟨_,rfl,o,ak,dx,_,_,rfl,Qo,aQ.cls,aQ.vP,rfl,_,_,_,_,rfl,rfl,cO.of ZR,rfl,L,rfl,⟨_,bK.of X5⟩,fun hl X3=> ?_⟩;have shl:=aH (o:=HO.lst []) X3;have agj:hl≠o:=(aB Qo X3).symm;refine j4 (K:=K) (xs:=rs.map V.ref) (fun j σ Hc=>∃(v:Option V) (τc:Tg) (hd:List qK),σ=[v]/\hd.length=j/\Same H5 Hc/\Hc hl=some (.lst (hd.map fun a=> .ref a.h))/\Bs H τ o τc Hc/\(∀x u,H5 x=some u->τc x=τ5 x)/\τc hl=[i,2] /\ ∀(k:Nat) (A:qK) (x:List Rw),hd[k]? = some A->rws[k]? = some x->wY aq i k m τc Hc A (new x)/\H A.h=none/\H A.b=none/\H A.sy=none) ?_ ?_ ?_ ?_
  ·exact ⟨none,aR τ5 hl [i,2],[],rfl,rfl,shl,ao,B5.claim shl X3 ⟨_,ao⟩,fun x u e=>aU (aB e X3),bB,fun k A x h=>by simp at h⟩
  ·rintro j σ Hc hj ⟨v,τc,hd,rfl,_,sc,_⟩
   exact bK.of (sc _ _ X5)
  ·rintro j x σ Hc hj ⟨v,τc,hd,rfl,lj,sc,Uv,Bc,Qy,tlc,hc⟩
   rw [List.getElem?_map] at hj
   obtain ⟨r,er,rfl⟩:∃r,rs[j]? = some r/\x = .ref r:=by
    cases e:rs[j]? with
    | none=>rw [e] at hj;cases hj
    | some r0=>rw [e] at hj;exact ⟨r0,rfl,(Option.some.inj hj).symm⟩
   have jl:j<rws.length:=by rw [←lr,←lrs];exact (List.getElem?_eq_some_iff.mp er).1
   have ex:rws[j]? = some rws[j]:=by simp [jl]
   obtain ⟨tr,R⟩:=hr5 j r _ er ex;have rr:=R;obtain ⟨ts,hts,_⟩:=rr;dsimp only [gD,wM];rw [if_pos rfl];refine ⟨_,rfl,fun h hx hn hxn nhx=> ?_⟩;have hn':(upd Hc hx (.own h)) h=none:=by rw [aF nhx.symm];exact hn
   have sm:Same Hc (upd (upd Hc hx (.own h)) h (.ins aq hx [])):=(aH hxn).trans (aH hn');refine ⟨h,r,hx,rfl,ao,fun b sy H7 hb hsy Zn h7 b7 sy7 k7=>⟨rfl, ?_⟩⟩;have S7:Same Hc H7:=fun y u e=>k7 _ _ (sm _ _ e) (aB e hn);have fb:Hc b=none:=sm.free hb;have fy:Hc sy=none:=sm.free hsy;have nhl:hl≠h:=aB Uv hn;have nbl:hl≠b:=aB Uv fb;have nyl:hl≠sy:=aB Uv fy;have Rt:h≠b:=aB ao hb;have Ui:h≠sy:=aB ao hsy;have hlf:H hl=none:=B5.fresh X3 agj;have sH:Same Hc Hc:=Same.refl _;have T:∀x u,Hc x=some u->aR (aR (aR τc h [i,4,j]) b [i,5,j]) sy [i,6,j] x=τc x:=fun y u e=>by rw [aU (aB e fy),aU (aB e fb),aU (aB e hn)]
   have B7:Bs H τ o (aR (aR (aR τc h [i,4,j]) b [i,5,j]) sy [i,6,j]) H7:=by
    refine ⟨fun y e=> ?_,Bc.kp.trans (Kp.of_same S7),fun y u e n=> ?_⟩
    ·have n1:y≠h:=fun z=>by rw [z,h7] at e;cases e
     have n2:y≠b:=fun z=>by rw [z,b7] at e;cases e
     have n3:y≠sy:=fun z=>by rw [z,sy7] at e;cases e
     rw [aU n3,aU n2,aU n1];exact Bc.un y (S7.free e)
    ·rw [T y u (Bc.kp _ _ e n)]
     exact Bc.tg y u e n
   have q7:rG [[i,2]] τc Hc (aR (aR (aR τc h [i,4,j]) b [i,5,j]) sy [i,6,j]) (upd H7 hl (.lst ((hd.map fun a=>V.ref a.h)++[V.ref h]))):=by
    refine ⟨fun y u e n=>⟨?_,T y u e⟩,fun y ys e=> ?_⟩
    ·rw [aF (fun z:y=hl=>n (by rw [z,tlc];simp))]
     exact S7 _ _ e
    ·rw [aF (eY e Uv (by intro z;cases z))]
     exact S7 _ _ e
   have Th:aR (aR (aR τc h [i,4,j]) b [i,5,j]) sy [i,6,j] h=[i,4,j]:=by rw [aU Ui,aU Rt,bB]
   have Tb:aR (aR (aR τc h [i,4,j]) b [i,5,j]) sy [i,6,j] b=[i,5,j]:=by rw [aU Zn,bB]
   have Ty:aR (aR (aR τc h [i,4,j]) b [i,5,j]) sy [i,6,j] sy=[i,6,j]:=bB;generalize aR (aR (aR τc h [i,4,j]) b [i,5,j]) sy [i,6,j]=τ7 at T B7 q7 Th Tb Ty;refine ⟨_,S7 _ _ Uv,(by rw [List.length_map,sizeLine_eq];omega),some (.ref r),τ7,hd++[⟨h,hx,r,b,sy⟩],rfl,by simp [lj],fun y u e=> ?_,by rw [ao];simp,B7.set (.inr hlf),fun y u e=> ?_, ?_, ?_⟩
   ·rw [aF (aB e X3)]
    exact S7 _ _ (sc _ _ e)
   ·rw [T y u (sc _ _ e)]
    exact Qy y u e
   ·rw [T _ _ Uv];exact tlc
   ·intro k A x' h1 h2
    rcases uO h1 with h1|⟨e1,rfl⟩
    ·exact ⟨(hc k A x' h1 h2).1.XM q7 (by simp) (by simp) (by simp) (by simp),(hc k A x' h1 h2).2⟩
    ·rw [e1,lj,ex] at h2
     cases h2;rw [e1,lj];have Yp:τc r=[0]:=by rw [Qy _ _ hts];exact tr
     obtain ⟨t9,R9⟩:=jh ⟨Yp,R.same sc⟩ q7 (by simp);have hoc:=sc _ _ Qo;exact ⟨⟨⟨by rw [aF nhl.symm];exact h7,by rw [aF nbl.symm];exact b7,by rw [aF nyl.symm];exact sy7,Zn,rfl⟩,R9,t9,Th,Tb,Ty⟩,Bc.fresh hn (aB hoc hn).symm,Bc.fresh fb (aB hoc fb).symm,Bc.fresh fy (aB hoc fy).symm⟩
  rintro σ H8 ⟨v,τ8,hd,rfl,Zx,s58,ahS,B8,Qz,tl8,hd8⟩;rw [List.length_map] at Zx;have RZ:=s58 _ _ Qo;have Vd:τ8 o=[i,0]:=by rw [Qz _ _ Qo];exact to5
  refine ⟨_,rfl,o,ak,dx,_,rfl,RZ,aQ.cls,aQ.o8,(by show 2<1000;decide), ?_⟩;refine g _ _ ?_;have ho9:(upd H8 o (.ins ak dx (cC "hands" (.ref hl) [("program",.ref pg),("numbers",.ref nb)]))) o=some (.ins ak dx [("program",.ref pg),("numbers",.ref nb),("hands",.ref hl)]):=ao;have q9:rG [[i,0]] τ8 H8 τ8 (upd H8 o (.ins ak dx (cC "hands" (.ref hl) [("program",.ref pg),("numbers",.ref nb)]))):=rG.set (by rw [Vd];simp) RZ (by intro xs z;cases z);have B9:Bs H τ o τ8 (upd H8 o (.ins ak dx (cC "hands" (.ref hl) [("program",.ref pg),("numbers",.ref nb)]))):=B8.set (.inl rfl);generalize (upd H8 o (.ins ak dx (cC "hands" (.ref hl) [("program",.ref pg),("numbers",.ref nb)])))=H9 at ho9 q9 B9 ⊢;refine uw (fun R g=> ?_);refine ⟨(by show 0<=sizeLine;decide),fun tn htn=> ?_⟩;have stn:=aH (o:=HO.lst []) htn;refine ⟨_,rfl,o,ak,dx,_,rfl,stn _ _ ho9,aQ.cls,aQ.uI,(by show 3<1000;decide), ?_⟩;refine g _ _ ?_;have Wg:tn≠o:=(aB ho9 htn).symm;have K5:(upd (upd H9 tn (.lst [])) o (.ins ak dx (cC "turns" (.ref tn) [("program",.ref pg),("numbers",.ref nb),("hands",.ref hl)]))) o=some (.ins ak dx (wF pg nb hl tn)):=ao;have Ut:(upd (upd H9 tn (.lst [])) o (.ins ak dx (cC "turns" (.ref tn) [("program",.ref pg),("numbers",.ref nb),("hands",.ref hl)]))) tn=some (.lst []):=by rw [aF Wg,ao]
  have VJ:rG [[i,0]] τ8 H9 (aR τ8 tn [i,3]) (upd (upd H9 tn (.lst [])) o (.ins ak dx (cC "turns" (.ref tn) [("program",.ref pg),("numbers",.ref nb),("hands",.ref hl)]))):=(rG.claim stn htn).trans (rG.set (by rw [aU Wg.symm,Vd];simp) (stn _ _ ho9) (by intro xs z;cases z));have B10:Bs H τ o (aR τ8 tn [i,3]) (upd (upd H9 tn (.lst [])) o (.ins ak dx (cC "turns" (.ref tn) [("program",.ref pg),("numbers",.ref nb),("hands",.ref hl)]))):=(B9.claim stn htn ⟨_,ao⟩).set (.inl rfl);have J_:aR τ8 tn [i,3] o=[i,0]:=by rw [aU Wg.symm];exact Vd
  have J9:aR τ8 tn [i,3] tn=[i,3]:=bB;have Hs:=q9.trans VJ;generalize (upd (upd H9 tn (.lst [])) o (.ins ak dx (cC "turns" (.ref tn) [("program",.ref pg),("numbers",.ref nb),("hands",.ref hl)])))=U5 at K5 Ut VJ B10 Hs ⊢;generalize aR τ8 tn [i,3]=Ey at VJ B10 J_ J9 Hs;have Bw:=Hs.keep _ _ ahS (by rw [tl8];simp);have MK:Ey hl=[i,2]:=Bw.2.trans tl8;have Bw:=Bw.1
  have n5:∀x u,H5 x=some u->τ5 x≠[i,0]->U5 x=some u/\Ey x=τ5 x:=fun x u e n=>by
   have:=Hs.keep _ _ (s58 _ _ e) (by rw [Qz _ _ e];simp [n]);exact ⟨this.1,by rw [this.2,Qz _ _ e]⟩
  have Z5:=n5 _ _ X5 (by rw [tL5];simp);have Uu:=n5 _ _ Z0 (by rw [tn5];simp);have ZV:=Hs.tup _ _ (s58 _ _ ZR);have ahU:∀(k:Nat) (A:qK) (x:List Rw),hd[k]? = some A->rws[k]? = some x->wY aq i k m Ey U5 A (new x):=fun k A x h1 h2=>(hd8 k A x h1 h2).1.XM Hs (by simp) (by simp) (by simp) (by simp)
  have ahL:∀(k:Nat) (r:Addr) (x:List Rw),rs[k]? = some r->rws[k]? = some x->Ey r=[0]/\gZ U5 r m x:=fun k r x h1 h2=>by
   obtain ⟨t5,R5⟩:=hr5 k r x h1 h2;have rr:=R5;obtain ⟨ts,hts,_⟩:=rr;exact jh ⟨by rw [Qz _ _ hts];exact t5,R5.same s58⟩ Hs (by simp)
  have lh:hd.length=rws.length:=by rw [Zx,lrs,lr]
  refine ⟨_,rfl,o,ak,dx,_,_,rfl,K5,aQ.cls,aQ.o8,rfl,hl,rfl,⟨_,bK.of Bw⟩, ?_⟩
  refine zq (K:=K) (a:=hl) (xs:=hd.map fun a=>V.ref a.h) (fun j σ Hc=>∃x1:Option V,σ=[some (.ref o),some (.ref p),some (.ref cl),x1]/\(∀x u,U5 x=some u->(∀k,Ey x≠[i,4,k])->(∀k,Ey x≠[i,5,k])->(∀k,Ey x≠[i,6,k])->Hc x=some u)/\(∀x ys,U5 x=some (.tup ys)->Hc x=some (.tup ys))/\Bs H τ o Ey Hc /\
   ∀(k:Nat) (A:qK) (x:List Rw),hd[k]? = some A->rws[k]? = some x->wY aq i k m Ey Hc A (if k<j then lead (new x) else new x))
   ⟨none,rfl,fun x u e _ _ _=>e,fun x ys e=>e,B10,fun k A x h1 h2=>by rw [if_neg (by omega)];exact ahU k A x h1 h2⟩ (fun j σ Hc _ ⟨_,_,kc,_⟩=>bK.of (kc _ _ Bw (by rw [MK];simp) (by rw [MK];simp) (by rw [MK];simp))) ?_ ?_
  ·rintro j v σ Hc hj ⟨x1,rfl,kc,tc,Bc,hc⟩
   rw [List.getElem?_map] at hj
   obtain ⟨A,eA,rfl⟩:∃A,hd[j]? = some A/\v = .ref A.h:=by
    cases e:hd[j]? with
    | none=>rw [e] at hj;cases hj
    | some A=>rw [e] at hj;exact ⟨A,rfl,(Option.some.inj hj).symm⟩
   have jl:j<rws.length:=by rw [←lh];exact (List.getElem?_eq_some_iff.mp eA).1
   have ex:rws[j]? = some rws[j]:=by simp [jl]
   have a:=hc j A _ eA ex;rw [if_neg (by omega)] at a;refine ⟨_,rfl,A.h,A.hx,_,rfl,a.c.h,rfl,A,_,m,rfl,a.c,a.r,fD a.tr a.tb (by intro z;cases z),fD a.tr a.ty (by intro z;cases z),(by show 0<900000;decide),fun H12 c12 k12=> ?_⟩;have q12:rG [[i,4,j],[i,5,j],[i,6,j]] Ey Hc Ey H12:=⟨fun x u e n=>⟨k12 _ _ e (fun z=>n (by rw [z,a.th];simp)) (fun z=>n (by rw [z,a.tb];simp)) (fun z=>n (by rw [z,a.ty];simp)),rfl⟩,a.c.tup k12⟩;refine ⟨_,rfl,fun x u e n4 n5 n6=>(q12.keep _ _ (kc x u e n4 n5 n6) (by simp [n4,n5,n6])).1,fun x ys e=>q12.tup _ _ (tc _ _ e), ?_, ?_⟩
   ·obtain ⟨f1,f2,f3⟩:=(hd8 j A _ eA ex).2
    refine ⟨Bc.un.dom fun x e=> ?_,fun x u e n=>k12 _ _ (Bc.kp _ _ e n) (aB e f1) (aB e f2) (aB e f3),Bc.tg⟩;cases q:Hc x with
    | none=>rfl
    | some u=>
      have no:∀y o,H12 y=some o->x≠y:=fun y o h z=>by rw [z,h] at e;cases e
      rw [k12 _ _ q (no _ _ c12.h) (no _ _ c12.b) (no _ _ c12.y)] at e;cases e
   ·intro k A' x h1 h2
    by_cases z:k=j
    ·subst z
     rw [eA] at h1;cases h1;rw [ex] at h2;cases h2;rw [if_pos (by omega)];have lr':(lead (new rws[k])).rws=rws[k]:=uL _ _;refine ⟨c12, ?_,a.tr,a.th,a.tb,a.ty⟩;rw [lr'];exact (jh ⟨a.tr,a.r⟩ q12 (by simp)).2
    ·have b:=(hc k A' x h1 h2).XM q12 (by simp) (by simp [z]) (by simp [z]) (by simp [z])
     by_cases lt:k<j
     ·rw [if_pos lt] at b
      rw [if_pos (by omega)];exact b
     ·rw [if_neg lt] at b
      rw [if_neg (by omega)];exact b
  ·rintro σ H11 ⟨x1,rfl,kc,tc,Bc,hc⟩
   rw [List.length_map] at hc;have kt:∀x u t,U5 x=some u->Ey x=t->(∀k,t≠[i,4,k])->(∀k,t≠[i,5,k])->(∀k,t≠[i,6,k])->H11 x=some u:=fun x u t e et n4 n5 n6=>kc x u e (by rw [et];exact n4) (by rw [et];exact n5) (by rw [et];exact n6);have YF:Ey L=[0]:=Z5.2.trans tL5;have Yu:Ey nb=[i,1]:=Uu.2.trans tn5
   have get:∀(k:Nat) (s:bH),(rws.map fun r=>lead (new r))[k]? = some s -> ∃x,rws[k]? = some x/\s=lead (new x):=fun k s e=>by
    rw [List.getElem?_map] at e;cases q:rws[k]? with
    | none=>rw [q] at e;cases e
    | some x=>rw [q] at e;exact ⟨x,rfl,(Option.some.inj e).symm⟩
   refine k1 good Ey ⟨o,dx,pg,L,nb,hl,tn,rs,hd⟩ H11 rfl ⟨Bc.un,i0,kt _ _ _ K5 J_ (by simp) (by simp) (by simp),tc _ _ ZV,kt _ _ _ Z5.1 YF (by simp) (by simp) (by simp),kt _ _ _ Uu.1 Yu (by simp) (by simp) (by simp),kt _ _ _ Bw MK (by simp) (by simp) (by simp),kt _ _ _ Ut J9 (by simp) (by simp) (by simp),J_,Yu,MK,J9,YF, ?_, ?_, ?_, ?_, ?_, ?_, ?_, ?_⟩ Bc.tg Bc.kp
   ·show rs.length=(rws.map _).length
    rw [List.length_map,lrs,lr]
   ·intro k r s h1 h2
    obtain ⟨x,ex,rfl⟩:=get k s h2;obtain ⟨t1,R1⟩:=ahL k r x h1 ex;have lr':(lead (new x)).rws=x:=uL _ _;rw [lr'];exact ⟨t1,R1.keep (fun u e=>kt _ _ _ e t1 (by simp) (by simp) (by simp)) tc⟩
   ·show hd.length=(rws.map _).length
    rw [List.length_map,lh]
   ·intro k A s h1 h2
    obtain ⟨x,ex,rfl⟩:=get k s h2;have:=hc k A x h1 ex;rw [if_pos (List.getElem?_eq_some_iff.mp h1).1] at this;exact this
   ·intro s ms
    obtain ⟨x,_,rfl⟩:=List.mem_map.mp ms;exact Ii _ _
   ·intro s ms
    obtain ⟨x,_,rfl⟩:=List.mem_map.mp ms;exact Ih 60 (new x)
   ·have:=good.1
    show ns.length=m;omega
   ·show (rws.map _).length<=100
    rw [List.length_map];exact rl
def LK:Nat->PyData->Prop
 | 0,_=>False
 | n+1,.list ds=>ds.length<=20000 /\ ∀d∈ds,LK n d
 | n+1,.tuple ds=>ds.length<=20000 /\ ∀d∈ds,LK n d
 | _+1,.int _=>True
 | _+1,.str _=>True
 | _+1,.none=>True
 | _+1,.bool _=>True
 | _+1,_=>False
theorem LK.ints {n:Nat} {ns:List Int} (h:ns.length<=20000):LK (n+2) (.list (ns.map PyData.int)):=by
 refine ⟨by rw [List.length_map];exact h,fun d hd=> ?_⟩;obtain ⟨i,_,rfl⟩:=List.mem_map.mp hd;trivial
theorem RJ (K:PySem.W.Frag):PySem.W.kitOne K (.type "str") (.type "tuple")=some false:=by kernel_rfl
theorem RL (K:PySem.W.Frag):PySem.W.kitOne K (.type "str") (.type "list")=some false:=by kernel_rfl
theorem Dy (K:PySem.W.Frag):PySem.W.kitOne K (.type "str") (.type "bool")=some false:=by kernel_rfl
theorem RK (K:PySem.W.Frag):PySem.W.kitOne K (.type "str") (.type "str")=some true:=rfl
theorem RP (K:PySem.W.Frag):PySem.W.kitOne K (.type "int") (.type "tuple")=some false:=by kernel_rfl
theorem RV (K:PySem.W.Frag):PySem.W.kitOne K (.type "int") (.type "list")=some false:=by kernel_rfl
theorem RQ (K:PySem.W.Frag):PySem.W.kitOne K (.type "int") (.type "str")=some false:=by kernel_rfl
theorem RW (K:PySem.W.Frag):PySem.W.kitOne K (.type "bool") (.type "tuple")=some false:=by kernel_rfl
theorem RX (K:PySem.W.Frag):PySem.W.kitOne K (.type "bool") (.type "list")=some false:=by kernel_rfl
theorem RM (K:PySem.W.Frag):PySem.W.kitOne K (.type "NoneType") (.type "tuple")=some false:=by kernel_rfl
theorem RN (K:PySem.W.Frag):PySem.W.kitOne K (.type "NoneType") (.type "list")=some false:=by kernel_rfl
theorem Bx (n:Nat) (v:V):(List.range n).filterMap (fun _=>some v)=List.replicate n v:=by
 induction n with
 | zero=>rfl
 | succ n ih=>rw [eV,ih,List.replicate_succ'];rfl
def jE (n:Nat) (K:PySem.W.Frag):Sp:=fun vs H Q _=>∃(x y:V) (d:PyData),vs=[x,y]/\Dat H x d/\Dat H y d/\LK n d /\ ∀H',Same H H'->Q (.bl true) H'
theorem Kw {f:Addr} {fd:FuncData} (F:j9 K "_law_alike" "_law_alike" jg f fd):bW P w K mg base lE 1 f fd ["found","due"] (jE 0 K):=by
 refine F.ok Bj (fun vs H Q E h=> ?_) (fun cdv A outer s H vs Q E hr h=> ?_)
 ·obtain ⟨x,y,d,_,_,_,z,_⟩:=h
  exact z.elim
 ·obtain ⟨x,y,d,_,_,_,z,_⟩:=h
  exact z.elim
theorem qU {n:Nat} {f:Addr} {fd:FuncData} (F:j9 K "_law_alike" "_law_alike" jg f fd) (jP:FnAt P w K mg base (n+1) "_law_alike" ["found","due"] (jE n K)) (Bt:rD mg):bW P w K mg base lE (n+1+1) f fd ["found","due"] (jE (n+1) K):=by
 refine F.ok Bj (fun vs H Q E h=> ?_) (fun cdv A outer s H vs Q E hr h=> ?_)
 ·obtain ⟨x,y,d,rfl,_⟩:=h
  rfl
 ·obtain ⟨x,y,d,rfl,dx,dy,pl,k⟩:=h
  refine ⟨_,(aD (cD (PW.pt (pK (dh (aV (cW (K:=K) (cv:= .ty "tuple") (c:= .type "tuple") rfl rfl) (by rfl) Bt.bJ bG (aj (pv 1) (aj (fQ (v:= .ty "tuple") (by rfl) Bt.xG uV rfl) aC)))) (mj (dh (aV (cW (K:=K) (cv:= .ty "list") (c:= .type "list") rfl rfl) (by rfl) Bt.bJ bG (aj (pv 1) (aj (fQ (v:= .ty "list") (by rfl) Bt.jM iu rfl) aC))))))) (aD (cD (PW.pt (pK (bI rJ (aV (cW (K:=K) (cv:= .ty "tuple") (c:= .type "tuple") rfl rfl) (by rfl) Bt.bJ bG (aj (pv 0) (aj (fQ (v:= .ty "tuple") (by rfl) Bt.xG uV rfl) aC))) (aV (cW (K:=K) (cv:= .ty "tuple") (c:= .type "tuple") rfl rfl) (by rfl) Bt.bJ bG (aj (pv 1) (aj (fQ (v:= .ty "tuple") (by rfl) Bt.xG uV rfl) aC))) (bF _)) (mj (bI rJ (aV (cW (K:=K) (cv:= .ty "list") (c:= .type "list") rfl rfl) (by rfl) Bt.bJ bG (aj (pv 0) (aj (fQ (v:= .ty "list") (by rfl) Bt.jM iu rfl) aC))) (aV (cW (K:=K) (cv:= .ty "list") (c:= .type "list") rfl rfl) (by rfl) Bt.bJ bG (aj (pv 1) (aj (fQ (v:= .ty "list") (by rfl) Bt.jM iu rfl) aC))) (bF _))))) (aL (bC mU)) bL)
   (aD (cD (bI rJ (aV (aX (K:=K) rfl) (by rfl) Bt.gq cX (aj (pv 0) aC)) (aV (aX (K:=K) rfl) (by rfl) Bt.gq cX (aj (pv 1) aC)) (bF _)) (aL (bC mU)) bL)
   (aL (bC (aV (gY (K:=K) rfl rfl) (by rfl) Bt.GP zE (aj (dU rfl (N:=["mine","other"]) (own:=["mine","other"]) (caps:=[]) (bh.of (by kernel_rfl)) (Q7 (K:=K) rfl (by rfl) Bt.abf (aj (pv 0) (aj (pv 1) aC))) (fun _ _ _ _=>(Dh (K:=K) (n:=2) rfl rfl (nQ (bO (i:=0) (show List.Nodup (["mine","other"]:List Str) by decide +kernel) rfl (Or.inl rfl)) (nQ (bO (i:=1) (show List.Nodup (["mine","other"]:List Str) by decide +kernel) rfl (Or.inl rfl)) Dg)))) (fun _ _ _ _=>dR) (fun _ _ _ _=>(b_ jP (hr.mono (Nat.le_refl _)) (by rfl) (aj (pv 0) (aj (pv 1) aC))))) aC)))))) bL)
   (aD (cD (bI Dm (pv 1) mD (bF _)) (aL (bC (fu Dm (pv 0) mD (bF _)))) bL)
   (aD (cD (PW.pt (pK (dh (aV (cW (K:=K) (cv:= .ty "bool") (c:= .type "bool") rfl rfl) (by rfl) Bt.bJ bG (aj (pv 1) (aj (fQ (v:= .ty "bool") (by rfl) Bt.zT uW rfl) aC)))) (mj (dh (aV (cW (K:=K) (cv:= .ty "str") (c:= .type "str") rfl rfl) (by rfl) Bt.bJ bG (aj (pv 1) (aj (fQ (v:= .ty "str") (by rfl) Bt.abg Xe rfl) aC))))))) (aL (bC (tH (fu ig (aV (cW (K:=K) (cv:= .ty "bool") (c:= .type "bool") rfl rfl) (by rfl) Bt.bJ bG (aj (pv 0) (aj (fQ (v:= .ty "bool") (by rfl) Bt.zT uW rfl) aC))) (aV (cW (K:=K) (cv:= .ty "bool") (c:= .type "bool") rfl rfl) (by rfl) Bt.bJ bG (aj (pv 1) (aj (fQ (v:= .ty "bool") (by rfl) Bt.zT uW rfl) aC))) (bF _)) (tG (fu ig (pv 0) (pv 1) (bF _)))))) bL)
   (aL (bC (tH (aV (cW (K:=K) (cv:= .ty "int") (c:= .type "int") rfl rfl) (by rfl) Bt.bJ bG (aj (pv 0) (aj (fQ (v:= .ty "int") (by rfl) Bt.zR tX rfl) aC))) (tH (Np (aV (cW (K:=K) (cv:= .ty "bool") (c:= .type "bool") rfl rfl) (by rfl) Bt.bJ bG (aj (pv 0) (aj (fQ (v:= .ty "bool") (by rfl) Bt.zT uW rfl) aC)))) (tG (fu ig (pv 0) (pv 1) (bF _)))))))))), ?_⟩
  match d,pl,dx,dy with
  | .int i,pl,dx,dy=>
    simp only [Dat] at dx dy;subst dx dy;refine ⟨_,rfl,_,_,false,rfl,.int i,RP K,_,rfl,dZ ?_⟩;refine ⟨_,rfl,_,_,false,rfl,.int i,RV K,_,rfl,dZ ?_⟩;refine ⟨_,rfl,rfl,_,rfl,dZ ?_⟩;refine ⟨_,rfl,_,_,false,rfl,.int i,pq K,_,rfl,dZ ?_⟩;refine ⟨_,rfl,_,_,false,rfl,.int i,RQ K,_,rfl,dZ ?_⟩;refine ⟨_,rfl,_,_,true,rfl,.int i,wI K,_,rfl,jr ?_⟩;refine ⟨_,rfl,_,_,false,rfl,.int i,pq K,_,rfl,_,rfl,jr ?_⟩;refine ⟨_,rfl,_,rfl,rfl, ?_⟩;rw [decide_eq_true rfl];exact k _ (Same.refl _)
  | .str i,pl,dx,dy=>
    simp only [Dat] at dx dy;subst dx dy;refine ⟨_,rfl,_,_,false,rfl,.str i,RJ K,_,rfl,dZ ?_⟩;refine ⟨_,rfl,_,_,false,rfl,.str i,RL K,_,rfl,dZ ?_⟩;refine ⟨_,rfl,rfl,_,rfl,dZ ?_⟩;refine ⟨_,rfl,_,_,false,rfl,.str i,Dy K,_,rfl,dZ ?_⟩;refine ⟨_,rfl,_,_,true,rfl,.str i,RK K,_,rfl,jr ?_⟩;refine ⟨_,rfl,_,_,false,rfl,.str i,Dy K,_,rfl,_,_,false,rfl,.str i,Dy K,rfl,_,rfl, ?_⟩;refine dz (fun _=> ?_) (fun z=>absurd (decide_eq_true rfl) z);refine ⟨_,rfl,_,rfl,rfl, ?_⟩;rw [decide_eq_true rfl];exact k _ (Same.refl _)
  | .bool i,pl,dx,dy=>
    simp only [Dat] at dx dy;subst dx dy;refine ⟨_,rfl,_,_,false,rfl,.bl i,RW K,_,rfl,dZ ?_⟩;refine ⟨_,rfl,_,_,false,rfl,.bl i,RX K,_,rfl,dZ ?_⟩;refine ⟨_,rfl,rfl,_,rfl,dZ ?_⟩;refine ⟨_,rfl,_,_,true,rfl,.bl i,nJ K,_,rfl,jr ?_⟩;refine jr ?_;refine ⟨_,rfl,_,_,true,rfl,.bl i,nJ K,_,rfl,_,_,true,rfl,.bl i,nJ K,rfl,_,rfl, ?_⟩;refine dz (fun _=> ?_) (fun z=>absurd (decide_eq_true rfl) z);refine ⟨_,rfl,_,rfl,rfl, ?_⟩;rw [decide_eq_true rfl];exact k _ (Same.refl _)
  | .none,pl,dx,dy=>
    simp only [Dat] at dx dy;subst dx dy;refine ⟨_,rfl,_,_,false,rfl,.non,RM K,_,rfl,dZ ?_⟩;refine ⟨_,rfl,_,_,false,rfl,.non,RN K,_,rfl,dZ ?_⟩;refine ⟨_,rfl,rfl,_,rfl,jr ?_⟩;exact ⟨_,rfl,rfl,k _ (Same.refl _)⟩
  | .list ds,pl,dx,dy=>
    simp only [Dat] at dx dy;obtain ⟨a,vs,rfl,ha,da⟩:=dx;obtain ⟨b,ws,rfl,hb,db⟩:=dy;have la:vs.length=ds.length:=da.length;have lb:ws.length=ds.length:=db.length;have Xz:ds.length<=20000:=pl.1;refine ⟨_,rfl,_,_,false,rfl,.lst hb,mG K,_,rfl,dZ ?_⟩;refine ⟨_,rfl,_,_,true,rfl,.lst hb,j8 K,_,rfl,jr ?_⟩;refine ⟨_,rfl,_,_,false,rfl,.lst ha,mG K,_,rfl,_,_,false,rfl,.lst hb,mG K,rfl,_,rfl, ?_⟩;refine uM rfl ?_;refine ⟨_,rfl,_,_,true,rfl,.lst ha,j8 K,_,rfl,_,_,true,rfl,.lst hb,j8 K,rfl,_,rfl, ?_⟩;refine uM rfl ?_;refine ⟨_,rfl,a,_,rfl,.inl (bK.of ha),_,rfl,b,_,rfl,.inl (bK.of hb),rfl,_,rfl, ?_⟩;refine uM (by rw [la,lb]) ?_;refine ⟨_,rfl,_,rfl,a,b,vs,ws,rfl,.inl ⟨bK.of ha,bK.of hb,fun D hD=> ?_⟩⟩;refine Lf (K:=K) la lb (fun i=>some (.bl true)) hD (bK.of ha) (bK.of hb) (by omega) (fun i x y H2 G F hx hy s2 kG kF=> ?_) (fun H2 s2 e2=> ?_)
    ·obtain ⟨d,ed,dx⟩:=da.get hx
     obtain ⟨d',ed',dy⟩:=db.get hy;rw [ed] at ed';cases ed';exact ⟨_,rfl,_,rfl,x,y,d,rfl,dx.same s2 d,dy.same s2 d,pl.2 d (List.mem_of_getElem? ed),fun H3 s3=>kF _ H3 s3 rfl⟩
    ·rw [Bx] at e2
     refine ⟨D,List.replicate ds.length true,rfl,bK.of (by rw [e2,List.map_replicate]), ?_⟩;rw [show (List.replicate ds.length true).all id=true by simp];exact k H2 s2
  | .tuple ds,pl,dx,dy=>
    simp only [Dat] at dx dy;obtain ⟨a,vs,rfl,ha,da⟩:=dx;obtain ⟨b,ws,rfl,hb,db⟩:=dy;have la:vs.length=ds.length:=da.length;have lb:ws.length=ds.length:=db.length;have Xz:ds.length<=20000:=pl.1;refine ⟨_,rfl,_,_,true,rfl,.tup hb,ji K,_,rfl,jr ?_⟩;refine jr ?_;refine ⟨_,rfl,_,_,true,rfl,.tup ha,ji K,_,rfl,_,_,true,rfl,.tup hb,ji K,rfl,_,rfl, ?_⟩;refine uM rfl ?_;refine ⟨_,rfl,_,_,false,rfl,.tup ha,qw K,_,rfl,_,_,false,rfl,.tup hb,qw K,rfl,_,rfl, ?_⟩;refine uM rfl ?_;refine ⟨_,rfl,a,_,rfl,.inr (cO.of ha),_,rfl,b,_,rfl,.inr (cO.of hb),rfl,_,rfl, ?_⟩;refine uM (by rw [la,lb]) ?_;refine ⟨_,rfl,_,rfl,a,b,vs,ws,rfl,.inr ⟨cO.of ha,cO.of hb,fun D hD=> ?_⟩⟩;refine Ir (K:=K) la lb (fun i=>some (.bl true)) hD ha hb (by omega) (fun i x y H2 G F hx hy s2 kG kF=> ?_) (fun H2 s2 e2=> ?_)
    ·obtain ⟨d,ed,dx⟩:=da.get hx
     obtain ⟨d',ed',dy⟩:=db.get hy;rw [ed] at ed';cases ed';exact ⟨_,rfl,_,rfl,x,y,d,rfl,dx.same s2 d,dy.same s2 d,pl.2 d (List.mem_of_getElem? ed),fun H3 s3=>kF _ H3 s3 rfl⟩
    ·rw [Bx] at e2
     refine ⟨D,List.replicate ds.length true,rfl,bK.of (by rw [e2,List.map_replicate]), ?_⟩;rw [show (List.replicate ds.length true).all id=true by simp];exact k H2 s2
def Cp (ns bs:List Int) (r:Rw):PyData:= .tuple [.str (Tv r),.int (BR r),oD (Ub ns r),oD (Tt bs r)]
theorem Pr {H:Hp} (x:Option Int):Dat H (oV x) (oD x):=by cases x<;>simp only [oV,oD,Dat]
theorem BL {H:Hp} {t:Addr} {ns bs:List Int} {r:Rw} (h:H t=some (.tup (vB ns bs r))):Dat H (.ref t) (Cp ns bs r):=by
 unfold Cp vB at *;simp only [Dat];exact ⟨t,_,rfl,h,by simp only [bf,Dat,and_true,true_and];exact ⟨Pr _,Pr _⟩⟩
theorem Ni {n:Nat} (ns bs:List Int) (r:Rw):LK (n+2) (Cp ns bs r):=by
 refine ⟨by show 4<=20000;decide,fun d hd=> ?_⟩;have:∀x:Option Int,LK (n+1) (oD x):=fun x=>by cases x<;>trivial
 simp only [List.mem_cons,List.mem_nil_iff,or_false] at hd;rcases hd with rfl|rfl|rfl|rfl
 ·trivial
 ·trivial
 ·exact this _
 ·exact this _
structure RT (τ:Tg) (H:Hp) (r:Addr):Prop where
 R:gF H r
 off:∀x o,H x=some o->τ x≠[]->x≠r/\Off H r x
 un:rA τ H
theorem RT.draw {τ:Tg} {H H':Hp} {r:Addr} (h:RT τ H r) (k:KR r H H') (R':gF H' r):RT τ H' r:=by
 have un':rA τ H':=h.un.dom fun x e=>by
  refine Kp.new k.1 e ?_;exact R'.at
 refine ⟨R',fun x o e t=> ?_,un'⟩;cases q:H x with
 | none=>exact absurd (h.un x q) t
 | some u=>
   obtain ⟨n,f⟩:=h.off x u q t;exact ⟨n,k.2 x u q n f⟩
theorem RT.stp {τ:Tg} {H H':Hp} {r:Addr} {i:Nat} (h:RT τ H r) (k:mH i τ H H'):RT τ H' r:=by
 obtain ⟨g,c,gs,cs,p,t,e1,e2,e3,q⟩:=h.R
 have tr:τ r=[]:=by
  by_cases z:τ r=[]
  ·exact z
  ·exact absurd rfl (h.off r _ e1 z).1
 have tg:τ g=[]:=by
  by_cases z:τ g=[]
  ·exact z
  ·exact absurd rfl ((h.off g _ e2 z).2 _ _ _ _ e1).1
 have tc:τ c=[]:=by
  by_cases z:τ c=[]
  ·exact z
  ·exact absurd rfl ((h.off c _ e3 z).2 _ _ _ _ e1).2
 have e1':=k.keep _ _ e1 (by rw [tr];simp);refine ⟨⟨g,c,gs,cs,p,t,e1',k.keep _ _ e2 (by rw [tg];simp),k.keep _ _ e3 (by rw [tc];simp),q⟩,fun x o e t=> ?_,h.un.dom k.dom⟩;cases q:H x with
 | none=>exact absurd (h.un x q) t
 | some u=>
   obtain ⟨n,f⟩:=h.off x u q t;refine ⟨n,fun g' c' u' v' e'=> ?_⟩;rw [e1'] at e';cases e';exact f _ _ _ _ e1
theorem RT.same {τ:Tg} {H H':Hp} {r:Addr} (h:RT τ H r) (k:Same H H'):RT τ H' r:=h.stp (i:=0) (mH.of_same k)
theorem RT.kr {τ:Tg} {H H':Hp} {r:Addr} {i:Nat} (h:RT τ H r) (k:KR r H H'):Mv i τ H τ H':=⟨fun x o e t=>⟨k.1 _ _ e (h.off x o e (by
 rcases t with t|t
 ·rw [t];simp
 ·intro z;rw [z] at t;cases t)).1,rfl⟩,h.R.tups k.1⟩
theorem RT.keep {τ:Tg} {H H':Hp} {r x:Addr} {o:HO} (h:RT τ H r) (k:KR r H H') (e:H x=some o) (t:τ x≠[]):H' x=some o:=k.1 _ _ e (h.off x o e t).1
theorem RT.claim {τ:Tg} {H H':Hp} {r p:Addr} {t:List Nat} (h:RT τ H r) (k:Same H H') (hp:H p=none) (hp':∃o,H' p=some o):RT (aR τ p t) H' r:=by
 have h':=h.same k;refine ⟨h'.R,fun x o e n=> ?_,h.un.claim k hp'⟩
 by_cases z:x=p
 ·subst z
  exact ⟨h.R.ne hp,(h.R.off hp).same h.R k⟩
 ·rw [aU z] at n
  exact h'.off x o e n
theorem RT.made {τ τ':Tg} {H H':Hp} {r:Addr} (h:RT τ H r) (k:Same H H') (tg:∀x u,H x=some u->τ' x=τ x) (un:rA τ' H'):RT τ' H' r:=by
 have h':=h.same k;refine ⟨h'.R,fun x o e n=> ?_,un⟩;cases q:H x with
 | some u=>exact h'.off x o e (by rw [←tg x u q];exact n)
 | none=>exact ⟨h.R.ne q,(h.R.off q).same h.R k⟩
def vH (CH:Addr) (K:PySem.W.Frag):Sp:=fun vs H Q _=>∃(A:qK) (s:bH),vs=[.ref A.h]/\pN CH H A s /\ ∀(B:qK) (H':Hp),H B.h=none->H B.b=none->H B.sy=none->B.r=A.r->pN CH H' B s->Same H H'->Q (.ref B.h) H'
theorem VN (r b b' sy:Addr) (n:Int) (st:Str):cC "in_boxes" (.ref b') (hF r n b sy st)=hF r n b' sy st:=by rfl
theorem VL (r b sy sy':Addr) (n:Int) (st:Str):cC "sayings" (.ref sy') (hF r n b sy st)=hF r n b sy' st:=by rfl
theorem HX {aq:Addr} {f:Addr} {fd:FuncData} (F:j9 K "another" "Hand.another" cV f fd) (aP:iz K aq) (Jf:qH P w K mg base 1 aq "Hand" ["self","rows"] [] (xq aq K)) (Bt:rD mg):bW P w K mg base lE 3 f fd ["self"] (vH aq K):=by
 refine F.ok pJ (fun vs H Q E h=> ?_) (fun cdv A outer s H vs Q E hr h=> ?_)
 ·obtain ⟨A,s,rfl,_⟩:=h
  rfl
 ·obtain ⟨B,s,rfl,c,k⟩:=h
  refine ⟨_,(aD (bT (i:=1) pJ.nd rfl (Or.inl rfl) (ql Jf (hr.mono (by decide)) (by rfl) (aj (bw (K:=K) rfl (pv 0) rfl) aC)))
   (aD (cY (K:=K) rfl (pv 1) (bw (K:=K) rfl (pv 0) rfl) rfl)
   (aD (cY (K:=K) rfl (pv 1) (dj (cQ (K:=K) rfl) (by rfl) Bt.jM iu (aj (bw (K:=K) rfl (pv 0) rfl) aC)) rfl)
   (aD (cY (K:=K) rfl (pv 1) (dj (cQ (K:=K) rfl) (by rfl) Bt.jM iu (aj (bw (K:=K) rfl (pv 0) rfl) aC)) rfl)
   (aD (cY (K:=K) rfl (pv 1) (bw (K:=K) rfl (pv 0) rfl) rfl)
   (aL (bC (pv 1)))))))), ?_⟩
  refine ⟨_,rfl,B.h,aq,B.hx,_,_,rfl,c.h,aP.cls,aP.qp,rfl,fun h hx hh hhx nx=> ?_⟩;have hh':(upd H hx (.own h)) h=none:=by rw [aF nx.symm];exact hh
  have sm:Same H (upd (upd H hx (.own h)) h (.ins aq hx [])):=(aH hhx).trans (aH hh');refine ⟨h,B.r,hx,rfl,ao,fun b0 QD H1 hb0 aob anw e1 eb1 aoz k1=>⟨rfl, ?_⟩⟩;have S1:Same H H1:=fun x u e=>k1 _ _ (sm _ _ e) (aB e hh);clear k1 sm hh';have c1:=c.same S1;refine ⟨_,rfl,B.h,aq,B.hx,_,_,rfl,c1.h,aP.cls,aP.vQ,rfl,_,rfl,h,aq,hx,_,rfl,e1,aP.cls,aP.vQ,(by show 5<1000;decide), ?_⟩;rw [yP];have S2:Same H (upd H1 h (.ins aq hx (hF B.r s.pos b0 QD "waits"))):=fun x u e=>by rw [aF (aB e hh)];exact S1 _ _ e
  have e2:(upd H1 h (.ins aq hx (hF B.r s.pos b0 QD "waits"))) h=some (.ins aq hx (hF B.r s.pos b0 QD "waits")):=ao;generalize (upd H1 h (.ins aq hx (hF B.r s.pos b0 QD "waits")))=H2 at S2 e2 ⊢;have c2:=c.same S2;refine ⟨_,rfl,B.h,aq,B.hx,_,_,rfl,c2.h,aP.cls,aP.jZ,rfl,B.b,_,rfl,.inl (bK.of c2.b),fun b hb=> ?_⟩;have sb:=aH (o:=HO.lst (s.bs.map V.int)) hb;have Rt:b≠h:=(aB e2 hb).symm;refine ⟨_,rfl,h,aq,hx,_,rfl,sb _ _ e2,aP.cls,aP.jZ,(by show 5<1000;decide), ?_⟩;rw [VN];have fb:H b=none:=S2.free hb;have S3:Same H (upd (upd H2 b (.lst (s.bs.map V.int))) h (.ins aq hx (hF B.r s.pos b QD "waits"))):=fun x u e=>by rw [aF (aB e hh)];exact sb _ _ (S2 _ _ e)
  have e3:(upd (upd H2 b (.lst (s.bs.map V.int))) h (.ins aq hx (hF B.r s.pos b QD "waits"))) h=some (.ins aq hx (hF B.r s.pos b QD "waits")):=ao;have eb3:(upd (upd H2 b (.lst (s.bs.map V.int))) h (.ins aq hx (hF B.r s.pos b QD "waits"))) b=some (.lst (s.bs.map V.int)):=by rw [aF Rt,ao]
  generalize (upd (upd H2 b (.lst (s.bs.map V.int))) h (.ins aq hx (hF B.r s.pos b QD "waits")))=H3 at S3 e3 eb3 ⊢;have c3:=c.same S3;refine ⟨_,rfl,B.h,aq,B.hx,_,_,rfl,c3.h,aP.cls,aP.qX,rfl,B.sy,_,rfl,.inl (bK.of c3.y),fun y hy=> ?_⟩;have sy:=aH (o:=HO.lst (s.sy.map V.int)) hy;have Ui:y≠h:=(aB e3 hy).symm;have Kz:b≠y:=aB eb3 hy;refine ⟨_,rfl,h,aq,hx,_,rfl,sy _ _ e3,aP.cls,aP.qX,(by show 5<1000;decide), ?_⟩;rw [VL];have fy:H y=none:=S3.free hy;have S4:Same H (upd (upd H3 y (.lst (s.sy.map V.int))) h (.ins aq hx (hF B.r s.pos b y "waits"))):=fun x u e=>by rw [aF (aB e hh)];exact sy _ _ (S3 _ _ e)
  have e4:(upd (upd H3 y (.lst (s.sy.map V.int))) h (.ins aq hx (hF B.r s.pos b y "waits"))) h=some (.ins aq hx (hF B.r s.pos b y "waits")):=ao;have eb4:(upd (upd H3 y (.lst (s.sy.map V.int))) h (.ins aq hx (hF B.r s.pos b y "waits"))) b=some (.lst (s.bs.map V.int)):=by rw [aF Rt];exact sy _ _ eb3
  have ey4:(upd (upd H3 y (.lst (s.sy.map V.int))) h (.ins aq hx (hF B.r s.pos b y "waits"))) y=some (.lst (s.sy.map V.int)):=by rw [aF Ui,ao]
  generalize (upd (upd H3 y (.lst (s.sy.map V.int))) h (.ins aq hx (hF B.r s.pos b y "waits")))=H4 at S4 e4 eb4 ey4 ⊢;have c4:=c.same S4;refine ⟨_,rfl,B.h,aq,B.hx,_,_,rfl,c4.h,aP.cls,aP.mV,rfl,_,rfl,h,aq,hx,_,rfl,e4,aP.cls,aP.mV,(by show 5<1000;decide), ?_⟩;rw [Df];exact ⟨_,rfl,k ⟨h,hx,B.r,b,y⟩ _ hh fb fy rfl ⟨ao,by rw [aF Rt];exact eb4,by rw [aF Ui];exact ey4,Kz,c.bl⟩ (fun x u e=>by rw [aF (aB e hh)];exact S4 _ _ e)⟩
def Cr (CW CH:Addr) (K:PySem.W.Frag):Sp:=fun vs H Q _=>∃(i i':Nat) (τ:Tg) (W:Jd) (S:lQ),vs=[.ref W.o]/\tY CW CH i τ H W S/\wK S/\S.m<=100/\i'≠0 /\ ∀(τ':Tg) (W':Jd) (H':Hp),tY CW CH i' τ' H' W' S->(∀x u,H x=some u->τ' x=τ x)->Same H H'->Q (.ref W'.o) H'
theorem Ri {ak aq aJ:Addr} {f:Addr} {fd:FuncData} (F:j9 K "twin" "Works.twin" eH f fd) (aQ:eZ K ak) (aP:iz K aq) (En:qH P w K mg base 7 ak "Works" ["self","program","cells"] [] (fun vs H Q _=>qO ak aq aJ K vs H Q fun _ _ _=>False)) (zW:MethAt P w K mg base 3 aq "another" ["self"] (vH aq K)) (Bt:rD mg):bW P w K mg base lE 9 f fd ["self"] (Cr ak aq K):=by
 refine F.ok rH (fun vs H Q E h=> ?_) (fun cdv A outer s H vs Q E hr h=> ?_)
 ·obtain ⟨i,i',τ,W,S,rfl,_⟩:=h
  rfl
 ·obtain ⟨i,i',τ,W,S,rfl,w,g,ml,i0,k⟩:=h
  refine ⟨_,(aD (bT (i:=1) rH.nd rfl (Or.inl rfl) (ql En (hr.mono (by decide)) (by rfl) (aj (bw (K:=K) rfl (pv 0) rfl) (aj (bw (K:=K) rfl (pv 0) rfl) aC))))
   (aD (cY (K:=K) rfl (pv 1) (dU rfl (N:=["one"]) (own:=["one"]) (caps:=[]) (bh.of (by kernel_rfl)) (d_ (K:=K) rfl (bw (K:=K) rfl (pv 0) rfl)) (fun _ _ _ _=>(bO (i:=0) (show List.Nodup (["one"]:List Str) by decide +kernel) rfl (Or.inl rfl))) (fun _ _ _ _=>dR) (fun _ _ _ _=>(eX zW aP.cls (hr.mono (by decide)) (pv 0)))) rfl)
   (aD (cY (K:=K) rfl (pv 1) (dj (cQ (K:=K) rfl) (by rfl) Bt.jM iu (aj (bw (K:=K) rfl (pv 0) rfl) aC)) rfl)
   (aL (bC (pv 1)))))), ?_⟩
  have good:vO S.m S.ns:=⟨by rw [w.nl],g.n⟩;refine ⟨_,rfl,W.o,ak,W.dx,_,_,rfl,w.o,aQ.cls,aQ.vP,rfl,_,rfl,W.o,ak,W.dx,_,_,rfl,w.o,aQ.cls,aQ.lV,rfl,fun o dx ho hdx ndx=> ?_⟩;have ho':(upd H dx (.own o)) o=none:=by rw [aF ndx.symm];exact ho
  have sm:Same H (upd (upd H dx (.own o)) o (.ins ak dx [])):=(aH hdx).trans (aH ho');refine ⟨i',τ,o,dx,W.pg,W.L,W.rs,S.m,.ref W.nb,S.ns,S.hs.map bH.rws,rfl,ao,sm _ _ w.pg,sm _ _ w.L,by rw [List.length_map];exact w.rl,fun kk r x h1 h2=> ?_,by rw [List.length_map];exact w.hn,ml,w.un.same sm,i0,by rw [w.nl];exact ml,.inr ⟨W.nb,rfl,sm _ _ w.nb⟩,fun _ τ1 W1 H1 eo w1 tg kp=>⟨rfl, ?_⟩,fun bad=>absurd good bad⟩
  ·rw [List.getElem?_map] at h2
   cases e:S.hs[kk]? with
   | none=>rw [e] at h2;cases h2
   | some s=>rw [e] at h2;cases h2;exact (w.rs kk r s h1 e).2.same sm
  have S1:Same H H1:=fun x u e=>kp _ _ (sm _ _ e) (aB e ho);have MP:∀x u,H x=some u->τ1 x=τ x:=fun x u e=>tg x u (sm _ _ e) (aB e ho);have fo:H W1.o=none:=by rw [eo];exact ho
  have eo':V.ref o=V.ref W1.o:=by rw [eo]
  rw [eo'];clear kp tg sm ho' eo';have wA:tY ak aq i τ1 H1 W S:=w.mv (Mv.tags S1 MP) w1.un;refine ⟨_,rfl,W.o,ak,W.dx,_,_,rfl,wA.o,aQ.cls,aQ.o8,rfl,W.hl,rfl,⟨_,bK.of wA.hl⟩,fun D hD=> ?_⟩;have sD:=aH (o:=HO.lst []) hD;refine j4 (K:=K) (xs:=W.hd.map fun a=>V.ref a.h) (fun j σ Hc=>∃(v:Option V) (τc:Tg) (hd:List qK),σ=[v]/\hd.length=j/\Same H1 Hc/\Hc D=some (.lst (hd.map fun a=> .ref a.h))/\rA τc Hc/\(∀x u,H1 x=some u->τc x=τ1 x)/\τc D=[i',2] /\ ∀(k:Nat) (A:qK) (s:bH),hd[k]? = some A->S.hs[k]? = some s->wY aq i' k S.m τc Hc A s) ?_ ?_ ?_ ?_
  ·exact ⟨none,aR τ1 D [i',2],[],rfl,rfl,sD,ao,w1.un.claim sD ⟨_,ao⟩,fun x u e=>aU (aB e hD),bB,fun k A s e=>by simp at e⟩
  ·rintro j σ Hc _ ⟨v,τc,hd,rfl,_,sc,_⟩
   exact bK.of (sc _ _ wA.hl)
  ·rintro j x σ Hc hj ⟨v,τc,hd,rfl,lj,sc,X6,unc,Qy,tDc,hc⟩
   rw [List.getElem?_map] at hj
   obtain ⟨A,eA,rfl⟩:∃A,W.hd[j]? = some A/\x = .ref A.h:=by
    cases e:W.hd[j]? with
    | none=>rw [e] at hj;cases hj
    | some A=>rw [e] at hj;exact ⟨A,rfl,(Option.some.inj hj).symm⟩
   have wc:tY ak aq i τc Hc W S:=wA.mv (Mv.tags sc Qy) unc;have jl:j<S.hs.length:=by rw [←w.len];exact (List.getElem?_eq_some_iff.mp eA).1
   have es:S.hs[j]? = some S.hs[j]:=by simp [jl]
   have a:=wc.hd j A _ eA es;dsimp only [gD,wM];rw [if_pos rfl];refine ⟨_,rfl,A.h,A.hx,_,rfl,a.c.h,rfl,A,_,rfl,a.c,fun B H7 fh fb fy er c7 s7=> ?_⟩;have nDh:D≠B.h:=aB X6 fh;have nDb:D≠B.b:=aB X6 fb;have nDy:D≠B.sy:=aB X6 fy;have T:∀x u,Hc x=some u->aR (aR (aR τc B.h [i',4,j]) B.b [i',5,j]) B.sy [i',6,j] x=τc x:=fun y u e=>by rw [aU (aB e fy),aU (aB e fb),aU (aB e fh)]
   have U7:rA (aR (aR (aR τc B.h [i',4,j]) B.b [i',5,j]) B.sy [i',6,j]) H7:=fun y e=>by
    have n1:y≠B.h:=fun z=>by rw [z,c7.h] at e;cases e
    have n2:y≠B.b:=fun z=>by rw [z,c7.b] at e;cases e
    have n3:y≠B.sy:=fun z=>by rw [z,c7.y] at e;cases e
    rw [aU n3,aU n2,aU n1];exact unc y (s7.free e)
   have Th:aR (aR (aR τc B.h [i',4,j]) B.b [i',5,j]) B.sy [i',6,j] B.h=[i',4,j]:=by rw [aU c7.Ui,aU c7.Rt,bB]
   have Tb:aR (aR (aR τc B.h [i',4,j]) B.b [i',5,j]) B.sy [i',6,j] B.b=[i',5,j]:=by rw [aU c7.Kz,bB]
   have Ty:aR (aR (aR τc B.h [i',4,j]) B.b [i',5,j]) B.sy [i',6,j] B.sy=[i',6,j]:=bB;generalize aR (aR (aR τc B.h [i',4,j]) B.b [i',5,j]) B.sy [i',6,j]=τ7 at T U7 Th Tb Ty
   have q7:rG [[i',2]] τc Hc τ7 (upd H7 D (.lst ((hd.map fun a=>V.ref a.h)++[V.ref B.h]))):=by
    refine ⟨fun y u e n=>⟨?_,T y u e⟩,fun y ys e=> ?_⟩
    ·rw [aF (fun z:y=D=>n (by rw [z,tDc];simp))]
     exact s7 _ _ e
    ·rw [aF (eY e X6 (by intro z;cases z))]
     exact s7 _ _ e
   have hjl:hd.length<=100:=by rw [lj];have:=w.hn;omega
   refine ⟨_,s7 _ _ X6,(by rw [List.length_map,sizeLine_eq];omega),some (.ref A.h),τ7,hd++[B],rfl,by simp [lj],fun y u e=> ?_,by rw [ao];simp, ?_,fun y u e=> ?_, ?_, ?_⟩
   ·rw [aF (aB e hD)]
    exact s7 _ _ (sc _ _ e)
   ·exact U7.dom fun y e=>by
     by_cases z:y=D
     ·rw [z,ao] at e;cases e
     ·rw [aF z] at e;exact e
   ·rw [T y u (sc _ _ e)]
    exact Qy y u e
   ·rw [T _ _ X6];exact tDc
   ·intro k A' s' h1 h2
    rcases uO h1 with h1|⟨e1,rfl⟩
    ·exact (hc k A' s' h1 h2).XM q7 (by simp) (by simp) (by simp) (by simp)
    ·rw [e1,lj,es] at h2
     cases h2;rw [e1,lj];obtain ⟨t9,R9⟩:=jh ⟨a.tr,a.r⟩ q7 (by simp);exact ⟨⟨by rw [aF nDh.symm];exact c7.h,by rw [aF nDb.symm];exact c7.b,by rw [aF nDy.symm];exact c7.y,c7.Kz,c7.bl⟩,by rw [er];exact R9,by rw [er];exact t9,Th,Tb,Ty⟩
  rintro σ H8 ⟨v,τ8,hd,rfl,Zx,s18,hD8,Ym,Qz,tD8,hd8⟩;rw [List.length_map] at Zx;have RZ:=s18 _ _ w1.o;have Vd:τ8 W1.o=[i',0]:=by rw [Qz _ _ w1.o];exact w1.to
  refine ⟨_,rfl,W1.o,ak,W1.dx,_,rfl,RZ,aQ.cls,aQ.o8,(by show 4<1000;decide), ?_⟩;have ho9:(upd H8 W1.o (.ins ak W1.dx (cC "hands" (.ref D) (wF W1.pg W1.nb W1.hl W1.tn)))) W1.o=some (.ins ak W1.dx (wF W1.pg W1.nb D W1.tn)):=ao;have q9:rG [[i',0]] τ8 H8 τ8 (upd H8 W1.o (.ins ak W1.dx (cC "hands" (.ref D) (wF W1.pg W1.nb W1.hl W1.tn)))):=rG.set (by rw [Vd];simp) RZ (by intro xs z;cases z)
  have un9:rA τ8 (upd H8 W1.o (.ins ak W1.dx (cC "hands" (.ref D) (wF W1.pg W1.nb W1.hl W1.tn)))):=Ym.dom fun y e=>by
   by_cases z:y=W1.o
   ·rw [z,ao] at e;cases e
   ·rw [aF z] at e;exact e
  have S9:Same H (upd H8 W1.o (.ins ak W1.dx (cC "hands" (.ref D) (wF W1.pg W1.nb W1.hl W1.tn)))):=fun x u e=>by rw [aF (aB e fo)];exact s18 _ _ (S1 _ _ e)
  generalize (upd H8 W1.o (.ins ak W1.dx (cC "hands" (.ref D) (wF W1.pg W1.nb W1.hl W1.tn))))=H9 at ho9 q9 un9 S9 ⊢;have w9:tY ak aq i τ8 H9 W S:=w.mv (Mv.tags S9 fun x u e=>(Qz x u (S1 _ _ e)).trans (MP x u e)) un9;refine ⟨_,rfl,W.o,ak,W.dx,_,_,rfl,w9.o,aQ.cls,aQ.uI,rfl,W.tn,_,rfl,.inl (bK.of w9.tn),fun t ht=> ?_⟩;have st:=aH (o:=HO.lst (S.ts.map V.int)) ht;have nto:t≠W1.o:=(aB ho9 ht).symm;refine ⟨_,rfl,W1.o,ak,W1.dx,_,rfl,st _ _ ho9,aQ.cls,aQ.uI,(by show 4<1000;decide), ?_⟩;have K5:(upd (upd H9 t (.lst (S.ts.map V.int))) W1.o (.ins ak W1.dx (cC "turns" (.ref t) (wF W1.pg W1.nb D W1.tn)))) W1.o=some (.ins ak W1.dx (wF W1.pg W1.nb D t)):=ao;have ZP:(upd (upd H9 t (.lst (S.ts.map V.int))) W1.o (.ins ak W1.dx (cC "turns" (.ref t) (wF W1.pg W1.nb D W1.tn)))) t=some (.lst (S.ts.map V.int)):=by rw [aF nto,ao]
  have VJ:rG [[i',0]] τ8 H9 (aR τ8 t [i',3]) (upd (upd H9 t (.lst (S.ts.map V.int))) W1.o (.ins ak W1.dx (cC "turns" (.ref t) (wF W1.pg W1.nb D W1.tn)))):=(rG.claim st ht).trans (rG.set (by rw [aU nto.symm,Vd];simp) (st _ _ ho9) (by intro xs z;cases z))
  have Vb:rA (aR τ8 t [i',3]) (upd (upd H9 t (.lst (S.ts.map V.int))) W1.o (.ins ak W1.dx (cC "turns" (.ref t) (wF W1.pg W1.nb D W1.tn)))):=(un9.claim st ⟨_,ao⟩).dom fun y e=>by
   by_cases z:y=W1.o
   ·rw [z,ao] at e;cases e
   ·rw [aF z] at e;exact e
  have S10:Same H (upd (upd H9 t (.lst (S.ts.map V.int))) W1.o (.ins ak W1.dx (cC "turns" (.ref t) (wF W1.pg W1.nb D W1.tn)))):=fun x u e=>by rw [aF (aB e fo)];exact st _ _ (S9 _ _ e)
  have J_:aR τ8 t [i',3] W1.o=[i',0]:=by rw [aU nto.symm];exact Vd
  have J9:aR τ8 t [i',3] t=[i',3]:=bB;have tgt:∀x u,H x=some u->aR τ8 t [i',3] x=τ x:=fun x u e=>by rw [aU (aB (S9 _ _ e) ht)];exact (Qz x u (S1 _ _ e)).trans (MP x u e)
  have Q18:rG [[i',0]] τ1 H1 τ8 H8:=⟨fun x u e _=>⟨s18 _ _ e,Qz x u e⟩,s18.tups⟩;have Q8:=q9.trans VJ;generalize (upd (upd H9 t (.lst (S.ts.map V.int))) W1.o (.ins ak W1.dx (cC "turns" (.ref t) (wF W1.pg W1.nb D W1.tn))))=U5 at K5 ZP VJ Vb S10 Q8 ⊢;generalize aR τ8 t [i',3]=Ey at VJ Vb J_ J9 tgt Q8;have Q1:=Q18.trans Q8;have hL:=Q1.keep _ _ w1.L (by rw [w1.tL];simp);have hnb:=Q1.keep _ _ w1.nb (by rw [w1.tb];simp);have OD:=Q8.keep _ _ hD8 (by rw [tD8];simp);refine ⟨_,rfl,k Ey ⟨W1.o,W1.dx,W1.pg,W1.L,W1.nb,D,t,W1.rs,hd⟩ U5 ⟨Vb,i0,K5,Q1.tup _ _ w1.pg,hL.1,hnb.1,OD.1,ZP,J_,hnb.2.trans w1.tb,OD.2.trans tD8,J9,hL.2.trans w1.tL, ?_, ?_,by rw [Zx,w.len],fun kk A s h1 h2=>(hd8 kk A s h1 h2).XM Q8 (by simp) (by simp) (by simp) (by simp),w.ok,w.sl,w.nl,w.hn⟩ tgt S10⟩
  ·have:=w1.rl
   unfold Ao at this;simpa using this
  ·intro kk r s h1 h2
   have e1:(Ao S.m S.ns (S.hs.map bH.rws)).hs[kk]? = some (lead (new s.rws)):=by
    show ((S.hs.map bH.rws).map fun r=>lead (new r))[kk]? = _;rw [List.getElem?_map,List.getElem?_map,h2];rfl
   have:=w1.rs kk r _ h1 e1;rw [show (lead (new s.rws)).rws=s.rws from uL _ _] at this;exact jh this Q1 (by simp)
theorem aaC (a b c d:V):qz [a,b,c,d] none (some 2)=[a,b]:=Px _ 2
theorem aaB (a b c d:V):qz [a,b,c,d] (some 2) none=[c,d]:=Gs _ 2
theorem V_ {α:Type} (xs:List α) (h:xs.length=4):¬(HT.jQ xs.length 0 none=0/\HT.jQ xs.length xs.length (some 2)=xs.length):=by
 rw [h];decide
theorem V9 {α:Type} (xs:List α) (h:xs.length=4):¬(HT.jQ xs.length 0 (some 2)=0/\HT.jQ xs.length xs.length none=xs.length):=by
 rw [h];decide
def nt (H H':Hp):Hp:=fun x=>match H' x with
 | some (.tup xs)=>some (.tup xs)
 | o=>match H x with
   | none=>o
   | some _=>none
theorem Wh {H H':Hp} {x:Addr} {xs:List V} (e:H' x=some (.tup xs)):nt H H' x=some (.tup xs):=by unfold nt;rw [e]
theorem Ug {H H':Hp} {x:Addr} {o:HO} (n:H x=none) (e:H' x=some o):nt H H' x=some o:=by
 unfold nt;rw [e,n];cases o<;>rfl
theorem Wj {H H':Hp} {x:Addr} {o:HO} (e:nt H H' x=some o):H' x=some o/\((∃xs,o = .tup xs)\/H x=none):=by
 unfold nt at e;split at e
 ·rename_i xs q
  cases e;exact ⟨q,.inl ⟨_,rfl⟩⟩
 ·cases q:H x with
  | none=>rw [q] at e;exact ⟨e,.inr rfl⟩
  | some u=>rw [q] at e;cases e
def mO (τ:Tg) (H:Hp):Hp:=fun x=>match H x with
 | some (.tup xs)=>some (.tup xs)
 | o=>if τ x=[0] then o else none
theorem pY {τ:Tg} {H:Hp} {x:Addr} {xs:List V} (e:H x=some (.tup xs)):mO τ H x=some (.tup xs):=by unfold mO;rw [e]
theorem jC {τ:Tg} {H:Hp} {x:Addr} {o:HO} (t:τ x=[0]) (e:H x=some o):mO τ H x=some o:=by
 unfold mO;rw [e];cases o<;>simp only [t,if_true]<;>rfl
theorem yr {τ:Tg} {H:Hp} {x:Addr} {o:HO} (e:mO τ H x=some o):H x=some o/\((∃xs,o = .tup xs)\/τ x=[0]):=by
 unfold mO at e;split at e
 ·rename_i xs q
  cases e;exact ⟨q,.inl ⟨_,rfl⟩⟩
 ·by_cases t:τ x=[0]
  ·rw [if_pos t] at e;exact ⟨e,.inr t⟩
  ·rw [if_neg t] at e;cases e
theorem lU (τ:Tg) (H:Hp):Same (mO τ H) H:=fun x o e=>(yr e).1
theorem lG {i:Nat} {τ τ':Tg} {H H':Hp} (q:Mv i τ H τ' H'):Same (mO τ H) (mO τ' H'):=fun x o e=>by
 obtain ⟨e,⟨xs,rfl⟩|t⟩:=yr e
 ·exact pY (q.tup _ _ e)
 ·have:=q.keep x o e (.inl t)
  exact jC (this.2.trans t) this.1
theorem gA {i:Nat} {τ:Tg} {H H':Hp} (q:mH i τ H H') (i0:i≠0):Same (mO τ H) (mO τ H'):=fun x o e=>by
 obtain ⟨e,⟨xs,rfl⟩|t⟩:=yr e
 ·exact pY (q.tup _ _ e)
 ·exact jC t (q.keep x o e (by rw [t];intro z;exact i0 (Option.some.inj z).symm))
def z_ (τ:Tg) (H H':Hp):Tg:=fun x=>match H x with
 | some _=>τ x
 | none=>match H' x with
   | some _=>[0]
   | none=>τ x
theorem Jj {τ:Tg} {H H':Hp} {x:Addr} {o:HO} (e:H x=some o):z_ τ H H' x=τ x:=by unfold z_;rw [e]
theorem qN {τ:Tg} {H H':Hp} {x:Addr} {o:HO} (n:H x=none) (e:H' x=some o):z_ τ H H' x=[0]:=by unfold z_;rw [n];simp only [e]
theorem MN {τ:Tg} {H H':Hp} (k:Same H H') (u:rA τ H):rA (z_ τ H H') H':=fun x e=>by
 have n:=k.free e;unfold z_;rw [n];simp only [e];exact u x n
theorem Wi {τ:Tg} {H H':Hp}:Same (nt H H') (mO (z_ τ H H') H'):=fun x o e=>by
 obtain ⟨e,⟨xs,rfl⟩|n⟩:=Wj e
 ·exact pY e
 ·exact jC (qN n e) e
abbrev JX:=Int×Int
def pD (x:JX):PyData:= .tuple [.int x.1,.int x.2]
theorem qx (x:JX):Ew (pD x)=true:=rfl
theorem JM {H:Hp} {t:Addr} {x:JX} (h:H t=some (.tup [.int x.1,.int x.2])):Dat H (.ref t) (pD x):=by
 simp only [pD,Dat];exact ⟨t,_,rfl,h,by simp only [bf,Dat,and_self]⟩
theorem Gq {H:Hp} {v:V} {x:JX} (h:Dat H v (pD x)):∃t,v = .ref t/\H t=some (.tup [.int x.1,.int x.2]):=by
 simp only [pD,Dat] at h;obtain ⟨t,vs,e,q,d⟩:=h
 match vs,d with
 | [a,b],d=>
   simp only [bf,Dat,and_true] at d;obtain ⟨rfl,rfl⟩:=d;exact ⟨t,e,q⟩
 | [],d=>simp only [bf] at d
 | [_],d=>simp only [bf,and_false] at d
 | _::_::_::_,d=>simp only [bf,and_false] at d
def qF (H:Hp) (a:Addr) (ps:List JX):Prop:=∃vs,H a=some (.lst vs)/\bf H vs (ps.map pD)
theorem qF.same {H H':Hp} {a:Addr} {ws:List JX} (h:qF H a ws) (k:Same H H'):qF H' a ws:=by
 obtain ⟨vs,e,d⟩:=h;exact ⟨vs,k _ _ e,bf.keep k.tups _ (gW _ qx ws) d⟩
theorem Q6 {H:Hp} {vs:List V} {ps:List JX} {i:Nat} {v:V} (d:bf H vs (ps.map pD)) (e:vs[i]? = some v):∃x t,ps[i]? = some x/\v = .ref t/\H t=some (.tup [.int x.1,.int x.2]):=by
 obtain ⟨q,eq,dq⟩:=d.get e;rw [List.getElem?_map] at eq;cases ex:ps[i]? with
 | none=>rw [ex] at eq;cases eq
 | some x=>
   rw [ex] at eq;cases eq;obtain ⟨t,rfl,ht⟩:=Gq dq;exact ⟨x,t,rfl,rfl,ht⟩
def ft (x:Nt):JX:=(x.1,x.2.1)
def cZ (ns:List Nt) (o m:Int):List JX:=(ns.filter fun x=>decide (x.2.2.1=o)&&decide (x.2.2.2=m)).map ft
theorem Ag (ns:List Nt) (x:Nt) (o m:Int):cZ (ns++[x]) o m=cZ ns o m++(if x.2.2.1=o/\x.2.2.2=m then [ft x] else []):=by
 unfold cZ;rw [List.filter_append,List.map_append];congr 1
 by_cases e:x.2.2.1=o/\x.2.2.2=m
 ·simp [e.1,e.2]
 ·rw [if_neg e]
  by_cases e1:x.2.2.1=o
  ·have e2:¬x.2.2.2=m:=fun z=>e ⟨e1,z⟩
   simp [e2]
  ·simp [e1]
def mK (H:Hp) (f:Addr) (ns:List Nt):Prop:=∃kvs,H f=some (.dT kvs) /\ ∀o m:Int,(gU kvs [Sum.inl o,Sum.inl m]=none/\cZ ns o m=[]) \/ ∃l,gU kvs [Sum.inl o,Sum.inl m]=some (.ref l)/\qF H l (cZ ns o m)
theorem mK.same {H H':Hp} {f:Addr} {ns:List Nt} (h:mK H f ns) (k:Same H H'):mK H' f ns:=by
 obtain ⟨kvs,e,q⟩:=h;refine ⟨kvs,k _ _ e,fun o m=> ?_⟩;rcases q o m with z|⟨l,e1,e2⟩
 ·exact .inl z
 ·exact .inr ⟨l,e1,e2.same k⟩
def yF (K:PySem.W.Frag):Sp:=fun vs H Q _=>∃(t c a:Addr) (cs:List Int) (ns:List Nt),vs=[.ref t]/\RecAt H t c a cs ns/\Cd cs ns /\ ∀(f:Addr) (H':Hp),H f=none->mK (nt H H') f ns->Same H H'->Q (.ref f) H'
theorem Ks {f:Addr} {fd:FuncData} (F:j9 K "firsts_of" "firsts_of" fL f fd):bW P w K mg base lE 1 f fd ["record"] (yF K):=by
 refine F.ok oY (fun vs H Q E h=> ?_) (fun cdv A outer s H vs Q E hr h=> ?_)
 ·obtain ⟨t,c,a,cs,ns,rfl,_⟩:=h
  rfl
 ·obtain ⟨t,c,a,cs,ns,rfl,R,ok,k⟩:=h
  have hu:=Us hr;obtain ⟨ht,hc,nvs,ha,dn⟩:=id R;have nvl:nvs.length=ns.length:=by rw [dn.length,List.length_map]
  have nl:=ok.2.1
  refine ⟨_,(aD (bT (i:=1) oY.nd rfl (Or.inl rfl) Nu)
   (aD (qe PassesOwn.never rfl (d_ (K:=K) rfl (aY (bx (K:=K) rfl) (pv 0) aG (fun _ _=>rfl))) (bO (i:=2) oY.nd rfl (Or.inl rfl))
   (aL (fj (mF (K:=K) rfl (Nr hu (pv 1) (nR (Jo (K:=K) rfl) (pv 2) (qR aG) qT) (eU aC) ⟨rfl,rfl,rfl,rfl⟩) (aj (nR (Jo (K:=K) rfl) (pv 2) qT (qR aG)) aC)))))
   (aL (bC (pv 1))))), ?_⟩
  intro f hf;have s1:=aH (o:=HO.dT []) hf;refine ⟨_,rfl,_,_,_,_,rfl,rfl,cO.of (s1 _ _ ht),rfl,a,rfl,⟨_,bK.of (s1 _ _ ha)⟩, ?_⟩
  refine zq (K:=K) (a:=a) (xs:=nvs) (fun i σ H2=>∃(x:Option V) (kvs:List (List Key×V)),σ=[some (.ref t),some (.ref f),x]/\Same H H2/\H2 f=some (.dT kvs)/\kvs.length<=i /\
   (∀o m:Int,(gU kvs [Sum.inl o,Sum.inl m]=none/\cZ (ns.take i) o m=[]) \/ ∃l,gU kvs [Sum.inl o,Sum.inl m]=some (.ref l)/\qF H2 l (cZ (ns.take i) o m)/\H l=none/\l≠f) /\
   (∀(o m o' m':Int) l,gU kvs [Sum.inl o,Sum.inl m]=some (.ref l)->gU kvs [Sum.inl o',Sum.inl m']=some (.ref l)->o=o'/\m=m'))
   ⟨none,[],rfl,s1,ao,Nat.zero_le _,fun o m=> .inl ⟨rfl,rfl⟩,fun o m o' m' l h=>by cases h⟩ (fun i σ H2 _ ⟨_,_,_,sm,_⟩=>bK.of (sm _ _ ha)) ?_ ?_
  ·rintro i v σ H2 hi ⟨x0,kvs,rfl,sm,hF,kl,hval,inj⟩
   obtain ⟨x,w,ex,rfl,hx⟩:=Jx dn hi;have il:i<nvs.length:=(List.getElem?_eq_some_iff.mp hi).1;have hx2:=sm _ _ hx;have tk:ns.take (i+1)=ns.take i++[x]:=by rw [List.take_add_one,ex];rfl
   refine Gn (fun v H3=>∃l Dv,v = .ref l/\Same H H3/\(∀a xs,H2 a=some (HO.tup xs)->H3 a=some (HO.tup xs))/\H3 f=some (.dT Dv)/\Dv.length<=i+1/\gU Dv [Sum.inl x.2.2.1,Sum.inl x.2.2.2]=some (.ref l) /\
    (∀o m:Int,(gU Dv [Sum.inl o,Sum.inl m]=none/\cZ (ns.take i) o m=[]) \/ ∃l,gU Dv [Sum.inl o,Sum.inl m]=some (.ref l)/\qF H3 l (cZ (ns.take i) o m)/\H l=none/\l≠f) /\
    (∀(o m o' m':Int) l,gU Dv [Sum.inl o,Sum.inl m]=some (.ref l)->gU Dv [Sum.inl o',Sum.inl m']=some (.ref l)->o=o'/\m=m')) (fun Q' kQ=> ?_) ?_
   ·refine ⟨_,rfl,f,rfl,.inr ⟨_,.inl hF⟩,_,rfl,_,rfl,_,_,rfl,cO.of hx2,V9 _ rfl,fun p1 hp1=> ?_⟩
    have c2:qz (nV x) (some 2) none=[.int x.2.2.1,.int x.2.2.2]:=aaB ..;rw [c2];have sp1:=aH (o:=HO.tup [V.int x.2.2.1,V.int x.2.2.2]) hp1;refine ⟨(by show 0<=sizeLine;decide),fun e he=> ?_⟩;have sp2:=aH (o:=HO.lst []) he;have s12:=sp1.trans sp2;refine ⟨kvs,[Sum.inl x.2.2.1,Sum.inl x.2.2.2],p1,s12 _ _ hF,rfl,sp2 _ _ ao,by rw [sizeLine_eq];omega,fun v hv=> ?_,fun hn=> ?_⟩
    ·rcases hval x.2.2.1 x.2.2.2 with z|⟨l,e1,e2,e3,e4⟩
     ·rw [z.1] at hv;cases hv
     ·rw [e1] at hv
      cases hv;refine kQ _ _ ⟨l,kvs,rfl,sm.trans s12,s12.tups,s12 _ _ hF,by omega,e1,fun o m=> ?_,inj⟩;rcases hval o m with z|⟨l',f1,f2,f3,f4⟩
      ·exact .inl z
      ·exact .inr ⟨l',f1,f2.same s12,f3,f4⟩
    ·have kF:Kp f (upd (upd H2 p1 (.tup [V.int x.2.2.1,V.int x.2.2.2])) e (.lst [])) (upd (upd (upd H2 p1 (.tup [V.int x.2.2.1,V.int x.2.2.2])) e (.lst [])) f (.dT (putK kvs [Sum.inl x.2.2.1,Sum.inl x.2.2.2] (.ref e)))):=Kp.set
     have nef:e≠f:=fun z=>by rw [←z] at hF;rw [sp1 _ _ hF] at he;cases he
     have hFe:(upd (upd H2 p1 (.tup [V.int x.2.2.1,V.int x.2.2.2])) e (.lst [])) f=some (.dT kvs):=s12 _ _ hF;have he2:H2 e=none:=sp1.free he;have tF:∀a xs,(upd (upd H2 p1 (.tup [V.int x.2.2.1,V.int x.2.2.2])) e (.lst [])) a=some (HO.tup xs)->(upd (upd (upd H2 p1 (.tup [V.int x.2.2.1,V.int x.2.2.2])) e (.lst [])) f (.dT (putK kvs [Sum.inl x.2.2.1,Sum.inl x.2.2.2] (.ref e)))) a=some (HO.tup xs):=fun a xs h=>kF _ _ h (eY h hFe (by intro z;cases z))
     have neq:∀o m:Int,([Sum.inl o,Sum.inl m]:List Key)=[Sum.inl x.2.2.1,Sum.inl x.2.2.2]↔o=x.2.2.1/\m=x.2.2.2:=fun o m=>by
      constructor
      ·intro z;injection z with z1 z2;injection z2 with z2 _;exact ⟨Sum.inl.inj z1,Sum.inl.inj z2⟩
      ·rintro ⟨rfl,rfl⟩;rfl
     refine kQ _ _ ⟨e,_,rfl,fun b o eb=>kF _ _ ((sm.trans s12) _ _ eb) (aB eb hf),fun a xs h=>tF _ _ (s12.tups _ _ h),ao, ?_,by rw [yq,if_pos rfl],fun o m=> ?_,fun o m o' m' l h1 h2=> ?_⟩
     ·exact Nat.le_trans (wG ..) (by omega)
     ·rw [yq]
      by_cases q:o=x.2.2.1/\m=x.2.2.2
      ·rw [if_pos ((neq o m).mpr q)]
       obtain ⟨rfl,rfl⟩:=q;refine .inr ⟨e,rfl, ?_,sm.free he2,nef⟩;rcases hval x.2.2.1 x.2.2.2 with z|⟨l,e1,_⟩
       ·rw [z.2]
        exact ⟨[],kF _ _ ao nef,by simp [bf]⟩
       ·rw [e1] at hn;cases hn
      ·rw [if_neg fun z=>q ((neq o m).mp z)]
       rcases hval o m with z|⟨l',f1,f2,f3,f4⟩
       ·exact .inl z
       ·refine .inr ⟨l',f1, ?_,f3,f4⟩
        obtain ⟨ws,g1,g2⟩:=f2.same s12;exact ⟨ws,kF _ _ g1 f4,bf.keep tF _ (gW _ qx _) g2⟩
     ·rw [yq] at h1 h2
      have old:∀o m:Int,gU kvs [Sum.inl o,Sum.inl m]=some (V.ref e)->False:=fun o m h=>by
       rcases hval o m with z|⟨l',f1,⟨ws,g1,_⟩,f3,f4⟩
       ·rw [z.1] at h;cases h
       ·rw [f1] at h
        cases h;rw [he2] at g1;cases g1
      by_cases q:o=x.2.2.1/\m=x.2.2.2
      ·rw [if_pos ((neq o m).mpr q)] at h1
       cases h1
       by_cases q':o'=x.2.2.1/\m'=x.2.2.2
       ·exact ⟨q.1.trans q'.1.symm,q.2.trans q'.2.symm⟩
       ·rw [if_neg fun z=>q' ((neq o' m').mp z)] at h2
        exact (old _ _ h2).elim
      ·rw [if_neg fun z=>q ((neq o m).mp z)] at h1
       by_cases q':o'=x.2.2.1/\m'=x.2.2.2
       ·rw [if_pos ((neq o' m').mpr q')] at h2
        cases h2;exact (old _ _ h1).elim
       ·rw [if_neg fun z=>q' ((neq o' m').mp z)] at h2
        exact inj _ _ _ _ _ h1 h2
   ·rintro v H3 ⟨l,Dv,rfl,sm3,tp3,hF3,kl3,hkey,Ur,ZC⟩
    obtain ⟨z0,PL,hl0,nlf⟩:∃z0:True,qF H3 l (cZ (ns.take i) x.2.2.1 x.2.2.2)/\H l=none/\l≠f:=by
     rcases Ur x.2.2.1 x.2.2.2 with z|⟨l',f1,f2,f3,f4⟩
     ·rw [z.1] at hkey;cases hkey
     ·rw [f1] at hkey
      cases hkey;exact ⟨trivial,f2,f3,f4⟩
    obtain ⟨ws,hl3,dl3⟩:=id PL;refine ⟨.inl ⟨rfl,_,bK.of hl3⟩,_,rfl,_,rfl,_,_,rfl,cO.of (tp3 _ _ hx2),V_ _ rfl,fun p2 hp2=> ?_⟩;have c1:qz (nV x) none (some 2)=[.int x.1,.int x.2.1]:=aaC ..;rw [c1];have sp:=aH (o:=HO.tup [V.int x.1,V.int x.2.1]) hp2
    have wl:ws.length<=ns.length:=by
     rw [dl3.length,List.length_map];unfold cZ;rw [List.length_map];have a1:=List.length_filter_le (fun y:Nt=>decide (y.2.2.1=x.2.2.1)&&decide (y.2.2.2=x.2.2.2)) (ns.take i);have a2:(ns.take i).length<=ns.length:=by rw [List.length_take];omega
     omega
    refine ⟨l,ws,_,rfl,rfl,sp _ _ hl3,by rw [sizeLine_eq];omega, ?_⟩;have kL:Kp l (upd H3 p2 (.tup [V.int x.1,V.int x.2.1])) (upd (upd H3 p2 (.tup [V.int x.1,V.int x.2.1])) l (.lst (ws++[V.ref p2]))):=Kp.set;have tL:=kL.tups (sp _ _ hl3);refine ⟨_,Dv,rfl,fun b o eb=>kL _ _ (sp _ _ (sm3 _ _ eb)) (aB eb hl0),kL _ _ (sp _ _ hF3) nlf.symm,kl3,fun o m=> ?_,ZC⟩;rw [tk,Ag]
    by_cases q:x.2.2.1=o/\x.2.2.2=m
    ·obtain ⟨rfl,rfl⟩:=q
     rw [if_pos ⟨rfl,rfl⟩];refine .inr ⟨l,hkey,⟨_,ao, ?_⟩,hl0,nlf⟩;rw [List.map_append];exact bf.append (bf.keep (fun a xs h=>tL _ _ (sp.tups _ _ h)) _ (gW _ qx _) dl3) (UJ (JM (x:=ft x) (tL _ _ ao)))
    ·rw [if_neg q,List.append_nil]
     rcases Ur o m with z|⟨l',f1,f2,f3,f4⟩
     ·exact .inl z
     ·have nll:l'≠l:=fun z=>by
       subst z;obtain ⟨e1,e2⟩:=ZC _ _ _ _ _ f1 hkey;exact q ⟨e1.symm,e2.symm⟩
      obtain ⟨us,g1,g2⟩:=f2;exact .inr ⟨l',f1,⟨us,kL _ _ (sp _ _ g1) nll,bf.keep (fun a xs h=>tL _ _ (sp.tups _ _ h)) _ (gW _ qx _) g2⟩,f3,f4⟩
  ·rintro σ H2 ⟨x0,kvs,rfl,sm,hF,kl,hval,inj⟩
   rw [nvl,List.take_length] at hval;refine ⟨_,rfl,k f H2 hf ⟨kvs,Ug hf hF,fun o m=> ?_⟩ sm⟩;rcases hval o m with z|⟨l,f1,⟨ws,g1,g2⟩,hl0,_⟩
   ·exact .inl z
   ·exact .inr ⟨l,f1,ws,Ug hl0 g1,bf.keep (fun a xs e=>Wh e) _ (gW _ qx _) g2⟩
def yE (K:PySem.W.Frag):Sp:=fun vs H Q _=>∃(t:Addr) (x:Nt),vs=[.ref t]/\H t=some (.tup (nV x)) /\ ∀H',Same H H'->Q (.bl (!decide (x.1=x.2.2.1))) H'
theorem HS {f:Addr} {fd:FuncData} (F:j9 K "is_note" "is_note" iM f fd) (tZ:FnAt P w K mg base 1 "is_whole" ["value"] (QF K)) (Bt:rD mg):bW P w K mg base lE 2 f fd ["value"] (yE K):=by
 refine F.ok Hj (fun vs H Q E h=> ?_) (fun cdv A outer s H vs Q E hr h=> ?_)
 ·obtain ⟨t,x,rfl,_⟩:=h
  rfl
 ·obtain ⟨t,x,rfl,ht,k⟩:=h
  have vV:=hr.units
  refine ⟨_,(aD (cD (PW.pt (pK (fB (dh (aV (cW (K:=K) (cv:= .ty "tuple") (c:= .type "tuple") rfl rfl) (by rfl) Bt.bJ bG (aj (pv 0) (aj (fQ (v:= .ty "tuple") (by rfl) Bt.xG uV rfl) aC))))) (mj (bI rJ (aV (aX (K:=K) rfl) (by rfl) Bt.gq cX (aj (pv 0) aC)) aG (bF _))))) (aL (bC mU)) bL)
   (aL (bC (tH (aV (gY (K:=K) rfl rfl) (by rfl) Bt.GP zE (aj (dU rfl (N:=["number"]) (own:=["number"]) (caps:=[]) (bh.of (by kernel_rfl)) (Q9 (K:=K) rfl (pv 0)) (fun _ _ _ _=>(bO (i:=0) (show List.Nodup (["number"]:List Str) by decide +kernel) rfl (Or.inl rfl))) (fun _ _ _ _=>dR) (fun _ _ _ _=>(b_ tZ (hr.mono (by decide)) (by rfl) (aj (pv 0) aC)))) aC)) (tG (fu rJ (aY (bx (K:=K) rfl) (pv 0) aG (fun _ _=>rfl)) (aY (bx (K:=K) rfl) (pv 0) aG (fun _ _=>rfl)) (bF _))))))), ?_⟩
  refine ⟨_,rfl,_,_,true,rfl,.tup ht,ji K,true,rfl, ?_⟩;refine dZ ?_;refine ⟨_,rfl,t,_,rfl,.inr (cO.of ht),rfl,_,rfl, ?_⟩;refine uM (by rfl) ?_;refine ⟨_,rfl,t,rfl,⟨_,cO.of ht⟩,fun D hD=> ?_⟩;refine Lg (K:=K) (fun i=>some (.bl true)) hD ht (by show 4<=100000;decide) (fun i v H2 G F hi s2 kG kF=> ?_) (fun H2 s2 e2=> ?_)
  ·obtain ⟨z,rfl⟩:∃z,v=V.int z:=by
    have hm:=List.mem_of_getElem? hi;simp only [nV,List.mem_cons,List.not_mem_nil,or_false] at hm;rcases hm with rfl|rfl|rfl|rfl<;>exact ⟨_,rfl⟩
   exact ⟨_,rfl,z,rfl,kF _ H2 (Same.refl _) rfl⟩
  ·refine ⟨D,[true,true,true,true],rfl,bK.of e2,true,rfl, ?_⟩
   refine jr ?_;refine ⟨_,rfl,_,_,_,_,rfl,rfl,cO.of (s2 _ _ ht),rfl,_,rfl,_,_,_,_,rfl,rfl,cO.of (s2 _ _ ht),rfl,rfl, ?_⟩
   have e:(!decide (V.int x.1=V.int x.2.2.1))=(!decide (x.1=x.2.2.1)):=by
    by_cases q:x.1=x.2.2.1
    ·simp [q]
    ·simp [q]
   show Q (.bl (!decide (V.int x.1=V.int x.2.2.1))) H2;rw [e];exact k H2 s2
def vG (K:PySem.W.Frag):Sp:=fun vs H Q _=>∃(c t:Addr) (cs:List Int) (x:Nt),vs=[.ref c,.ref t]/\H c=some (.lst (cs.map V.int))/\H t=some (.tup (nV x))/\abx cs x/\Ql cs /\ ∀H',Same H H'->Q (.bl true) H'
theorem Ae {f:Addr} {fd:FuncData} (F:j9 K "is_between" "is_between" eG f fd) (gj:FnAt P w K mg base 2 "is_below" ["value","count"] (qP K)) (Ls:FnAt P w K mg base 2 "is_note" ["value"] (yE K)) (Bt:rD mg):bW P w K mg base lE 3 f fd ["counts","note"] (vG K):=by
 refine F.ok Ab (fun vs H Q E h=> ?_) (fun cdv A outer s H vs Q E hr h=> ?_)
 ·obtain ⟨c,t,cs,x,rfl,_⟩:=h
  rfl
 ·obtain ⟨c,t,cs,x,rfl,hc,ht,ok,cok,k⟩:=h
  have vV:=hr.units;obtain ⟨⟨h0,h1⟩,⟨k0,k1⟩,⟨o0,o1⟩,⟨m0,m1⟩,hne⟩:=id ok
  refine ⟨_,(aD (cD (PW.pt (pK (fB (dh (b_ Ls (hr.mono (by decide)) (by rfl) (aj (pv 1) aC)))) (pK (fB (dh (b_ gj (hr.mono (by decide)) (by rfl) (aj (aY (bx (K:=K) rfl) (pv 1) aG (fun _ _=>rfl)) (aj (aV (aX (K:=K) rfl) (by rfl) Bt.gq cX (aj (pv 0) aC)) aC))))) (mj (fB (dh (b_ gj (hr.mono (by decide)) (by rfl) (aj (aY (bx (K:=K) rfl) (pv 1) aG (fun _ _=>rfl)) (aj (aV (aX (K:=K) rfl) (by rfl) Bt.gq cX (aj (pv 0) aC)) aC))))))))) (aL (bC mU)) bL)
   (aL (bC (tH (b_ gj (hr.mono (by decide)) (by rfl) (aj (aY (bx (K:=K) rfl) (pv 1) aG (fun _ _=>rfl)) (aj (aY (aZ (K:=K) rfl) (pv 0) (aY (bx (K:=K) rfl) (pv 1) aG (fun _ _=>rfl)) (fun _ _=>rfl)) aC))) (tG (b_ gj (hr.mono (by decide)) (by rfl) (aj (aY (bx (K:=K) rfl) (pv 1) aG (fun _ _=>rfl)) (aj (aY (aZ (K:=K) rfl) (pv 0) (aY (bx (K:=K) rfl) (pv 1) aG (fun _ _=>rfl)) (fun _ _=>rfl)) aC)))))))), ?_⟩
  refine ⟨_,rfl,t,x,rfl,ht,fun H1 s1=>⟨_,rfl, ?_⟩⟩;rw [show (!decide (x.1=x.2.2.1))=true by simp [hne]];refine dZ ?_;have hc1:=s1 _ _ hc;have ht1:=s1 _ _ ht;refine ⟨_,rfl,_,_,_,_,rfl,rfl,cO.of ht1,rfl,_,rfl,c,_,rfl,.inl (bK.of hc1),_,_,rfl,_,rfl, ?_⟩;rw [show decide (tM x.1 (cs.map V.int).length)=true by rw [List.length_map];simp [tM,h0,h1]];refine dZ ?_;refine ⟨_,rfl,_,_,_,_,rfl,rfl,cO.of ht1,rfl,_,rfl,c,_,rfl,.inl (bK.of hc1),_,_,rfl,_,rfl, ?_⟩;rw [show decide (tM x.2.2.1 (cs.map V.int).length)=true by rw [List.length_map];simp [tM,o0,o1]];refine dZ ?_;have g1:=(cok.gI x.1).1;have g2:=(cok.gI x.2.2.1).1;have e1:gI cs x.1=((gI cs x.1).toNat:Int):=by omega
  have e2:gI cs x.2.2.1=((gI cs x.2.2.1).toNat:Int):=by omega
  refine ⟨_,rfl,_,_,_,_,rfl,rfl,cO.of ht1,rfl,_,rfl,_,rfl,_,_,_,_,rfl,rfl,cO.of ht1,rfl,_,_,_,_,rfl,rfl,bK.of hc1,jo h0 h1,x.2.1,(gI cs x.1).toNat,by rw [←e1];rfl,_,rfl, ?_⟩;rw [decide_eq_true (show tM x.2.1 (gI cs x.1).toNat from ⟨k0,by omega⟩)];refine jr ?_;refine ⟨_,rfl,_,_,_,_,rfl,rfl,cO.of ht1,rfl,_,rfl,_,rfl,_,_,_,_,rfl,rfl,cO.of ht1,rfl,_,_,_,_,rfl,rfl,bK.of hc1,jo o0 o1,x.2.2.2,(gI cs x.2.2.1).toNat,by rw [←e2];rfl, ?_⟩;rw [decide_eq_true (show tM x.2.2.2 (gI cs x.2.2.1).toNat from ⟨m0,by omega⟩)];exact k H1 s1
def yG (K:PySem.W.Frag):Sp:=fun vs H Q _=>∃(t c a:Addr) (cs:List Int) (ns:List Nt),vs=[.ref t]/\RecAt H t c a cs ns/\Cd cs ns /\ ∀H',Same H H'->Q .non H'
theorem Pa (n:Nat) (v:V):(List.range n).filterMap (fun _=>some v)=List.replicate n v:=by
 induction n with
 | zero=>rfl
 | succ n ih=>rw [eV,ih,List.replicate_succ'];rfl
theorem yV {f:Addr} {fd:FuncData} (F:j9 K "check_notes" "check_notes" dF f fd) (Ep:FnAt P w K mg base 3 "is_between" ["counts","note"] (vG K)) (Bt:rD mg):bW P w K mg base lE 4 f fd ["record"] (yG K):=by
 refine F.ok yJ (fun vs H Q E h=> ?_) (fun cdv A outer s H vs Q E hr h=> ?_)
 ·obtain ⟨t,c,a,cs,ns,rfl,_⟩:=h
  rfl
 ·obtain ⟨t,c,a,cs,ns,rfl,⟨ht,hc,hN⟩,ok,k⟩:=h
  have vV:=hr.units;obtain ⟨vs,ha,dv⟩:=id hN;have vl:vs.length=ns.length:=by rw [dv.length,List.length_map]
  have nl:=ok.2.1;refine ⟨_,(aL (cD (fB (dh (aV (gY (K:=K) rfl rfl) (by rfl) Bt.GP zE (aj (dU rfl (N:=["note","record"]) (own:=["note"]) (caps:=[0]) (bh.of (by kernel_rfl)) (d_ (K:=K) rfl (aY (bx (K:=K) rfl) (pv 0) aG (fun _ _=>rfl))) (fun _ _ _ _=>(bO (i:=0) (show List.Nodup (["note","record"]:List Str) by decide +kernel) rfl (Or.inl rfl))) (fun _ _ _ _=>dR) (fun _ _ _ _=>(b_ Ep (hr.mono (by decide)) (by rfl) (aj (aY (bx (K:=K) rfl) (pv 1) aG (fun _ _=>rfl)) (aj (pv 0) aC))))) aC)))) (aL Fo) bL)), ?_⟩;refine ⟨_,rfl,_,_,_,_,rfl,rfl,cO.of ht,rfl,a,rfl,⟨_,bK.of ha⟩,fun D hD=> ?_⟩;refine qC (K:=K) (fun i=>some (.bl true)) hD (bK.of ha) (by omega) (fun i v H2 G F hi s2 kG kF=> ?_) (fun H2 s2 e2=> ?_)
  ·obtain ⟨x,q,ex,rfl,hx⟩:=Jx dv hi
   exact ⟨_,rfl,_,_,_,_,rfl,rfl,cO.of (s2 _ _ ht),rfl,_,rfl,c,q,cs,x,rfl,s2 _ _ hc,s2 _ _ hx,ok.2.2 x (List.mem_of_getElem? ex),ok.1,fun H3 s3=>kF _ H3 s3 rfl⟩
  ·rw [Pa] at e2
   refine ⟨D,List.replicate vs.length true,rfl,bK.of (by rw [e2,List.map_replicate]),_,rfl, ?_⟩;rw [show (List.replicate vs.length true).all id=true by simp];refine dZ ?_;exact k H2 s2
def zZ (cs ds:List Int):Prop:=ds.length=cs.length /\ ∀i:Int,0<=i->i<cs.length->0<=gI ds i/\gI ds i<=gI cs i
def M7 (K:PySem.W.Frag):Sp:=fun vs H Q _=>∃(d t:Addr) (ds:List Int) (h k:Int),vs=[.ref d,.ref t]/\H d=some (.lst (ds.map V.int))/\H t=some (.tup [.int h,.int k])/\0<=h/\h<ds.length/\Q (.bl (decide (k<gI ds h))) H
theorem Wf {f:Addr} {fd:FuncData} (F:j9 K "has" "has" uF f fd):bW P w K mg base lE 1 f fd ["done","touch"] (M7 K):=by
 refine F.ok Vx (fun vs H Q E h=> ?_) (fun cdv A outer s H vs Q E hr h=> ?_)
 ·obtain ⟨d,t,ds,h,k,rfl,_⟩:=h
  rfl
 ·obtain ⟨d,t,ds,h,k,rfl,hd,ht,h0,h1,q⟩:=h
  refine ⟨_,(aL (bC (fu wC (aY (bx (K:=K) rfl) (pv 1) aG (fun _ _=>rfl)) (aY (aZ (K:=K) rfl) (pv 0) (aY (bx (K:=K) rfl) (pv 1) aG (fun _ _=>rfl)) (fun _ _=>rfl)) (bF _)))), ?_⟩;exact ⟨_,rfl,_,_,_,_,rfl,rfl,cO.of ht,rfl,_,rfl,_,rfl,_,_,_,_,rfl,rfl,cO.of ht,rfl,_,_,_,_,rfl,rfl,bK.of hd,jo h0 h1,_,_,rfl,rfl,q⟩
def pI (hs:List bH) (k:Nat):Bool:=match hs[k]? with
 | some s=>decide (s.st = "waits")
 | none=>false
def Bd (hs:List bH):List Nat:=(List.range hs.length).filter (pI hs)
theorem Im {α:Type} (p:Nat->Bool) (f:Nat->α) (n:Nat):(List.range n).filterMap (fun i=>if p i then some (f i) else none)=((List.range n).filter p).map f:=by
 induction n with
 | zero=>rfl
 | succ n ih=>
   rw [eV,ih,List.range_succ,List.filter_append,List.map_append];congr 1;cases h:p n<;>simp [h]
theorem J0 {hs:List bH} {z k:Nat} (h:(Bd hs)[z]? = some k):∃s,hs[k]? = some s/\s.st = "waits" :=by
 have m:=List.mem_of_getElem? h;have:=(List.mem_filter.mp m).2;unfold pI at this;cases e:hs[k]? with
 | none=>rw [e] at this;cases this
 | some s=>rw [e] at this;exact ⟨s,rfl,of_decide_eq_true this⟩
def rpF (t f st pr:Addr):List (Str×V):=[("record",.ref t),("firsts",.ref f),("stage",.ref st),("progress",.ref pr)]
structure Em where
 (o dx t c a f pr:Addr) (W:Jd)
structure lR (CR CW CH:Addr) (i ii:Nat) (τ:Tg) (H:Hp) (R:Em) (S:lQ) (cs:List Int) (ns:List Nt) (gs:List Int):Prop where
 w:tY CW CH i τ H R.W S
 o:H R.o=some (.ins CR R.dx (rpF R.t R.f R.W.o R.pr))
 to:τ R.o=[ii,7]
 pr:H R.pr=some (.lst (gs.map V.int))
 tp:τ R.pr=[ii,8]
 ne:ii≠i
 n0:ii≠0
 VB:RecAt (mO τ H) R.t R.c R.a cs ns
 W2:mK (mO τ H) R.f ns
 ok:Cd cs ns
 lc:cs.length=S.hs.length
 dn:zZ cs gs
 gd:wK S
 ml:S.m<=100
section
variable {CR CW CH:Addr} {i ii:Nat} {τ τ':Tg} {H H':Hp} {R:Em} {S:lQ} {cs gs:List Int} {ns:List Nt}
theorem lR.rcd (r:lR CR CW CH i ii τ H R S cs ns gs):RecAt H R.t R.c R.a cs ns:=r.VB.same (lU _ _)
theorem lR.fst (r:lR CR CW CH i ii τ H R S cs ns gs):mK H R.f ns:=r.W2.same (lU _ _)
theorem lR.mv (r:lR CR CW CH i ii τ H R S cs ns gs) (q:Mv i τ H τ' H') (q':Mv ii τ H τ' H') (u:rA τ' H'):lR CR CW CH i ii τ' H' R S cs ns gs:=by
 have e1:=q'.keep _ _ r.o (.inr (by rw [r.to];rfl));have e2:=q'.keep _ _ r.pr (.inr (by rw [r.tp];rfl));exact ⟨r.w.mv q u,e1.1,e1.2.trans r.to,e2.1,e2.2.trans r.tp,r.ne,r.n0,r.VB.same (lG q),r.W2.same (lG q),r.ok,r.lc,r.dn,r.gd,r.ml⟩
theorem lR.same (r:lR CR CW CH i ii τ H R S cs ns gs) (k:Same H H'):lR CR CW CH i ii τ H' R S cs ns gs:=r.mv (Mv.of_same k) (Mv.of_same k) (r.w.un.same k)
end
def iY (S:lQ) (cs gs:List Int) (k:Nat):Bool:=decide (gI gs k=gI cs k) || !(pI S.hs k)
def mX (ns:List Nt) (gs:List Int) (k:Nat):List Nt:=((cZ ns k (gI gs k)).filter fun q=> !decide (q.2<gI gs q.1)).map fun q=>(q.1,q.2,(k:Int),gI gs k)
def vD (CR CW CH:Addr) (K:PySem.W.Frag):Sp:=fun vs H Q _=>∃(i ii:Nat) (τ:Tg) (R:Em) (S:lQ) (cs gs:List Int) (ns:List Nt),vs=[.ref R.o]/\lR CR CW CH i ii τ H R S cs ns gs /\ ∀l H',H l=none->H' l=some (.lst (gs.map V.int))->Same H H'->Q (.ref l) H'
theorem HN {au ak aq:Addr} {f:Addr} {fd:FuncData} (F:j9 K "counts" "Replay.counts" cL f fd) (aN:dD K au) (Bt:rD mg):bW P w K mg base lE 1 f fd ["self"] (vD au ak aq K):=by
 refine F.ok vL (fun vs H Q E h=> ?_) (fun cdv A outer s H vs Q E hr h=> ?_)
 ·obtain ⟨i,ii,τ,R,S,cs,gs,ns,rfl,_⟩:=h
  rfl
 ·obtain ⟨i,ii,τ,R,S,cs,gs,ns,rfl,r,k⟩:=h
  refine ⟨_,(aL (bC (dj (cQ (K:=K) rfl) (by rfl) Bt.jM iu (aj (bw (K:=K) rfl (pv 0) rfl) aC)))), ?_⟩;exact ⟨_,rfl,R.o,au,R.dx,_,_,rfl,r.o,aN.cls,aN.fV,rfl,R.pr,_,rfl,.inl (bK.of r.pr),fun l hl=>k l _ hl ao (aH hl)⟩
def Cz (CR CW CH:Addr) (K:PySem.W.Frag):Sp:=fun vs H Q _=>∃(i ii:Nat) (τ:Tg) (R:Em) (S:lQ) (cs gs:List Int) (ns:List Nt),vs=[.ref R.o]/\lR CR CW CH i ii τ H R S cs ns gs/\Q (.bl (decide (gs=cs))) H
theorem N6 {au ak aq:Addr} {f:Addr} {fd:FuncData} (F:j9 K "done" "Replay.done" dN f fd) (aN:dD K au) (Bt:rD mg):bW P w K mg base lE 1 f fd ["self"] (Cz au ak aq K):=by
 refine F.ok yN (fun vs H Q E h=> ?_) (fun cdv A outer s H vs Q E hr h=> ?_)
 ·obtain ⟨i,ii,τ,R,S,cs,gs,ns,rfl,_⟩:=h
  rfl
 ·obtain ⟨i,ii,τ,R,S,cs,gs,ns,rfl,r,k⟩:=h
  have vV:=hr.units;refine ⟨_,(aL (bC (fu (Dn (K:=K) rfl vV) (bw (K:=K) rfl (pv 0) rfl) (aY (bx (K:=K) rfl) (bw (K:=K) rfl (pv 0) rfl) aG (fun _ _=>rfl)) (bF _)))), ?_⟩;have rc:=r.rcd;refine ⟨_,rfl,R.o,au,R.dx,_,_,rfl,r.o,aN.cls,aN.fV,rfl,_,rfl,R.o,au,R.dx,_,_,rfl,r.o,aN.cls,aN.nW,rfl,_,_,_,_,rfl,rfl,cO.of rc.1,rfl,_,_,eE r.pr,eE rc.2.1,shaped_ints _,shaped_ints _, ?_⟩;rw [if_neg Bool.false_ne_true,qy PyData.int uT];exact k
def yD (CR CW CH:Addr) (K:PySem.W.Frag):Sp:=fun vs H Q _=>∃(i ii i':Nat) (τ:Tg) (R:Em) (S:lQ) (cs gs:List Int) (ns:List Nt),vs=[.ref R.o]/\lR CR CW CH i ii τ H R S cs ns gs/\i'≠0 /\ ∀(τ':Tg) (W':Jd) (H':Hp),tY CW CH i' τ' H' W' S->(∀x u,H x=some u->τ' x=τ x)->Same H H'->Q (.ref W'.o) H'
theorem Kl {au ak aq:Addr} {f:Addr} {fd:FuncData} (F:j9 K "works" "Replay.works" cT f fd) (aN:dD K au) (aQ:eZ K ak) (pG:MethAt P w K mg base 9 ak "twin" ["self"] (Cr ak aq K)) (Bt:rD mg):bW P w K mg base lE 10 f fd ["self"] (yD au ak aq K):=by
 refine F.ok wO (fun vs H Q E h=> ?_) (fun cdv A outer s H vs Q E hr h=> ?_)
 ·obtain ⟨i,ii,i',τ,R,S,cs,gs,ns,rfl,_⟩:=h
  rfl
 ·obtain ⟨i,ii,i',τ,R,S,cs,gs,ns,rfl,r,i0,k⟩:=h
  refine ⟨_,(aL (bC (eX pG aQ.cls (hr.mono (by decide)) (bw (K:=K) rfl (pv 0) rfl)))), ?_⟩;exact ⟨_,rfl,R.o,au,R.dx,_,_,rfl,r.o,aN.cls,aN.xr,rfl,R.W.o,R.W.dx,_,rfl,r.w.o,rfl,i,i',τ,R.W,S,rfl,r.w,r.gd,r.ml,i0,k⟩
def uh (CR CW CH:Addr) (K:PySem.W.Frag):Sp:=fun vs H Q _=>∃(i ii:Nat) (τ:Tg) (R:Em) (S:lQ) (cs gs:List Int) (ns:List Nt) (k:Nat),vs=[.ref R.o,.int k]/\lR CR CW CH i ii τ H R S cs ns gs/\k<cs.length/\Q (.bl (iY S cs gs k)) H
theorem Ko {au ak aq aK:Addr} {f:Addr} {fd:FuncData} (F:j9 K "is_over" "Replay.is_over" cu f fd) (aN:dD K au) (aQ:eZ K ak) (qI:MethAt P w K mg base 4 ak "how" ["self","hand"] (fun vs H Q _=>Jm ak aq aK K vs H Q fun _ _ _=>False)) (Bt:rD mg):bW P w K mg base lE 5 f fd ["self","hand"] (uh au ak aq K):=by
 refine F.ok ux (fun vs H Q E h=> ?_) (fun cdv A outer s H vs Q E hr h=> ?_)
 ·obtain ⟨i,ii,τ,R,S,cs,gs,ns,n,rfl,_⟩:=h
  rfl
 ·obtain ⟨i,ii,τ,R,S,cs,gs,ns,n,rfl,r,nl,k⟩:=h
  refine ⟨_,(aL (bC (Zb (fu ig (aY (aZ (K:=K) rfl) (bw (K:=K) rfl (pv 0) rfl) (pv 1) (fun _ _=>rfl)) (aY (aZ (K:=K) rfl) (aY (bx (K:=K) rfl) (bw (K:=K) rfl (pv 0) rfl) aG (fun _ _=>rfl)) (pv 1) (fun _ _=>rfl)) (bF _)) (tG (fu rJ (cF qI aQ.cls (hr.mono (by decide)) (bw (K:=K) rfl (pv 0) rfl) (aj (pv 1) aC)) cN (bF _)))))), ?_⟩;have rc:=r.rcd;have lg:=r.dn.1;refine ⟨_,rfl,R.o,au,R.dx,_,_,rfl,r.o,aN.cls,aN.fV,rfl,_,rfl,_,_,_,_,rfl,rfl,bK.of r.pr,jo (by omega) (by omega),_,rfl,R.o,au,R.dx,_,_,rfl,r.o,aN.cls,aN.nW,rfl,_,_,_,_,rfl,rfl,cO.of rc.1,rfl,_,rfl,_,_,_,_,rfl,rfl,bK.of rc.2.1,jo (by omega) (by omega),rfl, ?_⟩;have nh:n<S.hs.length:=by rw [←r.lc];exact nl
  have es:S.hs[n]? = some S.hs[n]:=by simp [nh]
  by_cases e:gI gs n=gI cs n
  ·rw [decide_eq_true (by rw [e])]
   refine ⟨_,rfl,jr ?_⟩;have:iY S cs gs n=true:=by unfold iY;rw [decide_eq_true e];rfl
   rw [←this];exact k
  ·rw [decide_eq_false (fun z=>e (V.int.inj z))]
   refine ⟨_,rfl,dZ ?_⟩;have inn:tM (n:Int) S.hs.length:=⟨by omega,by omega⟩;refine ⟨_,rfl,R.o,au,R.dx,_,_,rfl,r.o,aN.cls,aN.xr,rfl,R.W.o,R.W.dx,_,rfl,r.w.o,rfl,_,rfl,i,τ,R.W,S,_,rfl,r.w,fun k3 t3 e3 e3'=> ?_,fun z=>absurd inn z⟩
   obtain rfl:t3=S.hs[n]:=by
    have:k3=n:=by omega
    subst this;rw [es] at e3';exact (Option.some.inj e3').symm
   refine ⟨rfl, ?_⟩
   have:iY S cs gs n = !decide (V.str S.hs[n].st=V.str (Str.ofString "waits")):=by
    unfold iY pI;rw [decide_eq_false e,es]
    by_cases q:S.hs[n].st=Str.ofString "waits"
    ·simp only [q];rfl
    ·have:¬V.str S.hs[n].st=V.str (Str.ofString "waits"):=fun z=>q (V.str.inj z)
     show (false || !decide (S.hs[n].st=Str.ofString "waits"))=_;rw [decide_eq_false q,decide_eq_false this];rfl
   rw [this] at k;exact k
def CP (CR CW CH:Addr) (K:PySem.W.Frag):Sp:=fun vs H Q _=>∃(i ii:Nat) (τ:Tg) (R:Em) (S:lQ) (cs gs:List Int) (ns:List Nt) (k:Nat),vs=[.ref R.o,.int k]/\lR CR CW CH i ii τ H R S cs ns gs/\k<cs.length /\ ∀l H',H l=none->Ce H' l (mX ns gs k)->Same H H'->Q (.ref l) H'
theorem HW {au ak aq:Addr} {f:Addr} {fd:FuncData} (F:j9 K "holding" "Replay.holding" cA f fd) (aN:dD K au) (abD:FnAt P w K mg base 1 "has" ["done","touch"] (M7 K)) (Bt:rD mg):bW P w K mg base lE 2 f fd ["self","hand"] (CP au ak aq K):=by
 refine F.ok mQ (fun vs H Q E h=> ?_) (fun cdv A outer s H vs Q E hr h=> ?_)
 ·obtain ⟨i,ii,τ,R,S,cs,gs,ns,n,rfl,_⟩:=h
  rfl
 ·obtain ⟨i,ii,τ,R,S,cs,gs,ns,n,rfl,r,nl,k⟩:=h
  have hu:=Us hr
  refine ⟨_,(aD (bT (i:=2) mQ.nd rfl (Or.inr rfl) (jX (aj (pv 1) (aj (aY (aZ (K:=K) rfl) (bw (K:=K) rfl (pv 0) rfl) (pv 1) (fun _ _=>rfl)) aC))))
   (aL (bC (dU rfl (N:=["first","touch","self"]) (own:=["first"]) (caps:=[2,0]) (bh.of (by kernel_rfl)) (d_ (K:=K) rfl (Nv hu (bw (K:=K) rfl (pv 0) rfl) (pv 2) (eU aC) ⟨rfl,rfl,rfl,rfl⟩)) (fun _ _ _ _=>(bO (i:=0) (show List.Nodup (["first","touch","self"]:List Str) by decide +kernel) rfl (Or.inl rfl))) (fun _ _ _ _=>(uG (fB (dh (b_ abD (hr.mono (by decide)) (by rfl) (aj (bw (K:=K) rfl (pv 2) rfl) (aj (pv 0) aC))))))) (fun _ _ _ _=>(bR NK (pv 0) (pv 1))))))), ?_⟩
  have lg:=r.dn.1;refine ⟨_,rfl,_,rfl,R.o,au,R.dx,_,_,rfl,r.o,aN.cls,aN.fV,rfl,_,rfl,_,_,_,_,rfl,rfl,bK.of r.pr,jo (by omega) (by omega),(by show 2<=sizeLine;decide),fun t ht=> ?_⟩;have s1:=aH (o:=HO.tup [V.int n,V.int (gI gs n)]) ht;have r1:=r.same s1;obtain ⟨kvs,hF,hval⟩:=r1.fst;refine ⟨_,rfl,R.o,au,R.dx,_,_,rfl,r1.o,aN.cls,aN.Fz,rfl,R.f,rfl,.inr ⟨_,.inl hF⟩,_,rfl,(by show 0<=sizeLine;decide),fun el hel=> ?_⟩;have s2:=aH (o:=HO.lst []) hel;have s12:=s1.trans s2;refine ⟨_,Qk.t (k:=[Sum.inl (n:Int),Sum.inl (gI gs n)]) (s2 _ _ hF) (s2 _ _ ao), ?_⟩
  obtain ⟨l,el',PL⟩:∃l,(gU kvs [Sum.inl (n:Int),Sum.inl (gI gs n)]).getD (V.ref el) = .ref l/\qF (upd (upd H t (.tup [V.int n,V.int (gI gs n)])) el (.lst [])) l (cZ ns n (gI gs n)):=by
   rcases hval n (gI gs n) with z|⟨l,e1,e2⟩
   ·exact ⟨el,by rw [z.1];rfl,by rw [z.2];exact ⟨[],ao,by simp [bf]⟩⟩
   ·exact ⟨l,by rw [e1];rfl,e2.same s2⟩
  rw [el'];obtain ⟨vs,hl,dv⟩:=id PL;have vl:vs.length=(cZ ns n (gI gs n)).length:=by rw [dv.length,List.length_map]
  have fl:(cZ ns n (gI gs n)).length<=ns.length:=by unfold cZ;rw [List.length_map];exact List.length_filter_le ..
  have nsl:=r.ok.2.1;have ht2:(upd (upd H t (.tup [V.int n,V.int (gI gs n)])) el (.lst [])) t=some (.tup [V.int n,V.int (gI gs n)]):=s2 _ _ ao;have r2:=r1.same s2;generalize (upd (upd H t (.tup [V.int n,V.int (gI gs n)])) el (.lst []))=H2 at s12 hl dv PL ht2 r2 s2 ⊢;refine ⟨l,rfl,⟨_,bK.of hl⟩,fun D hD=> ?_⟩;refine BP (K:=K) (fun i=>((cZ ns n (gI gs n))[i]?).bind fun q=>if !decide (q.2<gI gs q.1) then some (nD (q.1,q.2,(n:Int),gI gs n)) else none) (fun i dd e=> ?_) hD (bK.of hl) (by omega) (fun i v H3 G F hi s3 kG kF=> ?_) (fun H3 ws s3 e3 d3=> ?_)
  ·cases ex:(cZ ns n (gI gs n))[i]? with
   | none=>rw [ex] at e;cases e
   | some x=>
     rw [ex,Option.bind_some] at e;split at e
     ·cases e;rfl
     ·cases e
  ·obtain ⟨q,u,eq,rfl,hq⟩:=Q6 dv hi
   obtain ⟨x,xm,rfl⟩:∃x∈ns,q=ft x:=by
    obtain ⟨x,hx,e⟩:=List.mem_map.mp (List.mem_of_getElem? eq);exact ⟨x,(List.mem_filter.mp hx).1,e.symm⟩
   obtain ⟨⟨h0,h1⟩,⟨k0,k1⟩,⟨o0,o1⟩,⟨m0,m1⟩,hne⟩:=r.ok.2.2 x xm;have r3:=r2.same s3;have Ly:=s3 _ _ hq;simp only [eq,Option.bind_some] at kG kF;refine ⟨_,rfl,R.o,au,R.dx,_,_,rfl,r3.o,aN.cls,aN.fV,rfl,_,rfl,R.pr,u,gs,_,_,rfl,r3.pr,Ly,h0,by rw [lg];exact h1,_,rfl, ?_⟩
   by_cases w:(ft x).2<gI gs (ft x).1
   ·rw [decide_eq_true w]
    refine dZ ?_;exact kG _ (Same.refl _) (by simp [w])
   ·rw [decide_eq_false w]
    refine jr ?_;refine ⟨_,rfl,_,rfl,u,t,_,_,rfl,rfl,Ly,s3 _ _ ht2,by show 2+2<=sizeLine;decide,fun p H4 hp s4=> ?_⟩;exact kF _ (nD ((ft x).1,(ft x).2,(n:Int),gI gs n)) _ s4 (by simp [w]) (Xa hp)
  ·rw [vl,xu (fun q:JX=> !decide (q.2<gI gs q.1)) (fun q:JX=>nD (q.1,q.2,(n:Int),gI gs n))] at d3
   refine k D H3 (s12.free hD) ⟨ws,e3, ?_⟩ (s12.trans s3);unfold mX;rw [List.map_map];exact d3
def uQ (S:lQ) (cs:List Int) (ns:List Nt) (gs:List Int):List Nat:=(List.range cs.length).filter fun k=> !iY S cs gs k&&(mX ns gs k).isEmpty
def Cy (CR CW CH:Addr) (K:PySem.W.Frag):Sp:=fun vs H Q _=>∃(i ii:Nat) (τ:Tg) (R:Em) (S:lQ) (cs gs:List Int) (ns:List Nt),vs=[.ref R.o]/\lR CR CW CH i ii τ H R S cs ns gs /\ ∀l H',H l=none->H' l=some (.lst ((uQ S cs ns gs).map fun k:Nat=>V.int k))->Same H H'->Q (.ref l) H'
theorem NZ {au ak aq:Addr} {f:Addr} {fd:FuncData} (F:j9 K "free" "Replay.free" dM f fd) (aN:dD K au) (j6:MethAt P w K mg base 5 au "is_over" ["self","hand"] (uh au ak aq K)) (j7:MethAt P w K mg base 2 au "holding" ["self","hand"] (CP au ak aq K)) (Bt:rD mg):bW P w K mg base lE 6 f fd ["self"] (Cy au ak aq K):=by
 refine F.ok yM (fun vs H Q E h=> ?_) (fun cdv A outer s H vs Q E hr h=> ?_)
 ·obtain ⟨i,ii,τ,R,S,cs,gs,ns,rfl,_⟩:=h
  rfl
 ·obtain ⟨i,ii,τ,R,S,cs,gs,ns,rfl,r,k⟩:=h
  refine ⟨_,(aL (bC (dU rfl (N:=["hand","self"]) (own:=["hand"]) (caps:=[0]) (bh.of (by kernel_rfl)) (fG (by rfl) Bt.iU (aj (aV (aX (K:=K) rfl) (by rfl) Bt.gq cX (aj (bw (K:=K) rfl (pv 0) rfl) aC)) aC)) (fun _ _ _ _=>(bO (i:=0) (show List.Nodup (["hand","self"]:List Str) by decide +kernel) rfl (Or.inl rfl))) (fun _ _ _ _=>(uG (PW.pt (Ht (fB (dh (cF j6 aN.cls (hr.mono (by decide)) (pv 1) (aj (pv 0) aC)))) (Dd (fB (Bk (K:=K) rfl (cF j7 aN.cls (hr.mono (by decide)) (pv 1) (aj (pv 0) aC))))))))) (fun _ _ _ _=>(pv 0))))), ?_⟩;have lg:=r.dn.1;have c8:=r.ok.1.1;refine ⟨_,rfl,R.o,au,R.dx,_,_,rfl,r.o,aN.cls,aN.fV,rfl,R.pr,_,rfl,.inl (bK.of r.pr),_,rfl,by rw [List.length_map];omega,by rw [List.length_map];omega,fun D hD=> ?_⟩;rw [List.length_map,Int.toNat_natCast,lg];refine nZ (fun j=>if !iY S cs gs j&&(mX ns gs j).isEmpty then some (.int (j:Nat)) else none) hD (by omega) (fun j H1 G F hj s1 kG kF=> ?_) (fun H1 s1 e1=> ?_)
  ·have r1:=r.same s1
   refine ⟨_,rfl,R.o,R.dx,_,rfl,r1.o,rfl,_,rfl,i,ii,τ,R,S,cs,gs,ns,j,by rw [Int.zero_add];rfl,r1,hj,_,rfl, ?_⟩;cases eo:iY S cs gs j with
   | true=>
     refine dZ ?_;exact kG H1 (Same.refl _) (by rw [eo];rfl)
   | false=>
     refine jr ?_;refine ⟨_,rfl,R.o,R.dx,_,rfl,r1.o,rfl,_,rfl,i,ii,τ,R,S,cs,gs,ns,j,by rw [Int.zero_add];rfl,r1,hj,fun l H2 fl N2 s2=> ?_⟩;obtain ⟨ws,hl,dw⟩:=N2;have wl:ws.length=(mX ns gs j).length:=by rw [dw.length,List.length_map]
     have eb:ws.isEmpty=(mX ns gs j).isEmpty:=by
      cases ws<;>cases h:mX ns gs j<;>rw [h] at wl<;>first |rfl|(simp at wl)
     refine ⟨!ws.isEmpty,.inl ⟨ws,bK.of hl,rfl⟩, ?_⟩;rw [eb];cases eh:(mX ns gs j).isEmpty with
     | true=>
       refine jr ?_;exact ⟨_,rfl,kF _ H2 s2 (by rw [eo,eh,Int.zero_add];rfl)⟩
     | false=>
       refine dZ ?_;exact kG H2 s2 (by rw [eo,eh];rfl)
  ·rw [Im (fun j=> !iY S cs gs j&&(mX ns gs j).isEmpty) (fun j:Nat=>V.int j)] at e1
   exact k D H1 hD e1 s1
def Nf (cs gs:List Int) (k:Nat):List JX:=(List.range (gI cs k - gI gs k).toNat).map fun j:Nat=>((k:Int),gI gs k+(j:Int))
def mW (cs gs:List Int) (n:Nat):List JX:=(List.range n).flatMap (Nf cs gs)
def Hi (CR CW CH:Addr) (K:PySem.W.Frag):Sp:=fun vs H Q _=>∃(i ii:Nat) (τ:Tg) (R:Em) (S:lQ) (cs gs:List Int) (ns:List Nt),vs=[.ref R.o]/\lR CR CW CH i ii τ H R S cs ns gs /\ ∀l H',H l=none->qF H' l (mW cs gs cs.length)->Same H H'->Q (.ref l) H'
theorem o_ (cs gs:List Int) (n:Nat):mW cs gs (n+1)=mW cs gs n++Nf cs gs n:=by
 unfold mW;rw [List.range_succ,List.flatMap_append];simp
theorem Rn {au ak aq:Addr} {f:Addr} {fd:FuncData} (F:j9 K "left" "Replay.left" dI f fd) (aN:dD K au) (Bt:rD mg):bW P w K mg base lE 1 f fd ["self"] (Hi au ak aq K):=by
 refine F.ok jG (fun vs H Q E h=> ?_) (fun cdv A outer s H vs Q E hr h=> ?_)
 ·obtain ⟨i,ii,τ,R,S,cs,gs,ns,rfl,_⟩:=h
  rfl
 ·obtain ⟨i,ii,τ,R,S,cs,gs,ns,rfl,r,k⟩:=h
  refine ⟨_,(aD (bT (i:=1) jG.nd rfl (Or.inl rfl) (eU aC))
   (aD (qe PassesOwn.never rfl (Nk (K:=K) rfl (by rfl) Bt.GK (aj (aY (bx (K:=K) rfl) (bw (K:=K) rfl (pv 0) rfl) aG (fun _ _=>rfl)) aC)) (Dh (K:=K) (n:=2) rfl rfl (nQ (bO (i:=2) jG.nd rfl (Or.inr rfl)) (nQ (bO (i:=3) jG.nd rfl (Or.inl rfl)) Dg)))
   (aL (fj (Di (K:=K) rfl PySem.F.plainAttrs_list PySem.F.slot_list_extend PySem.F.type_list_extend KC (pv 1) (aj (dU rfl (N:=["k","hand"]) (own:=["k"]) (caps:=[2]) (bh.of (by kernel_rfl)) (Ke (by rfl) Bt.iU (aj (aY (aZ (K:=K) rfl) (bw (K:=K) rfl (pv 0) rfl) (pv 2) (fun _ _=>rfl)) (aj (pv 3) aC))) (fun _ _ _ _=>(bO (i:=0) (show List.Nodup (["k","hand"]:List Str) by decide +kernel) rfl (Or.inl rfl))) (fun _ _ _ _=>dR) (fun _ _ _ _=>(jX (aj (pv 1) (aj (pv 0) aC))))) aC)))))
   (aL (bC (pv 1))))), ?_⟩
  have lg:=r.dn.1;have c8:=r.ok.1.1;refine ⟨(by show 0<=sizeLine;decide),fun l hl=> ?_⟩;have sl:=aH (o:=HO.lst []) hl;have r1:=r.same sl;have rc:=r1.rcd;refine ⟨_,rfl,R.o,au,R.dx,_,_,rfl,r1.o,aN.cls,aN.nW,rfl,_,_,_,_,rfl,rfl,cO.of rc.1,rfl,R.c,_,rfl,bK.of rc.2.1, ?_⟩;refine O9 (K:=K) (xs:=cs.map V.int) (fun j σ Hc=>∃(x2 x3:Option V) (ps:List JX),σ=[some (.ref R.o),some (.ref l),x2,x3]/\Same H Hc/\qF Hc l (mW cs gs j)) ?_ ?_ ?_ ?_
  ·exact ⟨none,none,[],rfl,sl,[],ao,by simp [mW,bf]⟩
  ·rintro j σ Hc _ ⟨x2,x3,ps,rfl,sc,_⟩
   exact bK.of ((r.same sc).rcd.2.1)
  ·rintro j x σ Hc p hj ⟨x2,x3,ps,rfl,sc,PL⟩ hp
   rw [List.getElem?_map] at hj
   obtain ⟨c,ec,rfl⟩:∃c,cs[j]? = some c/\x = .int c:=by
    cases e:cs[j]? with
    | none=>rw [e] at hj;cases hj
    | some c=>rw [e] at hj;exact ⟨c,rfl,(Option.some.inj hj).symm⟩
   have jl:=(List.getElem?_eq_some_iff.mp ec).1;have gc:gI cs j=c:=zm ec;subst gc;have gb:=r.dn.2 j (by omega) (by omega);have cb:=r.ok.1.gI j;have sp:=aH (o:=HO.tup [V.int (j:Int),V.int (gI cs j)]) hp;have r2:=r.same (sc.trans sp);obtain ⟨ws,hlw,dw⟩:=PL.same sp;refine ⟨p,_,rfl,cO.of ao,rfl,_,_,rfl,_,_,rfl,rfl, ?_⟩;dsimp only [gD];refine ⟨_,rfl,.inl ⟨rfl,_,bK.of hlw⟩,_,rfl,R.o,au,R.dx,_,_,rfl,r2.o,aN.cls,aN.fV,rfl,_,rfl,_,_,_,_,rfl,rfl,bK.of r2.pr,jo (by omega) (by omega),_,rfl,_,_,rfl,⟨by omega,by omega,by omega,by omega⟩,fun D hD=> ?_⟩
   have ll:ws.length<=8*300:=by
    rw [dw.length,List.length_map]
    have:∀n,n<=cs.length->(mW cs gs n).length<=n*300:=fun n=>by
     induction n with
     | zero=>intro _;simp [mW]
     | succ n ih=>
       intro h;have:=ih (by omega);have cb':=r.ok.1.gI n;have gb':=r.dn.2 n (by omega) (by omega);rw [o_,List.length_append];unfold Nf;rw [List.length_map,List.length_range];omega
    have:=this j (by omega);omega
   have sD:=aH (o:=HO.lst []) hD;refine pB (lo:=gI gs j) (n:=(gI cs j - gI gs j).toNat) (fun m σ Hd=>(∃v,σ=[v,some (.int j)])/\Same (upd Hc p (.tup [V.int j,V.int (gI cs j)])) Hd/\qF Hd D ((List.range m).map fun x:Nat=>((j:Int),gI gs j+(x:Int)))) ?_ ?_ ?_
   ·exact ⟨⟨none,rfl⟩,sD,[],ao,by simp [bf]⟩
   ·rintro m σ Hd hm ⟨⟨v,rfl⟩,sd,us,hus,du⟩
    dsimp only [gD,wM];rw [if_pos rfl];refine ⟨_,rfl,_,rfl,(by show 2<=sizeLine;decide),fun q hq=> ?_⟩;have sq:=aH (o:=HO.tup [V.int j,V.int (gI gs j+m)]) hq;have ul:us.length=m:=by rw [du.length];simp
    have kp:Kp D (upd Hd q (.tup [V.int j,V.int (gI gs j+m)])) (upd (upd Hd q (.tup [V.int j,V.int (gI gs j+m)])) D (.lst (us++[V.ref q]))):=Kp.set;have tp:=kp.tups (sq _ _ hus);refine ⟨us,sq _ _ hus,by rw [ul,sizeLine_eq];omega,⟨_,rfl⟩,(sd.trans sq).newly hD,us++[V.ref q],ao, ?_⟩;rw [List.range_succ,List.map_append,List.map_append];exact BK (bf.keep (fun a xs h=>tp _ _ (sq.tups _ _ h)) _ (gW _ qx _) du) (JM (x:=((j:Int),gI gs j+(m:Int))) (tp _ _ ao))
   ·rintro σ Hd ⟨⟨v,rfl⟩,sd,us,hus,du⟩
    have ul:us.length<=300:=by rw [du.length];simp;omega
    refine ⟨l,D,ws,us,rfl,rfl,sd _ _ hlw,hus,by rw [sizeLine_eq];omega, ?_⟩;have Uv:=sd _ _ hlw;have kp:Kp l Hd (upd Hd l (.lst (ws++us))):=Kp.set;have tp:=kp.tups Uv;refine ⟨_,_,[],rfl,fun x o e=>kp _ _ (sd _ _ (sp _ _ (sc _ _ e))) (aB e hl),ws++us,ao, ?_⟩;rw [o_,List.map_append];exact bf.append (bf.keep (fun a xs h=>tp _ _ (sd.tups _ _ h)) _ (gW _ qx _) dw) (bf.keep tp _ (gW _ qx _) du)
  ·rintro σ Hc ⟨x2,x3,ps,rfl,sc,PL⟩
   rw [List.length_map] at PL;exact ⟨_,rfl,k l Hc hl PL sc⟩
def Hh (CR CW CH:Addr) (K:PySem.W.Frag):Sp:=fun vs H Q _=>∃(i ii:Nat) (τ:Tg) (R:Em) (S:lQ) (cs gs:List Int) (ns:List Nt),vs=[.ref R.o]/\lR CR CW CH i ii τ H R S cs ns gs /\ ∀H',Same H H'->Q (.int (cs.sum - gs.sum)) H'
theorem Bq {cs gs:List Int} (d:zZ cs gs):((mW cs gs cs.length).length:Int)=cs.sum - gs.sum:=by
 have take:∀(l:List Int) (n:Nat),n<l.length->(l.take (n+1)).sum=(l.take n).sum+gI l n:=fun l n h=>by
  rw [zm (List.getElem?_eq_getElem h),List.take_add_one,List.getElem?_eq_getElem h,List.sum_append];show _+([l[n]]:List Int).sum=_;rw [List.sum_cons,List.sum_nil,Int.add_zero]
 have:∀n,n<=cs.length->((mW cs gs n).length:Int)=(cs.take n).sum - (gs.take n).sum:=fun n=>by
  induction n with
  | zero=>intro _;simp [mW]
  | succ n ih=>
    intro h;have e:=ih (by omega);have gb:=d.2 n (by omega) (by omega);rw [o_,List.length_append,take cs n (by omega),take gs n (by rw [d.1];omega)];unfold Nf;rw [List.length_map,List.length_range];omega
 have e:=this cs.length (Nat.le_refl _);rw [List.take_length] at e;rw [e,←d.1,List.take_length]
theorem Rm {au ak aq:Addr} {f:Addr} {fd:FuncData} (F:j9 K "__len__" "Replay.__len__" cB f fd) (aN:dD K au) (Ar:MethAt P w K mg base 1 au "left" ["self"] (Hi au ak aq K)) (Bt:rD mg):bW P w K mg base lE 2 f fd ["self"] (Hh au ak aq K):=by
 refine F.ok uy (fun vs H Q E h=> ?_) (fun cdv A outer s H vs Q E hr h=> ?_)
 ·obtain ⟨i,ii,τ,R,S,cs,gs,ns,rfl,_⟩:=h
  rfl
 ·obtain ⟨i,ii,τ,R,S,cs,gs,ns,rfl,r,k⟩:=h
  refine ⟨_,(aL (bC (aV (aX (K:=K) rfl) (by rfl) Bt.gq cX (aj (eX Ar aN.cls (hr.mono (by decide)) (pv 0)) aC)))), ?_⟩;refine ⟨_,rfl,R.o,R.dx,_,rfl,r.o,rfl,i,ii,τ,R,S,cs,gs,ns,rfl,r,fun l H1 fl PL s1=> ?_⟩;obtain ⟨ws,hl,dw⟩:=PL;refine ⟨l,_,rfl,.inl (bK.of hl), ?_⟩;rw [dw.length,List.length_map,Bq r.dn];exact k H1 s1
def St2 (i ii:Nat) (τ:Tg) (H H':Hp):Prop:=∃H1,mH i τ H H1/\mH ii τ H1 H'
def jD (gs:List Int) (k:Nat):List Int:=gs.set k (gI gs k+1)
def xg (CR CW CH CN CO:Addr) (K:PySem.W.Frag):Sp:=fun vs H Q E=>∃(i ii:Nat) (τ:Tg) (R:Em) (S:lQ) (cs gs:List Int) (ns:List Nt) (h:Int),vs=[.ref R.o,.int h]/\lR CR CW CH i ii τ H R S cs ns gs/\S.ts.length<=9000 /\
 (∀k:Nat,h=k->iY S cs gs k=false->mX ns gs k=[]) /\
 (∀(k:Nat) (s:bH) (r:Rw) (t:Addr) (H':Hp),h=k->k<cs.length->iY S cs gs k=false->S.hs[k]? = some s->s.st = "waits" -> s.rws[s.pos]? = some r->touch r=true->H t=none->H' t=some (.tup (vB S.ns s.bs r))->lR CR CW CH i ii τ H' R (j_ S k) cs ns (jD gs k)->St2 i ii τ H H'->Q (.ref t) H') /\
 (¬tM h cs.length->E (.ref CN) none H)/\(∀k:Nat,h=k->k<cs.length->iY S cs gs k=true->E (.ref CO) none H)
theorem Bg (S:lQ) (k:Nat):(j_ S k).hs.length=S.hs.length:=by
 unfold j_;split
 ·rfl
 ·split
  ·rfl
  ·simp
theorem Qu (S:lQ) (k:Nat):(j_ S k).m=S.m:=by
 unfold j_;split
 ·rfl
 ·split<;>rfl
theorem NQ {au ak aq:Addr} {f:Addr} {fd:FuncData} (F:j9 K "turn" "Replay.turn" dH f fd) {aJ aK aW bD cP bN:Addr} (d8:Xr K mg aJ "NoNumber") (cH:Xr K mg aK "NoHand") (gQ:Xr K mg aW "Over") (gG:Xo K mg aJ bD "NoteError" true) (pF:Xo K mg aJ cP "Held" false) (jN:Xo K mg aJ bN "NoNote" false) (dX:bV K aJ aK false) (fJ:bV K aJ aW false) (dY:bV K aK aJ false) (fY:bV K aK aW false) (cM:bV K aK bD true) (fZ:bV K aK cP false) (d9:bV K aK bN false) (fH:bV K aW aJ false) (fX:bV K aW aK false) (dB:bV K aW bD true) (iI:bV K aW cP false) (fW:bV K aW bN false) (aN:dD K au) (aQ:eZ K ak) (gj:FnAt P w K mg base 2 "is_below" ["value","count"] (qP K)) (j6:MethAt P w K mg base 5 au "is_over" ["self","hand"] (uh au ak aq K)) (j7:MethAt P w K mg base 2 au "holding" ["self","hand"] (CP au ak aq K)) (pH:iV P w K mg base 7 ak "turn" ["self","hand"] (yu ak aq aK aW K)) (Bt:rD mg):bW P w K mg base (vd P w) 8 f fd ["self","hand"] (xg au ak aq aK aW K):=by
 refine F.Rp lY (fun vs H Q E h=> ?_) (fun cdv A outer s H vs Q E hr h hR=> ?_)
 ·obtain ⟨i,ii,τ,R,S,cs,gs,ns,h,rfl,_⟩:=h
  rfl
 ·obtain ⟨i,ii,τ,R,S,cs,gs,ns,h,rfl,r,tl,nh,k1,k2,k3⟩:=h
  refine ⟨_,(aD (cD (fB (dh (b_ gj (hr.mono (by decide)) (by rfl) (aj (pv 1) (aj (aV (aX (K:=K) rfl) (by rfl) Bt.gq cX (aj (bw (K:=K) rfl (pv 0) rfl) aC)) aC))))) (aL (mC PySem.F.excBase_ValueError cH.ex cH.bd (by rfl) rfl rfl hR (aj cN aC))) bL)
   (aD (cD (dh (cF j6 aN.cls (hr.mono (by decide)) (pv 0) (aj (pv 1) aC))) (aL (mC PySem.F.excBase_ValueError gQ.ex gQ.bd (by rfl) rfl rfl hR (aj cN aC))) bL)
   (aD (bT (i:=2) lY.nd rfl (Or.inl rfl) (cF j7 aN.cls (hr.mono (by decide)) (pv 0) (aj (pv 1) aC)))
   (aD (cD (Bk (K:=K) rfl (pv 2)) (aL Fo) bL)
   (aD (bT (i:=3) lY.nd rfl (Or.inl rfl) (qg pH aQ.cls rfl hR (hr.mono (by decide)) (bw (K:=K) rfl (pv 0) rfl) (aj (pv 1) aC)))
   (aD (Q5 (bw (K:=K) rfl (pv 0) rfl) (pv 1) (HB (K:=K) rfl) aG Dz set_list)
   (aL (bC (pv 3))))))))), ?_⟩
  have lg:=r.dn.1;refine ⟨_,rfl,_,rfl,R.o,au,R.dx,_,_,rfl,r.o,aN.cls,aN.fV,rfl,R.pr,_,rfl,.inl (bK.of r.pr),h,_,rfl,_,rfl, ?_⟩;rw [List.length_map,lg]
  by_cases hh:tM h cs.length
  ·rw [decide_eq_true hh]
   refine dZ ?_;obtain ⟨n,rfl⟩:=Int.eq_ofNat_of_zero_le hh.1;have nl:n<cs.length:=by have:=hh.2;omega
   refine ⟨_,rfl,R.o,R.dx,_,rfl,r.o,rfl,_,rfl,i,ii,τ,R,S,cs,gs,ns,n,rfl,r,nl,_,rfl, ?_⟩;cases eo:iY S cs gs n with
   | true=>
     refine jr ?_;exact ⟨(by show 1<=sizeLine;decide),k3 n rfl nl eo⟩
   | false=>
     refine dZ ?_;refine ⟨_,rfl,R.o,R.dx,_,rfl,r.o,rfl,_,rfl,i,ii,τ,R,S,cs,gs,ns,n,rfl,r,nl,fun l H1 fl N1 s1=> ?_⟩;obtain ⟨ws,hl,dw⟩:=N1;have wl:ws.length=(mX ns gs n).length:=by rw [dw.length,List.length_map]
     rw [nh n rfl eo] at wl;have we:ws=[]:=List.eq_nil_of_length_eq_zero wl;refine ⟨_,rfl, !ws.isEmpty,.inl ⟨ws,bK.of hl,rfl⟩, ?_⟩;rw [we];refine dZ ?_;have r1:=r.same s1;have nS:n<S.hs.length:=by rw [←r.lc];exact nl
     have es:S.hs[n]? = some S.hs[n]:=by simp [nS]
     have wt:S.hs[n].st = "waits" :=by
      unfold iY pI at eo;rw [es,Bool.or_eq_false_iff] at eo;have:=eo.2;simpa using this
     have inn:tM (n:Int) S.hs.length:=⟨by omega,by omega⟩
     have one:∀(k':Nat) (t:bH),(n:Int)=k'->S.hs[k']? = some t->t=S.hs[n]/\k'=n:=fun k' t e1 e2=>by
      have:k'=n:=by omega
      subst this;rw [es] at e2;exact ⟨(Option.some.inj e2).symm,rfl⟩
     refine ⟨_,rfl,R.o,au,R.dx,_,_,rfl,r1.o,aN.cls,aN.xr,rfl,R.W.o,R.W.dx,_,rfl,r1.w.o,rfl,_,rfl,i,τ,R.W,S,_,rfl,r1.w,by omega,fun k' t' r' tt H2 e1 e2 wt' er' Yp tf tk w2 st2=> ?_,fun z=>absurd inn z,fun k' t' e1 e2 z=>absurd (by rw [(one k' t' e1 e2).1];exact wt) z⟩;obtain ⟨e3,e4⟩:=one k' t' e1 e2;subst e4;have gb:=r.dn.2 k' (by omega) (by omega);have e5:=r1.n0;have hpr:=st2.keep _ _ r1.pr (by rw [r1.tp];intro z;exact r1.ne (Option.some.inj z));have ho2:=st2.keep _ _ r1.o (by rw [r1.to];intro z;exact r1.ne (Option.some.inj z));refine ⟨_,rfl,R.o,au,R.dx,_,_,rfl,ho2,aN.cls,aN.fV,rfl,_,rfl,R.pr,_,_,_,rfl,rfl,bK.of hpr,by omega,(by rw [Int.toNat_natCast,List.getElem?_map,List.getElem?_eq_getElem (by omega)];rfl),_,_,rfl,rfl,R.pr,_,_,_,rfl,rfl,hpr,Dw (by omega) (by rw [List.length_map];omega), ?_⟩;have gl:k'<gs.length:=by omega
     have gg:gI gs k'=gs[k']:=zm (List.getElem?_eq_getElem gl)
     have em:(gs.map V.int).set ((k':Int)).toNat (.int (gs[k']+1))=(jD gs k').map V.int:=by
      unfold jD;rw [gg,List.map_set,Int.toNat_natCast]
     rw [em];have st3:mH ii τ H2 (upd H2 R.pr (.lst ((jD gs k').map V.int))):=mH.set (by rw [r1.tp];rfl) hpr (by intro xs z;cases z);have st1:mH i τ H H2:=(mH.of_same s1).trans st2
     have ne1:gI gs k'≠gI cs k':=by
      unfold iY at eo;rw [Bool.or_eq_false_iff] at eo;exact of_decide_eq_false eo.1
     have ft:H tt=none:=s1.free tf
     have dn3:zZ cs (jD gs k'):=by
      refine ⟨by unfold jD;rw [List.length_set];exact lg,fun x x0 x1=> ?_⟩;have:=r.dn.2 x x0 x1;have e:=O8 (cs:=gs) (h:=(k':Int)) (k:=x) (v:=gI gs k'+1) (by omega) (by omega) x0;rw [Int.toNat_natCast] at e;unfold jD;rw [e];split
      ·rename_i z
       subst z;omega
      ·exact this
     refine ⟨_,rfl,k1 k' t' r' tt _ rfl nl eo e2 wt' er' Yp ft ?_ ?_ ⟨H2,st1,st3⟩⟩
     ·exact st3.tup _ _ tk
     ·have ns':Same (mO τ H) (mO τ (upd H2 R.pr (.lst ((jD gs k').map V.int)))):=(gA st1 r.w.i0).trans (gA st3 r.n0)
      refine ⟨w2.mv (Mv.jY st3 r.ne r.n0) (st3.un w2.un), ?_,r.to,ao,r.tp,r.ne,r.n0,r.VB.same ns',r.W2.same ns',r.ok,by rw [Bg];exact r.lc,dn3,r.gd.turn k',by rw [Qu];exact r.ml⟩;rw [aF (eY ho2 hpr (by intro z;cases z))];exact ho2
  ·rw [decide_eq_false hh]
   refine jr ?_;exact ⟨(by show 1<=sizeLine;decide),k2 hh⟩
def Cw (CR CW CH CN:Addr) (K:PySem.W.Frag):Sp:=fun vs H Q E=>∃(i i' ii:Nat) (τ:Tg) (o dx t c a:Addr) (W:Jd) (S:lQ) (cs:List Int) (ns:List Nt),vs=[.ref o,.ref W.o,.ref t]/\H o=some (.ins CR dx [])/\τ o=[]/\tY CW CH i τ H W S/\wK S/\S.m<=100/\RecAt H t c a cs ns/\Cd cs ns/\i'≠0/\ii≠0/\ii≠i'/\ii≠i/\ns=[] /\
 (cs.length=S.hs.length -> ∀(τ':Tg) (R:Em) (ns':List Nt) (H':Hp),R.o=o->ns'.Perm ns->lR CR CW CH i' ii τ' H' R S cs ns' (List.replicate cs.length 0)->(∀x u,H x=some u->x≠o->τ' x=τ x)->Kp o H H'->Q .non H') /\
 (cs.length≠S.hs.length -> ∀H',Same H H'->E (.ref CN) none H')
theorem NT {au ak aq:Addr} {f:Addr} {fd:FuncData} (F:j9 K "__init__" "Replay.__init__" dJ f fd) {aJ aK aW bD cP bN:Addr} (d8:Xr K mg aJ "NoNumber") (cH:Xr K mg aK "NoHand") (gQ:Xr K mg aW "Over") (gG:Xo K mg aJ bD "NoteError" true) (pF:Xo K mg aJ cP "Held" false) (jN:Xo K mg aJ bN "NoNote" false) (dX:bV K aJ aK false) (fJ:bV K aJ aW false) (dY:bV K aK aJ false) (fY:bV K aK aW false) (cM:bV K aK bD true) (fZ:bV K aK cP false) (d9:bV K aK bN false) (fH:bV K aW aJ false) (fX:bV K aW aK false) (dB:bV K aW bD true) (iI:bV K aW cP false) (fW:bV K aW bN false) (aN:dD K au) (aQ:eZ K ak) (Ay:FnAt P w K mg base 4 "check_notes" ["record"] (yG K)) (iJ:MethAt P w K mg base 1 ak "counts" ["self"] (p8 ak aq K)) (GZ:FnAt P w K mg base 1 "firsts_of" ["record"] (yF K)) (pG:MethAt P w K mg base 9 ak "twin" ["self"] (Cr ak aq K)) (Bt:rD mg):bW P w K mg base (vd P w) 10 f fd ["self","works","record"] (Cw au ak aq aK K):=by
 refine F.Rp yL (fun vs H Q E h=> ?_) (fun cdv A outer s H vs Q E hr h hR=> ?_)
 ·obtain ⟨i,i',ii,τ,o,dx,t,c,a,W,S,cs,ns,rfl,_⟩:=h
  rfl
 ·obtain ⟨i,i',ii,τ,o,dx,t,c,a,W,S,cs,ns,rfl,ho,to,w,gd,ml,R,ok,i0,Lx,iin,iio,en0,k1,k2⟩:=h
  subst en0
  refine ⟨_,(aD (fj (b_ Ay (hr.mono (by decide)) (by rfl) (aj (pv 2) aC)))
   (aD (cD (bI rJ (aV (aX (K:=K) rfl) (by rfl) Bt.gq cX (aj (aY (bx (K:=K) rfl) (pv 2) aG (fun _ _=>rfl)) aC)) (aV (aX (K:=K) rfl) (by rfl) Bt.gq cX (aj (eX iJ aQ.cls (hr.mono (by decide)) (pv 1)) aC)) (bF _)) (aL (mC PySem.F.excBase_ValueError cH.ex cH.bd (by rfl) rfl rfl hR (aj cN aC))) bL)
   (aD (cY (K:=K) rfl (pv 0) (jX (aj (dj (cQ (K:=K) rfl) (by rfl) Bt.jM iu (aj (aY (bx (K:=K) rfl) (pv 2) aG (fun _ _=>rfl)) aC)) (aj (aV (GC (K:=K) rfl) (by rfl) Bt.Qf Lp (aj (aY (bx (K:=K) rfl) (pv 2) aG (fun _ _=>rfl)) aC)) aC))) rfl)
   (aD (cY (K:=K) rfl (pv 0) (b_ GZ (hr.mono (by decide)) (by rfl) (aj (bw (K:=K) rfl (pv 0) rfl) aC)) rfl)
   (aD (cY (K:=K) rfl (pv 0) (eX pG aQ.cls (hr.mono (by decide)) (pv 1)) rfl)
   (aL (cY (K:=K) rfl (pv 0) (dU rfl (N:=["count"]) (own:=["count"]) (caps:=[]) (bh.of (by kernel_rfl)) (d_ (K:=K) rfl (aY (bx (K:=K) rfl) (bw (K:=K) rfl (pv 0) rfl) aG (fun _ _=>rfl))) (fun _ _ _ _=>(bO (i:=0) (show List.Nodup (["count"]:List Str) by decide +kernel) rfl (Or.inl rfl))) (fun _ _ _ _=>dR) (fun _ _ _ _=>aG)) rfl))))))), ?_⟩
  refine ⟨_,rfl,t,c,a,cs,[],rfl,R,ok,fun H1 s1=> ?_⟩;have R1:=R.same s1;have w1:=w.same s1;refine ⟨_,rfl,_,_,_,_,rfl,rfl,cO.of R1.1,rfl,c,_,rfl,.inl (bK.of R1.2.1),_,rfl,W.o,W.dx,_,rfl,w1.o,rfl,i,τ,W,S,rfl,w1,fun l H2 fl el s2=>⟨l,_,rfl,.inl (bK.of el),rfl,_,rfl, ?_⟩⟩;have s12:=s1.trans s2;have cl:(Gw S).length=S.hs.length:=by unfold Gw;simp
  rw [List.length_map,List.length_map,cl]
  by_cases hl:cs.length=S.hs.length
  ·refine dz (fun q=>absurd q (by rw [hl,decide_eq_true rfl];decide)) (fun _=> ?_)
   have ho2:=s12 _ _ ho;have w2':=w.same s12;have R2:=R.same s12;have B2:Bs H τ o (aR τ o [ii,7]) H2:=⟨fun x e=>by rw [aU (aB ho2 e).symm];exact w2'.un x e,Kp.of_same s12,fun x u e n=>aU n⟩
   have w2:tY ak aq i (aR τ o [ii,7]) H2 W S:=w2'.mv ⟨fun x u e t=>⟨e,aU (fun z=>by
    rw [z,to] at t;rcases t with t|t<;>cases t)⟩,fun x xs e=>e⟩ B2.un
   have to2:aR τ o [ii,7] o=[ii,7]:=bB;generalize aR τ o [ii,7]=τ2 at B2 w2 to2;clear w2' R1 w1;refine ⟨_,rfl,_,_,_,_,rfl,rfl,cO.of R2.1,rfl,c,_,rfl,.inl (bK.of R2.2.1),fun c3 hc3=> ?_⟩;have s3:=aH (o:=HO.lst (cs.map V.int)) hc3;have ec3:(upd H2 c3 (.lst (cs.map V.int))) c3=some (.lst (cs.map V.int)):=ao;have R3:=R2.same s3;have B3:=B2.claim (t:=[0]) s3 hc3 ⟨_,ec3⟩;have w3:=w2.mv (Mv.claim (p:=c3) (t:=[0]) s3 hc3) B3.un;have WQ:=s3 _ _ ho2;have to3:aR τ2 c3 [0] o=[ii,7]:=by rw [aU (aB ho2 hc3)];exact to2
   have tc3:aR τ2 c3 [0] c3=[0]:=bB;generalize (upd H2 c3 (.lst (cs.map V.int)))=H3 at s3 ec3 R3 B3 w3 WQ ⊢;generalize aR τ2 c3 [0]=τ3 at B3 w3 to3 tc3;refine ⟨_,rfl,_,_,_,_,rfl,rfl,cO.of R3.1,rfl, ?_⟩;dsimp only [M4];obtain ⟨vs0,ea0,dv0⟩:=R3.2.2
   obtain rfl:vs0=[]:=by
    cases vs0 with
    | nil=>rfl
    | cons v vs=>simp [bf] at dv0
   refine ⟨a,rfl,bK.of ea0,fun a4 Z9=> ?_⟩;have s4:=aH (o:=HO.lst []) Z9;have N4:Ce (upd H3 a4 (.lst [])) a4 []:=⟨[],ao,by simp [bf]⟩;generalize (upd H3 a4 (.lst []))=H4 at s4 N4 ⊢;obtain ⟨ns',pm,en⟩:∃ns':List Nt,ns'.Perm []/\ns'=[]:=⟨[],.refl _,rfl⟩;rw [←en] at N4
   have hp4:∃u,H4 a4=some u:=by
    obtain ⟨vs,e,_⟩:=N4;exact ⟨_,e⟩
   have B4:=B3.claim (t:=[0]) s4 Z9 hp4;have w4:=w3.mv (Mv.claim (p:=a4) (t:=[0]) s4 Z9) B4.un;have XS:=s4 _ _ WQ;have ec4:=s4 _ _ ec3;have to4:aR τ3 a4 [0] o=[ii,7]:=by rw [aU (aB WQ Z9)];exact to3
   have tc4:aR τ3 a4 [0] c3=[0]:=by rw [aU (aB ec3 Z9)];exact tc3
   have ta4:aR τ3 a4 [0] a4=[0]:=bB;generalize aR τ3 a4 [0]=τ4 at B4 w4 to4 tc4 ta4;refine ⟨(by show 2<=sizeLine;decide),fun t5 ht5=> ?_⟩;have s5:=aH (o:=HO.tup [V.ref c3,V.ref a4]) ht5;have R5:RecAt (upd H4 t5 (.tup [V.ref c3,V.ref a4])) t5 c3 a4 cs ns':=⟨ao,s5 _ _ ec4,N4.same s5⟩;have B5:=B4.same s5;have w5:=w4.same s5;have Qo:=s5 _ _ XS;generalize (upd H4 t5 (.tup [V.ref c3,V.ref a4]))=H5 at s5 R5 B5 w5 Qo ⊢;have ok':Cd cs ns':=⟨ok.1,by rw [pm.length_eq];exact ok.2.1,fun x hx=>ok.2.2 x (pm.mem_iff.mp hx)⟩;refine ⟨_,rfl,o,au,dx,_,rfl,Qo,aN.cls,aN.nW,(by decide), ?_⟩
   have ac5:∀(τ:Tg) (H:Hp) (v:HO),rA τ H->rA τ (upd H o v):=fun τ H v u=>u.dom fun y e=>by
    by_cases z:y=o
    ·rw [z,ao] at e;cases e
    ·rw [aF z] at e;exact e
   have ho6:(upd H5 o (.ins au dx (cC "record" (.ref t5) []))) o=some (.ins au dx [("record",.ref t5)]):=ao;have st6:mH ii τ4 H5 (upd H5 o (.ins au dx (cC "record" (.ref t5) []))):=mH.set (by rw [to4];rfl) Qo (by intro xs z;cases z);have B6:Bs H τ o τ4 (upd H5 o (.ins au dx (cC "record" (.ref t5) []))):=B5.set (.inl rfl);have w6:=w5.mv (Mv.jY st6 iio Lx) B6.un
   have r5:RecAt (mO τ4 H5) t5 c3 a4 cs ns':=by
    obtain ⟨vs,e1,e2⟩:=R5.2.2;exact ⟨pY R5.1,jC tc4 R5.2.1,vs,jC ta4 e1,bf.keep (fun a xs e=>pY e) _ (gW _ Ov _) e2⟩
   have r6:=r5.same (gA st6 Lx);generalize (upd H5 o (.ins au dx (cC "record" (.ref t5) [])))=H6 at ho6 st6 B6 w6 r6 ⊢;refine ⟨_,rfl,o,au,dx,_,_,rfl,ho6,aN.cls,aN.nW,rfl,t5,c3,a4,cs,ns',rfl,r6.same (lU _ _),ok',fun f H7 hf F7 s7=> ?_⟩;have Tz:=MN s7 B6.un;have QB:∀x u,H6 x=some u->z_ τ4 H6 H7 x=τ4 x:=fun x u e=>Jj e;have B7:Bs H τ o (z_ τ4 H6 H7) H7:=⟨Tz,B6.kp.trans (Kp.of_same s7),fun x u e n=>(QB x u (B6.kp _ _ e n)).trans (B6.tg x u e n)⟩;have w7:=w6.mv (Mv.tags s7 QB) Tz;have r7:=r6.same (lG (i:=0) (Mv.tags s7 QB));have f7:mK (mO (z_ τ4 H6 H7) H7) f ns':=F7.same Wi;have ho7:=s7 _ _ ho6;have to7:z_ τ4 H6 H7 o=[ii,7]:=(QB _ _ ho6).trans to4;generalize z_ τ4 H6 H7=τ7 at Tz QB B7 w7 r7 f7 to7;refine ⟨_,rfl,o,au,dx,_,rfl,ho7,aN.cls,aN.Fz,(by show 1<1000;decide), ?_⟩;have RZ:(upd H7 o (.ins au dx (cC "firsts" (.ref f) [("record",.ref t5)]))) o=some (.ins au dx [("record",.ref t5),("firsts",.ref f)]):=ao;have st8:mH ii τ7 H7 (upd H7 o (.ins au dx (cC "firsts" (.ref f) [("record",.ref t5)]))):=mH.set (by rw [to7];rfl) ho7 (by intro xs z;cases z);have B8:Bs H τ o τ7 (upd H7 o (.ins au dx (cC "firsts" (.ref f) [("record",.ref t5)]))):=B7.set (.inl rfl);have w8:=w7.mv (Mv.jY st8 iio Lx) B8.un;have r8:=r7.same (gA st8 Lx);have f8:=f7.same (gA st8 Lx);generalize (upd H7 o (.ins au dx (cC "firsts" (.ref f) [("record",.ref t5)])))=H8 at RZ st8 B8 w8 r8 f8 ⊢;refine ⟨_,rfl,W.o,W.dx,_,rfl,w8.o,rfl,i,i',τ7,W,S,rfl,w8,gd,ml,i0,fun τ9 W' H9 w9 tg9 s9=> ?_⟩;have B9:Bs H τ o τ9 H9:=⟨w9.un,B8.kp.trans (Kp.of_same s9),fun x u e n=>(tg9 x u (B8.kp _ _ e n)).trans (B8.tg x u e n)⟩;have r9:=r8.same (lG (i:=0) (Mv.tags s9 tg9));have f9:=f8.same (lG (i:=0) (Mv.tags s9 tg9));have ho9:=s9 _ _ RZ;have to9:τ9 o=[ii,7]:=(tg9 _ _ RZ).trans to7;refine ⟨_,rfl,o,au,dx,_,rfl,ho9,aN.cls,aN.xr,(by show 2<1000;decide), ?_⟩;have hoa:(upd H9 o (.ins au dx (cC "stage" (.ref W'.o) [("record",.ref t5),("firsts",.ref f)]))) o=some (.ins au dx [("record",.ref t5),("firsts",.ref f),("stage",.ref W'.o)]):=ao;have Fb:mH ii τ9 H9 (upd H9 o (.ins au dx (cC "stage" (.ref W'.o) [("record",.ref t5),("firsts",.ref f)]))):=mH.set (by rw [to9];rfl) ho9 (by intro xs z;cases z);have Ba:Bs H τ o τ9 (upd H9 o (.ins au dx (cC "stage" (.ref W'.o) [("record",.ref t5),("firsts",.ref f)]))):=B9.set (.inl rfl);have wa:=w9.mv (Mv.jY Fb iin Lx) Ba.un;have ra:=r9.same (gA Fb Lx);have fa:=f9.same (gA Fb Lx);generalize (upd H9 o (.ins au dx (cC "stage" (.ref W'.o) [("record",.ref t5),("firsts",.ref f)])))=Ha at hoa Fb Ba wa ra fa ⊢;have raH:=ra.same (lU _ _);refine ⟨_,rfl,o,au,dx,_,_,rfl,hoa,aN.cls,aN.nW,rfl,_,_,_,_,rfl,rfl,cO.of raH.1,rfl,c3,rfl,⟨_,bK.of raH.2.1⟩,fun D hD=> ?_⟩;refine qC (K:=K) (fun _=>some (.int 0)) hD (bK.of raH.2.1) (by rw [List.length_map];have:=ok.1.1;omega) (fun j v H3 G F hi s3 kG kF=>kF _ H3 (Same.refl _) rfl) (fun Hb sb eb=> ?_);rw [DR,List.length_map] at eb;have Bb:=Ba.claim (t:=[ii,8]) sb hD ⟨_,eb⟩;have qb:∀m,Mv m τ9 Ha (aR τ9 D [ii,8]) Hb:=fun m=>Mv.claim sb hD;have wb:=wa.mv (qb i') Bb.un;have rb:=ra.same (lG (qb 0));have fb:=fa.same (lG (qb 0));have hob:=sb _ _ hoa;have tob:aR τ9 D [ii,8] o=[ii,7]:=by rw [aU (aB hoa hD)];exact to9
   have tDb:aR τ9 D [ii,8] D=[ii,8]:=bB;generalize aR τ9 D [ii,8]=τb at Bb qb wb rb fb tob tDb;refine ⟨_,rfl,o,au,dx,_,rfl,hob,aN.cls,aN.fV,(by show 3<1000;decide), ?_⟩;have stc:mH ii τb Hb (upd Hb o (.ins au dx (cC "progress" (.ref D) [("record",.ref t5),("firsts",.ref f),("stage",.ref W'.o)]))):=mH.set (by rw [tob];rfl) hob (by intro xs z;cases z);have Bc:Bs H τ o τb (upd Hb o (.ins au dx (cC "progress" (.ref D) [("record",.ref t5),("firsts",.ref f),("stage",.ref W'.o)]))):=Bb.set (.inl rfl);refine k1 hl τb ⟨o,dx,t5,c3,a4,f,D,W'⟩ ns' _ rfl pm ⟨wb.mv (Mv.jY stc iin Lx) Bc.un,ao,tob, ?_,tDb,iin,Lx,rb.same (gA stc Lx),fb.same (gA stc Lx),ok',hl, ?_,gd,ml⟩ Bc.tg Bc.kp
   ·rw [aF (aB hoa hD).symm]
    exact eb
   ·refine ⟨by simp,fun x x0 x1=> ?_⟩
    have e:gI (List.replicate cs.length 0) x=0:=by
     unfold gI;rw [List.getElem?_replicate];split<;>rfl
    rw [e];exact ⟨Int.le_refl _,(ok.1.gI x).1⟩
  ·refine dz (fun _=> ?_) (fun q=>absurd ?_ q)
   ·exact ⟨(by show 1<=sizeLine;decide),k2 hl H2 s12⟩
   ·have:¬V.int (cs.length:Int)=V.int (S.hs.length:Int):=fun z=>hl (by have:=V.int.inj z;omega)
    rw [decide_eq_false this];rfl
theorem RT.set {τ:Tg} {H:Hp} {r x:Addr} {o u:HO} (h:RT τ H r) (e:H x=some o) (t:τ x≠[]):RT τ (upd H x u) r:=by
 obtain ⟨n,f⟩:=h.off x o e t;refine ⟨h.R.set n f,fun y v ey ty=> ?_,fun y ey=> ?_⟩
 ·by_cases z:y=x
  ·subst z
   exact ⟨n,f.set n⟩
  ·rw [aF z] at ey
   obtain ⟨n',f'⟩:=h.off y v ey ty;exact ⟨n',f'.set n⟩
 ·by_cases z:y=x
  ·rw [z,ao] at ey;cases ey
  ·rw [aF z] at ey;exact h.un y ey
theorem RT.drawn {τ:Tg} {H:Hp} {r D:Addr} {n:Nat} {m:Int} {te:TE} {Q:VK} {rest:St} (T:RT τ H r) (hD:H D=none) (hn:n<=10000)
 (hte:∀(v:Option V) (Hd:Hp) (F:VK),gF Hd r->(∀(y:Int) (H':Hp),0<=y->y<m->gF H' r->KR r Hd H'->F (.int y) H')->te (v::rest) Hd F)
 (k:∀(xs:List Nat) (H':Hp),xs.length=n->(∀c∈xs,(c:Int)<m)->H' D=some (.lst (xs.map fun c:Nat=>V.int c))->RT (aR τ D [0]) H' r->(∀x o,H x=some o->τ x≠[]->H' x=some o)->(∀x xs,H x=some (.tup xs)->H' x=some (.tup xs))->Kp r H H'->Q (.ref D) H'):mL (Qq 0 n) (gD 0) wM te Q D (none::rest) H:=by
 have sD:=aH (o:=HO.lst []) hD;have nDr:D≠r:=T.R.ne hD;have TD:=T.claim (t:=[0]) sD hD ⟨_,ao⟩;have tD:aR τ D [0] D=[0]:=bB;have tg:∀x u,H x=some u->aR τ D [0] x=τ x:=fun x u e=>aU (aB e hD);generalize aR τ D [0]=τd at TD tD tg k;refine pB (lo:=0) (n:=n) (fun i σ Hd=>∃(v:Option V) (xs:List Nat),σ=v::rest/\RT τd Hd r/\Hd D=some (.lst (xs.map fun c:Nat=>V.int c))/\xs.length=i/\(∀c∈xs,(c:Int)<m)/\(∀x o,H x=some o->τ x≠[]->Hd x=some o)/\(∀x xs,H x=some (.tup xs)->Hd x=some (.tup xs))/\Kp r H Hd) ?_ ?_ ?_
 ·exact ⟨none,[],rfl,TD,ao,rfl,by simp,fun x o e _=>sD _ _ e,sD.tups,Kp.of_same sD⟩
 ·rintro i σ Hd hi ⟨v,xs,rfl,Td,OD,ld,od,kd,td,XR⟩
  dsimp only [gD,wM];rw [if_pos rfl];refine hte _ Hd _ Td.R (fun y H3 y0 y1 R3 k3=> ?_);have T3:=Td.draw k3 R3;have Z6:=Td.keep k3 OD (by rw [tD];simp);obtain ⟨y,rfl⟩:=Int.eq_ofNat_of_zero_le y0;refine ⟨_,Z6,(by rw [List.length_map,sizeLine_eq];omega),_,xs++[y],rfl,T3.set Z6 (by rw [tD];simp),by rw [ao,List.map_append];rfl,by simp [ld], ?_,fun x o e t=> ?_,fun x ys e=> ?_,fun x o e n'=> ?_⟩
  ·intro c hc
   rcases List.mem_append.mp hc with hc|hc
   ·exact od c hc
   ·rw [List.mem_singleton.mp hc];exact y1
  ·rw [aF (aB e hD)]
   exact Td.keep k3 (kd x o e t) (by rw [tg x o e];exact t)
  ·rw [aF (aB e hD)]
   exact k3.tups Td.R _ _ (td x ys e)
  ·rw [aF (aB e hD)]
   exact k3.1 _ _ (XR x o e n') n'
 ·rintro σ Hd ⟨v,xs,rfl,Td,OD,ld,od,kd,td,XR⟩
  exact k xs Hd ld od OD Td kd td XR
def gB (row:List Nat) (lost:Bool):List Rw:=row.map (fun c=>Rw.load 0 c)++(if lost then [Rw.go row.length] else [])
structure LdS (ns:List Int) (row:List Nat) (lost:Bool) (g:Nat) (s:bH):Prop where
 rws:s.rws=gB row lost
 pos:s.pos=g
 bs:s.bs=(if g=0 then 0 else (((row[g - 1]?).bind fun c=>ns[c]?).getD 0))::List.replicate 7 0
 sy:s.sy=[]
 le:g<=row.length
 st:s.st = "waits" ↔ g<row.length
theorem Oo {row:List Nat} {lost:Bool} {g c:Nat} (h:row[g]? = some c):(gB row lost)[g]? = some (.load 0 c):=by
 have l:=(List.getElem?_eq_some_iff.mp h).1;unfold gB;rw [List.getElem?_append_left (by rw [List.length_map];exact l),List.getElem?_map,h];rfl
theorem Wu (row:List Nat):(gB row false)[row.length]? = none:=by
 unfold gB;simp
theorem Ul (row:List Nat):(gB row true)[row.length]? = some (.go row.length):=by
 unfold gB;rw [List.getElem?_append_right (by rw [List.length_map];exact Nat.le_refl _)];simp
theorem Ol {row:List Nat}:∀(n:Nat) (s:bH),s.rws=gB row true->s.pos=row.length->led n s={s with st:= "lost" }
 | 0,s,h1,h2=>by
   unfold led;rw [h1,h2,Ul];rfl
 | n+1,s,h1,h2=>by
   unfold led;rw [h1,h2,Ul];show led n (rK s (.go row.length))=_;rw [Ol n (rK s (.go row.length)) h1 rfl];show ({s with pos:=row.length,st:=_}:bH)=_;rw [←h2,h1]
theorem JB {ns:List Int} {row:List Nat} {lost:Bool} {g:Nat} {s:bH} (h1:s.rws=gB row lost) (h2:s.pos=g) (h3:s.bs=(if g=0 then 0 else (((row[g - 1]?).bind fun c=>ns[c]?).getD 0))::List.replicate 7 0) (h4:s.sy=[]) (le:g<=row.length):LdS ns row lost g (lead s):=by
 unfold lead
 by_cases lt:g<row.length
 ·obtain ⟨c,hc⟩:∃c,row[g]? = some c:=⟨_,List.getElem?_eq_getElem lt⟩
  have e:led 60 s={s with st:= "waits" }:=by
   unfold led;rw [h1,h2,Oo hc];rfl
  rw [e];exact ⟨h1,h2,h3,h4,le,⟨fun _=>lt,fun _=>rfl⟩⟩
 ·have ge:g=row.length:=by omega
  subst ge;cases lost with
  | false=>
    have e:led 60 s={s with st:= "ends" }:=by
     unfold led;rw [h1,h2,Wu]
    rw [e];exact ⟨h1,h2,h3,h4,le,⟨fun z=>absurd z DW,fun z=>absurd z lt⟩⟩
  | true=>
    rw [Ol 60 s h1 h2];exact ⟨h1,h2,h3,h4,le,⟨fun z=>absurd z Jz,fun z=>absurd z lt⟩⟩
theorem Wt (ns:List Int) (row:List Nat) (lost:Bool):LdS ns row lost 0 (lead (new (gB row lost))):=JB rfl rfl rfl rfl (Nat.zero_le _)
theorem RB {ns:List Int} {row:List Nat} {lost:Bool} {g c:Nat} {s:bH} (h:LdS ns row lost g s) (hc:row[g]? = some c):LdS ns row lost (g+1) (nY ns s (.load 0 c)):=by
 have lt:=(List.getElem?_eq_some_iff.mp hc).1;unfold nY;refine JB h.rws (by show s.pos+1=g+1;rw [h.pos]) ?_ h.sy lt;show s.bs.set 0 ((ns[c]?).getD 0)=_;rw [h.bs,if_neg (show ¬g+1=0 by omega),Nat.add_sub_cancel,hc];rfl
def Jg (τ:Tg) (H:Hp) (L:Addr) (rs:List Addr) (loads:List (List Nat)):Prop:=H L=some (.lst (rs.map V.ref))/\τ L=[0]/\rs.length=loads.length /\ ∀(k:Nat) (r:Addr) (x:List Nat),rs[k]? = some r->loads[k]? = some x->τ r=[0]/\H r=some (.lst (x.map fun c:Nat=>V.int c))
def CG (K:PySem.W.Frag):Sp:=fun vs H Q _=>∃(r:Addr) (τ:Tg) (m most:Nat),vs=[.ref r,.int m,.int most]/\RT τ H r/\0<m/\m<=20/\0<most/\most<=38 /\ ∀(L:Addr) (rs:List Addr) (loads:List (List Nat)) (τ':Tg) (H':Hp),Jg τ' H' L rs loads->0<loads.length->loads.length<=8->(∀x∈loads,x.length<=37 /\ ∀c∈x,c<m)->RT τ' H' r->(∀x u,H x=some u->τ' x=τ x)->Kp r H H'->Q (.ref L) H'
theorem N7 {f:Addr} {fd:FuncData} (F:j9 K "_law_loads" "_law_loads" jH f fd) (iy:FnAt P w K mg base 1 "_law_draw" ["reel","many"] (uo K)) (Bt:rD mg):bW P w K mg base lE 2 f fd ["reel","many","most"] (CG K):=by
 refine F.ok vM (fun vs H Q E h=> ?_) (fun cdv A outer s H vs Q E hr h=> ?_)
 ·obtain ⟨r,τ,m,most,rfl,_⟩:=h
  rfl
 ·obtain ⟨r,τ,m,most,rfl,T,m0,m20,t0,t38,k⟩:=h
  refine ⟨_,(aD (bT (i:=3) vM.nd rfl (Or.inl rfl) (eU aC))
   (aD (qe PassesOwn.never rfl (fG (by rfl) Bt.iU (aj (bR jK aG (b_ iy (hr.mono (by decide)) (by rfl) (aj (pv 0) (aj aG aC)))) aC)) (bO (i:=4) vM.nd rfl (Or.inl rfl))
   (aL (fj (mF (K:=K) rfl (pv 3) (aj (dU rfl (N:=["at","reel","many"]) (own:=["at"]) (caps:=[0,1]) (bh.of (by kernel_rfl)) (fG (by rfl) Bt.iU (aj (b_ iy (hr.mono (by decide)) (by rfl) (aj (pv 0) (aj (pv 2) aC))) aC)) (fun _ _ _ _=>(bO (i:=0) (show List.Nodup (["at","reel","many"]:List Str) by decide +kernel) rfl (Or.inl rfl))) (fun _ _ _ _=>dR) (fun _ _ _ _=>(b_ iy (hr.mono (by decide)) (by rfl) (aj (pv 1) (aj (pv 2) aC))))) aC)))))
   (aL (bC (pv 3))))), ?_⟩
  refine ⟨(by show 0<=sizeLine;decide),fun a ha=> ?_⟩;have sa:=aH (o:=HO.lst []) ha;have T1:=T.claim (t:=[0]) sa ha ⟨_,ao⟩;have ea:(upd H a (.lst [])) a=some (.lst []):=ao;have ta:aR τ a [0] a=[0]:=bB;have MP:∀x u,H x=some u->aR τ a [0] x=τ x:=fun x u e=>aU (aB e ha);have kp1:Kp r H (upd H a (.lst [])):=Kp.of_same sa;generalize (upd H a (.lst []))=H1 at sa T1 ea kp1 ⊢;generalize aR τ a [0]=τ1 at T1 ta MP;refine ⟨_,rfl,r,8,rfl,T1.R,by decide,by decide,fun z H2 z0 z1 R2 k2=>⟨_,_,rfl,rfl,_,rfl,by omega,by omega, ?_⟩⟩;have T2:=T1.draw k2 R2;have ea2:=T1.keep k2 ea (by rw [ta];simp)
  refine q_ (lo:=0) (n:=(1+z).toNat) (fun j σ Hc=>∃(v:Option V) (τc:Tg) (rs:List Addr) (loads:List (List Nat)),σ=[some (.ref r),some (.int m),some (.int most),some (.ref a),v]/\RT τc Hc r/\Jg τc Hc a rs loads/\loads.length=j/\a∉rs/\(∀x∈loads,x.length<=37 /\ ∀c∈x,c<m)/\(∀x u,H x=some u->τc x=τ x)/\Kp r H Hc)
   ⟨none,τ1,[],[],rfl,T2,⟨ea2,ta,rfl,fun k r x e=>by simp at e⟩,rfl,by simp,by simp,MP,kp1.trans k2.1⟩ ?_ ?_
  ·rintro j σ Hc hj ⟨v,τc,rs,loads,rfl,Tc,La,lj,nrs,XQ,Qy,kpc⟩
   obtain ⟨eL,tL,ll,lr⟩:=La;refine ⟨_,rfl,.inl ⟨rfl,_,bK.of eL⟩,_,rfl,_,rfl,r,most,rfl,Tc.R,by omega,by omega,fun sz H3 s0 s1 R3 k3=>⟨_,rfl,by omega,by omega,fun D hD=> ?_⟩⟩;have T3:=Tc.draw k3 R3;refine T3.drawn (n:=sz.toNat) (m:=m) hD (by omega) (fun v Hd F Rd kF=>⟨_,rfl,_,rfl,r,m,rfl,Rd,by omega,by omega,fun y H' y0 y1 R' k'=>kF y H' y0 y1 R' k'⟩) (fun xs H4 lx ox eD T4 kd td kp4=> ?_);have eL3:=Tc.keep k3 eL (by rw [tL];simp);have eL4:=kd _ _ eL3 (by rw [tL];simp);have nDr:D≠r:=R3.ne hD;have kp3:Kp r H H3:=kpc.trans k3.1;have hD0:H D=none:=JC kp3 nDr hD;have nDa:D≠a:=(aB eL3 hD).symm;have tD:aR τc D [0] D=[0]:=bB;have tDa:aR τc D [0] a=[0]:=by rw [aU nDa.symm];exact tL
   refine ⟨a,rs.map V.ref,_,rfl,rfl,eL4,(by rw [List.length_map,sizeLine_eq];omega), ?_⟩;refine ⟨_,aR τc D [0],rs++[D],loads++[xs],rfl,T4.set eL4 (by rw [tDa];simp),⟨by rw [ao,List.map_append];rfl,tDa,by simp [ll],fun kk q x h1 h2=> ?_⟩,by simp [lj], ?_, ?_,fun x u e=> ?_,fun x o e n'=> ?_⟩
   ·by_cases lt:kk<rs.length
    ·rw [List.getElem?_append_left lt] at h1
     rw [List.getElem?_append_left (by omega)] at h2;obtain ⟨tq,hq⟩:=lr kk q x h1 h2;have Ly:=Tc.keep k3 hq (by rw [tq];simp);have nq:q≠a:=fun z=>nrs (by rw [←z];exact List.mem_of_getElem? h1);exact ⟨by rw [aU (aB Ly hD)];exact tq,by rw [aF nq];exact kd _ _ Ly (by rw [tq];simp)⟩
    ·have Uk:=(List.getElem?_eq_some_iff.mp h1).1
     have ek:kk=rs.length:=by simp at Uk;omega
     subst ek;rw [List.getElem?_append_right (by omega)] at h1;rw [ll,List.getElem?_append_right (by omega)] at h2;simp at h1 h2;subst h1 h2;exact ⟨tD,by rw [aF nDa];exact eD⟩
   ·intro z
    rcases List.mem_append.mp z with z|z
    ·exact nrs z
    ·exact nDa (List.mem_singleton.mp z).symm
   ·intro x hx
    rcases List.mem_append.mp hx with hx|hx
    ·exact XQ x hx
    ·rw [List.mem_singleton.mp hx]
     exact ⟨by omega,fun c hc=>by have:=ox c hc;omega⟩
   ·rw [aU (aB e hD0)];exact Qy x u e
   ·rw [aF (aB e ha)]
    exact kp4 _ _ (kp3 _ _ e n') n'
  ·rintro σ Hc ⟨v,τc,rs,loads,rfl,Tc,La,lj,nrs,XQ,Qy,kpc⟩
   exact ⟨_,rfl,k a rs loads τc Hc La (by omega) (by omega) XQ Tc Qy kpc⟩
section
variable {H:Hp} {p:Addr} {x y:V} {b c n:Nat} {e f:Jh}
theorem Pu (h:H p=some (.tup [.str "load",.str (LC b),.int c])):Dat H (.ref p) (z9 (.load b c)):=by
 simp only [z9,Dat];exact ⟨p,_,rfl,h,by simp only [bf,Dat,and_true]⟩
end
def sW (K:PySem.W.Frag):Sp:=fun vs H Q _=>∃(r:Addr) (m:Nat),vs=[.ref r,.int m]/\gF H r/\0<m/\m<=8 /\ ∀(z:Int) (H':Hp),gF H' r->KR r H H'->Q (.int z) H'
theorem Fq {f:Addr} {fd:FuncData} (F:j9 K "_law_number" "_law_number" iR f fd) (iy:FnAt P w K mg base 1 "_law_draw" ["reel","many"] (uo K)):bW P w K mg base lE 2 f fd ["reel","many"] (sW K):=by
 refine F.ok sZ (fun vs H Q E h=> ?_) (fun cdv A outer s H vs Q E hr h=> ?_)
 ·obtain ⟨r,m,rfl,_⟩:=h
  rfl
 ·obtain ⟨r,m,rfl,R,m0,m1,k⟩:=h
  refine ⟨_,(aD (bT (i:=2) sZ.nd rfl (Or.inl rfl) (b_ iy (hr.mono (by decide)) (by rfl) (aj (pv 0) (aj aG aC))))
   (aD (bT (i:=3) sZ.nd rfl (Or.inl rfl) (b_ iy (hr.mono (by decide)) (by rfl) (aj (pv 0) (aj (aY (aZ (K:=K) rfl) (eU (aj aG (aj aG (aj (bR qm (bR oZ aG aG) aG) aC)))) (b_ iy (hr.mono (by decide)) (by rfl) (aj (pv 0) (aj aG aC))) (fun _ _=>rfl)) aC))))
   (aD (cD (bI ig (pv 2) aG (bF _)) (aL (bC (bR qm (Nm G6 aG) (pv 3)))) bL)
   (aD (cD (bI ig (pv 2) aG (bF _)) (aL (bC (bR jK (pv 1) (pv 3)))) bL)
   (aL (bC (b_ iy (hr.mono (by decide)) (by rfl) (aj (pv 0) (aj (pv 1) aC))))))))), ?_⟩
  have hcp:Et 10 30:=⟨by decide,by decide,by decide⟩;refine ⟨_,rfl,r,8,rfl,R,by decide,by decide,fun pk H1 p0 p1 R1 k1=> ?_⟩;refine ⟨_,rfl,_,_,rfl,rfl,hcp,_,_,rfl,rfl,(by show 3<=sizeLine;decide),fun l hl=> ?_⟩;have sl:=aH (o:=HO.lst [V.int 1,V.int 3,V.int (10 ^ (30:Int).toNat - 10)]) hl;have nlr:l≠r:=R1.ne hl;refine ⟨_,rfl,r,3,rfl,R1.keep sl,by decide,by decide,fun z H2 z0 z1 R2 k2=> ?_⟩
  obtain ⟨bb,eb,b0,b1⟩:∃bb:Int,JW [V.int 1,V.int 3,V.int (10 ^ (30:Int).toNat - 10)] z=some (.int bb)/\0<bb/\bb<1329227995784915872903807060280344576:=by
   have:z=0\/z=1\/z=2:=by omega
   rcases this with rfl|rfl|rfl
   ·exact ⟨1,rfl,by decide,by decide⟩
   ·exact ⟨3,rfl,by decide,by decide⟩
   ·exact ⟨_,rfl,by decide,by decide⟩
  refine ⟨_,_,_,_,rfl,rfl,bK.of (k2.1 _ _ ao nlr),eb,r,bb,rfl,R2,b0,b1,fun far H3 f0 f1 R3 k3=> ?_⟩;have K3:KR r H H3:=((k1.trans (KR.same R1 sl)).trans k2).trans k3;refine ⟨_,rfl,rfl,_,rfl, ?_⟩;refine dz (fun _=> ?_) (fun _=> ?_)
  ·exact ⟨_,rfl,_,rfl,_,_,rfl,rfl,k _ H3 R3 K3⟩
  refine ⟨_,rfl,rfl,_,rfl, ?_⟩;refine dz (fun _=> ?_) (fun _=> ?_)
  ·exact ⟨_,rfl,_,rfl,_,_,rfl,rfl,k _ H3 R3 K3⟩
  exact ⟨_,rfl,_,rfl,r,m,rfl,R3,by omega,by omega,fun z' H4 _ _ R4 k4=>k _ H4 R4 (K3.trans k4)⟩
def yC (K:PySem.W.Frag):Sp:=fun vs H Q _=>∃(r:Addr) (row:List Nat) (b:Bool) (m:Nat),vs=[.ref r,.bl b]/\H r=some (.lst (row.map fun c:Nat=>V.int c))/\row.length<=37/\(∀c∈row,c<m) /\ ∀l H',H l=none->gZ H' l m (gB row b)->Same H H'->Q (.ref l) H'
theorem Km {f:Addr} {fd:FuncData} (F:j9 K "_law_rows" "_law_rows" lK f fd) (Bt:rD mg):bW P w K mg base lE 1 f fd ["row","lost"] (yC K):=by
 refine F.ok M9 (fun vs H Q E h=> ?_) (fun cdv A outer s H vs Q E hr h=> ?_)
 ·obtain ⟨r,row,b,m,rfl,_⟩:=h
  rfl
 ·obtain ⟨r,row,b,m,rfl,hr0,rl,rm,k⟩:=h
  refine ⟨_,(aL (bC (bR HF (dU rfl (N:=["cell"]) (own:=["cell"]) (caps:=[]) (bh.of (by kernel_rfl)) (d_ (K:=K) rfl (pv 0)) (fun _ _ _ _=>(bO (i:=0) (show List.Nodup (["cell"]:List Str) by decide +kernel) rfl (Or.inl rfl))) (fun _ _ _ _=>dR) (fun _ _ _ _=>(jX (aj cN (aj cN (aj (pv 0) aC)))))) (bR yU (eU (aj (jX (aj cN (aj (aV (aX (K:=K) rfl) (by rfl) Bt.gq cX (aj (pv 0) aC)) aC))) aC)) (dj n_ (by rfl) Bt.zR tX (aj (pv 1) aC)))))), ?_⟩;refine ⟨_,rfl,r,rfl,⟨_,bK.of hr0⟩,fun D hD=> ?_⟩;refine BP (K:=K) (fun i=>(row[i]?).bind fun c=>if (fun _:Nat=>true) c then some (z9 (.load 0 c)) else none) (fun i dd e=> ?_) hD (bK.of hr0) (by rw [List.length_map];omega) (fun i v H1 G F hi s1 kG kF=> ?_) (fun H1 ws s1 e1' d1=> ?_)
  ·cases ex:row[i]? with
   | none=>rw [ex] at e;cases e
   | some c=>rw [ex] at e;cases e;exact Il _
  ·rw [List.getElem?_map] at hi
   obtain ⟨c,ec,rfl⟩:∃c:Nat,row[i]? = some c/\v = .int c:=by
    cases e:row[i]? with
    | none=>rw [e] at hi;cases hi
    | some c=>rw [e] at hi;exact ⟨c,rfl,(Option.some.inj hi).symm⟩
   rw [ec] at kF;dsimp only [wM];rw [if_pos rfl];refine ⟨_,rfl,(by show 3<=sizeLine;decide),fun p hp=> ?_⟩;exact kF _ _ _ (aH hp) rfl (Pu (b:=0) ao)
  rw [List.length_map,xu (fun _:Nat=>true) (fun c:Nat=>z9 (.load 0 c)),List.filter_eq_self.mpr (fun _ _=>rfl)] at d1;refine ⟨_,rfl,r,_,rfl,.inl (bK.of (s1 _ _ hr0)), ?_⟩;rw [List.length_map];refine ⟨(by show 2<=sizeLine;decide),fun p hp=> ?_⟩;have sp:=aH (o:=HO.tup [V.str "go",V.int row.length]) hp;refine ⟨(by show 1<=sizeLine;decide),fun q hq=> ?_⟩;have sq:=aH (o:=HO.lst [V.ref p]) hq;refine ⟨_,rfl,Or.inr ⟨_,rfl,q,_,_,rfl,rfl,ao, ?_, ?_, ?_,fun q3 Ly=> ?_⟩⟩
  ·split<;>decide
  ·split<;>decide
  ·rw [sizeLine_eq];split<;>simp
  have e1:(List.replicate (if b=true then (1:Int) else 0).toNat [V.ref p]).flatten=if b then [V.ref p] else []:=by cases b<;>rfl
  rw [e1] at *;have s3:=aH (o:=HO.lst (if b then [V.ref p] else [])) Ly;have QJ:=(sp.trans sq).trans s3;have wl:ws.length=row.length:=by rw [d1.length,List.length_map]
  refine ⟨D,q3,_,_,rfl,rfl,QJ _ _ e1',ao,by rw [wl,sizeLine_eq];split<;>simp<;>omega,fun q4 hq4=> ?_⟩;have s4:=aH (o:=HO.lst (ws++(if b then [V.ref p] else []))) hq4;have aea:=(s1.trans QJ).trans s4;refine k q4 _ (s1.free (QJ.free hq4)) ⟨ws++(if b then [V.ref p] else []),ao, ?_, ?_, ?_⟩ aea
  ·have dg:Dat (upd (upd (upd (upd H1 p (.tup [V.str "go",V.int row.length])) q (.lst [V.ref p])) q3 (.lst (if b then [V.ref p] else []))) q4 (.lst (ws++(if b then [V.ref p] else [])))) (.ref p) (z9 (.go row.length)):=by
    simp only [z9,Dat];exact ⟨p,_,rfl,s4 _ _ (s3 _ _ (sq _ _ ao)),by simp only [bf,Dat,and_true]⟩
   have dl:=d1.same (QJ.trans s4) _;unfold gB;rw [List.map_append,List.map_map];refine bf.append dl ?_;cases b with
   | false=>exact trivial
   | true=>exact UJ dg
  ·intro x hx
   unfold gB at hx;rcases List.mem_append.mp hx with hx|hx
   ·obtain ⟨c,hc,rfl⟩:=List.mem_map.mp hx
    exact ⟨by decide,rm c hc⟩
   ·cases b with
    | false=>simp at hx
    | true=>
      rw [List.mem_singleton.mp hx];trivial
  ·unfold gB
   rw [List.length_append,List.length_map];split<;>simp<;>omega
def um (K:PySem.W.Frag):Sp:=fun vs H Q _=>∃(τ:Tg) (L c g:Addr) (rs:List Addr) (loads:List (List Nat)) (cs gs:List Int),vs=[.ref L,.ref c,.ref g]/\Jg τ H L rs loads/\loads.length<=8/\H c=some (.lst (cs.map V.int))/\H g=some (.lst (gs.map V.int))/\cs.length=loads.length/\gs.length=loads.length /\
 ∀l H',H l=none->H' l=some (.lst (((List.range loads.length).filter fun k:Nat=>decide (gI gs k<gI cs k)&&decide (gI gs k<((loads[k]?).getD []).length)).map fun k:Nat=>V.int k))->Same H H'->Q (.ref l) H'
theorem Kr {f:Addr} {fd:FuncData} (F:j9 K "_law_free" "_law_free" lN f fd) (Bt:rD mg):bW P w K mg base lE 1 f fd ["loads","counts","gone"] (um K):=by
 refine F.ok M_ (fun vs H Q E h=> ?_) (fun cdv A outer s H vs Q E hr h=> ?_)
 ·obtain ⟨τ,L,c,g,rs,loads,cs,gs,rfl,_⟩:=h
  rfl
 ·obtain ⟨τ,L,c,g,rs,loads,cs,gs,rfl,⟨eL,tL,ll,lr⟩,l8,hc,hg,lc,lg,k⟩:=h
  refine ⟨_,(aL (bC (dU rfl (N:=["k","gone","counts","loads"]) (own:=["k"]) (caps:=[2,1,0]) (bh.of (by kernel_rfl)) (fG (by rfl) Bt.iU (aj (aV (aX (K:=K) rfl) (by rfl) Bt.gq cX (aj (pv 0) aC)) aC)) (fun _ _ _ _=>(bO (i:=0) (show List.Nodup (["k","gone","counts","loads"]:List Str) by decide +kernel) rfl (Or.inl rfl))) (fun _ _ _ _=>(uG (PW.pt (Ht (bI wC (aY (aZ (K:=K) rfl) (pv 1) (pv 0) (fun _ _=>rfl)) (aY (aZ (K:=K) rfl) (pv 2) (pv 0) (fun _ _=>rfl)) (bF _)) (Dd (bI wC (aY (aZ (K:=K) rfl) (pv 1) (pv 0) (fun _ _=>rfl)) (aV (aX (K:=K) rfl) (by rfl) Bt.gq cX (aj (aY (aZ (K:=K) rfl) (pv 3) (pv 0) (fun _ _=>rfl)) aC)) (bF _))))))) (fun _ _ _ _=>(pv 0))))), ?_⟩;refine ⟨_,rfl,L,_,rfl,.inl (bK.of eL),_,rfl,by rw [List.length_map];omega,by rw [List.length_map];omega,fun D hD=> ?_⟩;rw [List.length_map,Int.toNat_natCast,ll];refine nZ (fun j:Nat=>if decide (gI gs j<gI cs j)&&decide (gI gs j<((loads[j]?).getD []).length) then some (.int (j:Nat)) else none) hD (by omega) (fun j H1 G F hj s1 kG kF=> ?_) (fun H1 s1 e1=> ?_)
  ·have er:rs[j]? = some rs[j]:=List.getElem?_eq_getElem (by omega)
   have el:loads[j]? = some loads[j]:=List.getElem?_eq_getElem hj;obtain ⟨_,hrow⟩:=lr j _ _ er el;rw [el] at kG kF;refine ⟨_,rfl,_,rfl,_,_,_,_,rfl,rfl,bK.of (s1 _ _ hg),by rw [Int.zero_add];exact jo (by omega) (by omega),_,rfl,_,rfl,_,_,_,_,rfl,rfl,bK.of (s1 _ _ hc),by rw [Int.zero_add];exact jo (by omega) (by omega),_,_,rfl,rfl,_,rfl, ?_⟩;refine dz (fun q1=> ?_) (fun q1=> ?_)
   ·refine ⟨_,rfl,_,rfl,_,_,_,_,rfl,rfl,bK.of (s1 _ _ hg),by rw [Int.zero_add];exact jo (by omega) (by omega),_,rfl,_,rfl,_,_,_,_,rfl,rfl,bK.of (s1 _ _ eL),by rw [Int.zero_add];exact dW (by rw [List.getElem?_map,er];rfl),rs[j],_,rfl,.inl (bK.of (s1 _ _ hrow)),_,_,rfl,rfl,_,rfl, ?_⟩
    rw [List.length_map];refine dz (fun q2=> ?_) (fun q2=> ?_)
    ·exact ⟨_,rfl,kF _ H1 (Same.refl _) (by rw [q1];show (if true&&decide (gI gs j<(loads[j].length:Int)) then _ else _)=_;rw [q2,Int.zero_add];rfl)⟩
    ·exact kG H1 (Same.refl _) (by show (if _&&decide (gI gs j<(loads[j].length:Int)) then _ else _)=_;rw [Bool.eq_false_iff.mpr q2,Bool.and_false];rfl)
   ·exact kG H1 (Same.refl _) (by rw [Bool.eq_false_iff.mpr q1,Bool.false_and];rfl)
  ·rw [Im (fun j:Nat=>decide (gI gs j<gI cs j)&&decide (gI gs j<((loads[j]?).getD []).length)) (fun j:Nat=>V.int j)] at e1
   exact k D H1 hD e1 s1
def pZ (CR CW CH:Addr) (K:PySem.W.Frag):Sp:=fun vs H Q _=>∃(i ii:Nat) (τ:Tg) (R:Em) (S:lQ) (cs gs:List Int) (ns:List Nt) (h:Int),vs=[.ref R.o,.int h]/\lR CR CW CH i ii τ H R S cs ns gs/\S.ts.length<=9000/\(∀k:Nat,h=k->iY S cs gs k=false->mX ns gs k=[]) /\
 ((¬tM h cs.length /\ ∀H',Same H H'->Q (.int 1) H')\/(∃k:Nat,h=k/\k<cs.length/\iY S cs gs k=true /\ ∀H',Same H H'->Q (.int 2) H'))
theorem Dp {au ak aq:Addr} {f:Addr} {fd:FuncData} (F:j9 K "_law_refusal" "_law_refusal" gO f fd) {aJ aK aW bD cP bN:Addr} (d8:Xr K mg aJ "NoNumber") (cH:Xr K mg aK "NoHand") (gQ:Xr K mg aW "Over") (gG:Xo K mg aJ bD "NoteError" true) (pF:Xo K mg aJ cP "Held" false) (jN:Xo K mg aJ bN "NoNote" false) (dX:bV K aJ aK false) (fJ:bV K aJ aW false) (dY:bV K aK aJ false) (fY:bV K aK aW false) (cM:bV K aK bD true) (fZ:bV K aK cP false) (d9:bV K aK bN false) (fH:bV K aW aJ false) (fX:bV K aW aK false) (dB:bV K aW bD true) (iI:bV K aW cP false) (fW:bV K aW bN false) (aN:dD K au) (nM:iV P w K mg base 8 au "turn" ["self","hand"] (xg au ak aq aK aW K)) (Bt:rD mg):bW P w K mg base lE 9 f fd ["one","number"] (pZ au ak aq K):=by
 refine F.ok mR (fun vs H Q E h=> ?_) (fun cdv A outer s H vs Q E hr h=> ?_)
 ·obtain ⟨i,ii,τ,R,S,cs,gs,ns,h,rfl,_⟩:=h
  rfl
 ·obtain ⟨i,ii,τ,R,S,cs,gs,ns,h,rfl,r,tl,nh,cases'⟩:=h
  refine ⟨_,(aD (bT (i:=2) mR.nd rfl (Or.inl rfl) mD)
   (aD (VP (i:=3) rfl rfl rfl rfl mR.nd rfl rfl (by rfl) gG.bd gG.hd (fun _ _ _ _ hR=>(aL (fj (qg nM aN.cls rfl hR (hr.mono (by decide)) (pv 0) (aj (pv 1) aC))))) (fun _=>(aL (bT (i:=2) mR.nd rfl (Or.inl rfl) (pv 3)))))
   (aD (cD (PW.pt (pK (fB (dh (aV (zA (K:=K) (c:= .type "ValueError") (cv:= .ty "ValueError") rfl (fun _ h=>h)) (by rfl) Bt.bJ bG (aj (pv 2) (aj (fQ (v:= .ty "ValueError") (by rfl) Bt.Ek Ai rfl) aC))))) (mj (dh (aV (Ln (K:=K) rfl) (by rfl) Bt.bJ bG (aj (pv 2) (aj (jX (aj (jJ (v:= .ref cP) (by rfl) pF.bd rfl) (aj (jJ (v:= .ref bN) (by rfl) jN.bd rfl) aC))) aC))))))) (aL (bC aG)) bL)
   (aL (bC (aY (aZ (K:=K) rfl) (eU (aj aG (aj aG (aj aG (aj aG aC))))) (bR jK (dj n_ (by rfl) Bt.zR tX (aj (aV (zA (K:=K) (c:= .ref aK) (cv:= .ref aK) rfl (fun _ h=>h)) (by rfl) Bt.bJ bG (aj (pv 2) (aj (jJ (v:= .ref aK) (by rfl) cH.bd rfl) aC))) aC)) (bR vN aG (dj n_ (by rfl) Bt.zR tX (aj (aV (zA (K:=K) (c:= .ref aW) (cv:= .ref aW) rfl (fun _ h=>h)) (by rfl) Bt.bJ bG (aj (pv 2) (aj (jJ (v:= .ref aW) (by rfl) gQ.bd rfl) aC))) aC)))) (fun _ _=>rfl))))))), ?_⟩
  rcases cases' with ⟨hn,k⟩|⟨kk,rfl,kl,eo,k⟩
  ·have no:∀k':Nat,h=k'->k'<cs.length->False:=fun k' e1 e2=>hn ⟨by omega,by omega⟩
   refine ⟨_,rfl,R.o,R.dx,_,rfl,r.o,rfl,_,rfl,i,ii,τ,R,S,cs,gs,ns,h,rfl,r,tl,nh,fun k' s' r' t' H' e1 e2=>(no k' e1 e2).elim,fun _=>⟨_,rfl,cM.sub,fun e he=> ?_⟩,fun k' e1 e2=>(no k' e1 e2).elim⟩;have se:=aH (o:=XO aK none e) he;refine ⟨_,rfl, ?_⟩;refine ⟨_,rfl,e,_,true,rfl,ao,cH.xc,Br cH.ve,_,rfl,dZ ?_⟩;refine ⟨_,rfl,(by show 2<=sizeLine;decide),fun t ht=> ?_⟩;have st:=aH (o:=HO.tup [V.ref cP,V.ref bN]) ht
   refine ⟨e,t,_,[cP,bN],false,rfl,st _ _ ao,cH.xc,ao,qu (by
    intro D hD;simp only [List.mem_cons,List.not_mem_nil,or_false] at hD;rcases hD with rfl|rfl
    ·exact qZ pF.hd fZ
    ·exact qZ jN.hd d9),_,rfl,dZ ?_⟩
   refine ⟨(by show 4<=sizeLine;decide),fun l hl=> ?_⟩;have sl:=aH (o:=HO.lst [V.int 0,V.int 1,V.int 2,V.int 0]) hl;have ee:=sl _ _ (st _ _ (ao (H:=H) (a:=e) (o:=XO aK none e)));exact ⟨_,rfl,e,_,true,rfl,ee,cH.xc,FT,.inr ⟨_,rfl,_,rfl,e,_,false,rfl,ee,cH.xc,qZ gQ.hd fY,.inr ⟨_,rfl,_,_,rfl,rfl,.inl ⟨by decide,by decide⟩,_,_,rfl,rfl,_,_,_,_,rfl,rfl,bK.of ao,rfl,k _ ((se.trans st).trans sl)⟩⟩⟩
  ·have inn:tM (kk:Int) cs.length:=⟨by omega,by omega⟩
   have one:∀k':Nat,(kk:Int)=k'->k'=kk:=fun k' e=>by omega
   refine ⟨_,rfl,R.o,R.dx,_,rfl,r.o,rfl,_,rfl,i,ii,τ,R,S,cs,gs,ns,kk,rfl,r,tl,nh,fun k' s' r' t' H' e1 e2 e3=>absurd e3 (by rw [one k' e1,eo];decide),fun z=>absurd inn z,fun k' e1 e2 e3=>⟨_,rfl,dB.sub,fun e he=> ?_⟩⟩;have se:=aH (o:=XO aW none e) he;refine ⟨_,rfl, ?_⟩;refine ⟨_,rfl,e,_,true,rfl,ao,gQ.xc,Br gQ.ve,_,rfl,dZ ?_⟩;refine ⟨_,rfl,(by show 2<=sizeLine;decide),fun t ht=> ?_⟩;have st:=aH (o:=HO.tup [V.ref cP,V.ref bN]) ht
   refine ⟨e,t,_,[cP,bN],false,rfl,st _ _ ao,gQ.xc,ao,qu (by
    intro D hD;simp only [List.mem_cons,List.not_mem_nil,or_false] at hD;rcases hD with rfl|rfl
    ·exact qZ pF.hd iI
    ·exact qZ jN.hd fW),_,rfl,dZ ?_⟩
   refine ⟨(by show 4<=sizeLine;decide),fun l hl=> ?_⟩;have sl:=aH (o:=HO.lst [V.int 0,V.int 1,V.int 2,V.int 0]) hl;have ee:=sl _ _ (st _ _ (ao (H:=H) (a:=e) (o:=XO aW none e)));exact ⟨_,rfl,e,_,false,rfl,ee,gQ.xc,qZ cH.hd fX,.inr ⟨_,rfl,_,rfl,e,_,true,rfl,ee,gQ.xc,FT,.inr ⟨_,rfl,_,_,rfl,rfl,.inl ⟨by decide,by decide⟩,_,_,rfl,rfl,_,_,_,_,rfl,rfl,bK.of ao,rfl,k _ ((se.trans st).trans sl)⟩⟩⟩
structure Ax (S:lQ) (ns:List Int) (loads:List (List Nat)) (lost:List Bool) (gs:List Int):Prop where
 len:S.hs.length=loads.length
 ll:lost.length=loads.length
 nums:S.ns=ns
 gl:gs.length=loads.length
 hd:∀(k:Nat) (s:bH) (row:List Nat) (b:Bool),S.hs[k]? = some s->loads[k]? = some row->lost[k]? = some b -> ∃g:Nat,gI gs k=g/\LdS ns row b g s
 ct:∀k:Nat,k<loads.length->(S.ts.count (k:Int):Int)=gI gs k
 mem:∀row∈loads,∀c∈row,c<ns.length
theorem Ax.over {S:lQ} {ns:List Int} {loads:List (List Nat)} {lost:List Bool} {cs gs:List Int} {k:Nat} {row:List Nat} (G:Ax S ns loads lost gs) (h:loads[k]? = some row):iY S cs gs k=(decide (gI gs k=gI cs k) || !decide (gI gs k<row.length)):=by
 have kl:=(List.getElem?_eq_some_iff.mp h).1;have ks:k<S.hs.length:=by rw [G.len];exact kl
 have kb:k<lost.length:=by rw [G.ll];exact kl
 have es:S.hs[k]? = some S.hs[k]:=List.getElem?_eq_getElem ks;have eb:lost[k]? = some lost[k]:=List.getElem?_eq_getElem kb;obtain ⟨g,eg,L⟩:=G.hd k _ _ _ es h eb;unfold iY pI;rw [es,eg];show (_ || !decide (S.hs[k].st = "waits"))=_;congr 2
 by_cases q:g<row.length
 ·rw [decide_eq_true (L.st.mpr q),decide_eq_true (by omega)]
 ·rw [decide_eq_false (fun z=>q (L.st.mp z)),decide_eq_false (by omega)]
theorem Ax.turn {S:lQ} {ns:List Int} {loads:List (List Nat)} {lost:List Bool} {gs:List Int} {k c:Nat} {row:List Nat} (G:Ax S ns loads lost gs) (h:loads[k]? = some row) (hc:row[(gI gs k).toNat]? = some c):
 (∃s,S.hs[k]? = some s/\s.rws[s.pos]? = some (.load 0 c))/\Ax (j_ S k) ns loads lost (jD gs k):=by
 have kl:=(List.getElem?_eq_some_iff.mp h).1;have ks:k<S.hs.length:=by rw [G.len];exact kl
 have kb:k<lost.length:=by rw [G.ll];exact kl
 have es:S.hs[k]? = some S.hs[k]:=List.getElem?_eq_getElem ks;have eb:lost[k]? = some lost[k]:=List.getElem?_eq_getElem kb;obtain ⟨g,eg,L⟩:=G.hd k _ _ _ es h eb;rw [eg,Int.toNat_natCast] at hc;have er:S.hs[k].rws[S.hs[k].pos]? = some (.load 0 c):=by rw [L.rws,L.pos];exact Oo hc
 refine ⟨⟨_,es,er⟩, ?_⟩;have gk:k<gs.length:=by rw [G.gl];exact kl
 have WX:∀x:Nat,gI (jD gs k) x=if x=k then gI gs k+1 else gI gs x:=fun x=>by
  have e:=O8 (cs:=gs) (h:=(k:Int)) (k:=(x:Int)) (v:=gI gs k+1) (by omega) (by omega) (by omega);rw [Int.toNat_natCast] at e;unfold jD;rw [e]
  by_cases z:x=k
  ·rw [if_pos (by omega),if_pos z]
  ·rw [if_neg (by omega),if_neg z]
 have et:=EY es er;refine ⟨by rw [Bg];exact G.len,G.ll,by rw [et];exact G.nums,by unfold jD;rw [List.length_set];exact G.gl, ?_, ?_,G.mem⟩
 ·intro x s' aeh b' h1 h2 h3
  rw [et] at h1;have h1:(S.hs.set k (nY S.ns S.hs[k] (.load 0 c)))[x]? = some s':=h1;rw [List.getElem?_set] at h1
  by_cases z:k=x
  ·subst z
   rw [if_pos rfl,if_pos ks] at h1;cases h1;rw [h] at h2;cases h2;rw [eb] at h3;cases h3;refine ⟨g+1,by rw [WX,if_pos rfl,eg];omega, ?_⟩;rw [G.nums];exact RB L hc
  ·rw [if_neg z] at h1
   obtain ⟨g',e',L'⟩:=G.hd x s' aeh b' h1 h2 h3;exact ⟨g',by rw [WX,if_neg (fun q=>z q.symm)];exact e',L'⟩
 ·intro x hx
  rw [et,WX];show ((S.ts++[(k:Int)]).count (x:Int):Int)=_;rw [List.count_append]
  by_cases z:x=k
  ·subst z
   rw [if_pos rfl,List.count_singleton_self,←G.ct x hx];omega
  ·rw [if_neg z,List.count_singleton,if_neg (by simp;omega),←G.ct x hx]
   omega
theorem FZ (h:Int):∀l:List Int,inV (.int h) (l.map V.int)=l.contains h
 | []=>rfl
 | x::l=>by
   have ih:=FZ h l;unfold inV at ih ⊢;rw [List.map_cons,List.any_cons,ih,List.contains_cons];congr 1;show (x==h)=(h==x);rw [Bool.eq_iff_iff];simp only [beq_iff_eq];exact ⟨fun z=>z.symm,fun z=>z.symm⟩
theorem K9 (l:List Int):(l.map V.int).all uR=true:=by
 induction l with
 | nil=>rfl
 | cons x l ih=>rw [List.map_cons,List.all_cons,ih];rfl
theorem Oz (gs:List Int) (k:Nat):mX [] gs k=[]:=rfl
structure F51 (i ii:Nat) (τ:Tg) (H H':Hp):Prop where
 rt:∀r,RT τ H r->RT τ H' r
 mv:∀m,m≠i->m≠ii->m≠9->Mv m τ H τ H'
theorem F51.of_same {i ii:Nat} {τ:Tg} {H H':Hp} (k:Same H H'):F51 i ii τ H H':=⟨fun r T=>T.same k,fun m _ _ _=>Mv.of_same k⟩
theorem F51.trans {i ii:Nat} {τ:Tg} {H H1 H2:Hp} (a:F51 i ii τ H H1) (b:F51 i ii τ H1 H2):F51 i ii τ H H2:=⟨fun r T=>b.rt r (a.rt r T),fun m h1 h2 h3=>(a.mv m h1 h2 h3).trans (b.mv m h1 h2 h3)⟩
theorem F51.stp {i ii j:Nat} {τ:Tg} {H H':Hp} (k:mH j τ H H') (h:j=i\/j=ii\/j=9) (j0:j≠0):F51 i ii τ H H':=⟨fun r T=>T.stp k,fun m h1 h2 h3=>Mv.jY k (by rcases h with rfl|rfl|rfl<;>omega) j0⟩
structure C51 (CR CW CH:Addr) (i ii:Nat) (τ:Tg) (H:Hp) (R:Em) (S:lQ) (cs gs ns:List Int) (loads:List (List Nat)) (lost:List Bool) (L nb cl g:Addr) (rs:List Addr):Prop where
 r:lR CR CW CH i ii τ H R S cs [] gs
 G:Ax S ns loads lost gs
 l:Jg τ H L rs loads
 n8:loads.length<=8
 hnb:H nb=some (.lst (ns.map V.int))
 tn:τ nb=[0]
 hcl:H cl=some (.lst (cs.map V.int))
 tc:τ cl=[0]
 hg:H g=some (.lst (gs.map V.int))
 tg:τ g=[9]
 lc:cs.length=loads.length
 i9:i≠9
 ii9:ii≠9
theorem Jg.mv {i:Nat} {τ τ':Tg} {H H':Hp} {L:Addr} {rs:List Addr} {loads:List (List Nat)} (l:Jg τ H L rs loads) (q:Mv i τ H τ' H'):Jg τ' H' L rs loads:=by
 obtain ⟨e,t,ll,h⟩:=l;have e1:=q.keep _ _ e (.inl t);refine ⟨e1.1,e1.2.trans t,ll,fun k r x h1 h2=> ?_⟩;obtain ⟨t2,e2⟩:=h k r x h1 h2;have:=q.keep _ _ e2 (.inl t2);exact ⟨this.2.trans t2,this.1⟩
theorem C51.mv {CR CW CH:Addr} {i ii:Nat} {τ τ':Tg} {H H':Hp} {R:Em} {S:lQ} {cs gs ns:List Int} {loads:List (List Nat)} {lost:List Bool} {L nb cl g:Addr} {rs:List Addr} (c:C51 CR CW CH i ii τ H R S cs gs ns loads lost L nb cl g rs) (q:∀m,m=i\/m=ii\/m=9->Mv m τ H τ' H') (u:rA τ' H'):C51 CR CW CH i ii τ' H' R S cs gs ns loads lost L nb cl g rs:=by
 have q9:=q 9 (.inr (.inr rfl));have e1:=q9.keep _ _ c.hnb (.inl c.tn);have e2:=q9.keep _ _ c.hcl (.inl c.tc);have e3:=q9.keep _ _ c.hg (.inr (by rw [c.tg];rfl));exact ⟨c.r.mv (q i (.inl rfl)) (q ii (.inr (.inl rfl))) u,c.G,c.l.mv q9,c.n8,e1.1,e1.2.trans c.tn,e2.1,e2.2.trans c.tc,e3.1,e3.2.trans c.tg,c.lc,c.i9,c.ii9⟩
theorem C51.same {CR CW CH:Addr} {i ii:Nat} {τ:Tg} {H H':Hp} {R:Em} {S:lQ} {cs gs ns:List Int} {loads:List (List Nat)} {lost:List Bool} {L nb cl g:Addr} {rs:List Addr} (c:C51 CR CW CH i ii τ H R S cs gs ns loads lost L nb cl g rs) (k:Same H H'):C51 CR CW CH i ii τ H' R S cs gs ns loads lost L nb cl g rs:=c.mv (fun _ _=>Mv.of_same k) (c.r.w.un.same k)
def yx (CR CW CH:Addr) (K:PySem.W.Frag):Sp:=fun vs H Q _=>∃(i ii:Nat) (τ:Tg) (R:Em) (S:lQ) (cs gs ns:List Int) (loads:List (List Nat)) (lost:List Bool) (L nb cl g:Addr) (rs:List Addr) (num:Int),vs=[.ref R.o,.int num,.ref L,.ref nb,.ref cl,.ref g]/\C51 CR CW CH i ii τ H R S cs gs ns loads lost L nb cl g rs/\S.ts.length<=8000 /\
 ∀(S':lQ) (gs':List Int) (H':Hp),C51 CR CW CH i ii τ H' R S' cs gs' ns loads lost L nb cl g rs->S'.ts.length<=S.ts.length+1->F51 i ii τ H H'->Q (.bl true) H'
theorem Kh {au ak aq aK aW:Addr} {f:Addr} {fd:FuncData} (F:j9 K "_law_step" "_law_step" lJ f fd) (aN:dD K au) (zY:FnAt P w K mg base 9 "_law_refusal" ["one","number"] (pZ au ak aq K)) (Es:FnAt P w K mg base 1 "_law_free" ["loads","counts","gone"] (um K)) (nM:MethAt P w K mg base 8 au "turn" ["self","hand"] (fun vs H Q _=>xg au ak aq aK aW K vs H Q fun _ _ _=>False)) (jP:FnAt P w K mg base 5 "_law_alike" ["found","due"] (jE 4 K)) (Bt:rD mg):bW P w K mg base lE 10 f fd ["one","number","loads","numbers","counts","gone"] (yx au ak aq K):=by
 refine F.ok Fi (fun vs H Q E h=> ?_) (fun cdv A outer s H vs Q E hr h=> ?_)
 ·obtain ⟨i,ii,τ,R,S,cs,gs,ns,loads,lost,L,nb,cl,g,rs,num,rfl,_⟩:=h
  rfl
 ·obtain ⟨i,ii,τ,R,S,cs,gs,ns,loads,lost,L,nb,cl,g,rs,num,rfl,c,tl,k⟩:=h
  refine ⟨_,(aD (cD (PW.pt (pK (bI wC (pv 1) aG (bF _)) (mj (bI Nz (pv 1) (aV (aX (K:=K) rfl) (by rfl) Bt.gq cX (aj (pv 2) aC)) (bF _))))) (aL (bC (fu ig (b_ zY (hr.mono (by decide)) (by rfl) (aj (pv 0) (aj (pv 1) aC))) aG (bF _)))) bL)
   (aD (cD (bI (Ad (K:=K) rfl) (pv 1) (b_ Es (hr.mono (by decide)) (by rfl) (aj (pv 2) (aj (pv 4) (aj (pv 5) aC)))) (by with_unfolding_all rfl)) (aL (bC (fu ig (b_ zY (hr.mono (by decide)) (by rfl) (aj (pv 0) (aj (pv 1) aC))) aG (bF _)))) bL)
   (aD (bT (i:=6) Fi.nd rfl (Or.inl rfl) (aY (aZ (K:=K) rfl) (aY (aZ (K:=K) rfl) (pv 2) (pv 1) (fun _ _=>rfl)) (aY (aZ (K:=K) rfl) (pv 5) (pv 1) (fun _ _=>rfl)) (fun _ _=>rfl)))
   (aD (tu (bR jK (aY (aZ (K:=K) rfl) (pv 5) (pv 1) (fun _ _=>rfl)) aG) (tE (pv 5) (pv 1) set_list))
   (aL (bC (b_ jP (hr.mono (by decide)) (by rfl) (aj (cF nM aN.cls (hr.mono (by decide)) (pv 0) (aj (pv 1) aC)) (aj (jX (aj cN (aj (pv 6) (aj (aY (aZ (K:=K) rfl) (pv 3) (pv 6) (fun _ _=>rfl)) (aj mD aC))))) aC))))))))), ?_⟩
  have ll:=c.l.2.2.1;have lg:=c.G.gl;have rl:lR au ak aq i ii τ H R S cs [] gs:=c.r;have lcs:=c.lc;have same:∀H',Same H H'->Q (.bl true) H':=fun H' s'=>k S gs H' (c.same s') (by omega) (F51.of_same s');refine ⟨_,rfl,_,_,rfl,rfl,_,rfl, ?_⟩;refine dz (fun q=> ?_) (fun q0=> ?_)
  ·refine jr ?_
   have q:=of_decide_eq_true q;exact ⟨_,rfl,_,rfl,i,ii,τ,R,S,cs,gs,[],num,rfl,rl,by omega,fun _ _ _=>rfl,.inl ⟨fun z=>by have:=z.1;omega,fun H' s'=>⟨rfl,same H' s'⟩⟩⟩
  refine ⟨_,rfl,_,rfl,L,_,rfl,.inl (bK.of c.l.1),_,_,rfl,rfl,_,rfl, ?_⟩;rw [List.length_map,ll];refine dz (fun q=> ?_) (fun q1=> ?_)
  ·have q:num≥loads.length:=of_decide_eq_true q
   exact ⟨_,rfl,_,rfl,i,ii,τ,R,S,cs,gs,[],num,rfl,rl,by omega,fun _ _ _=>rfl,.inl ⟨fun z=>by have:=z.2;omega,fun H' s'=>⟨rfl,same H' s'⟩⟩⟩
  have q0:¬num<0:=fun z=>q0 (decide_eq_true z);have q1:¬num≥loads.length:=fun z=>q1 (decide_eq_true z);obtain ⟨n,rfl⟩:=Int.eq_ofNat_of_zero_le (show 0<=num by omega);have nl:n<loads.length:=by omega
  have er:loads[n]? = some loads[n]:=List.getElem?_eq_getElem nl;have ov:=c.G.over (cs:=cs) er;unfold E_;dsimp only;refine ⟨_,rfl,_,rfl,_,rfl,_,rfl,τ,L,cl,g,rs,loads,cs,gs,rfl,c.l,c.n8,c.hcl,c.hg,lcs,lg,fun fl H1 ffl efl s1=> ?_⟩;have ah5:H1 fl=some (.lst ((((List.range loads.length).filter fun k:Nat=>decide (gI gs k<gI cs k)&&decide (gI gs k<((loads[k]?).getD []).length)).map fun k:Nat=>(k:Int)).map V.int)):=by rw [efl,List.map_map];rfl
  refine ⟨fl,_,rfl,.inl (bK.of ah5),rfl,K9 _,_,rfl, ?_⟩;rw [if_pos rfl,FZ];have gb:=rl.dn.2 n (by omega) (by omega)
  have ec:(((List.range loads.length).filter fun k:Nat=>decide (gI gs k<gI cs k)&&decide (gI gs k<((loads[k]?).getD []).length)).map fun k:Nat=>(k:Int)).contains (n:Int)=(decide (gI gs n<gI cs n)&&decide (gI gs n<(loads[n].length:Int))):=by
   rw [Bool.eq_iff_iff,List.contains_iff_mem,List.mem_map];constructor
   ·rintro ⟨a,ha,e⟩
    obtain rfl:a=n:=by omega
    have:=(List.mem_filter.mp ha).2;rw [er] at this;exact this
   ·intro h
    exact ⟨n,List.mem_filter.mpr ⟨List.mem_range.mpr nl,by rw [er];exact h⟩,rfl⟩
  rw [ec];have c1:=c.same s1
  by_cases fr:gI gs n<gI cs n/\gI gs n<(loads[n].length:Int)
  ·rw [decide_eq_true fr.1,decide_eq_true fr.2]
   refine dZ ?_
   have eo:iY S cs gs n=false:=by
    rw [ov,decide_eq_false (by omega),decide_eq_true fr.2];rfl
   dsimp only;obtain ⟨gn,egn⟩:=Int.eq_ofNat_of_zero_le gb.1;have Z7:gn<loads[n].length:=by omega
   have W9:loads[n][gn]? = some loads[n][gn]:=List.getElem?_eq_getElem Z7;have mc:=c.G.mem loads[n] (List.getElem_mem nl) loads[n][gn] (List.getElem_mem Z7);generalize loads[n][gn]=c0 at W9 mc;have Gk:rs[n]? = some rs[n]:=List.getElem?_eq_getElem (by omega);obtain ⟨ac8,hrow⟩:=c1.l.2.2.2 n _ _ Gk er;refine ⟨_,rfl,_,rfl,_,_,_,_,rfl,rfl,bK.of c1.l.1,dW (by rw [List.getElem?_map,Gk];rfl),_,rfl,_,rfl,_,_,_,_,rfl,rfl,bK.of c1.hg,jo (by omega) (by omega),_,_,_,_,rfl,rfl,bK.of hrow,by rw [egn];exact dW (by rw [List.getElem?_map,W9];rfl), ?_⟩;refine ⟨_,rfl,_,rfl,_,_,_,_,rfl,rfl,bK.of c1.hg,jo (by omega) (by omega),_,_,rfl,rfl,_,rfl,_,rfl,g,_,_,_,rfl,rfl,c1.hg,Dw (by omega) (by rw [List.length_map];omega), ?_⟩
   have em:(gs.map V.int).set ((n:Int)).toNat (.int (gI gs n+1))=(jD gs n).map V.int:=by
    unfold jD;rw [List.map_set,Int.toNat_natCast]
   rw [em];have TY:mH 9 τ H1 (upd H1 g (.lst ((jD gs n).map V.int))):=mH.set (by rw [c1.tg];rfl) c1.hg (by intro xs z;cases z);have hg2:(upd H1 g (.lst ((jD gs n).map V.int))) g=some (.lst ((jD gs n).map V.int)):=ao;generalize (upd H1 g (.lst ((jD gs n).map V.int)))=H2 at TY hg2 ⊢;have un2:=TY.un c1.r.w.un;have mv2:∀m,m≠9->Mv m τ H1 τ H2:=fun m hm=>Mv.jY TY (fun z=>hm z.symm) (by decide);have r2:=c1.r.mv (mv2 i c.i9) (mv2 ii c.ii9) un2;have l2:=c1.l.mv (mv2 0 (by decide));have nb2:=((mv2 0 (by decide)).keep _ _ c1.hnb (.inl c1.tn)).1;have cl2:=((mv2 0 (by decide)).keep _ _ c1.hcl (.inl c1.tc)).1;have inn:tM (n:Int) cs.length:=⟨by omega,by omega⟩;have one:∀k':Nat,(n:Int)=k'->k'=n:=fun k' e=>by omega
   have hc':loads[n][(gI gs n).toNat]? = some c0:=by rw [egn,Int.toNat_natCast];exact W9
   obtain ⟨⟨s0,es0,er0⟩,G'⟩:=c.G.turn er hc';refine ⟨_,rfl,R.o,R.dx,_,rfl,r2.o,rfl,_,rfl,i,ii,τ,R,S,cs,gs,[],n,rfl,r2,by omega,fun _ _ _=>rfl,fun k' s' r' t' H3 e1 e2 e3 e4 wt e5 tr tf tk r3 st3=> ?_,fun z=>absurd inn z,fun k' e1 e2 e3=>absurd e3 (by rw [one k' e1,eo];decide)⟩;obtain rfl:=one k' e1;rw [es0] at e4;cases e4;rw [er0] at e5;cases e5;obtain ⟨Hm,Fb,stb⟩:=st3;have mv3:∀m,m≠i->m≠ii->Mv m τ H2 τ H3:=fun m h1 h2=>(Mv.jY Fb (fun z=>h1 z.symm) r2.w.i0).trans (Mv.jY stb (fun z=>h2 z.symm) r2.n0);have z1:(0:Nat)≠i:=fun z=>r2.w.i0 z.symm;have z2:(0:Nat)≠ii:=fun z=>r2.n0 z.symm;have l3:=l2.mv (mv3 0 z1 z2);have nb3:=((mv3 0 z1 z2).keep _ _ nb2 (.inl c1.tn)).1;have cl3:=((mv3 0 z1 z2).keep _ _ cl2 (.inl c1.tc)).1;have g3:=((mv3 9 (fun z=>c.i9 z.symm) (fun z=>c.ii9 z.symm)).keep _ _ hg2 (.inr (by rw [c.tg];rfl))).1;have c3:C51 au ak aq i ii τ H3 R (j_ S k') cs (jD gs k') ns loads lost L nb cl g rs:=⟨r3,G',l3,c.n8,nb3,c.tn,cl3,c.tc,g3,c.tg,c.lc,c.i9,c.ii9⟩;have ev:ns[c0]? = some ns[c0]:=List.getElem?_eq_getElem mc;have tS:(j_ S k').ts.length<=S.ts.length+1:=by rw [EY es0 er0];simp
   refine ⟨_,rfl,_,rfl,_,rfl,_,_,_,_,rfl,rfl,bK.of nb3,dW (by rw [List.getElem?_map,ev];rfl),(by show 4<=sizeLine;decide),fun p hp=> ?_⟩;have sp:=aH (o:=HO.tup [V.str "load",V.int c0,V.int ns[c0],V.non]) hp
   have dp:Dat (upd H3 p (.tup [V.str "load",V.int c0,V.int ns[c0],V.non])) (.ref p) (Cp S.ns s0.bs (.load 0 c0)):=by
    refine BL ?_;rw [ao];show _=some (HO.tup [V.str "load",V.int c0,oV (S.ns[c0]?),V.non]);rw [c.G.nums,ev];rfl
   refine ⟨_,_,_,rfl,BL (sp _ _ tk),dp,Ni _ _ _,fun H4 s4=> ?_⟩;have F:F51 i ii τ H H4:=((((F51.of_same s1).trans (F51.stp TY (.inr (.inr rfl)) (by decide))).trans (F51.stp Fb (.inl rfl) r2.w.i0)).trans (F51.stp stb (.inr (.inl rfl)) r2.n0)).trans (F51.of_same (sp.trans s4));exact k _ _ H4 (c3.same (sp.trans s4)) tS F
  ·have eo:iY S cs gs n=true:=by
    rw [ov]
    by_cases q:gI gs n<(loads[n].length:Int)
    ·rw [decide_eq_true (by omega)];rfl
    ·rw [decide_eq_false q];simp
   have ef:(decide (gI gs n<gI cs n)&&decide (gI gs n<(loads[n].length:Int)))=false:=by
    rw [Bool.eq_false_iff];intro z;rw [Bool.and_eq_true] at z;exact fr ⟨of_decide_eq_true z.1,of_decide_eq_true z.2⟩
   rw [ef];refine jr ?_;exact ⟨_,rfl,_,rfl,i,ii,τ,R,S,cs,gs,[],n,rfl,c1.r,by omega,fun _ _ _=>rfl,.inr ⟨n,rfl,by omega,eo,fun H' s'=>⟨rfl,same H' (s1.trans s')⟩⟩⟩
theorem Mv.Rq {i j:Nat} {τ τ':Tg} {H H':Hp} (k:mH j τ H H') (h:j≠i) (h0:j≠0) (t:∀x u,H x=some u->τ' x=τ x):Mv i τ H τ' H':=⟨fun x o e q=>⟨((Mv.jY (i:=i) k h h0).keep x o e q).1,t x o e⟩,k.tup⟩
theorem RT.Zv {τ τ':Tg} {H H':Hp} {r:Addr} {j:Nat} (h:RT τ H r) (k:mH j τ H H') (t:∀x u,H x=some u->τ' x=τ x) (un:rA τ' H'):RT τ' H' r:=by
 have h':=h.stp k;refine ⟨h'.R,fun x o e n=> ?_,un⟩;cases q:H x with
 | some u=>exact h'.off x o e (by rw [←t x u q];exact n)
 | none=>
   obtain ⟨g,c,gs,cs,p,tt,e1,e2,e3,q'⟩:=h.R;refine ⟨(aB e1 q).symm,fun g' c' u v e'=> ?_⟩
   have tr:τ r=[]:=by
    by_cases z:τ r=[]
    ·exact z
    ·exact absurd rfl (h.off r _ e1 z).1
   rw [k.keep _ _ e1 (by rw [tr];simp)] at e';cases e';exact ⟨(fun z=>by rw [z,e2] at q;cases q),(fun z=>by rw [z,e3] at q;cases q)⟩
theorem Qt {CW CH CN CO:Addr} {i:Nat} {τ:Tg} {H:Hp} {W:Jd} {S:lQ} {k:Nat} {s:bH} {Q:VK} (w:tY CW CH i τ H W S) (tl:S.ts.length<=10000) (es:S.hs[k]? = some s) (ws:s.st = "waits")
 (go:∀(r:Rw) (t:Addr) (H':Hp),s.rws[s.pos]? = some r->touch r=true->H t=none->H' t=some (.tup (vB S.ns s.bs r))->tY CW CH i τ H' W (j_ S k)->mH i τ H H'->Q (.ref t) H'):yu CW CH CN CO K [.ref W.o,.int k] H Q (fun _ _ _=>False):=by
 have kl:=(List.getElem?_eq_some_iff.mp es).1;have inn:tM (k:Int) S.hs.length:=⟨by omega,by omega⟩
 have one:∀(k':Nat) (t:bH),(k:Int)=k'->S.hs[k']? = some t->t=s/\k'=k:=fun k' t e1 e2=>by
  have:k'=k:=by omega
  subst this;rw [es] at e2;exact ⟨(Option.some.inj e2).symm,rfl⟩
 refine ⟨i,τ,W,S,_,rfl,w,tl,fun k' t' r' tt Hk e1 e2 wt' er' Yp tf tk wk stk=> ?_,fun z=>absurd inn z,fun k' t' e1 e2 z=>absurd (by rw [(one k' t' e1 e2).1];exact ws) z⟩;obtain ⟨rfl,rfl⟩:=one k' t' e1 e2;exact go r' tt Hk er' Yp tf tk wk stk
theorem R8 (hs:List bH) (n:Nat):(List.range n).filterMap (fun i=>if pI hs i then some (V.int (i:Nat)) else none)=((List.range n).filter (pI hs)).map fun k:Nat=>V.int k:=Im (pI hs) (fun k:Nat=>V.int k) n
def G9 (CR CW CH:Addr) (K:PySem.W.Frag):Sp:=fun vs H Q _=>∃(i ii:Nat) (τ:Tg) (R:Em) (S:lQ) (cs gs ns:List Int) (loads:List (List Nat)) (lost:List Bool) (L nb cl g:Addr) (rs:List Addr),vs=[.ref R.o,.ref L,.ref nb,.ref g]/\C51 CR CW CH i ii τ H R S cs gs ns loads lost L nb cl g rs/\S.ts.length<=8000 /\
 ∀(τ':Tg) (H':Hp),mH 11 τ H H'->(∀x u,H x=some u->τ' x=τ x)->rA τ' H'->Q (.bl true) H'
theorem Rg {au ak aq aK aW:Addr} {f:Addr} {fd:FuncData} (F:j9 K "_law_works_told" "_law_works_told" dO f fd) (aN:dD K au) (aQ:eZ K ak) (zV:MethAt P w K mg base 10 au "works" ["self"] (yD au ak aq K)) (jP:FnAt P w K mg base 5 "_law_alike" ["found","due"] (jE 4 K)) (iJ:MethAt P w K mg base 1 ak "counts" ["self"] (p8 ak aq K)) (Aq:MethAt P w K mg base 4 ak "boxes" ["self","hand"] (fun vs H Q _=>G_ bH.bs ak aq aK K vs H Q fun _ _ _=>False)) (qI:MethAt P w K mg base 4 ak "how" ["self","hand"] (fun vs H Q _=>Jm ak aq aK K vs H Q fun _ _ _=>False)) (pH:MethAt P w K mg base 7 ak "turn" ["self","hand"] (fun vs H Q _=>yu ak aq aK aW K vs H Q fun _ _ _=>False)) (Bt:rD mg):bW P w K mg base lE 11 f fd ["one","loads","numbers","gone"] (G9 au ak aq K):=by
 refine F.ok iH (fun vs H Q E h=> ?_) (fun cdv A outer s H vs Q E hr h=> ?_)
 ·obtain ⟨i,ii,τ,R,S,cs,gs,ns,loads,lost,L,nb,cl,g,rs,rfl,_⟩:=h
  rfl
 ·obtain ⟨i,ii,τ,R,S,cs,gs,ns,loads,lost,L,nb,cl,g,rs,rfl,c,tl,k⟩:=h
  have vV:=hr.units
  refine ⟨_,(aD (bT (i:=4) iH.nd rfl (Or.inr rfl) (eX zV aN.cls (hr.mono (by decide)) (pv 0)))
   (aD (cD (fB (dh (b_ jP (hr.mono (by decide)) (by rfl) (aj (eX iJ aQ.cls (hr.mono (by decide)) (pv 4)) (aj (pv 3) aC))))) (aL (bC mU)) bL)
   (aD (qe PassesOwn.never rfl (fG (by rfl) Bt.iU (aj (aV (aX (K:=K) rfl) (by rfl) Bt.gq cX (aj (pv 1) aC)) aC)) (bO (i:=5) iH.nd rfl (Or.inl rfl))
   (aD (bT (i:=6) iH.nd rfl (Or.inl rfl) (bR yU (eU (aj aG aC)) aG))
   (aD (cD (bI Zd (aY (aZ (K:=K) rfl) (pv 3) (pv 5) (fun _ _=>rfl)) aG (bF _)) (aL (tu (aY (aZ (K:=K) rfl) (pv 2) (aY (aZ (K:=K) rfl) (aY (aZ (K:=K) rfl) (pv 1) (pv 5) (fun _ _=>rfl)) (bR qm (aY (aZ (K:=K) rfl) (pv 3) (pv 5) (fun _ _=>rfl)) aG) (fun _ _=>rfl)) (fun _ _=>rfl)) (tE (pv 6) aG set_list))) bL)
   (aL (cD (fB (dh (b_ jP (hr.mono (by decide)) (by rfl) (aj (cF Aq aQ.cls (hr.mono (by decide)) (pv 4) (aj (pv 5) aC)) (aj (pv 6) aC))))) (aL (bC mU)) bL)))))
   (aD (uH (i:=7) rfl iH.nd rfl (Or.inl rfl) (N:=["k","works"]) (own:=["k"]) (caps:=[4]) (bh.of (by kernel_rfl)) (fG (by rfl) Bt.iU (aj (aV (aX (K:=K) rfl) (by rfl) Bt.gq cX (aj (pv 1) aC)) aC)) (fun _ _ _ _=>(bO (i:=0) (show List.Nodup (["k","works"]:List Str) by decide +kernel) rfl (Or.inl rfl))) (fun _ _ _ _=>(uG (bI ig (cF qI aQ.cls (hr.mono (by decide)) (pv 1) (aj (pv 0) aC)) cN (bF _)))) (fun _ _ _ _=>(pv 0)))
   (aD (cD (bI (Dl (K:=K) rfl vV) (pv 7) (eU aC) (bF _)) (aL (fj (cF pH aQ.cls (hr.mono (by decide)) (pv 4) (aj (aY (aZ (K:=K) rfl) (pv 7) aG (fun _ _=>rfl)) aC)))) bL)
   (aL (bC mU))))))), ?_⟩
  have ll:=c.l.2.2.1;have lg:=c.G.gl;have n8:=c.n8;refine ⟨_,rfl,R.o,R.dx,_,rfl,c.r.o,rfl,i,ii,11,τ,R,S,cs,gs,[],rfl,c.r,by decide,fun τ1 W H1 w1 MP s1=> ?_⟩;have c1:C51 au ak aq i ii τ1 H1 R S cs gs ns loads lost L nb cl g rs:=c.mv (fun m _=>Mv.tags s1 MP) w1.un;refine ⟨_,rfl,W.o,W.dx,_,rfl,w1.o,rfl,11,τ1,W,S,rfl,w1,fun l2 H2 fl2 el2 s2=> ?_⟩;have c2:=c1.same s2
  have ecs:Gw S=gs:=by
   refine List.ext_getElem? fun n=> ?_;unfold Gw
   by_cases hn:n<loads.length
   ·have hs:n<S.hs.length:=by rw [c.G.len];exact hn
    have hg:n<gs.length:=by omega
    rw [List.getElem?_map,List.getElem?_range hs,List.getElem?_eq_getElem hg];show some (((S.ts.count (n:Int):Nat):Int))=_;rw [c.G.ct n hn,zm (List.getElem?_eq_getElem hg)]
   ·rw [List.getElem?_eq_none (by simp [c.G.len];omega),List.getElem?_eq_none (by omega)]
  rw [ecs] at el2;refine ⟨_,rfl,_,_,_,rfl,eE el2,eE c2.hg,LK.ints (by omega),fun H3 s3=> ?_⟩;refine ⟨_,rfl,dZ ?_⟩;have c3:=c2.same s3;have w3:=(w1.same s2).same s3;have S13:Same H1 H3:=s2.trans s3;unfold E_;dsimp only;refine qQ (fun σ H'=>∃(x5 x6:Option V),σ=[some (.ref R.o),some (.ref L),some (.ref nb),some (.ref g),some (.ref W.o),x5,x6,none]/\Same H3 H') (fun D' hD' rt'=> ?_) ?_
  ·refine ⟨_,rfl,L,_,rfl,.inl (bK.of c3.l.1),_,rfl,by rw [List.length_map];omega,by rw [List.length_map];omega, ?_⟩
   rw [List.length_map,Int.toNat_natCast,ll];refine q_ (lo:=0) (n:=loads.length) (fun j σ Hc=>∃(x5 x6:Option V),σ=[some (.ref R.o),some (.ref L),some (.ref nb),some (.ref g),some (.ref W.o),x5,x6,none]/\Same H3 Hc) ⟨none,none,rfl,Same.refl _⟩ ?_ (fun σ Hc ⟨x5,x6,e,sc⟩=>hD' _ _ ⟨x5,x6,e,sc⟩);rintro j σ Hc hj ⟨x5,x6,rfl,sc⟩;rw [Int.zero_add];have cc:=c3.same sc;have wc:=w3.same sc;have hs:j<S.hs.length:=by rw [c.G.len];exact hj
   have hb':j<lost.length:=by rw [c.G.ll];exact hj
   have es:S.hs[j]? = some S.hs[j]:=List.getElem?_eq_getElem hs;have er:loads[j]? = some loads[j]:=List.getElem?_eq_getElem hj;obtain ⟨gn,eg,LD⟩:=c.G.hd j _ _ _ es er (List.getElem?_eq_getElem hb');refine ⟨(by show 1<=sizeLine;decide),fun q hq=>⟨q,8,_,rfl,rfl,ao,by decide,by decide,by show 1*8<=sizeLine;decide,fun b hb=> ?_⟩⟩;have sq:=aH (o:=HO.lst [V.int 0]) hq;have sb:=aH (o:=HO.lst (List.replicate (8:Int).toNat [V.int 0]).flatten) hb;have cb:=(cc.same sq).same sb;have eb0:(upd (upd Hc q (.lst [V.int 0])) b (.lst (List.replicate (8:Int).toNat [V.int 0]).flatten)) b=some (.lst ((0::List.replicate 7 0:List Int).map V.int)):=ao;have Sb:=(sc.trans sq).trans sb;have fb:H3 b=none:=sc.free (sq.free hb);generalize (upd (upd Hc q (.lst [V.int 0])) b (.lst (List.replicate (8:Int).toNat [V.int 0]).flatten))=Hb at cb eb0 Sb ⊢;dsimp only [gD];refine qQ (fun σ H'=>σ=[some (.ref R.o),some (.ref L),some (.ref nb),some (.ref g),some (.ref W.o),some (.int j),some (.ref b),none]/\Same H3 H'/\H' b=some (.lst (S.hs[j].bs.map V.int))) (fun D2 hD2 _=> ?_) ?_
   ·refine ⟨_,rfl,_,rfl,_,_,_,_,rfl,rfl,bK.of cb.hg,jo (by omega) (by omega),_,_,rfl,rfl,_,rfl, ?_⟩
    refine dz (fun q=> ?_) (fun q=> ?_)
    ·have q:gI gs j>0:=of_decide_eq_true q
     have gp:0<gn:=by omega
     have le:=LD.le;have Z7:gn - 1<loads[j].length:=by omega
     have W9:loads[j][gn - 1]? = some loads[j][gn - 1]:=List.getElem?_eq_getElem Z7;have mc:=c.G.mem loads[j] (List.getElem_mem hj) loads[j][gn - 1] (List.getElem_mem Z7);generalize loads[j][gn - 1]=c0 at W9 mc;have ev:ns[c0]? = some ns[c0]:=List.getElem?_eq_getElem mc;have Gk:rs[j]? = some rs[j]:=List.getElem?_eq_getElem (by omega);obtain ⟨ac8,hrow⟩:=cb.l.2.2.2 j _ _ Gk er;refine ⟨_,rfl,_,rfl,_,rfl,_,_,_,_,rfl,rfl,bK.of cb.l.1,dW (by rw [List.getElem?_map,Gk];rfl),_,rfl,_,rfl,_,_,_,_,rfl,rfl,bK.of cb.hg,jo (by omega) (by omega),_,_,rfl,rfl,_,_,_,_,rfl,rfl,bK.of hrow,by rw [show gI gs j - 1=((gn - 1:Nat):Int) by omega];exact dW (by rw [List.getElem?_map,W9];rfl),_,_,_,_,rfl,rfl,bK.of cb.hnb,dW (by rw [List.getElem?_map,ev];rfl),_,rfl,b,_,_,_,rfl,rfl,eb0,Dw (by omega) (by simp), ?_⟩;refine hD2 _ _ ⟨rfl,fun x o e=>by rw [aF (aB e fb)];exact Sb _ _ e, ?_⟩;rw [ao,LD.bs,if_neg (by omega),W9];show _=some (HO.lst ((((ns[c0]?).getD 0)::List.replicate 7 0).map V.int));rw [ev];rfl
    ·have q:¬gI gs j>0:=fun z=>q (decide_eq_true z)
     have g0:gn=0:=by omega
     refine hD2 _ _ ⟨rfl,Sb, ?_⟩;rw [eb0,LD.bs,if_pos g0]
   rintro σ Hd ⟨rfl,sd,ebd⟩;have wd:=w3.same sd;have inn:tM (j:Int) S.hs.length:=⟨by omega,by omega⟩;refine ⟨_,rfl,W.o,W.dx,_,rfl,wd.o,rfl,_,rfl,11,τ1,W,S,_,rfl,wd,fun k' t' l' H' e1 e2 fl' el' s'=> ?_,fun z=>absurd inn z⟩;obtain rfl:k'=j:=by omega
   rw [es] at e2;cases e2;refine ⟨_,rfl,_,_,_,rfl,eE el',eE (s' _ _ ebd),LK.ints (by rw [LD.bs];simp),fun He se=>⟨_,rfl,dZ ?_⟩⟩;exact ⟨_,_,rfl,(sd.trans s').trans se⟩
  rintro σ H4 ⟨x5,x6,rfl,s4⟩;have c4:=c3.same s4;have w4:=w3.same s4;have S4:Same H H4:=(s1.trans S13).trans s4;have fin:∀H',Same H4 H'->Q (.bl true) H':=fun H' s'=>k τ1 H' (mH.of_same (S4.trans s')) MP ((w4.same s').un);refine ⟨_,rfl,L,_,rfl,.inl (bK.of c4.l.1),_,rfl,by rw [List.length_map];omega,by rw [List.length_map];omega,fun D hD=> ?_⟩;rw [List.length_map,Int.toNat_natCast,ll];refine nZ (fun z=>if pI S.hs z then some (.int (z:Nat)) else none) hD (by omega) (fun z H7 G F hz s7 kG kF=> ?_) (fun H7 s7 e7=> ?_)
  ·have w7:=w4.same s7
   have zl:z<S.hs.length:=by rw [c.G.len];exact hz
   have es:S.hs[z]? = some S.hs[z]:=List.getElem?_eq_getElem zl;have inn:tM ((0:Int)+z) S.hs.length:=⟨by omega,by omega⟩;refine ⟨_,rfl,W.o,W.dx,_,rfl,w7.o,rfl,_,rfl,11,τ1,W,S,_,rfl,w7,fun k3 t3 e3 e3'=> ?_,fun z=>absurd inn z⟩
   obtain rfl:t3=S.hs[z]:=by
    have:k3=z:=by omega
    subst this;rw [es] at e3';exact (Option.some.inj e3').symm
   refine ⟨rfl,_,rfl, ?_⟩;have eb:pI S.hs z=decide (S.hs[z].st = "waits"):=by unfold pI;rw [es]
   rw [eb] at kG kF;refine dz (fun q=> ?_) (fun q=> ?_)
   ·have hq:S.hs[z].st=Str.ofString "waits" :=V.str.inj (of_decide_eq_true q)
    refine ⟨_,rfl,kF _ H7 (Same.refl _) ?_⟩;rw [decide_eq_true hq,Int.zero_add];rfl
   ·refine kG H7 (Same.refl _) ?_
    have hq:¬S.hs[z].st=Str.ofString "waits" :=fun z=>q (decide_eq_true (by rw [z]));rw [decide_eq_false hq];rfl
  rw [R8,←c.G.len] at e7;have e7:H7 D=some (.lst ((Bd S.hs).map fun k:Nat=>V.int k)):=e7;have e7':H7 D=some (.lst (((Bd S.hs).map fun k:Nat=>(k:Int)).map V.int)):=by rw [e7,List.map_map];rfl
  refine ⟨_,rfl,(by show 0<=sizeLine;decide),fun em hem=> ?_⟩;have sem:=aH (o:=HO.lst []) hem;have eem:(upd H7 em (.lst [])) em=some (.lst (([]:List Int).map V.int)):=ao;have w8:=(w4.same s7).same sem;have e8:=sem _ _ e7;have e8':=sem _ _ e7';have S8:Same H4 (upd H7 em (.lst [])):=s7.trans sem;generalize (upd H7 em (.lst []))=H8 at eem w8 e8 e8' S8 ⊢;refine ⟨_,_,eE e8',eE eem,shaped_ints _,shaped_ints _,_,rfl, ?_⟩;rw [if_pos rfl,qy PyData.int uT];refine dz (fun q=> ?_) (fun _=> ?_)
  ·have wpos:0<(Bd S.hs).length:=by
    rcases Nat.eq_zero_or_pos (Bd S.hs).length with z|z
    ·rw [List.eq_nil_of_length_eq_zero z] at q
     cases q
    ·exact z
   obtain ⟨f,ef⟩:∃f,(Bd S.hs)[0]? = some f:=⟨_,List.getElem?_eq_getElem wpos⟩;obtain ⟨sf,esf,wsf⟩:=J0 ef;refine ⟨_,rfl,W.o,W.dx,_,rfl,w8.o,rfl,_,rfl,_,_,_,_,rfl,rfl,bK.of e8,dW (j:=0) (by rw [List.getElem?_map,ef];rfl), ?_⟩;dsimp only [M4];refine Qt (K:=K) (CN:=aK) (CO:=aW) w8 (by omega) esf wsf (fun r t H9 er tr ft ht w9 TY=> ?_);have Sx:=S4.trans S8;refine k τ1 H9 ⟨fun x o e n=>TY.keep _ _ (Sx _ _ e) (by rw [MP x o e];exact n),fun x xs e=>TY.tup _ _ (Sx _ _ e),fun x e=>Sx.free (TY.dom x e)⟩ MP w9.un
  ·exact fin H8 S8
structure zX (τ:Tg) (H:Hp) (a:Addr) (fs:List Addr):Prop where
 e:H a=some (.lst (fs.map V.ref))
 t:τ a=[10]
 f:∀p∈fs,∃(t k:Addr) (d:PyData),H p=some (.tup [.ref t,.ref k])/\Dat (mO τ H) (.ref t) d/\Dat (mO τ H) (.ref k) d/\SeqAt.shaped d=true
theorem zX.mv {τ τ':Tg} {H H':Hp} {a:Addr} {fs:List Addr} (h:zX τ H a fs) (q:Mv 10 τ H τ' H'):zX τ' H' a fs:=by
 have e1:=q.keep _ _ h.e (.inr (by rw [h.t];rfl));refine ⟨e1.1,e1.2.trans h.t,fun p hp=> ?_⟩;obtain ⟨t,k,d,h1,h2,h3,h4⟩:=h.f p hp;exact ⟨t,k,d,q.tup _ _ h1,h2.same (lG q) _,h3.same (lG q) _,h4⟩
def yw (CR CW CH:Addr) (K:PySem.W.Frag):Sp:=fun vs H Q _=>∃(i ii:Nat) (τ:Tg) (R:Em) (S:lQ) (cs gs ns:List Int) (loads:List (List Nat)) (lost:List Bool) (L nb cl g a:Addr) (rs fs:List Addr),vs=[.ref R.o,.ref L,.ref nb,.ref cl,.ref g,.ref a]/\C51 CR CW CH i ii τ H R S cs gs ns loads lost L nb cl g rs/\zX τ H a fs/\fs.length<=1000/\S.ts.length<=8000/\(∀m,m=i\/m=ii->m≠10/\m≠11/\m≠12) /\
 ∀(τ':Tg) (fs':List Addr) (H':Hp),zX τ' H' a fs'->fs'.length<=fs.length+1->(∀m,m≠10->m≠11->m≠12->Mv m τ H τ' H')->(∀r,RT τ H r->RT τ' H' r)->rA τ' H'->Q (.bl true) H'
theorem uU {H:Hp} {l x y:Addr} {xs ys:List Int} (h:H l=some (.lst [.ref x,.ref y])) (hx:H x=some (.lst (xs.map V.int))) (hy:H y=some (.lst (ys.map V.int))):Dat H (.ref l) (.list [jq xs,jq ys]):=Gr h (by simp only [bf,and_true];exact ⟨eE hx,eE hy⟩)
theorem V1 {n:Nat} {xs ys:List Int} (h1:xs.length<=20000) (h2:ys.length<=20000):LK (n+3) (.list [jq xs,jq ys]):=by
 refine ⟨by show 2<=20000;decide,fun d hd=> ?_⟩;simp only [List.mem_cons,List.not_mem_nil,or_false] at hd;rcases hd with rfl|rfl
 ·exact LK.ints h1
 ·exact LK.ints h2
theorem Vv (xs ys:List Int):SeqAt.shaped (.list [jq xs,jq ys])=true:=by
 obtain ⟨a1,b1⟩:=Gz xs;obtain ⟨a2,b2⟩:=Gz ys
 have e1:PyData.canLay0 (.list [jq xs,jq ys])=true:=by
  show (PyData.canLay0 (jq xs)&&(PyData.canLay0 (jq ys)&&true))=true;rw [a1,a2];rfl
 have e2:PyData.depth (.list [jq xs,jq ys])<=64:=by
  show max (jq xs).depth (max (jq ys).depth 0)+1<=64;omega
 unfold SeqAt.shaped;rw [e1,decide_eq_true e2];rfl
theorem free_eq {S:lQ} {ns:List Int} {loads:List (List Nat)} {lost:List Bool} {cs gs:List Int} (G:Ax S ns loads lost gs) (lc:cs.length=loads.length) (dn:zZ cs gs):uQ S cs [] gs=(List.range loads.length).filter fun k:Nat=>decide (gI gs k<gI cs k)&&decide (gI gs k<((loads[k]?).getD []).length):=by
 unfold uQ;rw [lc];refine List.filter_congr fun k hk=> ?_;have kl:=List.mem_range.mp hk;have er:loads[k]? = some loads[k]:=List.getElem?_eq_getElem kl;have gb:=dn.2 k (by omega) (by omega);rw [G.over er,er,Oz];show (!(decide (gI gs k=gI cs k) || !decide (gI gs k<(loads[k].length:Int)))&&true)=(decide (gI gs k<gI cs k)&&decide (gI gs k<(loads[k].length:Int)))
 by_cases q:gI gs k=gI cs k
 ·rw [decide_eq_true q,decide_eq_false (show ¬gI gs k<gI cs k by omega)];rfl
 ·rw [decide_eq_false q,decide_eq_true (show gI gs k<gI cs k by omega)]
  cases decide (gI gs k<(loads[k].length:Int))<;>rfl
theorem Oj {cs gs:List Int} (ok:Ql cs) (dn:zZ cs gs):∀n,n<=cs.length->(mW cs gs n).length<=n*300:=fun n=>by
 induction n with
 | zero=>intro _;simp [mW]
 | succ n ih=>
   intro h;have:=ih (by omega);have cb':=ok.gI n;have gb':=dn.2 n (by omega) (by omega);rw [o_,List.length_append];unfold Nf;rw [List.length_map,List.length_range];omega
theorem Kg {au ak aq:Addr} {f:Addr} {fd:FuncData} (F:j9 K "_law_told" "_law_told" lH f fd) (aN:dD K au) (Es:FnAt P w K mg base 1 "_law_free" ["loads","counts","gone"] (um K)) (Av:MethAt P w K mg base 6 au "free" ["self"] (Cy au ak aq K)) (wX:MethAt P w K mg base 1 au "counts" ["self"] (vD au ak aq K)) (Aw:MethAt P w K mg base 1 au "done" ["self"] (Cz au ak aq K)) (wu:MethAt P w K mg base 2 au "__len__" ["self"] (Hh au ak aq K)) (jP:FnAt P w K mg base 5 "_law_alike" ["found","due"] (jE 4 K)) (Az:FnAt P w K mg base 11 "_law_works_told" ["one","loads","numbers","gone"] (G9 au ak aq K)) (Bt:rD mg):bW P w K mg base lE 12 f fd ["one","loads","numbers","counts","gone","held"] (yw au ak aq K):=by
 refine F.ok uz (fun vs H Q E h=> ?_) (fun cdv A outer s H vs Q E hr h=> ?_)
 ·obtain ⟨i,ii,τ,R,S,cs,gs,ns,loads,lost,L,nb,cl,g,a,rs,fs,rfl,_⟩:=h
  rfl
 ·obtain ⟨i,ii,τ,R,S,cs,gs,ns,loads,lost,L,nb,cl,g,a,rs,fs,rfl,c,hd,fl,tl,ni,k⟩:=h
  have vV:=hr.units
  refine ⟨_,(aD (bT (i:=6) uz.nd rfl (Or.inl rfl) (b_ Es (hr.mono (by decide)) (by rfl) (aj (pv 1) (aj (pv 3) (aj (pv 4) aC)))))
   (aD (qe PassesOwn.never rfl (fG (by rfl) Bt.iU (aj aG aC)) (bO (i:=7) uz.nd rfl (Or.inl rfl))
   (aD (bT (i:=8) uz.nd rfl (Or.inl rfl) (eU (aj (eX Av aN.cls (hr.mono (by decide)) (pv 0)) (aj (eX wX aN.cls (hr.mono (by decide)) (pv 0)) aC))))
   (aD (cD (fB (dh (b_ jP (hr.mono (by decide)) (by rfl) (aj (pv 8) (aj (eU (aj (pv 6) (aj (pv 4) aC))) aC))))) (aL (bC mU)) bL)
   (aD (cD (bI ig (pv 7) aG (bF _)) (aL (fj (mF (K:=K) rfl (pv 5) (aj (jX (aj (pv 8) (aj (eU (aj (pv 6) (aj (dj (cQ (K:=K) rfl) (by rfl) Bt.jM iu (aj (pv 4) aC)) aC))) aC))) aC)))) (aD (fj (Dj (K:=K) rfl PySem.F.plainAttrs_list PySem.F.slot_list_clear PySem.F.type_list_clear yX (aY (aZ (K:=K) rfl) (pv 8) aG (fun _ _=>rfl))))
   (aL (fj (Dj (K:=K) rfl PySem.F.plainAttrs_list PySem.F.slot_list_clear PySem.F.type_list_clear yX (aY (aZ (K:=K) rfl) (pv 8) aG (fun _ _=>rfl)))))))
   (aD (cD (PW.pt (pK (fB (dh (b_ jP (hr.mono (by decide)) (by rfl) (aj (eX Aw aN.cls (hr.mono (by decide)) (pv 0)) (aj (fu (Dn (K:=K) rfl vV) (pv 4) (pv 3) (bF _)) aC))))) (mj (bI rJ (aV (Lk wu (hr.mono (by decide))) (by rfl) Bt.gq cX (aj (pv 0) aC)) (bR qm (aV (BW (K:=K) rfl rfl) (by rfl) Bt.UW PX (aj (pv 3) aC)) (aV (BW (K:=K) rfl rfl) (by rfl) Bt.UW PX (aj (pv 4) aC))) (bF _))))) (aL (bC mU)) bL)
   (aL (cD (fB (dh (b_ Az (hr.mono (by decide)) (by rfl) (aj (pv 0) (aj (pv 1) (aj (pv 2) (aj (pv 4) aC))))))) (aL (bC mU)) bL)))))))
   (aL (bC mU)))), ?_⟩
  have lcs:=c.lc;have lg:=c.G.gl;have n8:=c.n8;refine ⟨_,rfl,_,rfl,_,rfl,τ,L,cl,g,rs,loads,cs,gs,rfl,c.l,n8,c.hcl,c.hg,lcs,lg,fun fr H1 ffr efr s1=> ?_⟩;rw [←free_eq c.G lcs c.r.dn] at efr;have aaw:H1 fr=some (.lst (((uQ S cs [] gs).map fun k:Nat=>(k:Int)).map V.int)):=by rw [efr,List.map_map];rfl
  have T1:∀r,RT τ H r->RT (aR τ fr [0]) H1 r:=fun r T=>T.claim s1 ffr ⟨_,efr⟩;have u1:rA (aR τ fr [0]) H1:=c.r.w.un.claim s1 ⟨_,efr⟩;have m1:∀m,Mv m τ H (aR τ fr [0]) H1:=fun m=>Mv.claim s1 ffr;have c1:=c.mv (fun m _=>m1 m) u1;have h1:=hd.mv (m1 10);have tfr:aR τ fr [0] fr=[0]:=bB;generalize aR τ fr [0]=τ1 at T1 u1 m1 c1 h1 tfr
  have frl:((uQ S cs [] gs).map fun k:Nat=>(k:Int)).length<=8:=by
   rw [List.length_map];unfold uQ;have:=List.length_filter_le (fun k=> !iY S cs gs k&&(mX [] gs k).isEmpty) (List.range cs.length);rw [List.length_range] at this;omega
  have efv:(uQ S cs [] gs).map (fun k:Nat=>V.int k)=((uQ S cs [] gs).map fun k:Nat=>(k:Int)).map V.int:=by rw [List.map_map];rfl
  generalize ((uQ S cs [] gs).map fun k:Nat=>(k:Int))=fv at aaw frl efv;dsimp only [gD];refine qQ (fun σ H'=>∃(τ':Tg) (fs':List Addr),zX τ' H' a fs'/\fs'.length<=fs.length+1/\(∀m,m≠10->m≠11->m≠12->Mv m τ H τ' H')/\(∀r,RT τ H r->RT τ' H' r)/\rA τ' H') (fun D' hD' rt'=> ?_) (fun σ H' ⟨τ',fs',x1,x2,x3,x4,x5⟩=>k τ' fs' H' x1 x2 x3 x4 x5);refine ⟨_,rfl,by decide,by decide, ?_⟩
  refine q_ (lo:=0) (n:=2) (fun j σ Hc=>∃(x7 x8:Option V) (τc:Tg) (fs':List Addr),σ=[some (.ref R.o),some (.ref L),some (.ref nb),some (.ref cl),some (.ref g),some (.ref a),some (.ref fr),x7,x8]/\C51 au ak aq i ii τc Hc R S cs gs ns loads lost L nb cl g rs/\zX τc Hc a fs'/\fs'.length<=fs.length+min j 1/\Hc fr=some (.lst (fv.map V.int))/\τc fr=[0]/\(∀m,m≠10->m≠11->m≠12->Mv m τ H τc Hc)/\(∀r,RT τ H r->RT τc Hc r))
   ⟨none,none,τ1,fs,rfl,c1,h1,by omega,aaw,tfr,fun m _ _ _=>m1 m,T1⟩ ?_ (fun σ Hc ⟨x7,x8,τc,fs',_,cc,hh,fl',_,_,mm,tt⟩=>hD' _ _ ⟨τc,fs',hh,by omega,mm,tt,cc.r.w.un⟩)
  rintro j σ Hc hj ⟨x7,x8,τc,fs',rfl,cc,hh,fl',efc,Xx,mm,tt⟩;rw [Int.zero_add];refine ⟨_,rfl,R.o,R.dx,_,rfl,cc.r.o,rfl,i,ii,τc,R,S,cs,gs,[],rfl,cc.r,fun l1 H2 f1 e1 s2=> ?_⟩;rw [efv] at e1;have c2:=cc.same s2;refine ⟨_,rfl,R.o,R.dx,_,rfl,c2.r.o,rfl,i,ii,τc,R,S,cs,gs,[],rfl,c2.r,fun l2 H3 f2 e2 s3=> ?_⟩;have e13:=s3 _ _ e1;have n12:l1≠l2:=aB e1 f2;have f2c:Hc l2=none:=s2.free f2;refine ⟨(by show 2<=sizeLine;decide),fun lt hlt=> ?_⟩;have slt:=aH (o:=HO.lst [V.ref l1,V.ref l2]) hlt;have flt:Hc lt=none:=s2.free (s3.free hlt);have elt:(upd H3 lt (.lst [V.ref l1,V.ref l2])) lt=some (.lst [V.ref l1,V.ref l2]):=ao;have e14:=slt _ _ e13;have e24:=slt _ _ e2;have S4:Same Hc (upd H3 lt (.lst [V.ref l1,V.ref l2])):=(s2.trans s3).trans slt;generalize (upd H3 lt (.lst [V.ref l1,V.ref l2]))=H4 at elt e14 e24 S4 ⊢;refine ⟨_,rfl,_,rfl,_,rfl,(by show 2<=sizeLine;decide),fun q hq=> ?_⟩;have sq:=aH (o:=HO.lst [V.ref fr,V.ref g]) hq;have S5:Same Hc (upd H4 q (.lst [V.ref fr,V.ref g])):=S4.trans sq;have eq5:(upd H4 q (.lst [V.ref fr,V.ref g])) q=some (.lst [V.ref fr,V.ref g]):=ao;have W7:=sq _ _ elt;have e15:=sq _ _ e14;have e25:=sq _ _ e24;generalize (upd H4 q (.lst [V.ref fr,V.ref g]))=H5 at S5 eq5 W7 e15 e25 ⊢;have c5:=cc.same S5;refine ⟨_,_,_,rfl,uU W7 e15 e25,uU eq5 (S5 _ _ efc) c5.hg,V1 (by omega) (by omega),fun H6 s6=>⟨_,rfl,dZ ?_⟩⟩;have S6:Same Hc H6:=S5.trans s6;have W6:=s6 _ _ W7;have e16:=s6 _ _ e15;have e26:=s6 _ _ e25;unfold E_;dsimp only;refine qQ (fun σ Hd=>∃(τd:Tg) (R7:List Addr),σ=[some (.ref R.o),some (.ref L),some (.ref nb),some (.ref cl),some (.ref g),some (.ref a),some (.ref fr),some (.int j),some (.ref lt)]/\C51 au ak aq i ii τd Hd R S cs gs ns loads lost L nb cl g rs/\zX τd Hd a R7/\R7.length<=fs.length+min (j+1) 1/\Hd fr=some (.lst (fv.map V.int))/\τd fr=[0]/\(∀m,m≠10->m≠11->m≠12->Mv m τ H τd Hd)/\(∀r,RT τ H r->RT τd Hd r)) (fun D2 hD2 _=> ?_) ?_
  ·refine ⟨_,rfl,rfl,_,rfl, ?_⟩
   refine dz (fun qj=> ?_) (fun q=> ?_)
   ·have c6:=cc.same S6
    have j0:(j:Int)=0:=V.int.inj (of_decide_eq_true qj);refine ⟨_,rfl,.inl ⟨rfl,_,bK.of (S6 _ _ hh.e)⟩,_,rfl,_,rfl,_,rfl,g,_,rfl,.inl (bK.of c6.hg),fun q2 hq2=>⟨(by show 2<=sizeLine;decide),fun q3 Ly=>⟨(by show 2<=sizeLine;decide),fun p hp=> ?_⟩⟩⟩;have T8:=aH (o:=HO.lst (gs.map V.int)) hq2;have YQ:=aH (o:=HO.lst [V.ref fr,V.ref q2]) Ly;have sp:=aH (o:=HO.tup [V.ref lt,V.ref q3]) hp;have S7:=S6.trans ((T8.trans YQ).trans sp);have fq2:Hc q2=none:=S6.free hq2;have fq3:Hc q3=none:=S6.free (T8.free Ly);have ep7:(upd (upd (upd H6 q2 (.lst (gs.map V.int))) q3 (.lst [V.ref fr,V.ref q2])) p (.tup [V.ref lt,V.ref q3])) p=some (.tup [V.ref lt,V.ref q3]):=ao;have eq2:=sp _ _ (YQ _ _ (ao (H:=H6) (a:=q2) (o:=HO.lst (gs.map V.int))));have eq3:=sp _ _ (ao (H:=upd H6 q2 (.lst (gs.map V.int))) (a:=q3) (o:=HO.lst [V.ref fr,V.ref q2]));have Ld:=((T8.trans YQ).trans sp) _ _ W6;have e17:=((T8.trans YQ).trans sp) _ _ e16;have Uz:=((T8.trans YQ).trans sp) _ _ e26;generalize (upd (upd (upd H6 q2 (.lst (gs.map V.int))) q3 (.lst [V.ref fr,V.ref q2])) p (.tup [V.ref lt,V.ref q3]))=H7 at S7 ep7 eq2 eq3 Ld e17 Uz ⊢;have aov:fs'.length<=2000:=by omega
    refine ⟨a,_,_,rfl,rfl,S7 _ _ hh.e,by rw [List.length_map,sizeLine_eq];omega, ?_⟩;have Tz:=MN S7 cc.r.w.un;have QB:∀x u,Hc x=some u->z_ τc Hc H7 x=τc x:=fun x u e=>Jj e;have m7:∀m,Mv m τc Hc (z_ τc Hc H7) H7:=fun m=>Mv.tags S7 QB;have c7:=cc.mv (fun m _=>m7 m) Tz;have Z1:=hh.mv (m7 10);have t1:z_ τc Hc H7 l1=[0]:=qN f1 e17;have t2:z_ τc Hc H7 l2=[0]:=qN f2c Uz;have tl7:z_ τc Hc H7 lt=[0]:=qN flt Ld;have t4:z_ τc Hc H7 q2=[0]:=qN fq2 eq2;have t5:z_ τc Hc H7 q3=[0]:=qN fq3 eq3;have Xy:=(m7 0).keep _ _ efc (.inl Xx);have T7:∀r,RT τ H r->RT (z_ τc Hc H7) H7 r:=fun r T=>(tt r T).made S7 QB Tz;generalize z_ τc Hc H7=τ7 at Tz QB m7 c7 Z1 t1 t2 tl7 t4 t5 Xy T7;have Fb:mH 10 τ7 H7 (upd H7 a (.lst (fs'.map V.ref++[V.ref p]))):=mH.set (by rw [Z1.t];rfl) Z1.e (by intro xs z;cases z);have m8:∀m,m≠10->Mv m τ7 H7 τ7 (upd H7 a (.lst (fs'.map V.ref++[V.ref p]))):=fun m hm=>Mv.jY Fb (fun z=>hm z.symm) (by decide);have Ym:=Fb.un Tz;have k8:=(m8 0 (by decide)).keep _ _ Xy.1 (.inl (Xy.2.trans Xx));have d1:Dat (mO τ7 H7) (.ref lt) (.list [jq fv,jq gs]):=uU (jC tl7 Ld) (jC t1 e17) (jC t2 Uz);have d2:Dat (mO τ7 H7) (.ref q3) (.list [jq fv,jq gs]):=uU (jC t5 eq3) (jC (Xy.2.trans Xx) Xy.1) (jC t4 eq2);refine hD2 _ _ ⟨τ7,fs'++[p],rfl,c7.mv (fun m hm=>m8 m (by rcases hm with h|h|h;exact (ni m (.inl h)).1;exact (ni m (.inr h)).1;omega)) Ym,⟨by rw [ao,List.map_append];rfl,Z1.t,fun x hx=> ?_⟩, ?_,k8.1,k8.2.trans (Xy.2.trans Xx),fun m x1 x2 x3=>((mm m x1 x2 x3).trans (m7 m)).trans (m8 m x1),fun r T=>(T7 r T).stp Fb⟩
    ·rcases List.mem_append.mp hx with hx|hx
     ·obtain ⟨t,k',d,y1,y2,y3,y4⟩:=Z1.f x hx
      exact ⟨t,k',d,Fb.tup _ _ y1,y2.same (gA Fb (by decide)) _,y3.same (gA Fb (by decide)) _,y4⟩
     ·rw [List.mem_singleton.mp hx]
      exact ⟨lt,q3,_,Fb.tup _ _ ep7,d1.same (gA Fb (by decide)) _,d2.same (gA Fb (by decide)) _,Vv _ _⟩
    ·rw [List.length_append]
     show fs'.length+1<=_;omega
   ·have u6:rA (aR (aR τc l1 [12]) l2 [12]) H6:=fun x e=>by
     have x1:x≠l1:=fun z=>by rw [z,e16] at e;cases e
     have x2:x≠l2:=fun z=>by rw [z,e26] at e;cases e
     rw [aU x2,aU x1];exact (cc.same S6).r.w.un x e
    have tg6:∀x u,Hc x=some u->aR (aR τc l1 [12]) l2 [12] x=τc x:=fun x u e=>by rw [aU (aB e f2c),aU (aB e f1)]
    have t1:aR (aR τc l1 [12]) l2 [12] l1=[12]:=by rw [aU n12,bB]
    have t2:aR (aR τc l1 [12]) l2 [12] l2=[12]:=bB;have T6:∀r,RT τ H r->RT (aR (aR τc l1 [12]) l2 [12]) H6 r:=fun r T=>(tt r T).made S6 tg6 u6;generalize aR (aR τc l1 [12]) l2 [12]=τ6 at u6 tg6 t1 t2 T6;have m6:∀m,Mv m τc Hc τ6 H6:=fun m=>Mv.tags S6 tg6;refine ⟨_,rfl,_,_,_,_,rfl,rfl,bK.of W6,rfl,.inl ⟨rfl,_,bK.of e16⟩,l1,_,rfl,rfl,e16, ?_⟩;have st1:mH 12 τ6 H6 (upd H6 l1 (.lst [])):=mH.set (by rw [t1];rfl) e16 (by intro xs z;cases z);have agi:lt≠l1:=(aB e13 hlt).symm;have Ld:(upd H6 l1 (.lst [])) lt=some (.lst [V.ref l1,V.ref l2]):=by rw [aF agi];exact W6
    have Uz:(upd H6 l1 (.lst [])) l2=some (.lst (gs.map V.int)):=by rw [aF n12.symm];exact e26
    generalize (upd H6 l1 (.lst []))=H7 at st1 Ld Uz ⊢;refine ⟨_,rfl,_,_,_,_,rfl,rfl,bK.of Ld,rfl,.inl ⟨rfl,_,bK.of Uz⟩,l2,_,rfl,rfl,Uz, ?_⟩;have st2:mH 12 τ6 H7 (upd H7 l2 (.lst [])):=mH.set (by rw [t2];rfl) Uz (by intro xs z;cases z);have st:=st1.trans st2;have m8:∀m,m≠12->Mv m τ6 H6 τ6 (upd H7 l2 (.lst [])):=fun m hm=>Mv.jY st (fun z=>hm z.symm) (by decide);have Ym:=st.un u6;have m9:∀m,m≠12->Mv m τc Hc τ6 (upd H7 l2 (.lst [])):=fun m hm=>(m6 m).trans (m8 m hm);have k8:=(m9 0 (by decide)).keep _ _ efc (.inl Xx);refine hD2 _ _ ⟨τ6,fs',rfl,cc.mv (fun m hm=>m9 m (by rcases hm with h|h|h;exact (ni m (.inl h)).2.2;exact (ni m (.inr h)).2.2;omega)) Ym,hh.mv (m9 10 (by decide)),by omega,k8.1,k8.2.trans Xx,fun m x1 x2 x3=>(mm m x1 x2 x3).trans (m9 m x3),fun r T=>(T6 r T).stp st⟩
  rintro σ Hd ⟨τd,R7,rfl,cd,hdd,fld,efd,tfd,mmd,ttd⟩;refine ⟨_,rfl,R.o,R.dx,_,rfl,cd.r.o,rfl,i,ii,τd,R,S,cs,gs,[],rfl,cd.r, ?_⟩;refine ⟨_,rfl,_,rfl,_,_,eE cd.hg,eE cd.hcl,shaped_ints _,shaped_ints _, ?_⟩;rw [if_neg Bool.false_ne_true,qy PyData.int uT];refine ⟨_,_,.bool (decide (gs=cs)),rfl,by simp only [Dat],by simp only [Dat],trivial,fun He se=>⟨_,rfl,dZ ?_⟩⟩;have ce:=cd.same se;have lb:((mW cs gs cs.length).length:Int)=cs.sum - gs.sum:=Bq c.r.dn;have lu:=Oj c.r.ok.1 c.r.dn cs.length (Nat.le_refl _);refine ⟨_,rfl,R.o,R.dx,_,rfl,ce.r.o,⟨i,ii,τd,R,S,cs,gs,[],rfl,ce.r,fun Hf sf=>⟨_,rfl,by omega,by omega, ?_⟩⟩⟩;have cf:=ce.same sf;refine ⟨_,rfl,cl,cs,rfl,bK.of cf.hcl,_,rfl,g,gs,rfl,bK.of cf.hg,_,_,rfl,rfl,rfl,_,rfl, ?_⟩;rw [decide_eq_true rfl];refine dZ ?_;dsimp only;refine ⟨_,rfl,_,rfl,_,rfl,_,rfl,i,ii,τd,R,S,cs,gs,ns,loads,lost,L,nb,cl,g,rs,rfl,cf,tl,fun τ' H' st tg un=>⟨_,rfl,dZ ?_⟩⟩;have S':=se.trans sf;have mq:∀m,m≠11->Mv m τd Hd τ' H':=fun m hm=>(Mv.of_same S').trans (Mv.Rq st (fun z=>hm z.symm) (by decide) tg);have k0:=(mq 0 (by decide)).keep _ _ efd (.inl tfd);refine ⟨_,_,τ',R7,rfl,cd.mv (fun m hm=>mq m (by rcases hm with h|h|h;exact (ni m (.inl h)).2.1;exact (ni m (.inr h)).2.1;omega)) un,hdd.mv (mq 10 (by decide)),fld,k0.1,k0.2.trans tfd,fun m h1 h2 h3=>(mmd m h1 h2 h3).trans (mq m h2),fun r T=>((ttd r T).same S').Zv st tg un⟩
structure Dr (τ:Tg) (r:Addr) (H H':Hp):Prop where
 k:∀x o,H x=some o->τ x≠[]->H' x=some o
 t:∀x xs,H x=some (.tup xs)->H' x=some (.tup xs)
 p:Kp r H H'
theorem Dr.of_same {τ:Tg} {r:Addr} {H H':Hp} (s:Same H H'):Dr τ r H H':=⟨fun x o e _=>s _ _ e,s.tups,Kp.of_same s⟩
theorem Dr.trans {τ:Tg} {r:Addr} {H H1 H2:Hp} (a:Dr τ r H H1) (b:Dr τ r H1 H2):Dr τ r H H2:=⟨fun x o e n=>b.k _ _ (a.k _ _ e n) n,fun x xs e=>b.t _ _ (a.t _ _ e),a.p.trans b.p⟩
theorem Dr.draw {τ:Tg} {r:Addr} {H H':Hp} (T:RT τ H r) (k:KR r H H'):Dr τ r H H':=⟨fun x o e n=>T.keep k e n,fun x xs e=>k.tups T.R _ _ e,k.1⟩
theorem Dr.mv {τ:Tg} {r:Addr} {H H':Hp} {i:Nat} (d:Dr τ r H H'):Mv i τ H τ H':=⟨fun x o e t=>⟨d.k x o e (by
 rcases t with t|t
 ·rw [t];simp
 ·intro z;rw [z] at t;cases t),rfl⟩,d.t⟩
theorem RT.Pn {K:PySem.W.Frag} {τ:Tg} {H:Hp} {r D a:Addr} {xs:List V} {m:Int} {val:Int->V} {te:TE} {Q:VK} {rest:St} (T:RT τ H r) (hD:H D=none) (ha:H a=some (.lst xs)) (ta:τ a≠[]) (hn:xs.length<=10000)
 (hte:∀(v:Option V) (Hd:Hp) (τd:Tg) (F:VK),RT τd Hd r->(∀(y:Int) (H':Hp),0<=y->y<m->RT τd H' r->Dr τd r Hd H'->F (val y) H')->te (v::rest) Hd F)
 (k:∀(ys:List Int) (H':Hp),ys.length=xs.length->(∀y∈ys,0<=y/\y<m)->H' D=some (.lst (ys.map val))->RT (aR τ D [0]) H' r->Dr τ r H H'->Q (.ref D) H'):mL (S_ K a) (gD 0) wM te Q D (none::rest) H:=by
 have sD:=aH (o:=HO.lst []) hD;have TD:=T.claim (t:=[0]) sD hD ⟨_,ao⟩;have tD:aR τ D [0] D=[0]:=bB;have tg:∀x u,H x=some u->aR τ D [0] x=τ x:=fun x u e=>aU (aB e hD);generalize aR τ D [0]=τd at TD tD tg k;refine j4 (K:=K) (xs:=xs) (fun i σ Hd=>∃(v:Option V) (ys:List Int),σ=v::rest/\RT τd Hd r/\Hd D=some (.lst (ys.map val))/\ys.length=i/\(∀y∈ys,0<=y/\y<m)/\Dr τ r H Hd) ?_ ?_ ?_ ?_
 ·exact ⟨none,[],rfl,TD,ao,rfl,by simp,.of_same sD⟩
 ·rintro i σ Hd _ ⟨v,ys,rfl,Td,OD,ld,od,dr⟩
  exact bK.of (dr.k _ _ ha ta)
 ·rintro i x σ Hd hi ⟨v,ys,rfl,Td,OD,ld,od,dr⟩
  have il:=(List.getElem?_eq_some_iff.mp hi).1;dsimp only [gD,wM];rw [if_pos rfl];refine hte _ Hd τd _ Td (fun y H3 y0 y1 T3 d3=> ?_);have Z6:=d3.k _ _ OD (by rw [tD];simp);refine ⟨_,Z6,(by rw [List.length_map,sizeLine_eq];omega),_,ys++[y],rfl,T3.set Z6 (by rw [tD];simp),by rw [ao,List.map_append];rfl,by simp [ld], ?_,⟨fun x o e t=> ?_,fun x zs e=> ?_,fun x o e n'=> ?_⟩⟩
  ·intro c hc
   rcases List.mem_append.mp hc with hc|hc
   ·exact od c hc
   ·rw [List.mem_singleton.mp hc];exact ⟨y0,y1⟩
  ·rw [aF (aB e hD)]
   exact d3.k _ _ (dr.k x o e t) (by rw [tg x o e];exact t)
  ·rw [aF (aB e hD)]
   exact d3.t _ _ (dr.t x zs e)
  ·rw [aF (aB e hD)]
   exact d3.p _ _ (dr.p x o e n') n'
 ·rintro σ Hd ⟨v,ys,rfl,Td,OD,ld,od,dr⟩
  exact k ys Hd ld od OD Td dr
theorem M6 {K:PySem.W.Frag} {H H':Hp} {a:Addr} {xs:List V} (h:bK K H a xs) (k:∀o,H a=some o->H' a=some o):bK K H' a xs:=by
 rcases h with (h|⟨o,h⟩)|h
 ·exact .inl (.inl (k _ h))
 ·exact .inl (.inr ⟨o,k _ h⟩)
 ·exact .inr h
theorem Ax.cnt {S:lQ} {ns:List Int} {loads:List (List Nat)} {lost:List Bool} {gs:List Int} (G:Ax S ns loads lost gs):Gw S=gs:=by
 refine List.ext_getElem? fun n=> ?_;unfold Gw;have lg:=G.gl
 by_cases hn:n<loads.length
 ·have hs:n<S.hs.length:=by rw [G.len];exact hn
  have hg:n<gs.length:=by omega
  rw [List.getElem?_map,List.getElem?_range hs,List.getElem?_eq_getElem hg];show some (((S.ts.count (n:Int):Nat):Int))=_;rw [G.ct n hn,zm (List.getElem?_eq_getElem hg)]
 ·rw [List.getElem?_eq_none (by simp [G.len];omega),List.getElem?_eq_none (by omega)]
def Jl (K:PySem.W.Frag):Sp:=fun vs H Q _=>∃(a:Addr) (ns:List Int),vs=[.ref a]/\bK K H a (ns.map V.int)/\ns.length<=63 /\ ∀H',Q (.bl true) H'
theorem Wc {au ak aq aK aJ:Addr} {f:Addr} {fd:FuncData} (F:j9 K "law" "law" uE f fd) (aQ:eZ K ak) (Tp:FnAt P w K mg base 1 "_law_reel" ["script"] (Cv K)) (iy:FnAt P w K mg base 1 "_law_draw" ["reel","many"] (uo K)) (Qj:FnAt P w K mg base 2 "_law_loads" ["reel","many","most"] (CG K)) (Tn:FnAt P w K mg base 1 "_law_rows" ["row","lost"] (yC K)) (En:qH P w K mg base 7 ak "Works" ["self","program","cells"] [] (fun vs H Q _=>qO ak aq aJ K vs H Q fun _ _ _=>False)) (Qh:qH P w K mg base 10 au "Replay" ["self","works","record"] [] (fun vs H Q _=>Cw au ak aq aK K vs H Q fun _ _ _=>False)) (JZ:FnAt P w K mg base 12 "_law_told" ["one","loads","numbers","counts","gone","held"] (yw au ak aq K)) (Lw:FnAt P w K mg base 2 "_law_number" ["reel","many"] (sW K)) (Tj:FnAt P w K mg base 10 "_law_step" ["one","number","loads","numbers","counts","gone"] (yx au ak aq K)) (iJ:MethAt P w K mg base 1 ak "counts" ["self"] (p8 ak aq K)) (Bt:rD mg):bW P w K mg base lE 13 f fd ["script"] (Jl K):=by
 refine F.ok jF (fun vs H Q E h=> ?_) (fun cdv A outer s H vs Q E hr h=> ?_)
 ·obtain ⟨a,ns,rfl,_⟩:=h
  rfl
 ·obtain ⟨sc,XC,rfl,hs0,hlen,k⟩:=h
  have vV:=hr.units
  refine ⟨_,(aD (bT (i:=1) jF.nd rfl (Or.inr rfl) (b_ Tp (hr.mono (by decide)) (by rfl) (aj (pv 0) aC)))
   (aD (bT (i:=2) jF.nd rfl (Or.inr rfl) (dj n_ (by rfl) Bt.zR tX (aj (fu ig (b_ iy (hr.mono (by decide)) (by rfl) (aj (pv 1) (aj aG aC))) aG (bF _)) aC)))
   (aD (bT (i:=3) jF.nd rfl (Or.inl rfl) (bR jK aG (b_ iy (hr.mono (by decide)) (by rfl) (aj (pv 1) (aj aG aC)))))
   (aD (bT (i:=4) jF.nd rfl (Or.inr rfl) (b_ Qj (hr.mono (by decide)) (by rfl) (aj (pv 1) (aj (pv 3) (aj (aY (aZ (K:=K) rfl) (eU (aj aG (aj aG aC))) (pv 2) (fun _ _=>rfl)) aC)))))
   (aD (uH (i:=5) rfl jF.nd rfl (Or.inl rfl) (N:=["k","reel"]) (own:=["k"]) (caps:=[1]) (bh.of (by kernel_rfl)) (fG (by rfl) Bt.iU (aj (pv 3) aC)) (fun _ _ _ _=>(bO (i:=0) (show List.Nodup (["k","reel"]:List Str) by decide +kernel) rfl (Or.inl rfl))) (fun _ _ _ _=>dR) (fun _ _ _ _=>(b_ iy (hr.mono (by decide)) (by rfl) (aj (pv 1) (aj aG aC)))))
   (aD (bT (i:=6) jF.nd rfl (Or.inr rfl) (dU rfl (N:=["row","reel"]) (own:=["row"]) (caps:=[1]) (bh.of (by kernel_rfl)) (d_ (K:=K) rfl (pv 4)) (fun _ _ _ _=>(bO (i:=0) (show List.Nodup (["row","reel"]:List Str) by decide +kernel) rfl (Or.inl rfl))) (fun _ _ _ _=>dR) (fun _ _ _ _=>(fu ig (b_ iy (hr.mono (by decide)) (by rfl) (aj (pv 1) (aj aG aC))) aG (bF _)))))
   (aD (bT (i:=7) jF.nd rfl (Or.inl rfl) (ql En (hr.mono (by decide)) (by rfl) (aj (jX (aj (pv 3) (aj (dU rfl (N:=["k","loads","lost"]) (own:=["k"]) (caps:=[4,6]) (bh.of (by kernel_rfl)) (fG (by rfl) Bt.iU (aj (aV (aX (K:=K) rfl) (by rfl) Bt.gq cX (aj (pv 4) aC)) aC)) (fun _ _ _ _=>(bO (i:=0) (show List.Nodup (["k","loads","lost"]:List Str) by decide +kernel) rfl (Or.inl rfl))) (fun _ _ _ _=>dR) (fun _ _ _ _=>(b_ Tn (hr.mono (by decide)) (by rfl) (aj (aY (aZ (K:=K) rfl) (pv 1) (pv 0) (fun _ _=>rfl)) (aj (aY (aZ (K:=K) rfl) (pv 2) (pv 0) (fun _ _=>rfl)) aC))))) aC))) (aj (pv 5) aC))))
   (aD (uH (i:=8) rfl jF.nd rfl (Or.inl rfl) (N:=["row","reel","wide"]) (own:=["row"]) (caps:=[1,2]) (bh.of (by kernel_rfl)) (d_ (K:=K) rfl (pv 4)) (fun _ _ _ _=>(bO (i:=0) (show List.Nodup (["row","reel","wide"]:List Str) by decide +kernel) rfl (Or.inl rfl))) (fun _ _ _ _=>dR) (fun _ _ _ _=>(b_ iy (hr.mono (by decide)) (by rfl) (aj (pv 1) (aj (aY (aZ (K:=K) rfl) (eU (aj aG (aj aG aC))) (pv 2) (fun _ _=>rfl)) aC)))))
   (aD (bT (i:=9) jF.nd rfl (Or.inl rfl) (jX (aj (dj (cQ (K:=K) rfl) (by rfl) Bt.jM iu (aj (pv 8) aC)) (aj (eU aC) aC))))
   (aD (bT (i:=10) jF.nd rfl (Or.inl rfl) (ql Qh (hr.mono (by decide)) (by rfl) (aj (pv 7) (aj (pv 9) aC))))
   (aD (fj (Dj (K:=K) rfl PySem.F.plainAttrs_list PySem.F.slot_list_clear PySem.F.type_list_clear yX (aY (bx (K:=K) rfl) (pv 9) aG (fun _ _=>rfl))))
   (aD (bT (i:=11) jF.nd rfl (Or.inl rfl) (bR yU (eU (aj aG aC)) (aV (aX (K:=K) rfl) (by rfl) Bt.gq cX (aj (pv 4) aC))))
   (aD (bT (i:=12) jF.nd rfl (Or.inl rfl) (eU aC))
   (aD (qe PassesOwn.never rfl (fG (by rfl) Bt.iU (aj (bR jK (bR jK aG (aV (Lj rfl) (by rfl) Bt.abh Xf (aj (aV (aX (K:=K) rfl) (by rfl) Bt.gq cX (aj (pv 0) aC)) (aj aG aC)))) (bR vN aG (pv 2))) aC)) (bO (i:=13) jF.nd rfl (Or.inl rfl))
   (aD (cD (fB (dh (b_ JZ (hr.mono (by decide)) (by rfl) (aj (pv 10) (aj (pv 4) (aj (pv 5) (aj (pv 8) (aj (pv 11) (aj (pv 12) aC))))))))) (aL (bC mU)) bL)
   (aL (cD (fB (dh (b_ Tj (hr.mono (by decide)) (by rfl) (aj (pv 10) (aj (b_ Lw (hr.mono (by decide)) (by rfl) (aj (pv 1) (aj (aV (aX (K:=K) rfl) (by rfl) Bt.gq cX (aj (pv 4) aC)) aC))) (aj (pv 4) (aj (pv 5) (aj (pv 8) (aj (pv 11) aC))))))))) (aL (bC mU)) bL))))
   (aD (cD (PW.pt (pK (fB (dh (b_ JZ (hr.mono (by decide)) (by rfl) (aj (pv 10) (aj (pv 4) (aj (pv 5) (aj (pv 8) (aj (pv 11) (aj (pv 12) aC))))))))) (mj (bI (Dl (K:=K) rfl vV) (eX iJ aQ.cls (hr.mono (by decide)) (pv 7)) (bR yU (eU (aj aG aC)) (aV (aX (K:=K) rfl) (by rfl) Bt.gq cX (aj (pv 4) aC))) (bF _))))) (aL (bC mU)) bL)
   (aL (bC (aV (gY (K:=K) rfl rfl) (by rfl) Bt.GP zE (aj (dU rfl (N:=["found","kept"]) (own:=["found","kept"]) (caps:=[]) (bh.of (by kernel_rfl)) (d_ (K:=K) rfl (pv 12)) (fun _ _ _ _=>(Dh (K:=K) (n:=2) rfl rfl (nQ (bO (i:=0) (show List.Nodup (["found","kept"]:List Str) by decide +kernel) rfl (Or.inl rfl)) (nQ (bO (i:=1) (show List.Nodup (["found","kept"]:List Str) by decide +kernel) rfl (Or.inl rfl)) Dg)))) (fun _ _ _ _=>dR) (fun _ _ _ _=>(fu (Dn (K:=K) rfl vV) (pv 0) (pv 1) (bF _)))) aC))))))))))))))))))), ?_⟩
  refine ⟨_,rfl,sc,XC,rfl,hs0,hlen,fun r H1 hr0 R1 s1=> ?_⟩;have T1:RT (fun _=>[]) H1 r:=⟨R1,fun x o e t=>absurd rfl t,fun _ _=>rfl⟩;refine ⟨_,rfl,r,32,rfl,T1.R,by decide,by decide,fun z H2 z0 z1 R2 k2=>⟨rfl,.inr ⟨_,rfl, ?_⟩⟩⟩;have T2:=T1.draw k2 R2;obtain ⟨wd,ewd,Mr⟩:∃wd:Int,(if decide (V.int z=V.int 31)=true then (1:Int) else 0)=wd/\(wd=0\/wd=1):=⟨_,rfl,by split;exact .inr rfl;exact .inl rfl⟩;rw [ewd];refine ⟨_,rfl,r,20,rfl,R2,by decide,by decide,fun mz H3 m0 m1 R3 k3=>⟨_,_,rfl,rfl, ?_⟩⟩;have T3:=T2.draw k3 R3;obtain ⟨m,em,mp,m20⟩:∃m:Nat,(1:Int)+mz=m/\0<m/\m<=20:=⟨(1+mz).toNat,by omega,by omega,by omega⟩;dsimp only;rw [em];refine ⟨_,rfl,_,rfl,(by show 2<=sizeLine;decide),fun l4 hl4=> ?_⟩;have sl4:=aH (o:=HO.lst [V.int 7,V.int 38]) hl4
  obtain ⟨most,emo,mo0,agu⟩:∃mo:Nat,JW [V.int 7,V.int 38] wd=some (.int mo)/\0<mo/\mo<=38:=by
   rcases Mr with rfl|rfl
   ·exact ⟨7,rfl,by decide,by decide⟩
   ·exact ⟨38,rfl,by decide,by decide⟩
  refine ⟨_,rfl,_,_,_,_,rfl,rfl,bK.of ao,emo,r,fun _=>[],m,most,rfl,T3.same sl4,mp,m20,mo0,agu,fun L rs loads τ5 H5 La lp l8 XQ T5 tg5 kp5=> ?_⟩;refine ⟨_,rfl,_,rfl,by omega,by omega,fun nb hnb=> ?_⟩;rw [Int.toNat_natCast];refine T5.drawn (n:=m) (m:=1000) hnb (by omega) (fun v Hd F Rd kF=>⟨_,rfl,r,1000,rfl,Rd,by decide,by decide,fun y H' y0 y1 R' k'=>kF y H' y0 y1 R' k'⟩) (fun nn H6 ln on enb T6 kd6 td6 kp6=> ?_)
  have Zt:∀j,Mv j τ5 H5 (aR τ5 nb [0]) H6:=fun j=>⟨fun x o e t=>⟨kd6 x o e (by
   rcases t with t|t
   ·rw [t];simp
   ·intro z;rw [z] at t;cases t),aU (aB e hnb)⟩,td6⟩
  have Yg:=La.mv (Zt 0);have Yt:aR τ5 nb [0] nb=[0]:=bB;have aau:H6 nb=some (.lst ((nn.map fun c:Nat=>(c:Int)).map V.int)):=by rw [enb,List.map_map];rfl
  have Wk:vO m (nn.map fun c:Nat=>(c:Int)):=⟨by rw [List.length_map,ln],fun x hx=>by
   obtain ⟨c,hc,rfl⟩:=List.mem_map.mp hx;have:=on c hc;exact ⟨by omega,this⟩⟩
  have nsl:(nn.map fun c:Nat=>(c:Int)).length=m:=by rw [List.length_map,ln]
  generalize (nn.map fun c:Nat=>(c:Int))=ns at aau Wk nsl;generalize aR τ5 nb [0]=τ6 at T6 Zt Yg Yt;have lrs:=Yg.2.2.1;refine ⟨_,rfl,L,rfl,⟨_,bK.of Yg.1⟩,fun lo hlo=> ?_⟩;refine T6.Pn (K:=K) (m:=3) (val:=fun y=>V.bl (decide (V.int y=V.int 0))) hlo Yg.1 (by rw [Yg.2.1];simp) (by rw [List.length_map];omega) (fun v Hd τd F Td kF=>⟨_,rfl,r,3,rfl,Td.R,by decide,by decide,fun y H' y0 y1 R' k'=>⟨rfl,kF y H' y0 y1 (Td.draw k' R') (.draw Td k')⟩⟩) (fun ys H7 ly oy elo T7 d7=> ?_);have Wq:∀j,Mv j τ6 H6 (aR τ6 lo [0]) H7:=fun j=>⟨fun x o e t=>⟨((Dr.mv (i:=j) d7).keep x o e t).1,aU (aB e hlo)⟩,d7.t⟩;have Ye:=Yg.mv (Wq 0);have XF:=(Wq 0).keep _ _ aau (.inl Yt);have tlo:aR τ6 lo [0] lo=[0]:=bB;rw [List.length_map] at ly;have aav:H7 lo=some (.lst ((ys.map fun y=>decide (V.int y=V.int 0)).map V.bl)):=by rw [elo,List.map_map];rfl
  have lbl:(ys.map fun y=>decide (V.int y=V.int 0)).length=loads.length:=by rw [List.length_map,ly,lrs]
  generalize (ys.map fun y=>decide (V.int y=V.int 0))=lost at aav lbl;generalize aR τ6 lo [0]=τ7 at T7 Wq Ye XF tlo;have anK:=Ye.2.2.1;refine ⟨_,rfl,_,rfl,L,_,rfl,.inl (bK.of Ye.1),_,rfl,by rw [List.length_map];omega,by rw [List.length_map];omega,fun D hD=> ?_⟩;rw [List.length_map,Int.toNat_natCast];have sD:=aH (o:=HO.lst []) hD;refine pB (lo:=0) (n:=rs.length) (fun j σ Hc=>∃(v:Option V) (qs:List Addr),σ=[v,some (.ref L),some (.ref lo)]/\qs.length=j/\Same H7 Hc/\Hc D=some (.lst (qs.map V.ref)) /\ ∀(kk:Nat) (q:Addr) (x:List Nat) (b:Bool),qs[kk]? = some q->loads[kk]? = some x->lost[kk]? = some b->q≠D/\gZ Hc q m (gB x b)) ?_ ?_ ?_
  ·exact ⟨none,[],rfl,rfl,sD,ao,fun kk q x b e=>by simp at e⟩
  ·rintro j σ Hc hj ⟨v,qs,rfl,lq,sc',eDc,hq⟩
   dsimp only [gD,wM];rw [if_pos rfl,Int.zero_add];have jl:j<loads.length:=by omega
   have jb:j<lost.length:=by omega
   have er:loads[j]? = some loads[j]:=List.getElem?_eq_getElem jl;have eb:lost[j]? = some lost[j]:=List.getElem?_eq_getElem jb;have Gk:rs[j]? = some rs[j]:=List.getElem?_eq_getElem hj;obtain ⟨_,hrow⟩:=Ye.2.2.2 j _ _ Gk er;have lk:=XQ loads[j] (List.getElem_mem jl);refine ⟨_,rfl,_,rfl,_,_,_,_,rfl,rfl,bK.of (sc' _ _ Ye.1),dW (by rw [List.getElem?_map,Gk];rfl),_,rfl,_,rfl,_,_,_,_,rfl,rfl,bK.of (sc' _ _ aav),dW (by rw [List.getElem?_map,eb];rfl),rs[j],loads[j],lost[j],m,rfl,sc' _ _ hrow,lk.1,lk.2,fun q Hq fq RH sq=> ?_⟩;have nqD:q≠D:=(aB eDc fq).symm;refine ⟨_,sq _ _ eDc,(by rw [List.length_map,sizeLine_eq];omega),_,qs++[q],rfl,by simp [lq],(sc'.trans sq).newly hD,by rw [ao,List.map_append];rfl, ?_⟩;intro kk q' x b h1 h2 h3;have tup:∀y ys,Hq y=some (.tup ys)->(upd Hq D (.lst (qs.map V.ref++[V.ref q]))) y=some (.tup ys):=fun y ys e=>by rw [aF (eY e (sq _ _ eDc) (by intro z;cases z))];exact e
   rcases uO h1 with h1|⟨e1,rfl⟩
   ·obtain ⟨n1,R'⟩:=hq kk q' x b h1 h2 h3
    exact ⟨n1,(R'.same sq).keep (fun o e=>by rw [aF n1];exact e) tup⟩
   ·rw [e1,lq] at h2 h3
    rw [er] at h2;rw [eb] at h3;cases h2;cases h3;exact ⟨nqD,RH.keep (fun o e=>by rw [aF nqD];exact e) tup⟩
  rintro σ H8 ⟨v,qs,rfl,lq,s78,eD8,hq⟩;refine ⟨(by show 2<=sizeLine;decide),fun p hp=> ?_⟩;have sp:=aH (o:=HO.tup [V.int m,V.ref D]) hp;have Yd:Same H7 (upd H8 p (.tup [V.int m,V.ref D])):=s78.trans sp;have ep9:(upd H8 p (.tup [V.int m,V.ref D])) p=some (.tup [V.int m,V.ref D]):=ao;have eD9:=sp _ _ eD8
  have hq9:∀(kk:Nat) (q:Addr) (x:List Rw),qs[kk]? = some q->(List.zipWith gB loads lost)[kk]? = some x->gZ (upd H8 p (.tup [V.int m,V.ref D])) q m x:=fun kk q x h1 h2=>by
   rw [List.getElem?_zipWith] at h2;cases e1:loads[kk]? with
   | none=>rw [e1] at h2;cases h2
   | some y=>
     cases e2:lost[kk]? with
     | none=>rw [e1,e2] at h2;cases h2
     | some b=>
       rw [e1,e2] at h2;cases h2;exact (hq kk q y b h1 e1 e2).2.same sp
  generalize (upd H8 p (.tup [V.int m,V.ref D]))=H9 at Yd ep9 eD9 hq9 ⊢;have lz:(List.zipWith gB loads lost).length=loads.length:=by rw [List.length_zipWith];omega
  have T9:=T7.same Yd;refine ⟨_,rfl,fun o dx ho hdx ndx=> ?_⟩;have ho':(upd H9 dx (.own o)) o=none:=by rw [aF ndx.symm];exact ho
  have sm:Same H9 (upd (upd H9 dx (.own o)) o (.ins ak dx [])):=(aH hdx).trans (aH ho');refine ⟨1,τ7,o,dx,p,D,qs,m,.ref nb,ns,List.zipWith gB loads lost,rfl,ao,sm _ _ ep9,sm _ _ eD9,by omega,fun kk q' x h1 h2=>(hq9 kk q' x h1 h2).same sm,by omega,by omega,T9.un.same sm,by decide,by omega,.inr ⟨nb,rfl,sm _ _ (Yd _ _ XF.1)⟩,fun _ τa W Ha eo wa tg kp=>⟨rfl, ?_⟩,fun bad=>absurd Wk bad⟩;have s9a:Same H9 Ha:=fun x u e=>kp _ _ (sm _ _ e) (aB e ho);have tga:∀x u,H7 x=some u->τa x=τ7 x:=fun x u e=>tg x u (sm _ _ (Yd _ _ e)) (aB (Yd _ _ e) ho);have S7a:=Yd.trans s9a;have Ta:RT τa Ha r:=T7.made S7a tga wa.un;have Zr:∀j,Mv j τ7 H7 τa Ha:=fun j=>Mv.tags S7a tga;have Laa:=Ye.mv (Zr 0);have nba:=(Zr 0).keep _ _ XF.1 (.inl (XF.2.trans Yt));have gda:wK (Ao m ns (List.zipWith gB loads lost)):=K8 Wk.2;have eo':V.ref o=V.ref W.o:=by rw [eo]
  rw [eo'];clear kp tg sm ho' eo' hq9 hq s9a
  have Ga:Ax (Ao m ns (List.zipWith gB loads lost)) ns loads lost (List.replicate loads.length 0):=by
   have gz:∀k:Int,gI (List.replicate loads.length 0) k=0:=fun k=>by
    unfold gI;rw [List.getElem?_replicate];split<;>rfl
   refine ⟨by show ((List.zipWith gB loads lost).map _).length=_;rw [List.length_map,lz],lbl,rfl,by simp,fun kk s' row b h1 h2 h3=>⟨0,gz _, ?_⟩,fun kk _=>by rw [gz];rfl,fun row hr c hc=>by have:=(XQ row hr).2 c hc;omega⟩;have h1:((List.zipWith gB loads lost).map fun r=>lead (new r))[kk]? = some s':=h1;rw [List.getElem?_map,List.getElem?_zipWith,h2,h3] at h1;cases h1;exact Wt ns row b
  have anJ:=Laa.2.2.1
  obtain ⟨mc,emc,mc0,anH⟩:∃mc:Int,JW [V.int 9,V.int 38] wd=some (.int mc)/\0<mc/\mc<=38:=by
   rcases Mr with rfl|rfl
   ·exact ⟨9,rfl,by decide,by decide⟩
   ·exact ⟨38,rfl,by decide,by decide⟩
  refine ⟨_,rfl,L,rfl,⟨_,bK.of Laa.1⟩,fun cl hcl=> ?_⟩;refine Ta.Pn (K:=K) (m:=mc) (val:=V.int) hcl Laa.1 (by rw [Laa.2.1];simp) (by rw [List.length_map];omega) (fun v Hd τd F Td kF=>⟨_,rfl,(by show 2<=sizeLine;decide),fun l hl=>⟨_,rfl,_,_,_,_,rfl,rfl,bK.of ao,emc,r,mc,rfl,(Td.same (aH hl)).R,mc0,by omega,fun y H' y0 y1 R' k'=>kF y H' y0 y1 ((Td.same (aH hl)).draw k' R') ((Dr.of_same (aH hl)).trans (.draw (Td.same (aH hl)) k'))⟩⟩) (fun cs Hb lcs ocs ecl Tb db=> ?_);have Ry:∀j,Mv j τa Ha (aR τa cl [0]) Hb:=fun j=>⟨fun x o e t=>⟨((Dr.mv (i:=j) db).keep x o e t).1,aU (aB e hcl)⟩,db.t⟩;have Lab:=Laa.mv (Ry 0);have nbb:=(Ry 0).keep _ _ nba.1 (.inl (nba.2.trans (XF.2.trans Yt)));have wb:=wa.mv (Ry 1) Tb.un;have Yx:aR τa cl [0] cl=[0]:=bB;have MJ:aR τa cl [0] nb=[0]:=nbb.2.trans (nba.2.trans (XF.2.trans Yt));rw [List.length_map] at lcs;generalize aR τa cl [0]=τb at Tb Ry Lab nbb wb Yx MJ;have ajo:Cd cs []:=⟨⟨by omega,fun c hc=>by have:=ocs c hc;omega⟩,by simp,by simp⟩;refine ⟨_,rfl,cl,_,rfl,.inl (bK.of ecl),fun c2 hc2=>⟨(by show 0<=sizeLine;decide),fun e2 he2=>⟨(by show 2<=sizeLine;decide),fun t ht=> ?_⟩⟩⟩;have sc2:=aH (o:=HO.lst (cs.map V.int)) hc2;have se2:=aH (o:=HO.lst []) he2;have st:=aH (o:=HO.tup [V.ref c2,V.ref e2]) ht;have Sc:Same Hb (upd (upd (upd Hb c2 (.lst (cs.map V.int))) e2 (.lst [])) t (.tup [V.ref c2,V.ref e2])):=(sc2.trans se2).trans st;have ec2:=st _ _ (se2 _ _ (ao (H:=Hb) (a:=c2) (o:=HO.lst (cs.map V.int))));have ee2:=st _ _ (ao (H:=upd Hb c2 (.lst (cs.map V.int))) (a:=e2) (o:=HO.lst []));have et:(upd (upd (upd Hb c2 (.lst (cs.map V.int))) e2 (.lst [])) t (.tup [V.ref c2,V.ref e2])) t=some (.tup [V.ref c2,V.ref e2]):=ao;generalize (upd (upd (upd Hb c2 (.lst (cs.map V.int))) e2 (.lst [])) t (.tup [V.ref c2,V.ref e2]))=Hc at Sc ec2 ee2 et ⊢;have Tc:=Tb.claim (t:=[12]) Sc hc2 ⟨_,ec2⟩;have Od:∀j,Mv j τb Hb (aR τb c2 [12]) Hc:=fun j=>Mv.claim Sc hc2;have tc2:aR τb c2 [12] c2=[12]:=bB;have Lac:=Lab.mv (Od 0);have Zo:=(Od 0).keep _ _ nbb.1 (.inl MJ);have clc:=(Od 0).keep _ _ ecl (.inl Yx);have wc:=wb.mv (Od 1) Tc.un;generalize aR τb c2 [12]=τc at Tc Od tc2 Lac Zo clc wc
  have lS:cs.length=(Ao m ns (List.zipWith gB loads lost)).hs.length:=by
   show _=((List.zipWith gB loads lost).map _).length;rw [List.length_map,lz];omega
  refine ⟨_,rfl,_,rfl,fun o2 dx2 ho2 ahT agl=> ?_⟩;have ZW:(upd Hc dx2 (.own o2)) o2=none:=by rw [aF agl.symm];exact ho2
  have Vt:Same Hc (upd (upd Hc dx2 (.own o2)) o2 (.ins au dx2 [])):=(aH ahT).trans (aH ZW);refine ⟨1,2,3,τc,o2,dx2,t,c2,e2,W,_,cs,[],rfl,ao,Tc.un _ ho2,wc.same Vt,gda,by show m<=100;omega,⟨Vt _ _ et,Vt _ _ ec2,[],Vt _ _ ee2,by simp [bf]⟩,ajo,by decide,by decide,by decide,by decide,rfl,fun _ τd R ns' Hd eR pm rp tgd XR=>⟨rfl, ?_⟩,fun bad=>absurd lS bad⟩;obtain rfl:ns'=[]:=List.perm_nil.mp pm;have Scd:Same Hc Hd:=fun x u e=>XR _ _ (Vt _ _ e) (aB e ho2);have Ve:∀x u,Hc x=some u->τd x=τc x:=fun x u e=>tgd x u (Vt _ _ e) (aB e ho2);have Rx:∀j,Mv j τc Hc τd Hd:=fun j=>Mv.tags Scd Ve;have Td:=Tc.made Scd Ve rp.w.un;have Lad:=Lac.mv (Rx 0);have nbd:=(Rx 0).keep _ _ Zo.1 (.inl (Zo.2.trans MJ));have cld:=(Rx 0).keep _ _ clc.1 (.inl (clc.2.trans Yx));have wd':=wc.mv (Rx 1) rp.w.un;have W8:=Scd _ _ ec2;have adh:τd c2=[12]:=(Ve _ _ ec2).trans tc2;have eR':V.ref o2=V.ref R.o:=by rw [eR]
  rw [eR'];clear XR tgd Vt ZW eR';refine ⟨_,rfl,_,_,_,_,rfl,rfl,cO.of (Scd _ _ et),rfl,.inl ⟨rfl,_,bK.of W8⟩,c2,_,rfl,rfl,W8, ?_⟩;have Vr:mH 12 τd Hd (upd Hd c2 (.lst [])):=mH.set (by rw [adh];rfl) W8 (by intro xs z;cases z);have Te:=Td.stp Vr;have H_:∀j,j≠12->Mv j τd Hd τd (upd Hd c2 (.lst [])):=fun j hj=>Mv.jY Vr (fun z=>hj z.symm) (by decide);have rpe:=rp.mv (H_ 2 (by decide)) (H_ 3 (by decide)) Te.un;have we:=wd'.mv (H_ 1 (by decide)) Te.un;have Lae:=Lad.mv (H_ 0 (by decide));have nbe:=(H_ 0 (by decide)).keep _ _ nbd.1 (.inl (nbd.2.trans (Zo.2.trans MJ)));have cle:=(H_ 0 (by decide)).keep _ _ cld.1 (.inl (cld.2.trans (clc.2.trans Yx)));have Ys:τd nb=[0]:=nbd.2.trans (Zo.2.trans MJ);have Yw:τd cl=[0]:=cld.2.trans (clc.2.trans Yx);have kc2:∀x o,Hd x=some o->x≠c2->(upd Hd c2 (.lst [])) x=some o:=fun x o e n=>by rw [aF n];exact e
  generalize (upd Hd c2 (.lst []))=He at Vr Te H_ rpe we Lae nbe cle kc2 ⊢;have agw:=Lae.2.2.1;refine ⟨(by show 1<=sizeLine;decide),fun q hq=>⟨_,rfl,L,_,rfl,.inl (bK.of ((aH (o:=HO.lst [V.int 0]) hq) _ _ Lae.1)), ?_⟩⟩;rw [List.length_map];refine ⟨q,_,_,rfl,rfl,ao,by omega,by omega,by rw [sizeLine_eq];simp;omega,fun g hg=> ?_⟩;have sq:=aH (o:=HO.lst [V.int 0]) hq;have sg:=aH (o:=HO.lst (List.replicate ((rs.length:Nat):Int).toNat [V.int 0]).flatten) hg;have Sf:Same He (upd (upd He q (.lst [V.int 0])) g (.lst (List.replicate ((rs.length:Nat):Int).toNat [V.int 0]).flatten)):=sq.trans sg;have fg:He g=none:=sq.free hg
  have aaq:(List.replicate ((rs.length:Nat):Int).toNat [V.int 0]).flatten=(List.replicate loads.length (0:Int)).map V.int:=by
   rw [Int.toNat_natCast,agw,List.map_replicate]
   induction loads.length with
   | zero=>rfl
   | succ n ih=>rw [List.replicate_succ,List.flatten_cons,ih,List.replicate_succ];rfl
  have eg:(upd (upd He q (.lst [V.int 0])) g (.lst (List.replicate ((rs.length:Nat):Int).toNat [V.int 0]).flatten)) g=some (.lst ((List.replicate loads.length (0:Int)).map V.int)):=by rw [ao,aaq]
  generalize (upd (upd He q (.lst [V.int 0])) g (.lst (List.replicate ((rs.length:Nat):Int).toNat [V.int 0]).flatten))=Hf at Sf eg ⊢;have Tf:=Te.claim (t:=[9]) Sf fg ⟨_,eg⟩;have HY:∀j,Mv j τd He (aR τd g [9]) Hf:=fun j=>Mv.claim Sf fg;have tgg:aR τd g [9] g=[9]:=bB;have Yr:aR τd g [9] nb=[0]:=by rw [aU (aB nbe.1 fg)];exact Ys
  have Yv:aR τd g [9] cl=[0]:=by rw [aU (aB cle.1 fg)];exact Yw
  have aei:List.replicate cs.length (0:Int)=List.replicate loads.length 0:=by congr 1;omega
  rw [aei] at rpe;have cf:C51 au ak aq 2 3 (aR τd g [9]) Hf R (Ao m ns (List.zipWith gB loads lost)) cs (List.replicate loads.length 0) ns loads lost L nb cl g rs:=⟨rpe.mv (HY 2) (HY 3) Tf.un,Ga,Lae.mv (HY 0),l8,((HY 0).keep _ _ nbe.1 (.inl Ys)).1,Yr,((HY 0).keep _ _ cle.1 (.inl Yw)).1,Yv,eg,tgg,by omega,by decide,by decide⟩;have wf:=we.mv (HY 1) Tf.un;generalize aR τd g [9]=τf at Tf HY tgg Yr Yv cf wf;refine ⟨(by show 0<=sizeLine;decide),fun a ha=> ?_⟩;have sa:=aH (o:=HO.lst []) ha;have ea:(upd Hf a (.lst [])) a=some (.lst []):=ao;have Tg':=Tf.claim (t:=[10]) sa ha ⟨_,ea⟩;have Rv:∀j,Mv j τf Hf (aR τf a [10]) (upd Hf a (.lst [])):=fun j=>Mv.claim sa ha;have hg0:zX (aR τf a [10]) (upd Hf a (.lst [])) a []:=⟨ea,bB,fun p hp=>by simp at hp⟩;have cg:=cf.mv (fun j _=>Rv j) Tg'.un;have wg:=wf.mv (Rv 1) Tg'.un;generalize (upd Hf a (.lst []))=Hg at sa ea Tg' Rv hg0 cg wg ⊢;generalize aR τf a [10]=τg at Tg' Rv hg0 cg wg
  have scg:bK K Hg sc (XC.map V.int):=M6 hs0 fun o e=>by
   have nr:sc≠r:=aB e hr0;have x6:=kp6 _ _ (kp5 _ _ (sl4 _ _ (k3.1 _ _ (k2.1 _ _ (s1 _ _ e) nr) nr)) nr) nr;have xb:=db.p _ _ (S7a _ _ (d7.p _ _ x6 nr)) nr;exact sa _ _ (Sf _ _ (kc2 _ _ (Scd _ _ (Sc _ _ xb)) (aB xb hc2)))
  have nx:∀j,j=2\/j=3->j≠10/\j≠11/\j≠12:=fun j hj=>by omega
  dsimp only [gD];refine qQ (fun σ H'=>∃(Va:Option V) (τ:Tg) (S:lQ) (gs:List Int) (fs:List Addr),σ=[some (.ref sc),some (.ref r),some (.int wd),some (.int m),some (.ref L),some (.ref nb),some (.ref lo),some (.ref W.o),some (.ref cl),some (.ref t),some (.ref R.o),some (.ref g),some (.ref a),Va]/\C51 au ak aq 2 3 τ H' R S cs gs ns loads lost L nb cl g rs/\zX τ H' a fs/\fs.length<=400/\S.ts.length<=400/\tY ak aq 1 τ H' W (Ao m ns (List.zipWith gB loads lost))) (fun D' hD' _=> ?_) ?_
  ·refine ⟨_,rfl,sc,_,rfl,.inl scg,_,_,rfl,_,_,rfl,rfl,_,rfl,_,_,rfl,rfl,.inl ⟨by decide,by decide⟩,_,_,rfl,rfl,_,rfl, ?_, ?_, ?_⟩
   ·rw [List.length_map];rcases Mr with rfl|rfl<;>split<;>omega
   ·rw [List.length_map];rcases Mr with rfl|rfl<;>split<;>omega
   have stl:((4:Int)+(if 63<((XC.map V.int).length:Int) then 63 else ((XC.map V.int).length:Int))+270*wd).toNat<=340:=by
    rw [List.length_map];rcases Mr with rfl|rfl<;>split<;>omega
   generalize ((4:Int)+(if 63<((XC.map V.int).length:Int) then 63 else ((XC.map V.int).length:Int))+270*wd).toNat=stp at stl ⊢
   refine q_ (lo:=0) (n:=stp) (fun j σ Hc=>∃(Va:Option V) (τ:Tg) (S:lQ) (gs:List Int) (fs:List Addr),σ=[some (.ref sc),some (.ref r),some (.int wd),some (.int m),some (.ref L),some (.ref nb),some (.ref lo),some (.ref W.o),some (.ref cl),some (.ref t),some (.ref R.o),some (.ref g),some (.ref a),Va]/\C51 au ak aq 2 3 τ Hc R S cs gs ns loads lost L nb cl g rs/\zX τ Hc a fs/\fs.length<=j/\S.ts.length<=j/\tY ak aq 1 τ Hc W (Ao m ns (List.zipWith gB loads lost))/\RT τ Hc r)
    ⟨none,τg,_,_,[],rfl,cg,hg0,Nat.zero_le _,Nat.zero_le _,wg,Tg'⟩ ?_ (fun σ Hc ⟨Va,τ,S,gs,fs,e,c,h,fl,tl,w,T⟩=>hD' _ _ ⟨Va,τ,S,gs,fs,e,c,h,by omega,by omega,w⟩)
   rintro j σ Hc hj ⟨Va,τ,S,gs,fs,rfl,c,hd,fl,tl,w,T⟩;refine ⟨_,rfl,_,rfl,_,rfl,_,rfl,_,rfl,_,rfl,2,3,τ,R,S,cs,gs,ns,loads,lost,L,nb,cl,g,a,rs,fs,rfl,c,hd,by omega,by omega,nx,fun τy fs' Hy hy fly Zq ty Yl=>⟨_,rfl,dZ ?_⟩⟩;have wy:=w.mv (Zq 1 (by decide) (by decide) (by decide)) Yl;have cy:=c.mv (fun j hj=>Zq j (by omega) (by omega) (by omega)) Yl;have Ty:=ty r T;unfold E_;dsimp only;refine ⟨_,rfl,_,rfl,_,rfl,L,_,rfl,.inl (bK.of cy.l.1), ?_⟩;rw [List.length_map,cy.l.2.2.1];refine ⟨r,loads.length,rfl,Ty.R,lp,l8,fun num Hw Rw' kw=> ?_⟩;have Tw:=Ty.draw kw Rw';have cw:=cy.mv (fun j _=>Ty.kr kw) Tw.un;have ww:=wy.mv (Ty.kr kw) Tw.un;have hw:=hy.mv (Ty.kr kw);refine ⟨_,rfl,_,rfl,_,rfl,_,rfl,2,3,τy,R,S,cs,gs,ns,loads,lost,L,nb,cl,g,rs,num,rfl,cw,by omega,fun S' gs' Hv cv tv Fv=>⟨_,rfl,dZ ?_⟩⟩;exact ⟨_,τy,S',gs',fs',rfl,cv,hw.mv (Fv.mv 10 (by decide) (by decide) (by decide)),by omega,by omega,ww.mv (Fv.mv 1 (by decide) (by decide) (by decide)) cv.r.w.un,Fv.rt r Tw⟩
  rintro σ Hz ⟨Va,τz,S,gs,fs,rfl,cz,hz,fz,tz,wz⟩;refine ⟨_,rfl,_,rfl,_,rfl,_,rfl,_,rfl,_,rfl,2,3,τz,R,S,cs,gs,ns,loads,lost,L,nb,cl,g,a,rs,fs,rfl,cz,hz,by omega,by omega,nx,fun τy fs' Hy hy fly Zq _ Yl=>⟨_,rfl,dZ ?_⟩⟩;have wy:=wz.mv (Zq 1 (by decide) (by decide) (by decide)) Yl;have cy:=cz.mv (fun j hj=>Zq j (by omega) (by omega) (by omega)) Yl;refine ⟨_,rfl,W.o,W.dx,_,rfl,wy.o,rfl,1,τy,W,_,rfl,wy,fun l3 Hx fl3 el3 sx=> ?_⟩;rw [Ga.cnt] at el3;have cx:=cy.same sx;refine ⟨(by show 1<=sizeLine;decide),fun q1 hq1=>⟨_,rfl,L,_,rfl,.inl (bK.of ((aH (o:=HO.lst [V.int 0]) hq1) _ _ cx.l.1)), ?_⟩⟩;rw [List.length_map];refine ⟨q1,_,_,rfl,rfl,ao,by omega,by omega,by rw [sizeLine_eq];simp;omega,fun q2 hq2=> ?_⟩;rw [aaq];have sq1:=aH (o:=HO.lst [V.int 0]) hq1;have T8:=aH (o:=HO.lst ((List.replicate loads.length (0:Int)).map V.int)) hq2;have Sv:=sq1.trans T8;have hv:=hy.mv (Mv.of_same (sx.trans Sv));refine ⟨_,_,eE (Sv _ _ el3),eE ao,shaped_ints _,shaped_ints _,_,rfl, ?_⟩;rw [if_pos rfl,qy PyData.int uT,decide_eq_true rfl];refine dZ ?_;generalize (upd (upd Hx q1 (.lst [V.int 0])) q2 (.lst ((List.replicate loads.length (0:Int)).map V.int)))=Hv at T8 Sv hv ⊢;dsimp only;have fs8:fs'.length<=1000:=by omega
  refine ⟨_,rfl,a,rfl,⟨_,bK.of hv.e⟩,fun D9 hD9=> ?_⟩;refine j4 (K:=K) (xs:=fs'.map V.ref) (fun i σ He=>(∃u v:Option V,σ=[u,v])/\Same Hv He/\He D9=some (.lst ((List.replicate i true).map V.bl))) ⟨⟨none,none,rfl⟩,aH hD9,ao⟩ (fun i σ He _ ⟨_,se,_⟩=>bK.of (se _ _ hv.e)) ?_ ?_
  ·rintro i x σ He hi ⟨⟨u,v,rfl⟩,se,eD⟩
   rw [List.getElem?_map] at hi
   obtain ⟨q,eq,rfl⟩:∃q,fs'[i]? = some q/\x = .ref q:=by
    cases e:fs'[i]? with
    | none=>rw [e] at hi;cases hi
    | some q=>rw [e] at hi;exact ⟨q,rfl,(Option.some.inj hi).symm⟩
   obtain ⟨t1,k1,d,y1,y2,y3,y4⟩:=hv.f q (List.mem_of_getElem? eq);have il:=(List.getElem?_eq_some_iff.mp eq).1;refine ⟨q,_,rfl,cO.of (se _ _ y1),rfl,_,_,rfl,_,_,rfl,rfl, ?_⟩;dsimp only [gD,wM];rw [if_pos rfl];refine ⟨_,rfl,_,rfl,_,_,(y2.same (lU _ _) _).same se _,(y3.same (lU _ _) _).same se _,y4,y4, ?_⟩;rw [if_neg Bool.false_ne_true,W4 y4];refine ⟨_,eD,(by rw [List.length_map,List.length_replicate,sizeLine_eq];omega),⟨_,_,rfl⟩,se.newly hD9, ?_⟩;rw [ao,List.replicate_succ',List.map_append];rfl
  ·rintro σ He ⟨⟨u,v,rfl⟩,se,eD⟩
   refine ⟨D9,_,rfl,bK.of eD, ?_⟩;rw [show (List.replicate (fs'.map V.ref).length true).all id=true by simp];exact k _
end
theorem len0 {us:List Value} (h:us.length=0):us=[]:=List.eq_nil_of_length_eq_zero h
theorem bM {us:List Value} {n:Nat} (h:us.length=n+1):∃a vs,us=a::vs/\vs.length=n:=by
 cases us with
 | nil=>cases h
 | cons a t=>exact ⟨a,t,rfl,Nat.succ.inj h⟩
theorem GD (kV doc pm:Value) (an:Option Addr) (cdv ct:Value) (us:List Value) (hl:us.length=(["value"]:List Str).length):bindArgs (PySem.W.fnOf "is_whole" "is_whole" (aO gK) (aM gK) (aA gK) .none kV doc pm an cdv ct) ⟨us,[]⟩=pure ((["value"]:List Str).zip us):=by obtain ⟨_,_,rfl,h1⟩:=bM hl;cases len0 h1;rfl
theorem GF (kV doc pm:Value) (an:Option Addr) (cdv ct:Value) (us:List Value) (hl:us.length=(["value","count"]:List Str).length):bindArgs (PySem.W.fnOf "is_below" "is_below" (aO gM) (aM gM) (aA gM) .none kV doc pm an cdv ct) ⟨us,[]⟩=pure ((["value","count"]:List Str).zip us):=by obtain ⟨_,_,rfl,h1⟩:=bM hl;obtain ⟨_,_,rfl,h2⟩:=bM h1;cases len0 h2;rfl
theorem Ej (kV doc pm:Value) (an:Option Addr) (cdv ct:Value) (us:List Value) (hl:us.length=(["self","rows"]:List Str).length):bindArgs (PySem.W.fnOf "__init__" "Hand.__init__" (aO fP) (aM fP) (aA fP) .none kV doc pm an cdv ct) ⟨us,[]⟩=pure ((["self","rows"]:List Str).zip us):=by obtain ⟨_,_,rfl,h1⟩:=bM hl;obtain ⟨_,_,rfl,h2⟩:=bM h1;cases len0 h2;rfl
theorem IV (kV doc pm:Value) (an:Option Addr) (cdv ct:Value) (us:List Value) (hl:us.length=(["row"]:List Str).length):bindArgs (PySem.W.fnOf "cell_of" "cell_of" (aO iQ) (aM iQ) (aA iQ) .none kV doc pm an cdv ct) ⟨us,[]⟩=pure ((["row"]:List Str).zip us):=by obtain ⟨_,_,rfl,h1⟩:=bM hl;cases len0 h1;rfl
theorem j5 (kV doc pm:Value) (an:Option Addr) (cdv ct:Value) (us:List Value) (hl:us.length=(["self","part"]:List Str).length):bindArgs (PySem.W.fnOf "value_of" "Hand.value_of" (aO bY) (aM bY) (aA bY) .none kV doc pm an cdv ct) ⟨us,[]⟩=pure ((["self","part"]:List Str).zip us):=by obtain ⟨_,_,rfl,h1⟩:=bM hl;obtain ⟨_,_,rfl,h2⟩:=bM h1;cases len0 h2;rfl
theorem Am (kV doc pm:Value) (an:Option Addr) (cdv ct:Value) (us:List Value) (hl:us.length=(["self","row"]:List Str).length):bindArgs (PySem.W.fnOf "holds" "Hand.holds" (aO eO) (aM eO) (aA eO) .none kV doc pm an cdv ct) ⟨us,[]⟩=pure ((["self","row"]:List Str).zip us):=by obtain ⟨_,_,rfl,h1⟩:=bM hl;obtain ⟨_,_,rfl,h2⟩:=bM h1;cases len0 h2;rfl
theorem Ei (kV doc pm:Value) (an:Option Addr) (cdv ct:Value) (us:List Value) (hl:us.length=(["self","box","number"]:List Str).length):bindArgs (PySem.W.fnOf "take" "Hand.take" (aO fO) (aM fO) (aA fO) .none kV doc pm an cdv ct) ⟨us,[]⟩=pure ((["self","box","number"]:List Str).zip us):=by obtain ⟨_,_,rfl,h1⟩:=bM hl;obtain ⟨_,_,rfl,h2⟩:=bM h1;obtain ⟨_,_,rfl,h3⟩:=bM h2;cases len0 h3;rfl
theorem I_ (kV doc pm:Value) (an:Option Addr) (cdv ct:Value) (us:List Value) (hl:us.length=(["self","row"]:List Str).length):bindArgs (PySem.W.fnOf "do" "Hand.do" (aO iT) (aM iT) (aA iT) .none kV doc pm an cdv ct) ⟨us,[]⟩=pure ((["self","row"]:List Str).zip us):=by obtain ⟨_,_,rfl,h1⟩:=bM hl;obtain ⟨_,_,rfl,h2⟩:=bM h1;cases len0 h2;rfl
theorem wV (kV doc pm:Value) (an:Option Addr) (cdv ct:Value) (us:List Value) (hl:us.length=(["self"]:List Str).length):bindArgs (PySem.W.fnOf "lead_on" "Hand.lead_on" (aO cU) (aM cU) (aA cU) .none kV doc pm an cdv ct) ⟨us,[]⟩=pure ((["self"]:List Str).zip us):=by obtain ⟨_,_,rfl,h1⟩:=bM hl;cases len0 h1;rfl
theorem vZ (kV doc pm:Value) (an:Option Addr) (cdv ct:Value) (us:List Value) (hl:us.length=(["cells","count"]:List Str).length):bindArgs (PySem.W.fnOf "check_numbers" "check_numbers" (aO cI) (aM cI) (aA cI) .none kV doc pm an cdv ct) ⟨us,[]⟩=pure ((["cells","count"]:List Str).zip us):=by obtain ⟨_,_,rfl,h1⟩:=bM hl;obtain ⟨_,_,rfl,h2⟩:=bM h1;cases len0 h2;rfl
theorem uX (kV doc pm:Value) (an:Option Addr) (cdv ct:Value) (us:List Value) (hl:us.length=(["self","one"]:List Str).length):bindArgs (PySem.W.fnOf "touch_by" "Works.touch_by" (aO cj) (aM cj) (aA cj) .none kV doc pm an cdv ct) ⟨us,[]⟩=pure ((["self","one"]:List Str).zip us):=by obtain ⟨_,_,rfl,h1⟩:=bM hl;obtain ⟨_,_,rfl,h2⟩:=bM h1;cases len0 h2;rfl
theorem v7 (kV doc pm:Value) (an:Option Addr) (cdv ct:Value) (us:List Value) (hl:us.length=(["self","hand"]:List Str).length):bindArgs (PySem.W.fnOf "hand_of" "Works.hand_of" (aO cJ) (aM cJ) (aA cJ) .none kV doc pm an cdv ct) ⟨us,[]⟩=pure ((["self","hand"]:List Str).zip us):=by obtain ⟨_,_,rfl,h1⟩:=bM hl;obtain ⟨_,_,rfl,h2⟩:=bM h1;cases len0 h2;rfl
theorem Al (kV doc pm:Value) (an:Option Addr) (cdv ct:Value) (us:List Value) (hl:us.length=(["self","hand"]:List Str).length):bindArgs (PySem.W.fnOf "turn" "Works.turn" (aO eN) (aM eN) (aA eN) .none kV doc pm an cdv ct) ⟨us,[]⟩=pure ((["self","hand"]:List Str).zip us):=by obtain ⟨_,_,rfl,h1⟩:=bM hl;obtain ⟨_,_,rfl,h2⟩:=bM h1;cases len0 h2;rfl
theorem zQ {K:PySem.W.Frag} {T:Addr} {tc:Value} {td:Option Addr} {tn:Nat} {TF:Array (Option Value)} (d:K.lookup T=some ⟨tc,td,.seq #[.none] tn,TF⟩) {kV doc pm:Value} {an:Option Addr} {cdv ct:Value}:Binds K (PySem.W.fnOf "__init__" "Works.__init__" (aO bU) (aM bU) (aA bU) (.ref T) kV doc pm an cdv ct) ["self","program","cells"] []:=by
 intro s us KX hl;have hl:us.length=3:=by simpa using hl
 obtain ⟨_,_,rfl,h1⟩:=bM hl;obtain ⟨_,_,rfl,h2⟩:=bM h1;obtain ⟨_,_,rfl,h3⟩:=bM h2;cases len0 h3;exact PySem.W.binds_K KX rfl d rfl rfl rfl
theorem zP {K:PySem.W.Frag} {T:Addr} {tc:Value} {td:Option Addr} {tn:Nat} {TF:Array (Option Value)} (d:K.lookup T=some ⟨tc,td,.seq #[.none] tn,TF⟩) {kV doc pm:Value} {an:Option Addr} {cdv ct:Value}:Binds K (PySem.W.fnOf "__init__" "Works.__init__" (aO bU) (aM bU) (aA bU) (.ref T) kV doc pm an cdv ct) ["self","program","cells"] [.none]:=by
 intro s us KX hl;have hl:us.length=2:=by simpa using hl
 obtain ⟨_,_,rfl,h1⟩:=bM hl;obtain ⟨_,_,rfl,h2⟩:=bM h1;cases len0 h2;exact PySem.W.binds_K KX rfl d rfl rfl rfl
theorem zO {K:PySem.W.Frag} {T:Addr} {tc:Value} {td:Option Addr} {tn:Nat} {TF:Array (Option Value)} (d:K.lookup T=some ⟨tc,td,.seq #[.none] tn,TF⟩) {kV doc pm:Value} {an:Option Addr} {cdv ct:Value} (s:Shared) (us:List Value) (z:Value) (KX:K.In s.heap) (hl:(us++[z]).length=(["self","program","cells"]:List Str).length):BindsTo s (PySem.W.fnOf "__init__" "Works.__init__" (aO bU) (aM bU) (aA bU) (.ref T) kV doc pm an cdv ct) ⟨us,[("cells",z)]⟩ ((["self","program","cells"]:List Str).zip (us++[z])):=by
 have hl:us.length=2:=by simpa using hl
 obtain ⟨_,_,rfl,h1⟩:=bM hl;obtain ⟨_,_,rfl,h2⟩:=bM h1;cases len0 h2;exact PySem.W.binds_K KX rfl d rfl rfl rfl
theorem zG (kV doc pm:Value) (an:Option Addr) (cdv ct:Value) (us:List Value) (hl:us.length=(["self","hand"]:List Str).length):bindArgs (PySem.W.fnOf "boxes" "Works.boxes" (aO dG) (aM dG) (aA dG) .none kV doc pm an cdv ct) ⟨us,[]⟩=pure ((["self","hand"]:List Str).zip us):=by obtain ⟨_,_,rfl,h1⟩:=bM hl;obtain ⟨_,_,rfl,h2⟩:=bM h1;cases len0 h2;rfl
theorem Eh (kV doc pm:Value) (an:Option Addr) (cdv ct:Value) (us:List Value) (hl:us.length=(["self","hand"]:List Str).length):bindArgs (PySem.W.fnOf "how" "Works.how" (aO fM) (aM fM) (aA fM) .none kV doc pm an cdv ct) ⟨us,[]⟩=pure ((["self","hand"]:List Str).zip us):=by obtain ⟨_,_,rfl,h1⟩:=bM hl;obtain ⟨_,_,rfl,h2⟩:=bM h1;cases len0 h2;rfl
theorem wR (kV doc pm:Value) (an:Option Addr) (cdv ct:Value) (us:List Value) (hl:us.length=(["self"]:List Str).length):bindArgs (PySem.W.fnOf "counts" "Works.counts" (aO cR) (aM cR) (aA cR) .none kV doc pm an cdv ct) ⟨us,[]⟩=pure ((["self"]:List Str).zip us):=by obtain ⟨_,_,rfl,h1⟩:=bM hl;cases len0 h1;rfl
theorem wW (kV doc pm:Value) (an:Option Addr) (cdv ct:Value) (us:List Value) (hl:us.length=(["self"]:List Str).length):bindArgs (PySem.W.fnOf "another" "Hand.another" (aO cV) (aM cV) (aA cV) .none kV doc pm an cdv ct) ⟨us,[]⟩=pure ((["self"]:List Str).zip us):=by obtain ⟨_,_,rfl,h1⟩:=bM hl;cases len0 h1;rfl
theorem Ak (kV doc pm:Value) (an:Option Addr) (cdv ct:Value) (us:List Value) (hl:us.length=(["self"]:List Str).length):bindArgs (PySem.W.fnOf "twin" "Works.twin" (aO eH) (aM eH) (aA eH) .none kV doc pm an cdv ct) ⟨us,[]⟩=pure ((["self"]:List Str).zip us):=by obtain ⟨_,_,rfl,h1⟩:=bM hl;cases len0 h1;rfl
theorem IK (kV doc pm:Value) (an:Option Addr) (cdv ct:Value) (us:List Value) (hl:us.length=(["value"]:List Str).length):bindArgs (PySem.W.fnOf "is_note" "is_note" (aO iM) (aM iM) (aA iM) .none kV doc pm an cdv ct) ⟨us,[]⟩=pure ((["value"]:List Str).zip us):=by obtain ⟨_,_,rfl,h1⟩:=bM hl;cases len0 h1;rfl
theorem Aj (kV doc pm:Value) (an:Option Addr) (cdv ct:Value) (us:List Value) (hl:us.length=(["counts","note"]:List Str).length):bindArgs (PySem.W.fnOf "is_between" "is_between" (aO eG) (aM eG) (aA eG) .none kV doc pm an cdv ct) ⟨us,[]⟩=pure ((["counts","note"]:List Str).zip us):=by obtain ⟨_,_,rfl,h1⟩:=bM hl;obtain ⟨_,_,rfl,h2⟩:=bM h1;cases len0 h2;rfl
theorem zF (kV doc pm:Value) (an:Option Addr) (cdv ct:Value) (us:List Value) (hl:us.length=(["record"]:List Str).length):bindArgs (PySem.W.fnOf "check_notes" "check_notes" (aO dF) (aM dF) (aA dF) .none kV doc pm an cdv ct) ⟨us,[]⟩=pure ((["record"]:List Str).zip us):=by obtain ⟨_,_,rfl,h1⟩:=bM hl;cases len0 h1;rfl
theorem Xh (kV doc pm:Value) (an:Option Addr) (cdv ct:Value) (us:List Value) (hl:us.length=(["done","touch"]:List Str).length):bindArgs (PySem.W.fnOf "has" "has" (aO uF) (aM uF) (aA uF) .none kV doc pm an cdv ct) ⟨us,[]⟩=pure ((["done","touch"]:List Str).zip us):=by obtain ⟨_,_,rfl,h1⟩:=bM hl;obtain ⟨_,_,rfl,h2⟩:=bM h1;cases len0 h2;rfl
theorem Ef (kV doc pm:Value) (an:Option Addr) (cdv ct:Value) (us:List Value) (hl:us.length=(["record"]:List Str).length):bindArgs (PySem.W.fnOf "firsts_of" "firsts_of" (aO fL) (aM fL) (aA fL) .none kV doc pm an cdv ct) ⟨us,[]⟩=pure ((["record"]:List Str).zip us):=by obtain ⟨_,_,rfl,h1⟩:=bM hl;cases len0 h1;rfl
theorem v8 (kV doc pm:Value) (an:Option Addr) (cdv ct:Value) (us:List Value) (hl:us.length=(["self"]:List Str).length):bindArgs (PySem.W.fnOf "counts" "Replay.counts" (aO cL) (aM cL) (aA cL) .none kV doc pm an cdv ct) ⟨us,[]⟩=pure ((["self"]:List Str).zip us):=by obtain ⟨_,_,rfl,h1⟩:=bM hl;cases len0 h1;rfl
theorem zM (kV doc pm:Value) (an:Option Addr) (cdv ct:Value) (us:List Value) (hl:us.length=(["self"]:List Str).length):bindArgs (PySem.W.fnOf "done" "Replay.done" (aO dN) (aM dN) (aA dN) .none kV doc pm an cdv ct) ⟨us,[]⟩=pure ((["self"]:List Str).zip us):=by obtain ⟨_,_,rfl,h1⟩:=bM hl;cases len0 h1;rfl
theorem wU (kV doc pm:Value) (an:Option Addr) (cdv ct:Value) (us:List Value) (hl:us.length=(["self"]:List Str).length):bindArgs (PySem.W.fnOf "works" "Replay.works" (aO cT) (aM cT) (aA cT) .none kV doc pm an cdv ct) ⟨us,[]⟩=pure ((["self"]:List Str).zip us):=by obtain ⟨_,_,rfl,h1⟩:=bM hl;cases len0 h1;rfl
theorem uY (kV doc pm:Value) (an:Option Addr) (cdv ct:Value) (us:List Value) (hl:us.length=(["self","hand"]:List Str).length):bindArgs (PySem.W.fnOf "is_over" "Replay.is_over" (aO cu) (aM cu) (aA cu) .none kV doc pm an cdv ct) ⟨us,[]⟩=pure ((["self","hand"]:List Str).zip us):=by obtain ⟨_,_,rfl,h1⟩:=bM hl;obtain ⟨_,_,rfl,h2⟩:=bM h1;cases len0 h2;rfl
theorem uZ (kV doc pm:Value) (an:Option Addr) (cdv ct:Value) (us:List Value) (hl:us.length=(["self","hand"]:List Str).length):bindArgs (PySem.W.fnOf "holding" "Replay.holding" (aO cA) (aM cA) (aA cA) .none kV doc pm an cdv ct) ⟨us,[]⟩=pure ((["self","hand"]:List Str).zip us):=by obtain ⟨_,_,rfl,h1⟩:=bM hl;obtain ⟨_,_,rfl,h2⟩:=bM h1;cases len0 h2;rfl
theorem zL (kV doc pm:Value) (an:Option Addr) (cdv ct:Value) (us:List Value) (hl:us.length=(["self"]:List Str).length):bindArgs (PySem.W.fnOf "free" "Replay.free" (aO dM) (aM dM) (aA dM) .none kV doc pm an cdv ct) ⟨us,[]⟩=pure ((["self"]:List Str).zip us):=by obtain ⟨_,_,rfl,h1⟩:=bM hl;cases len0 h1;rfl
theorem zJ (kV doc pm:Value) (an:Option Addr) (cdv ct:Value) (us:List Value) (hl:us.length=(["self"]:List Str).length):bindArgs (PySem.W.fnOf "left" "Replay.left" (aO dI) (aM dI) (aA dI) .none kV doc pm an cdv ct) ⟨us,[]⟩=pure ((["self"]:List Str).zip us):=by obtain ⟨_,_,rfl,h1⟩:=bM hl;cases len0 h1;rfl
theorem u0 (kV doc pm:Value) (an:Option Addr) (cdv ct:Value) (us:List Value) (hl:us.length=(["self"]:List Str).length):bindArgs (PySem.W.fnOf "__len__" "Replay.__len__" (aO cB) (aM cB) (aA cB) .none kV doc pm an cdv ct) ⟨us,[]⟩=pure ((["self"]:List Str).zip us):=by obtain ⟨_,_,rfl,h1⟩:=bM hl;cases len0 h1;rfl
theorem zH (kV doc pm:Value) (an:Option Addr) (cdv ct:Value) (us:List Value) (hl:us.length=(["self","hand"]:List Str).length):bindArgs (PySem.W.fnOf "turn" "Replay.turn" (aO dH) (aM dH) (aA dH) .none kV doc pm an cdv ct) ⟨us,[]⟩=pure ((["self","hand"]:List Str).zip us):=by obtain ⟨_,_,rfl,h1⟩:=bM hl;obtain ⟨_,_,rfl,h2⟩:=bM h1;cases len0 h2;rfl
theorem zK (kV doc pm:Value) (an:Option Addr) (cdv ct:Value) (us:List Value) (hl:us.length=(["self","works","record"]:List Str).length):bindArgs (PySem.W.fnOf "__init__" "Replay.__init__" (aO dJ) (aM dJ) (aA dJ) .none kV doc pm an cdv ct) ⟨us,[]⟩=pure ((["self","works","record"]:List Str).zip us):=by obtain ⟨_,_,rfl,h1⟩:=bM hl;obtain ⟨_,_,rfl,h2⟩:=bM h1;obtain ⟨_,_,rfl,h3⟩:=bM h2;cases len0 h3;rfl
theorem Qc (kV doc pm:Value) (an:Option Addr) (cdv ct:Value) (us:List Value) (hl:us.length=(["script"]:List Str).length):bindArgs (PySem.W.fnOf "_law_reel" "_law_reel" (aO lM) (aM lM) (aA lM) .none kV doc pm an cdv ct) ⟨us,[]⟩=pure ((["script"]:List Str).zip us):=by obtain ⟨_,_,rfl,h1⟩:=bM hl;cases len0 h1;rfl
theorem Qe (kV doc pm:Value) (an:Option Addr) (cdv ct:Value) (us:List Value) (hl:us.length=(["reel","many"]:List Str).length):bindArgs (PySem.W.fnOf "_law_draw" "_law_draw" (aO lO) (aM lO) (aA lO) .none kV doc pm an cdv ct) ⟨us,[]⟩=pure ((["reel","many"]:List Str).zip us):=by obtain ⟨_,_,rfl,h1⟩:=bM hl;obtain ⟨_,_,rfl,h2⟩:=bM h1;cases len0 h2;rfl
theorem oh (kV doc pm:Value) (an:Option Addr) (cdv ct:Value) (us:List Value) (hl:us.length=(["found","due"]:List Str).length):bindArgs (PySem.W.fnOf "_law_alike" "_law_alike" (aO jg) (aM jg) (aA jg) .none kV doc pm an cdv ct) ⟨us,[]⟩=pure ((["found","due"]:List Str).zip us):=by obtain ⟨_,_,rfl,h1⟩:=bM hl;obtain ⟨_,_,rfl,h2⟩:=bM h1;cases len0 h2;rfl
theorem Lq (kV doc pm:Value) (an:Option Addr) (cdv ct:Value) (us:List Value) (hl:us.length=(["reel","many","most"]:List Str).length):bindArgs (PySem.W.fnOf "_law_loads" "_law_loads" (aO jH) (aM jH) (aA jH) .none kV doc pm an cdv ct) ⟨us,[]⟩=pure ((["reel","many","most"]:List Str).zip us):=by obtain ⟨_,_,rfl,h1⟩:=bM hl;obtain ⟨_,_,rfl,h2⟩:=bM h1;obtain ⟨_,_,rfl,h3⟩:=bM h2;cases len0 h3;rfl
theorem Qa (kV doc pm:Value) (an:Option Addr) (cdv ct:Value) (us:List Value) (hl:us.length=(["row","lost"]:List Str).length):bindArgs (PySem.W.fnOf "_law_rows" "_law_rows" (aO lK) (aM lK) (aA lK) .none kV doc pm an cdv ct) ⟨us,[]⟩=pure ((["row","lost"]:List Str).zip us):=by obtain ⟨_,_,rfl,h1⟩:=bM hl;obtain ⟨_,_,rfl,h2⟩:=bM h1;cases len0 h2;rfl
theorem Qd (kV doc pm:Value) (an:Option Addr) (cdv ct:Value) (us:List Value) (hl:us.length=(["loads","counts","gone"]:List Str).length):bindArgs (PySem.W.fnOf "_law_free" "_law_free" (aO lN) (aM lN) (aA lN) .none kV doc pm an cdv ct) ⟨us,[]⟩=pure ((["loads","counts","gone"]:List Str).zip us):=by obtain ⟨_,_,rfl,h1⟩:=bM hl;obtain ⟨_,_,rfl,h2⟩:=bM h1;obtain ⟨_,_,rfl,h3⟩:=bM h2;cases len0 h3;rfl
theorem IW (kV doc pm:Value) (an:Option Addr) (cdv ct:Value) (us:List Value) (hl:us.length=(["reel","many"]:List Str).length):bindArgs (PySem.W.fnOf "_law_number" "_law_number" (aO iR) (aM iR) (aA iR) .none kV doc pm an cdv ct) ⟨us,[]⟩=pure ((["reel","many"]:List Str).zip us):=by obtain ⟨_,_,rfl,h1⟩:=bM hl;obtain ⟨_,_,rfl,h2⟩:=bM h1;cases len0 h2;rfl
theorem GJ (kV doc pm:Value) (an:Option Addr) (cdv ct:Value) (us:List Value) (hl:us.length=(["one","number"]:List Str).length):bindArgs (PySem.W.fnOf "_law_refusal" "_law_refusal" (aO gO) (aM gO) (aA gO) .none kV doc pm an cdv ct) ⟨us,[]⟩=pure ((["one","number"]:List Str).zip us):=by obtain ⟨_,_,rfl,h1⟩:=bM hl;obtain ⟨_,_,rfl,h2⟩:=bM h1;cases len0 h2;rfl
theorem zN (kV doc pm:Value) (an:Option Addr) (cdv ct:Value) (us:List Value) (hl:us.length=(["one","loads","numbers","gone"]:List Str).length):bindArgs (PySem.W.fnOf "_law_works_told" "_law_works_told" (aO dO) (aM dO) (aA dO) .none kV doc pm an cdv ct) ⟨us,[]⟩=pure ((["one","loads","numbers","gone"]:List Str).zip us):=by obtain ⟨_,_,rfl,h1⟩:=bM hl;obtain ⟨_,_,rfl,h2⟩:=bM h1;obtain ⟨_,_,rfl,h3⟩:=bM h2;obtain ⟨_,_,rfl,h4⟩:=bM h3;cases len0 h4;rfl
theorem P0 (kV doc pm:Value) (an:Option Addr) (cdv ct:Value) (us:List Value) (hl:us.length=(["one","loads","numbers","counts","gone","held"]:List Str).length):bindArgs (PySem.W.fnOf "_law_told" "_law_told" (aO lH) (aM lH) (aA lH) .none kV doc pm an cdv ct) ⟨us,[]⟩=pure ((["one","loads","numbers","counts","gone","held"]:List Str).zip us):=by obtain ⟨_,_,rfl,h1⟩:=bM hl;obtain ⟨_,_,rfl,h2⟩:=bM h1;obtain ⟨_,_,rfl,h3⟩:=bM h2;obtain ⟨_,_,rfl,h4⟩:=bM h3;obtain ⟨_,_,rfl,h5⟩:=bM h4;obtain ⟨_,_,rfl,h6⟩:=bM h5;cases len0 h6;rfl
theorem P_ (kV doc pm:Value) (an:Option Addr) (cdv ct:Value) (us:List Value) (hl:us.length=(["one","number","loads","numbers","counts","gone"]:List Str).length):bindArgs (PySem.W.fnOf "_law_step" "_law_step" (aO lJ) (aM lJ) (aA lJ) .none kV doc pm an cdv ct) ⟨us,[]⟩=pure ((["one","number","loads","numbers","counts","gone"]:List Str).zip us):=by obtain ⟨_,_,rfl,h1⟩:=bM hl;obtain ⟨_,_,rfl,h2⟩:=bM h1;obtain ⟨_,_,rfl,h3⟩:=bM h2;obtain ⟨_,_,rfl,h4⟩:=bM h3;obtain ⟨_,_,rfl,h5⟩:=bM h4;obtain ⟨_,_,rfl,h6⟩:=bM h5;cases len0 h6;rfl
theorem all_mk {l:PySem.W.OpenLaw} {w:World} {K:PySem.W.Frag} {h:Heap} {mg:Str->Option Value} {fa f0 f1 f2 f3 f4 f5 f6 f7 f8 f9 X7 f11 f12 Uy f14 f15 f16 f17 f18 f19 f20 f21 f22 f23 f24 f25 f26 f27 f28 f29 f30 f31 f32 Z_ f34 f35 Ux f37 f38 f39 f40 f41 f42 f43 f44 f45 aq ak au aJ aK aW bD cP bN:Addr} (X:K.In h) (G:h.Ns mainGlobals mg) (hfa:mg "law" = some (.ref fa))
 {od0 an0 od1 an1 od2 an2 od3 an3 od4 an4 od5 an5 od6 an6 od7 an7 od8 an8 od9 an9 afy akx afx akv afw aku afv akt afu aks aft akr afs akq afr akp afq ako afp akn afo akm afn akl afm akk afl akj afk aki afj akh afi akg afh akf afg ake afe akd afd akc afc akb afb aj' afa aj_ ae' aj9 ae_ aj8 ae9 aj7 ae8 aj6 ae7 aj5 ae6 aj4 ae5 aj3 ae4 aj2 ae3 aj1 ae2 aj0 ae1 ajZ ae0 abk:Option Addr} {sl0 sl1 sl2 sl3 sl4 sl5 sl6 sl7 sl8 sl9 ad' ad_ ad9 ad8 ad7 ad6 ad5 ad4 ad3 ad2 ad1 ad0 adZ adY adX adW adV adU adT adS adR adQ adP adO adN adM adL adK adJ adI adH adG adF adE adD adC:Array (Option Value)} {oc0 kV0 dc0 pm0 cd0 ct0 oc1 kV1 dc1 pm1 cd1 ct1 oc2 kV2 dc2 pm2 cd2 ct2 oc3 kV3 dc3 pm3 cd3 ct3 oc4 kV4 dc4 pm4 cd4 ct4 oc5 kV5 dc5 pm5 cd5 ct5 oc6 kV6 dc6 pm6 cd6 ct6 oc7 kV7 dc7 pm7 cd7 ct7 oc8 kV8 dc8 pm8 cd8 ct8 oc9 kV9 dc9 pm9 cd9 ct9 af9 ahF aiQ aeZ abd ajn af8 ahE aiP aeY abb ajm af7 ahD aiO aeX aa' ajl af6 ahC aiN aeW aa_ ajk af5 ahB aiM aeV aa9 ajj af4 ahA aiL aeU aa8 aji af3 ahz aiK aeT aa7 ajh af2 ahy aiJ aeS aa6 ajg af0 ahx aiI aeR aa5 ajf afZ ahw aiH aeQ aa4 aje afY ahv aiG aeP aa3 ajd afX ahu aiF aeO aa2 ajc afW aht aiE aeN aa1 ajb afV ahs aiD aeM aa0 aja afU ahr aiC aeL aaZ ai' afT ahq aiB aeK aaY ai_ afS ahp aiA aeJ aaX ai9 afR aho aiz aeI aaW ai8 afQ ahn aiy aeH aaV ai7 afP ahm aix aeG aaU ai6 afO ahl aiw aeF aaT ai5 afN ahk aiv aeE aaS ai4 afM ahj aiu aeD aaR ai3 afL ahi ait aeC aaQ ai2 afK ahh ais aeB aaP ai1 afJ ahg air aeA aaO ai0 afI ahf aiq aez aaN aiZ afH ahe aip aey aaM aiY afG ahd aio aex aaL aiX afF ahc ain aew aaK aiW afE ahb ail aev aaJ aiV afD aha aik aeu aaI aiU afC ag' aij aes aaH aiT afB ag9 aii aer aaG aiS afA ag8 aif aep aaF aiR afz Zy aaA Za Xd aaD:Value}
 (a0:PySem.W.nsIn K mainGlobals "is_whole" = some (some (.ref f0))) (l0:K.lookup f0=some ⟨oc0,od0,.func (PySem.W.fnOf "is_whole" "is_whole" (aO gK) (aM gK) (aA gK) .none kV0 dc0 pm0 an0 cd0 ct0),sl0⟩) (c0:PySem.W.codeIn K cd0 "is_whole" = true) (k0:PySem.W.keepIn K (.ref f0)=true)
 (a1:PySem.W.nsIn K mainGlobals "is_below" = some (some (.ref f1))) (l1:K.lookup f1=some ⟨oc1,od1,.func (PySem.W.fnOf "is_below" "is_below" (aO gM) (aM gM) (aA gM) .none kV1 dc1 pm1 an1 cd1 ct1),sl1⟩) (c1:PySem.W.codeIn K cd1 "is_below" = true) (k1:PySem.W.keepIn K (.ref f1)=true)
 (a2:PySem.W.findIn K (.ref aq) "__init__" = some (some (.ref f2))) (l2:K.lookup f2=some ⟨oc2,od2,.func (PySem.W.fnOf "__init__" "Hand.__init__" (aO fP) (aM fP) (aA fP) .none kV2 dc2 pm2 an2 cd2 ct2),sl2⟩) (c2:PySem.W.codeIn K cd2 "Hand.__init__" = true) (k2:PySem.W.keepIn K (.ref f2)=true) (n2:PySem.W.isFn K (.ref f2)=true)
 (a3:PySem.W.nsIn K mainGlobals "cell_of" = some (some (.ref f3))) (l3:K.lookup f3=some ⟨oc3,od3,.func (PySem.W.fnOf "cell_of" "cell_of" (aO iQ) (aM iQ) (aA iQ) .none kV3 dc3 pm3 an3 cd3 ct3),sl3⟩) (c3:PySem.W.codeIn K cd3 "cell_of" = true) (k3:PySem.W.keepIn K (.ref f3)=true)
 (a4:PySem.W.findIn K (.ref aq) "value_of" = some (some (.ref f4))) (l4:K.lookup f4=some ⟨oc4,od4,.func (PySem.W.fnOf "value_of" "Hand.value_of" (aO bY) (aM bY) (aA bY) .none kV4 dc4 pm4 an4 cd4 ct4),sl4⟩) (c4:PySem.W.codeIn K cd4 "Hand.value_of" = true) (k4:PySem.W.keepIn K (.ref f4)=true) (n4:PySem.W.isFn K (.ref f4)=true)
 (a5:PySem.W.findIn K (.ref aq) "holds" = some (some (.ref f5))) (l5:K.lookup f5=some ⟨oc5,od5,.func (PySem.W.fnOf "holds" "Hand.holds" (aO eO) (aM eO) (aA eO) .none kV5 dc5 pm5 an5 cd5 ct5),sl5⟩) (c5:PySem.W.codeIn K cd5 "Hand.holds" = true) (k5:PySem.W.keepIn K (.ref f5)=true) (n5:PySem.W.isFn K (.ref f5)=true)
 (a6:PySem.W.findIn K (.ref aq) "take" = some (some (.ref f6))) (l6:K.lookup f6=some ⟨oc6,od6,.func (PySem.W.fnOf "take" "Hand.take" (aO fO) (aM fO) (aA fO) .none kV6 dc6 pm6 an6 cd6 ct6),sl6⟩) (c6:PySem.W.codeIn K cd6 "Hand.take" = true) (k6:PySem.W.keepIn K (.ref f6)=true) (n6:PySem.W.isFn K (.ref f6)=true)
 (a7:PySem.W.findIn K (.ref aq) "do" = some (some (.ref f7))) (l7:K.lookup f7=some ⟨oc7,od7,.func (PySem.W.fnOf "do" "Hand.do" (aO iT) (aM iT) (aA iT) .none kV7 dc7 pm7 an7 cd7 ct7),sl7⟩) (c7:PySem.W.codeIn K cd7 "Hand.do" = true) (k7:PySem.W.keepIn K (.ref f7)=true) (n7:PySem.W.isFn K (.ref f7)=true)
 (a8:PySem.W.findIn K (.ref aq) "lead_on" = some (some (.ref f8))) (l8:K.lookup f8=some ⟨oc8,od8,.func (PySem.W.fnOf "lead_on" "Hand.lead_on" (aO cU) (aM cU) (aA cU) .none kV8 dc8 pm8 an8 cd8 ct8),sl8⟩) (c8:PySem.W.codeIn K cd8 "Hand.lead_on" = true) (k8:PySem.W.keepIn K (.ref f8)=true) (n8:PySem.W.isFn K (.ref f8)=true)
 (a9:PySem.W.nsIn K mainGlobals "check_numbers" = some (some (.ref f9))) (l9:K.lookup f9=some ⟨oc9,od9,.func (PySem.W.fnOf "check_numbers" "check_numbers" (aO cI) (aM cI) (aA cI) .none kV9 dc9 pm9 an9 cd9 ct9),sl9⟩) (c9:PySem.W.codeIn K cd9 "check_numbers" = true) (k9:PySem.W.keepIn K (.ref f9)=true)
 (a10:PySem.W.findIn K (.ref ak) "touch_by" = some (some (.ref X7))) (l10:K.lookup X7=some ⟨af9,afy,.func (PySem.W.fnOf "touch_by" "Works.touch_by" (aO cj) (aM cj) (aA cj) .none ahF aiQ aeZ akx abd ajn),ad'⟩) (c10:PySem.W.codeIn K abd "Works.touch_by" = true) (k10:PySem.W.keepIn K (.ref X7)=true) (n10:PySem.W.isFn K (.ref X7)=true)
 (a11:PySem.W.findIn K (.ref ak) "hand_of" = some (some (.ref f11))) (l11:K.lookup f11=some ⟨af8,afx,.func (PySem.W.fnOf "hand_of" "Works.hand_of" (aO cJ) (aM cJ) (aA cJ) .none ahE aiP aeY akv abb ajm),ad_⟩) (c11:PySem.W.codeIn K abb "Works.hand_of" = true) (k11:PySem.W.keepIn K (.ref f11)=true) (n11:PySem.W.isFn K (.ref f11)=true)
 (a12:PySem.W.findIn K (.ref ak) "turn" = some (some (.ref f12))) (l12:K.lookup f12=some ⟨af7,afw,.func (PySem.W.fnOf "turn" "Works.turn" (aO eN) (aM eN) (aA eN) .none ahD aiO aeX aku aa' ajl),ad9⟩) (c12:PySem.W.codeIn K aa' "Works.turn" = true) (k12:PySem.W.keepIn K (.ref f12)=true) (n12:PySem.W.isFn K (.ref f12)=true)
 {T13:Addr} {adi:Value} {adg:Option Addr} {ade:Nat} {Yn:Array (Option Value)} (a13:PySem.W.findIn K (.ref ak) "__init__" = some (some (.ref Uy))) (l13:K.lookup Uy=some ⟨af6,afv,.func (PySem.W.fnOf "__init__" "Works.__init__" (aO bU) (aM bU) (aA bU) (.ref T13) ahC aiN aeW akt aa_ ajk),ad8⟩) (c13:PySem.W.codeIn K aa_ "Works.__init__" = true) (k13:PySem.W.keepIn K (.ref Uy)=true) (n13:PySem.W.isFn K (.ref Uy)=true) (Yb:K.lookup T13=some ⟨adi,adg,.seq #[.none] ade,Yn⟩)
 (a14:PySem.W.findIn K (.ref ak) "boxes" = some (some (.ref f14))) (l14:K.lookup f14=some ⟨af5,afu,.func (PySem.W.fnOf "boxes" "Works.boxes" (aO dG) (aM dG) (aA dG) .none ahB aiM aeV aks aa9 ajj),ad7⟩) (c14:PySem.W.codeIn K aa9 "Works.boxes" = true) (k14:PySem.W.keepIn K (.ref f14)=true) (n14:PySem.W.isFn K (.ref f14)=true)
 (a15:PySem.W.findIn K (.ref ak) "how" = some (some (.ref f15))) (l15:K.lookup f15=some ⟨af4,aft,.func (PySem.W.fnOf "how" "Works.how" (aO fM) (aM fM) (aA fM) .none ahA aiL aeU akr aa8 aji),ad6⟩) (c15:PySem.W.codeIn K aa8 "Works.how" = true) (k15:PySem.W.keepIn K (.ref f15)=true) (n15:PySem.W.isFn K (.ref f15)=true)
 (a16:PySem.W.findIn K (.ref ak) "counts" = some (some (.ref f16))) (l16:K.lookup f16=some ⟨af3,afs,.func (PySem.W.fnOf "counts" "Works.counts" (aO cR) (aM cR) (aA cR) .none ahz aiK aeT akq aa7 ajh),ad5⟩) (c16:PySem.W.codeIn K aa7 "Works.counts" = true) (k16:PySem.W.keepIn K (.ref f16)=true) (n16:PySem.W.isFn K (.ref f16)=true)
 (a17:PySem.W.findIn K (.ref aq) "another" = some (some (.ref f17))) (l17:K.lookup f17=some ⟨af2,afr,.func (PySem.W.fnOf "another" "Hand.another" (aO cV) (aM cV) (aA cV) .none ahy aiJ aeS akp aa6 ajg),ad4⟩) (c17:PySem.W.codeIn K aa6 "Hand.another" = true) (k17:PySem.W.keepIn K (.ref f17)=true) (n17:PySem.W.isFn K (.ref f17)=true)
 (a18:PySem.W.findIn K (.ref ak) "twin" = some (some (.ref f18))) (l18:K.lookup f18=some ⟨af0,afq,.func (PySem.W.fnOf "twin" "Works.twin" (aO eH) (aM eH) (aA eH) .none ahx aiI aeR ako aa5 ajf),ad3⟩) (c18:PySem.W.codeIn K aa5 "Works.twin" = true) (k18:PySem.W.keepIn K (.ref f18)=true) (n18:PySem.W.isFn K (.ref f18)=true)
 (a19:PySem.W.nsIn K mainGlobals "is_note" = some (some (.ref f19))) (l19:K.lookup f19=some ⟨afZ,afp,.func (PySem.W.fnOf "is_note" "is_note" (aO iM) (aM iM) (aA iM) .none ahw aiH aeQ akn aa4 aje),ad2⟩) (c19:PySem.W.codeIn K aa4 "is_note" = true) (k19:PySem.W.keepIn K (.ref f19)=true)
 (a20:PySem.W.nsIn K mainGlobals "is_between" = some (some (.ref f20))) (l20:K.lookup f20=some ⟨afY,afo,.func (PySem.W.fnOf "is_between" "is_between" (aO eG) (aM eG) (aA eG) .none ahv aiG aeP akm aa3 ajd),ad1⟩) (c20:PySem.W.codeIn K aa3 "is_between" = true) (k20:PySem.W.keepIn K (.ref f20)=true)
 (a21:PySem.W.nsIn K mainGlobals "check_notes" = some (some (.ref f21))) (l21:K.lookup f21=some ⟨afX,afn,.func (PySem.W.fnOf "check_notes" "check_notes" (aO dF) (aM dF) (aA dF) .none ahu aiF aeO akl aa2 ajc),ad0⟩) (c21:PySem.W.codeIn K aa2 "check_notes" = true) (k21:PySem.W.keepIn K (.ref f21)=true)
 (a22:PySem.W.nsIn K mainGlobals "has" = some (some (.ref f22))) (l22:K.lookup f22=some ⟨afW,afm,.func (PySem.W.fnOf "has" "has" (aO uF) (aM uF) (aA uF) .none aht aiE aeN akk aa1 ajb),adZ⟩) (c22:PySem.W.codeIn K aa1 "has" = true) (k22:PySem.W.keepIn K (.ref f22)=true)
 (a23:PySem.W.nsIn K mainGlobals "firsts_of" = some (some (.ref f23))) (l23:K.lookup f23=some ⟨afV,afl,.func (PySem.W.fnOf "firsts_of" "firsts_of" (aO fL) (aM fL) (aA fL) .none ahs aiD aeM akj aa0 aja),adY⟩) (c23:PySem.W.codeIn K aa0 "firsts_of" = true) (k23:PySem.W.keepIn K (.ref f23)=true)
 (a24:PySem.W.findIn K (.ref au) "counts" = some (some (.ref f24))) (l24:K.lookup f24=some ⟨afU,afk,.func (PySem.W.fnOf "counts" "Replay.counts" (aO cL) (aM cL) (aA cL) .none ahr aiC aeL aki aaZ ai'),adX⟩) (c24:PySem.W.codeIn K aaZ "Replay.counts" = true) (k24:PySem.W.keepIn K (.ref f24)=true) (n24:PySem.W.isFn K (.ref f24)=true)
 (a25:PySem.W.findIn K (.ref au) "done" = some (some (.ref f25))) (l25:K.lookup f25=some ⟨afT,afj,.func (PySem.W.fnOf "done" "Replay.done" (aO dN) (aM dN) (aA dN) .none ahq aiB aeK akh aaY ai_),adW⟩) (c25:PySem.W.codeIn K aaY "Replay.done" = true) (k25:PySem.W.keepIn K (.ref f25)=true) (n25:PySem.W.isFn K (.ref f25)=true)
 (a26:PySem.W.findIn K (.ref au) "works" = some (some (.ref f26))) (l26:K.lookup f26=some ⟨afS,afi,.func (PySem.W.fnOf "works" "Replay.works" (aO cT) (aM cT) (aA cT) .none ahp aiA aeJ akg aaX ai9),adV⟩) (c26:PySem.W.codeIn K aaX "Replay.works" = true) (k26:PySem.W.keepIn K (.ref f26)=true) (n26:PySem.W.isFn K (.ref f26)=true)
 (a27:PySem.W.findIn K (.ref au) "is_over" = some (some (.ref f27))) (l27:K.lookup f27=some ⟨afR,afh,.func (PySem.W.fnOf "is_over" "Replay.is_over" (aO cu) (aM cu) (aA cu) .none aho aiz aeI akf aaW ai8),adU⟩) (c27:PySem.W.codeIn K aaW "Replay.is_over" = true) (k27:PySem.W.keepIn K (.ref f27)=true) (n27:PySem.W.isFn K (.ref f27)=true)
 (a28:PySem.W.findIn K (.ref au) "holding" = some (some (.ref f28))) (l28:K.lookup f28=some ⟨afQ,afg,.func (PySem.W.fnOf "holding" "Replay.holding" (aO cA) (aM cA) (aA cA) .none ahn aiy aeH ake aaV ai7),adT⟩) (c28:PySem.W.codeIn K aaV "Replay.holding" = true) (k28:PySem.W.keepIn K (.ref f28)=true) (n28:PySem.W.isFn K (.ref f28)=true)
 (a29:PySem.W.findIn K (.ref au) "free" = some (some (.ref f29))) (l29:K.lookup f29=some ⟨afP,afe,.func (PySem.W.fnOf "free" "Replay.free" (aO dM) (aM dM) (aA dM) .none ahm aix aeG akd aaU ai6),adS⟩) (c29:PySem.W.codeIn K aaU "Replay.free" = true) (k29:PySem.W.keepIn K (.ref f29)=true) (n29:PySem.W.isFn K (.ref f29)=true)
 (a30:PySem.W.findIn K (.ref au) "left" = some (some (.ref f30))) (l30:K.lookup f30=some ⟨afO,afd,.func (PySem.W.fnOf "left" "Replay.left" (aO dI) (aM dI) (aA dI) .none ahl aiw aeF akc aaT ai5),adR⟩) (c30:PySem.W.codeIn K aaT "Replay.left" = true) (k30:PySem.W.keepIn K (.ref f30)=true) (n30:PySem.W.isFn K (.ref f30)=true)
 (a31:PySem.W.findIn K (.ref au) "__len__" = some (some (.ref f31))) (l31:K.lookup f31=some ⟨afN,afc,.func (PySem.W.fnOf "__len__" "Replay.__len__" (aO cB) (aM cB) (aA cB) .none ahk aiv aeE akb aaS ai4),adQ⟩) (c31:PySem.W.codeIn K aaS "Replay.__len__" = true) (k31:PySem.W.keepIn K (.ref f31)=true) (n31:PySem.W.isFn K (.ref f31)=true)
 (a32:PySem.W.findIn K (.ref au) "turn" = some (some (.ref f32))) (l32:K.lookup f32=some ⟨afM,afb,.func (PySem.W.fnOf "turn" "Replay.turn" (aO dH) (aM dH) (aA dH) .none ahj aiu aeD aj' aaR ai3),adP⟩) (c32:PySem.W.codeIn K aaR "Replay.turn" = true) (k32:PySem.W.keepIn K (.ref f32)=true) (n32:PySem.W.isFn K (.ref f32)=true)
 (a33:PySem.W.findIn K (.ref au) "__init__" = some (some (.ref Z_))) (l33:K.lookup Z_=some ⟨afL,afa,.func (PySem.W.fnOf "__init__" "Replay.__init__" (aO dJ) (aM dJ) (aA dJ) .none ahi ait aeC aj_ aaQ ai2),adO⟩) (c33:PySem.W.codeIn K aaQ "Replay.__init__" = true) (k33:PySem.W.keepIn K (.ref Z_)=true) (n33:PySem.W.isFn K (.ref Z_)=true)
 (a34:PySem.W.nsIn K mainGlobals "_law_reel" = some (some (.ref f34))) (l34:K.lookup f34=some ⟨afK,ae',.func (PySem.W.fnOf "_law_reel" "_law_reel" (aO lM) (aM lM) (aA lM) .none ahh ais aeB aj9 aaP ai1),adN⟩) (c34:PySem.W.codeIn K aaP "_law_reel" = true) (k34:PySem.W.keepIn K (.ref f34)=true)
 (a35:PySem.W.nsIn K mainGlobals "_law_draw" = some (some (.ref f35))) (l35:K.lookup f35=some ⟨afJ,ae_,.func (PySem.W.fnOf "_law_draw" "_law_draw" (aO lO) (aM lO) (aA lO) .none ahg air aeA aj8 aaO ai0),adM⟩) (c35:PySem.W.codeIn K aaO "_law_draw" = true) (k35:PySem.W.keepIn K (.ref f35)=true)
 (a36:PySem.W.nsIn K mainGlobals "_law_alike" = some (some (.ref Ux))) (l36:K.lookup Ux=some ⟨afI,ae9,.func (PySem.W.fnOf "_law_alike" "_law_alike" (aO jg) (aM jg) (aA jg) .none ahf aiq aez aj7 aaN aiZ),adL⟩) (c36:PySem.W.codeIn K aaN "_law_alike" = true) (Uo:PySem.W.keepIn K (.ref Ux)=true)
 (a37:PySem.W.nsIn K mainGlobals "_law_loads" = some (some (.ref f37))) (l37:K.lookup f37=some ⟨afH,ae8,.func (PySem.W.fnOf "_law_loads" "_law_loads" (aO jH) (aM jH) (aA jH) .none ahe aip aey aj6 aaM aiY),adK⟩) (c37:PySem.W.codeIn K aaM "_law_loads" = true) (k37:PySem.W.keepIn K (.ref f37)=true)
 (a38:PySem.W.nsIn K mainGlobals "_law_rows" = some (some (.ref f38))) (l38:K.lookup f38=some ⟨afG,ae7,.func (PySem.W.fnOf "_law_rows" "_law_rows" (aO lK) (aM lK) (aA lK) .none ahd aio aex aj5 aaL aiX),adJ⟩) (c38:PySem.W.codeIn K aaL "_law_rows" = true) (k38:PySem.W.keepIn K (.ref f38)=true)
 (a39:PySem.W.nsIn K mainGlobals "_law_free" = some (some (.ref f39))) (l39:K.lookup f39=some ⟨afF,ae6,.func (PySem.W.fnOf "_law_free" "_law_free" (aO lN) (aM lN) (aA lN) .none ahc ain aew aj4 aaK aiW),adI⟩) (c39:PySem.W.codeIn K aaK "_law_free" = true) (k39:PySem.W.keepIn K (.ref f39)=true)
 (a40:PySem.W.nsIn K mainGlobals "_law_number" = some (some (.ref f40))) (l40:K.lookup f40=some ⟨afE,ae5,.func (PySem.W.fnOf "_law_number" "_law_number" (aO iR) (aM iR) (aA iR) .none ahb ail aev aj3 aaJ aiV),adH⟩) (c40:PySem.W.codeIn K aaJ "_law_number" = true) (k40:PySem.W.keepIn K (.ref f40)=true)
 (a41:PySem.W.nsIn K mainGlobals "_law_refusal" = some (some (.ref f41))) (l41:K.lookup f41=some ⟨afD,ae4,.func (PySem.W.fnOf "_law_refusal" "_law_refusal" (aO gO) (aM gO) (aA gO) .none aha aik aeu aj2 aaI aiU),adG⟩) (c41:PySem.W.codeIn K aaI "_law_refusal" = true) (k41:PySem.W.keepIn K (.ref f41)=true)
 (a42:PySem.W.nsIn K mainGlobals "_law_works_told" = some (some (.ref f42))) (l42:K.lookup f42=some ⟨afC,ae3,.func (PySem.W.fnOf "_law_works_told" "_law_works_told" (aO dO) (aM dO) (aA dO) .none ag' aij aes aj1 aaH aiT),adF⟩) (c42:PySem.W.codeIn K aaH "_law_works_told" = true) (k42:PySem.W.keepIn K (.ref f42)=true)
 (a43:PySem.W.nsIn K mainGlobals "_law_told" = some (some (.ref f43))) (l43:K.lookup f43=some ⟨afB,ae2,.func (PySem.W.fnOf "_law_told" "_law_told" (aO lH) (aM lH) (aA lH) .none ag9 aii aer aj0 aaG aiS),adE⟩) (c43:PySem.W.codeIn K aaG "_law_told" = true) (k43:PySem.W.keepIn K (.ref f43)=true)
 (a44:PySem.W.nsIn K mainGlobals "_law_step" = some (some (.ref f44))) (l44:K.lookup f44=some ⟨afA,ae1,.func (PySem.W.fnOf "_law_step" "_law_step" (aO lJ) (aM lJ) (aA lJ) .none ag8 aif aep ajZ aaF aiR),adD⟩) (c44:PySem.W.codeIn K aaF "_law_step" = true) (k44:PySem.W.keepIn K (.ref f44)=true)
 (a45:PySem.W.nsIn K mainGlobals "law" = some (some (.ref f45))) (l45:K.lookup f45=some ⟨afz,ae0,.func (PySem.W.fnOf "law" "law" (aO uE) (aM uE) (aA uE) .none Zy aaA Za abk Xd aaD),adC⟩) (c45:PySem.W.codeIn K Xd "law" = true) (k45:PySem.W.keepIn K (.ref f45)=true)
 (Cg:PySem.W.nsIn K mainGlobals "Hand" = some (some (.ref aq)))
 (xK:PySem.W.plainGet K aq Str.empty=true)
 (xP:PySem.W.hasDictIn K aq=true)
 (xJ:PySem.W.plainOver K aq=true)
 (xH:PySem.W.findIn K (.ref aq) "__setattr__" = some (some (.builtin "object.__setattr__")))
 (xM:PySem.W.makesIn K aq=true)
 (xO:PySem.W.keepIn K (.ref aq)=true)
 (ou:PySem.W.findIn K (.ref aq) "rows" = some none)
 (rP:PySem.W.findIn K (.ref aq) "at" = some none)
 (jW:PySem.W.findIn K (.ref aq) "in_boxes" = some none)
 (kJ:PySem.W.findIn K (.ref aq) "sayings" = some none)
 (mY:PySem.W.findIn K (.ref aq) "state" = some none)
 (pR:PySem.W.nsIn K mainGlobals "Works" = some (some (.ref ak)))
 (vh:PySem.W.plainGet K ak Str.empty=true)
 (vm:PySem.W.hasDictIn K ak=true)
 (vg:PySem.W.plainOver K ak=true)
 (vf:PySem.W.findIn K (.ref ak) "__setattr__" = some (some (.builtin "object.__setattr__")))
 (nO:PySem.W.makesIn K ak=true)
 (nP:PySem.W.keepIn K (.ref ak)=true)
 (jR:PySem.W.findIn K (.ref ak) "program" = some none)
 (jT:PySem.W.findIn K (.ref ak) "numbers" = some none)
 (lX:PySem.W.findIn K (.ref ak) "hands" = some none)
 (lW:PySem.W.findIn K (.ref ak) "turns" = some none)
 (vo:PySem.W.nsIn K mainGlobals "Replay" = some (some (.ref au)))
 (rO:PySem.W.plainGet K au Str.empty=true)
 (rT:PySem.W.hasDictIn K au=true)
 (rN:PySem.W.plainOver K au=true)
 (rM:PySem.W.findIn K (.ref au) "__setattr__" = some (some (.builtin "object.__setattr__")))
 (rQ:PySem.W.makesIn K au=true)
 (rR:PySem.W.keepIn K (.ref au)=true)
 (jU:PySem.W.findIn K (.ref au) "record" = some none)
 (jV:PySem.W.findIn K (.ref au) "firsts" = some none)
 (kI:PySem.W.findIn K (.ref au) "stage" = some none)
 (jj:PySem.W.findIn K (.ref au) "progress" = some none)
 (pW:PySem.W.nsIn K mainGlobals "NoNumber" = some (some (.ref aJ)))
 (lF:(PySem.W.clsIn K aJ).isSome=true)
 (oG:PySem.W.typeIn K (.ref aJ)=some (.type "type"))
 (oU:PySem.W.subIn K (.ref aJ) (.type "BaseException")=some true)
 (vq:PySem.W.nsIn K mainGlobals "NoHand" = some (some (.ref aK)))
 (oO:(PySem.W.clsIn K aK).isSome=true)
 (rZ:PySem.W.typeIn K (.ref aK)=some (.type "type"))
 (sV:PySem.W.subIn K (.ref aK) (.type "BaseException")=some true)
 (Ck:PySem.W.nsIn K mainGlobals "Over" = some (some (.ref aW)))
 (t_:(PySem.W.clsIn K aW).isSome=true)
 (xT:PySem.W.typeIn K (.ref aW)=some (.type "type"))
 (yg:PySem.W.subIn K (.ref aW) (.type "BaseException")=some true)
 (oW:PySem.W.nsIn K mainGlobals "NoteError" = some (some (.ref bD)))
 (nu:(PySem.W.clsIn K bD).isSome=true)
 (mZ:PySem.W.typeIn K (.ref bD)=some (.type "type"))
 (nA:PySem.W.subIn K (.ref bD) (.type "BaseException")=some true)
 (Cm:PySem.W.nsIn K mainGlobals "Held" = some (some (.ref cP)))
 (yc:(PySem.W.clsIn K cP).isSome=true)
 (xU:PySem.W.typeIn K (.ref cP)=some (.type "type"))
 (yh:PySem.W.subIn K (.ref cP) (.type "BaseException")=some true)
 (vp:PySem.W.nsIn K mainGlobals "NoNote" = some (some (.ref bN)))
 (sO:(PySem.W.clsIn K bN).isSome=true)
 (rY:PySem.W.typeIn K (.ref bN)=some (.type "type"))
 (sU:PySem.W.subIn K (.ref bN) (.type "BaseException")=some true)
 (jf:(Value.ref aK==Value.ref aJ)=false)
 (jc:PySem.W.subIn K (.ref aK) (.ref aJ)=some false)
 (jy:(Value.ref aW==Value.ref aJ)=false)
 (jt:PySem.W.subIn K (.ref aW) (.ref aJ)=some false)
 (je:(Value.ref aJ==Value.ref aK)=false)
 (i_:PySem.W.subIn K (.ref aJ) (.ref aK)=some false)
 (lA:(Value.ref aW==Value.ref aK)=false)
 (kW:PySem.W.subIn K (.ref aW) (.ref aK)=some false)
 (jz:(Value.ref aJ==Value.ref aW)=false)
 (ju:PySem.W.subIn K (.ref aJ) (.ref aW)=some false)
 (lB:(Value.ref aK==Value.ref aW)=false)
 (kY:PySem.W.subIn K (.ref aK) (.ref aW)=some false)
 (gJ:(Value.ref aJ==Value.ref bD)=false)
 (gH:PySem.W.subIn K (.ref aJ) (.ref bD)=some true)
 (iC:(Value.ref aK==Value.ref bD)=false)
 (iB:PySem.W.subIn K (.ref aK) (.ref bD)=some true)
 (jm:(Value.ref aW==Value.ref bD)=false)
 (jk:PySem.W.subIn K (.ref aW) (.ref bD)=some true)
 (jA:(Value.ref aJ==Value.ref cP)=false)
 (jw:PySem.W.subIn K (.ref aJ) (.ref cP)=some false)
 (lC:(Value.ref aK==Value.ref cP)=false)
 (kZ:PySem.W.subIn K (.ref aK) (.ref cP)=some false)
 (m_:(Value.ref aW==Value.ref cP)=false)
 (m5:PySem.W.subIn K (.ref aW) (.ref cP)=some false)
 (jd:(Value.ref aJ==Value.ref bN)=false)
 (iZ:PySem.W.subIn K (.ref aJ) (.ref bN)=some false)
 (jB:(Value.ref aK==Value.ref bN)=false)
 (jx:PySem.W.subIn K (.ref aK) (.ref bN)=some false)
 (k_:(Value.ref aW==Value.ref bN)=false)
 (kO:PySem.W.subIn K (.ref aW) (.ref bN)=some false)
 (Yk:PySem.W.specialIn K (.builtin "object.__class__") "__get__" = some (some (.builtin "getset_descriptor.__get__")))
 (Yj:PySem.W.takesIn K (.builtin "object.__class__")=some true)
 (oM:PySem.W.findIn K (.ref aJ) "__getattribute__" = some (some (.builtin "BaseException.__getattribute__")))
 (oK:PySem.W.findIn K (.ref aJ) "__getattr__" = some none)
 (oJ:PySem.W.mroIn K aJ (.type "BaseException")=some true)
 (oR:PySem.W.findIn K (.ref aJ) "__class__" = some (some (.builtin "object.__class__")))
 (oH:PySem.W.mroIn K aJ (.type "object")=some true)
 (oN:PySem.W.excIn K aJ [.type "ValueError",.type "Exception",.type "BaseException",.type "object"] "ValueError.__new__" = true)
 (oF:PySem.W.subIn K (.ref aJ) (.type "ValueError")=some true)
 (sI:PySem.W.findIn K (.ref aK) "__getattribute__" = some (some (.builtin "BaseException.__getattribute__")))
 (sG:PySem.W.findIn K (.ref aK) "__getattr__" = some none)
 (sE:PySem.W.mroIn K aK (.type "BaseException")=some true)
 (sS:PySem.W.findIn K (.ref aK) "__class__" = some (some (.builtin "object.__class__")))
 (su:PySem.W.mroIn K aK (.type "object")=some true)
 (sJ:PySem.W.excIn K aK [.type "ValueError",.type "Exception",.type "BaseException",.type "object"] "ValueError.__new__" = true)
 (rW:PySem.W.subIn K (.ref aK) (.type "ValueError")=some true)
 (xY:PySem.W.findIn K (.ref aW) "__getattribute__" = some (some (.builtin "BaseException.__getattribute__")))
 (xX:PySem.W.findIn K (.ref aW) "__getattr__" = some none)
 (xW:PySem.W.mroIn K aW (.type "BaseException")=some true)
 (yd:PySem.W.findIn K (.ref aW) "__class__" = some (some (.builtin "object.__class__")))
 (xV:PySem.W.mroIn K aW (.type "object")=some true)
 (xZ:PySem.W.excIn K aW [.type "ValueError",.type "Exception",.type "BaseException",.type "object"] "ValueError.__new__" = true)
 (xR:PySem.W.subIn K (.ref aW) (.type "ValueError")=some true)
 {O1:Tok} (DQ:PySem.W.nsIn K mainGlobals "BOXES" = some (some (.str "abcdefgh" O1)))
 {OJ:Tok} (DP:PySem.W.nsIn K mainGlobals "ROUND" = some (some (.int 1000 OJ)))
 {tQ:Tok} (jL:PySem.W.nsIn K mainGlobals "MOST_UNTOUCHING" = some (some (.int 60 tQ)))
 (oE:PySem.W.nsIn K mainGlobals "ValueError" = some none) (Ml:PySem.W.nsIn K mainGlobals "all" = some none) (G4:PySem.W.nsIn K mainGlobals "bool" = some none) (pU:PySem.W.nsIn K mainGlobals "enumerate" = some none) (Mj:PySem.W.nsIn K mainGlobals "int" = some none) (oA:PySem.W.nsIn K mainGlobals "isinstance" = some none) (Mi:PySem.W.nsIn K mainGlobals "len" = some none) (G3:PySem.W.nsIn K mainGlobals "list" = some none) (Mh:PySem.W.nsIn K mainGlobals "max" = some none) (Mg:PySem.W.nsIn K mainGlobals "min" = some none) (Cj:PySem.W.nsIn K mainGlobals "range" = some none) (xQ:PySem.W.nsIn K mainGlobals "sorted" = some none) (Mf:PySem.W.nsIn K mainGlobals "str" = some none) (Ma:PySem.W.nsIn K mainGlobals "sum" = some none) (Ci:PySem.W.nsIn K mainGlobals "tuple" = some none) (L_:PySem.W.nsIn K mainGlobals "zip" = some none):
 ∃fd:FuncData,(∀(s:Shared) (v:Value),BindsTo s fd ⟨[v],[]⟩ [("script",v)]) /\ ∀base:Heap,K.In base->base.Ns mainGlobals mg->bW l.prog w K mg base lE 13 fa fd ["script"] (Jl K):=by
 have e:=hfa.symm.trans (PySem.W.mg_of X G a45);cases e;have Bt:rD mg:=⟨PySem.W.mg_none_of X G oE,PySem.W.mg_none_of X G Ml,PySem.W.mg_none_of X G G4,PySem.W.mg_none_of X G pU,PySem.W.mg_none_of X G Mj,PySem.W.mg_none_of X G oA,PySem.W.mg_none_of X G Mi,PySem.W.mg_none_of X G G3,PySem.W.mg_none_of X G Mh,PySem.W.mg_none_of X G Mg,PySem.W.mg_none_of X G Cj,PySem.W.mg_none_of X G xQ,PySem.W.mg_none_of X G Mf,PySem.W.mg_none_of X G Ma,PySem.W.mg_none_of X G Ci,PySem.W.mg_none_of X G L_⟩;have aP:iz K aq:=⟨⟨xK,xP,xJ,xH⟩,ou,rP,jW,kJ,mY⟩;have aQ:eZ K ak:=⟨⟨vh,vm,vg,vf⟩,jR,jT,lX,lW⟩;have aN:dD K au:=⟨⟨rO,rT,rN,rM⟩,jU,jV,kI,jj⟩;have iW:Gv mg "BOXES" (.str "abcdefgh"):=⟨_,PySem.W.mg_of X G DQ,⟨_,rfl⟩⟩;have jO:Gv mg "ROUND" (.int 1000):=⟨_,PySem.W.mg_of X G DP,⟨_,rfl⟩⟩;have iw:Gv mg "MOST_UNTOUCHING" (.int 60):=⟨_,PySem.W.mg_of X G jL,⟨_,rfl⟩⟩;have d8:Xr K mg aJ "NoNumber" :=⟨PySem.W.mg_of X G pW,⟨lF,oG,oU⟩,⟨oM,oK,oJ,lF,oR,Yk,Yj,oH⟩,oN,oF⟩;have cH:Xr K mg aK "NoHand" :=⟨PySem.W.mg_of X G vq,⟨oO,rZ,sV⟩,⟨sI,sG,sE,oO,sS,Yk,Yj,su⟩,sJ,rW⟩;have gQ:Xr K mg aW "Over" :=⟨PySem.W.mg_of X G Ck,⟨t_,xT,yg⟩,⟨xY,xX,xW,t_,yd,Yk,Yj,xV⟩,xZ,xR⟩;have gG:Xo K mg aJ bD "NoteError" true:=⟨PySem.W.mg_of X G oW,⟨nu,mZ,nA⟩,⟨gJ,gH⟩⟩;have pF:Xo K mg aJ cP "Held" false:=⟨PySem.W.mg_of X G Cm,⟨yc,xU,yh⟩,⟨jA,jw⟩⟩;have jN:Xo K mg aJ bN "NoNote" false:=⟨PySem.W.mg_of X G vp,⟨sO,rY,sU⟩,⟨jd,iZ⟩⟩;have dX:bV K aJ aK false:=⟨je,i_⟩;have fJ:bV K aJ aW false:=⟨jz,ju⟩;have dY:bV K aK aJ false:=⟨jf,jc⟩;have fY:bV K aK aW false:=⟨lB,kY⟩;have cM:bV K aK bD true:=⟨iC,iB⟩;have fZ:bV K aK cP false:=⟨lC,kZ⟩;have d9:bV K aK bN false:=⟨jB,jx⟩;have fH:bV K aW aJ false:=⟨jy,jt⟩;have fX:bV K aW aK false:=⟨lA,kW⟩;have dB:bV K aW bD true:=⟨jm,jk⟩;have iI:bV K aW cP false:=⟨m_,m5⟩;have fW:bV K aW bN false:=⟨k_,kO⟩;have F0:=bQ (st:=gK) l0 c0 k0;have F1:=bQ (st:=gM) l1 c1 k1;have F2:=bQ (st:=fP) l2 c2 k2;have F3:=bQ (st:=iQ) l3 c3 k3;have F4:=bQ (st:=bY) l4 c4 k4;have F5:=bQ (st:=eO) l5 c5 k5;have F6:=bQ (st:=fO) l6 c6 k6;have F7:=bQ (st:=iT) l7 c7 k7;have F8:=bQ (st:=cU) l8 c8 k8;have F9:=bQ (st:=cI) l9 c9 k9;have F10:=bQ (st:=cj) l10 c10 k10;have F11:=bQ (st:=cJ) l11 c11 k11;have F12:=bQ (st:=eN) l12 c12 k12;have F13:Ti K "__init__" "Works.__init__" bU [.none] Uy _:=⟨⟨_,_,_,_,_,_,_,_,_,_,_,_,_,_,rfl,l13,c13,Yb⟩,k13⟩;have F14:=bQ (st:=dG) l14 c14 k14;have F15:=bQ (st:=fM) l15 c15 k15;have F16:=bQ (st:=cR) l16 c16 k16;have F17:=bQ (st:=cV) l17 c17 k17;have F18:=bQ (st:=eH) l18 c18 k18;have F19:=bQ (st:=iM) l19 c19 k19;have F20:=bQ (st:=eG) l20 c20 k20;have F21:=bQ (st:=dF) l21 c21 k21;have F22:=bQ (st:=uF) l22 c22 k22;have F23:=bQ (st:=fL) l23 c23 k23;have F24:=bQ (st:=cL) l24 c24 k24;have F25:=bQ (st:=dN) l25 c25 k25;have F26:=bQ (st:=cT) l26 c26 k26;have F27:=bQ (st:=cu) l27 c27 k27;have F28:=bQ (st:=cA) l28 c28 k28;have F29:=bQ (st:=dM) l29 c29 k29;have F30:=bQ (st:=dI) l30 c30 k30;have F31:=bQ (st:=cB) l31 c31 k31;have F32:=bQ (st:=dH) l32 c32 k32;have F33:=bQ (st:=dJ) l33 c33 k33;have F34:=bQ (st:=lM) l34 c34 k34;have F35:=bQ (st:=lO) l35 c35 k35;have F36:=bQ (st:=jg) l36 c36 Uo;have F37:=bQ (st:=jH) l37 c37 k37;have F38:=bQ (st:=lK) l38 c38 k38;have F39:=bQ (st:=lN) l39 c39 k39;have F40:=bQ (st:=iR) l40 c40 k40;have F41:=bQ (st:=gO) l41 c41 k41;have F42:=bQ (st:=dO) l42 c42 k42;have F43:=bQ (st:=lH) l43 c43 k43;have F44:=bQ (st:=lJ) l44 c44 k44;have F45:=bQ (st:=uE) l45 c45 k45;refine ⟨PySem.W.fnOf "law" "law" (aO uE) (aM uE) (aA uE) .none Zy aaA Za abk Xd aaD,fun s v=> .of_eq rfl,fun base _ _=> ?_⟩;have A0:FnAt l.prog w K mg base 1 "is_whole" ["value"] (QF K):=⟨f0,_,Ft F0 Bt,PySem.W.mg_of X G a0,k0,F0.binds (ps:=["value"]) GD⟩;have A1:FnAt l.prog w K mg base 2 "is_below" ["value","count"] (qP K):=⟨f1,_,Fw F1 A0,PySem.W.mg_of X G a1,k1,F1.binds (ps:=["value","count"]) GF⟩;have A2:qH l.prog w K mg base 1 aq "Hand" ["self","rows"] [] (xq aq K):=⟨f2,_,[],N_ F2 aP iW,⟨xM,a2,n2,xO⟩,PySem.W.mg_of X G Cg,F2.binds (ps:=["self","rows"]) Ej,.nil⟩;have A3:FnAt l.prog w K mg base 1 "cell_of" ["row"] (uq K):=⟨f3,_,Kv F3,PySem.W.mg_of X G a3,k3,F3.binds (ps:=["row"]) IV⟩;have akD:MethAt l.prog w K mg base 1 aq "value_of" ["self","part"] (ug aq 0 K):=⟨f4,_,Rh F4,⟨a4,n4,k4⟩,F4.binds (ps:=["self","part"]) j5⟩;have akC:MethAt l.prog w K mg base 2 aq "value_of" ["self","part"] (ug aq 1 K):=⟨f4,_,Jw (n:=0) F4 akD aP iW jO,⟨a4,n4,k4⟩,F4.binds (ps:=["self","part"]) j5⟩;have A4:MethAt l.prog w K mg base 3 aq "value_of" ["self","part"] (ug aq 2 K):=⟨f4,_,Jw (n:=1) F4 akC aP iW jO,⟨a4,n4,k4⟩,F4.binds (ps:=["self","part"]) j5⟩;have A5:MethAt l.prog w K mg base 4 aq "holds" ["self","row"] (CK aq K):=⟨f5,_,N8 F5 A4 aP,⟨a5,n5,k5⟩,F5.binds (ps:=["self","row"]) Am⟩;have A6:MethAt l.prog w K mg base 1 aq "take" ["self","box","number"] (Cu aq K):=⟨f6,_,Rk F6 aP iW,⟨a6,n6,k6⟩,F6.binds (ps:=["self","box","number"]) Ei⟩;have A7:MethAt l.prog w K mg base 5 aq "do" ["self","row"] (Vs aq K):=⟨f7,_,Zg F7 A4 A6 A5 aP,⟨a7,n7,k7⟩,F7.binds (ps:=["self","row"]) I_⟩;have A8:MethAt l.prog w K mg base 6 aq "lead_on" ["self"] (CJ aq K):=⟨f8,_,Ro F8 A3 A7 aP iw Bt,⟨a8,n8,k8⟩,F8.binds (ps:=["self"]) wV⟩;have A9:Qi l.prog w K mg base 3 "check_numbers" ["cells","count"] (sX aJ K):=⟨f9,_,Fx F9 A1 jO Bt d8,PySem.W.mg_of X G a9,k9,F9.binds (ps:=["cells","count"]) vZ⟩;have A10:MethAt l.prog w K mg base 4 ak "touch_by" ["self","one"] (vC ak aq K):=⟨X7,_,HJ F10 A3 A4 A6 aQ aP,⟨a10,n10,k10⟩,F10.binds (ps:=["self","one"]) uX⟩;have A11:iV l.prog w K mg base 3 ak "hand_of" ["self","hand"] (p7 ak aq aK K):=⟨f11,_,Kq F11 A1 aQ Bt cH,⟨a11,n11,k11⟩,F11.binds (ps:=["self","hand"]) v7⟩;have A12:iV l.prog w K mg base 7 ak "turn" ["self","hand"] (yu ak aq aK aW K):=⟨f12,_,Rj F12 A11 A10 A8 aQ aP gQ,⟨a12,n12,k12⟩,F12.binds (ps:=["self","hand"]) Al⟩;have G13:=NP F13 aQ aP A9 A2 A8 Bt;have A13:u_ l.prog w K mg base 7 ak "Works" ["self","program","cells"] [] (qO ak aq aJ K):=⟨Uy,_,_,G13,⟨nO,a13,n13,nP⟩,PySem.W.mg_of X G pR,zQ Yb,.nil⟩;have amg:u_ l.prog w K mg base 7 ak "Works" ["self","program","cells"] [.non] (qO ak aq aJ K):=⟨Uy,_,_,G13,⟨nO,a13,n13,nP⟩,PySem.W.mg_of X G pR,zP Yb,.cons rfl .nil⟩;have amf:SX l.prog w K mg base 7 ak "Works" ["self","program","cells"] "cells" (qO ak aq aJ K):=⟨Uy,_,G13,⟨nO,a13,n13,nP⟩,PySem.W.mg_of X G pR,zO Yb⟩;have A14:iV l.prog w K mg base 4 ak "boxes" ["self","hand"] (G_ bH.bs ak aq aK K):=⟨f14,_,Ob F14 A11 aQ aP Bt,⟨a14,n14,k14⟩,F14.binds (ps:=["self","hand"]) zG⟩;have A15:iV l.prog w K mg base 4 ak "how" ["self","hand"] (Jm ak aq aK K):=⟨f15,_,Wd F15 A11 aQ aP,⟨a15,n15,k15⟩,F15.binds (ps:=["self","hand"]) Eh⟩;have A16:MethAt l.prog w K mg base 1 ak "counts" ["self"] (p8 ak aq K):=⟨f16,_,Ku F16 aQ Bt,⟨a16,n16,k16⟩,F16.binds (ps:=["self"]) wR⟩;have A17:MethAt l.prog w K mg base 3 aq "another" ["self"] (vH aq K):=⟨f17,_,HX F17 aP A2 Bt,⟨a17,n17,k17⟩,F17.binds (ps:=["self"]) wW⟩;have A18:MethAt l.prog w K mg base 9 ak "twin" ["self"] (Cr ak aq K):=⟨f18,_,Ri F18 aQ aP A13.calm A17 Bt,⟨a18,n18,k18⟩,F18.binds (ps:=["self"]) Ak⟩;have A19:FnAt l.prog w K mg base 2 "is_note" ["value"] (yE K):=⟨f19,_,HS F19 A0 Bt,PySem.W.mg_of X G a19,k19,F19.binds (ps:=["value"]) IK⟩;have A20:FnAt l.prog w K mg base 3 "is_between" ["counts","note"] (vG K):=⟨f20,_,Ae F20 A1 A19 Bt,PySem.W.mg_of X G a20,k20,F20.binds (ps:=["counts","note"]) Aj⟩;have A21:FnAt l.prog w K mg base 4 "check_notes" ["record"] (yG K):=⟨f21,_,yV F21 A20 Bt,PySem.W.mg_of X G a21,k21,F21.binds (ps:=["record"]) zF⟩;have A22:FnAt l.prog w K mg base 1 "has" ["done","touch"] (M7 K):=⟨f22,_,Wf F22,PySem.W.mg_of X G a22,k22,F22.binds (ps:=["done","touch"]) Xh⟩;have A23:FnAt l.prog w K mg base 1 "firsts_of" ["record"] (yF K):=⟨f23,_,Ks F23,PySem.W.mg_of X G a23,k23,F23.binds (ps:=["record"]) Ef⟩;have A24:MethAt l.prog w K mg base 1 au "counts" ["self"] (vD au ak aq K):=⟨f24,_,HN F24 aN Bt,⟨a24,n24,k24⟩,F24.binds (ps:=["self"]) v8⟩;have A25:MethAt l.prog w K mg base 1 au "done" ["self"] (Cz au ak aq K):=⟨f25,_,N6 F25 aN Bt,⟨a25,n25,k25⟩,F25.binds (ps:=["self"]) zM⟩;have A26:MethAt l.prog w K mg base 10 au "works" ["self"] (yD au ak aq K):=⟨f26,_,Kl F26 aN aQ A18 Bt,⟨a26,n26,k26⟩,F26.binds (ps:=["self"]) wU⟩;have A27:MethAt l.prog w K mg base 5 au "is_over" ["self","hand"] (uh au ak aq K):=⟨f27,_,Ko F27 aN aQ A15.calm Bt,⟨a27,n27,k27⟩,F27.binds (ps:=["self","hand"]) uY⟩;have A28:MethAt l.prog w K mg base 2 au "holding" ["self","hand"] (CP au ak aq K):=⟨f28,_,HW F28 aN A22 Bt,⟨a28,n28,k28⟩,F28.binds (ps:=["self","hand"]) uZ⟩;have A29:MethAt l.prog w K mg base 6 au "free" ["self"] (Cy au ak aq K):=⟨f29,_,NZ F29 aN A27 A28 Bt,⟨a29,n29,k29⟩,F29.binds (ps:=["self"]) zL⟩;have A30:MethAt l.prog w K mg base 1 au "left" ["self"] (Hi au ak aq K):=⟨f30,_,Rn F30 aN Bt,⟨a30,n30,k30⟩,F30.binds (ps:=["self"]) zJ⟩;have A31:MethAt l.prog w K mg base 2 au "__len__" ["self"] (Hh au ak aq K):=⟨f31,_,Rm F31 aN A30 Bt,⟨a31,n31,k31⟩,F31.binds (ps:=["self"]) u0⟩;have A32:iV l.prog w K mg base 8 au "turn" ["self","hand"] (xg au ak aq aK aW K):=⟨f32,_,NQ F32 d8 cH gQ gG pF jN dX fJ dY fY cM fZ d9 fH fX dB iI fW aN aQ A1 A27 A28 A12 Bt,⟨a32,n32,k32⟩,F32.binds (ps:=["self","hand"]) zH⟩;have A33:u_ l.prog w K mg base 10 au "Replay" ["self","works","record"] [] (Cw au ak aq aK K):=⟨Z_,_,[],NT F33 d8 cH gQ gG pF jN dX fJ dY fY cM fZ d9 fH fX dB iI fW aN aQ A21 A16 A23 A18 Bt,⟨rQ,a33,n33,rR⟩,PySem.W.mg_of X G vo,F33.binds (ps:=["self","works","record"]) zK,.nil⟩;have A34:FnAt l.prog w K mg base 1 "_law_reel" ["script"] (Cv K):=⟨f34,_,N5 F34 Bt,PySem.W.mg_of X G a34,k34,F34.binds (ps:=["script"]) Qc⟩;have A35:FnAt l.prog w K mg base 1 "_law_draw" ["reel","many"] (uo K):=⟨f35,_,Oa F35 Bt,PySem.W.mg_of X G a35,k35,F35.binds (ps:=["reel","many"]) Qe⟩;have abt:FnAt l.prog w K mg base 1 "_law_alike" ["found","due"] (jE 0 K):=⟨Ux,_,Kw F36,PySem.W.mg_of X G a36,Uo,F36.binds (ps:=["found","due"]) oh⟩;have abr:FnAt l.prog w K mg base 2 "_law_alike" ["found","due"] (jE 1 K):=⟨Ux,_,qU (n:=0) F36 abt Bt,PySem.W.mg_of X G a36,Uo,F36.binds (ps:=["found","due"]) oh⟩;have abq:FnAt l.prog w K mg base 3 "_law_alike" ["found","due"] (jE 2 K):=⟨Ux,_,qU (n:=1) F36 abr Bt,PySem.W.mg_of X G a36,Uo,F36.binds (ps:=["found","due"]) oh⟩;have abp:FnAt l.prog w K mg base 4 "_law_alike" ["found","due"] (jE 3 K):=⟨Ux,_,qU (n:=2) F36 abq Bt,PySem.W.mg_of X G a36,Uo,F36.binds (ps:=["found","due"]) oh⟩;have A36:FnAt l.prog w K mg base 5 "_law_alike" ["found","due"] (jE 4 K):=⟨Ux,_,qU (n:=3) F36 abp Bt,PySem.W.mg_of X G a36,Uo,F36.binds (ps:=["found","due"]) oh⟩;have A37:FnAt l.prog w K mg base 2 "_law_loads" ["reel","many","most"] (CG K):=⟨f37,_,N7 F37 A35 Bt,PySem.W.mg_of X G a37,k37,F37.binds (ps:=["reel","many","most"]) Lq⟩;have A38:FnAt l.prog w K mg base 1 "_law_rows" ["row","lost"] (yC K):=⟨f38,_,Km F38 Bt,PySem.W.mg_of X G a38,k38,F38.binds (ps:=["row","lost"]) Qa⟩;have A39:FnAt l.prog w K mg base 1 "_law_free" ["loads","counts","gone"] (um K):=⟨f39,_,Kr F39 Bt,PySem.W.mg_of X G a39,k39,F39.binds (ps:=["loads","counts","gone"]) Qd⟩;have A40:FnAt l.prog w K mg base 2 "_law_number" ["reel","many"] (sW K):=⟨f40,_,Fq F40 A35,PySem.W.mg_of X G a40,k40,F40.binds (ps:=["reel","many"]) IW⟩;have A41:FnAt l.prog w K mg base 9 "_law_refusal" ["one","number"] (pZ au ak aq K):=⟨f41,_,Dp F41 d8 cH gQ gG pF jN dX fJ dY fY cM fZ d9 fH fX dB iI fW aN A32 Bt,PySem.W.mg_of X G a41,k41,F41.binds (ps:=["one","number"]) GJ⟩;have A42:FnAt l.prog w K mg base 11 "_law_works_told" ["one","loads","numbers","gone"] (G9 au ak aq K):=⟨f42,_,Rg F42 aN aQ A26 A36 A16 A14.calm A15.calm A12.calm Bt,PySem.W.mg_of X G a42,k42,F42.binds (ps:=["one","loads","numbers","gone"]) zN⟩;have A43:FnAt l.prog w K mg base 12 "_law_told" ["one","loads","numbers","counts","gone","held"] (yw au ak aq K):=⟨f43,_,Kg F43 aN A39 A29 A24 A25 A31 A36 A42 Bt,PySem.W.mg_of X G a43,k43,F43.binds (ps:=["one","loads","numbers","counts","gone","held"]) P0⟩;have A44:FnAt l.prog w K mg base 10 "_law_step" ["one","number","loads","numbers","counts","gone"] (yx au ak aq K):=⟨f44,_,Kh F44 aN A41 A39 A32.calm A36 Bt,PySem.W.mg_of X G a44,k44,F44.binds (ps:=["one","number","loads","numbers","counts","gone"]) P_⟩;exact Wc F45 aQ A34 A35 A37 A38 A13.calm A33.calm A43 A40 A44 A16 Bt
theorem walk {l:PySem.W.OpenLaw} {q:Program} {loose:List Str} {XP:(Str->Option Value)->Heap->Prop} {YP:World->Heap->Prop} {d:DefRec} {K:Params->PySem.W.Frag} (hn:l.most=some 63) (hdf:d.params.defaults=[])
 (hY:∀(w:World) (h:Heap),YP w h->(K w.params).In h)
 (F:∀(w:World) (mg:Str->Option Value) (fa:Addr) (h:Heap),(K w.params).In h->h.Ns mainGlobals mg->mg d.name=some (.ref fa) ->
   ∃fd:FuncData,(∀(s:Shared) (u:Value),BindsTo s fd ⟨[u],[]⟩ [("script",u)]) /\ ∀base:Heap,(K w.params).In base->base.Ns mainGlobals mg->bW l.prog w (K w.params) mg base lE 13 fa fd ["script"] (Jl (K w.params))):
 PySem.W.WalkO q loose XP YP l.row.toRowW d [] (fun f vs=>PySem.call f vs):=
 L2.Qs (n:=63) (k:=13) (x:= "script") (CX:=fun _=>lE) (sp:=fun w=>Jl (K w.params)) hn (by decide) hdf ⟨rfl,by decide,by decide⟩ hY F (fun _ _ a ns hl _ hS=>⟨a,ns,rfl,hS,hl,fun _=>rfl⟩) fun _ _ _ _ _ z=>z
end Prf
namespace PySem.W.Fast
def tw5050158906654517159:=()
def tw14739973728991181038:=()
def tw8053350150084234462:=()
def tw6656351900582993617:=()
def tw17164357462907023234:=()
def tw130778903167798630:=()
def tw1516615938825666422:=()
def tw17311413359973123197:=()
def tw15917577744485905164:=()
def tw15064327133731427449:=()
def tw13071552329471963456:=()
def tw15276332366575588456:=()
def tw17495963418501205529:=()
def tw779764261203460462:=()
def tw5381863242535044325:=()
def tw897544906072520119:=()
def tw3782390513985547915:=()
def tw6181882700010469564:=()
def tw7613279343618236355:=()
def tw479610864827163447:=()
def tw9744929406829311977:=()
def tw11808083855713052568:=()
def tw3313836401790653049:=()
def tw3133043840849970802:=()
def tw194586620736231425:=()
def tw9311976078871216375:=()
def tw2101014810454776061:=()
def tw1602468896285624566:=()
def tw14510891660117812922:=()
def tw14582994313485482802:=()
def tw10811449205033910158:=()
def tw644233798701718817:=()
def tw6663088206239912411:=()
def tw9448193942266447206:=()
def tw9734293715592497779:=()
def tw2200165078522080975:=()
def tw1998122308470036550:=()
def tw11852137562205832383:=()
def tw9019207183372884345:=()
def tw3579215034607113647:=()
def tw13010979967128140490:=()
def tw15451185164736823965:=()
def tw5029860140461043600:=()
def tw8319980289208414565:=()
def tw16601618537270305462:=()
def tw12964088291199284240:=()
def tw12557112613585881697:=()
def tw12745767204603010612:=()
def tw5296117836139365033:=()
def tw3070885916851083208:=()
def tw8835337539028723878:=()
def tw15338240519321621401:=()
def tw16729009446666180920:=()
def tw11586834029531168156:=()
def tw2650367938559008591:=()
def tw3659031704184219919:=()
def tw776459973509493028:=()
def tw13768135550487822463:=()
def tw6836460319050905566:=()
def tw11230465832341437136:=()
def tw3187855989417264265:=()
def tw14981842988195853232:=()
def tw6903581228240862572:=()
def tw11694315572082237261:=()
def tw10276082890334777429:=()
def tw75053544826902604:=()
def tw5345466740850656505:=()
def tw4078080622136497205:=()
def tw5955108669630304298:=()
def tw12487069029071418171:=()
def tw13957451546125502262:=()
def tw8040598137715712314:=()
def tw529049084179780336:=()
def tw12832289504993740804:=()
def tw18355469058541626248:=()
def tw2834616273127381940:=()
def tw15683408126117311879:=()
def tw6456669588830446310:=()
def tw3161819570872118097:=()
def tw4717811454646597091:=()
def tw16506054135638056569:=()
def tw10038509626137727004:=()
def tw15642941228113644087:=()
def tw12101545674392504149:=()
def tw9055120169901672623:=()
def tw9193052600727137836:=()
def tw16815837048584025858:=()
def tw7209922993994975600:=()
def tw602194492247999850:=()
def tw3554611910532546727:=()
def tw8123566939018328761:=()
def tw13280683004030872619:=()
def tw4724977686674755405:=()
def tw6230493798377451731:=()
def tw8032513683164870352:=()
def tw4273448769374091192:=()
def tw1486507054760391490:=()
def tw10063794000253890527:=()
def tw331227625560369125:=()
def tw7306379737665765678:=()
def tw6240530426050655630:=()
def tw5297101267281579373:=()
def tw5925218620111647111:=()
def tw9258720381667647719:=()
def tw1664204922551215669:=()
def tw6641248479669695926:=()
def tw15143507991295672875:=()
def tw4147293426343746519:=()
def tw8314063062037033292:=()
def tw3981511506491509409:=()
def tw10806116885412020184:=()
def tw10587096990638657674:=()
def tw10870816749955134947:=()
def tw16726651158353307722:=()
def tw15498015356803379562:=()
def tw12073784098990448070:=()
def tw9682404039024635149:=()
def tw17357176392898954380:=()
def tw17013558064874539416:=()
def tw8385710130954153428:=()
def tw2292946324366977036:=()
def tw2160573475300614877:=()
def tw10757420174786910795:=()
def tw2655548165796275680:=()
def tw762417596136553433:=()
def tw17172721264795364051:=()
def tw10411180790442189807:=()
def tw2477530152962356688:=()
def tw9417549471154757005:=()
def tw2403347107513162618:=()
def tw6800030054801394871:=()
def tw12346555967848699325:=()
def tw17910132863065559742:=()
def tw9432255845607823301:=()
def tw11324620767451290312:=()
def tw8334148230276602603:=()
def tw6286378433838347156:=()
def tw7237869931049395280:=()
def tw9252368565859606964:=()
def tw1616874937914934437:=()
def tw5943554681653567201:=()
def tw3175024714110627787:=()
def tw5782671311461759943:=()
def tw13327146385546506474:=()
def tw12768836617376692106:=()
def tw6057315876346240771:=()
def tw16321450424423786873:=()
def tw6573117718021375018:=()
def tw4425536089408406047:=()
def tw16473405861682141279:=()
def tw4309276499656044635:=()
def tw15219759017833265936:=()
def tw4539875012221857223:=()
def tw11090917075414092025:=()
def tw12215445574602325319:=()
def tw6299380321689241215:=()
def tw3718847796229107727:=()
def tw952431045463565415:=()
def tw4785542378578403003:=()
def tw3075814285796925490:=()
def tw3802994152393378922:=()
def tw4133065374151311995:=()
def tw4184096619049560803:=()
def tw17249905834069036897:=()
def tw6286225714047012835:=()
def tw16633848213442615590:=()
def tw15810008836446858043:=()
def tw15632094037073862808:=()
def tw5066067075725418032:=()
def tw375339977306226994:=()
def tw10470940203047706378:=()
def tw13473982444725865422:=()
def tw2855682425868090119:=()
def tw11430603239569921025:=()
def tw3133328778931940450:=()
def tw5611270699415084525:=()
def tw980025284972132868:=()
def tw14016246967242037622:=()
def tw1894559827107026643:=()
def tw6349731912624139582:=()
def tw3022599092098491140:=()
def tw16829877122611539643:=()
def tw18242556575255467854:=()
def tw16800660292959224948:=()
def tw7380785411175063872:=()
def tw10993025998302114181:=()
def tw9041872898023436093:=()
def tw12419699117271310232:=()
def tw14452493765874316798:=()
def tw17099685346259299922:=()
def tw9452379104493879655:=()
def tw15261956471548288534:=()
def tw5226121071392867075:=()
def tw11976490284553778276:=()
def tw9480653658401355067:=()
def tw947938724091079940:=()
def tw13136141680585425565:=()
def tw7475604510000076965:=()
def tw7326254461525436999:=()
def tw3062443334504076060:=()
def tw1258421431156604770:=()
def tw10842635478677618979:=()
def tw18300583560788226742:=()
def tw17131832886682762059:=()
def tw1910745937823197532:=()
def tw917594327406263200:=()
def tw15001402036547990541:=()
def tw17798375774742959796:=()
def tw18160074278942809875:=()
def tw13576801666202559468:=()
def tw3251356233248528190:=()
def tw18215553684165605830:=()
def tw16502877058265293268:=()
def tw11547395587868276893:=()
def tw10572850481797120228:=()
def tw17743413431218172935:=()
def tw18288539140490787989:=()
def tw246369681520608336:=()
def tw13183741540280789285:=()
def tw483398198665743325:=()
def tw16360714790009053285:=()
def tw5650204680032055747:=()
def tw3626056104462517488:=()
def tw5003594759117285709:=()
def tw1861724674803850918:=()
def tw6961603218137115776:=()
def tw972056360523203176:=()
def tw15007036891658369981:=()
def tw8625563986726588968:=()
def tw3215143501589671037:=()
def tw14329835588195401030:=()
def tw10187262430351120634:=()
def tw18376614784860845177:=()
def tw1685445966937546003:=()
def tw13278624277519833418:=()
def tw14184990019623638056:=()
def tw279904057035237838:=()
def tw13853204637819983208:=()
def tw5367681247923084956:=()
def tw16671299195514467074:=()
def tw6140616089111574414:=()
def tw4178667677186813925:=()
def tw7494942100706325010:=()
def tw1910669854451255893:=()
def tw13362358959986884062:=()
def tw16175093790635407788:=()
def tw2970342901193577876:=()
def tw2136875414331019491:=()
def tw2608363457388922329:=()
def tw15134424428124140996:=()
def tw8082208337827723355:=()
def tw7888646567709816726:=()
def tw1686628116694019301:=()
def tw3246786327563698200:=()
def tw17425938604663854385:=()
def tw15968293769969102713:=()
def tw11903877383187930794:=()
def tw18057383271276456947:=()
def tw14710631588572691793:=()
def tw8903580377131321059:=()
def tw10688178550834729832:=()
def tw13376468460821715886:=()
def tw13646844081386305208:=()
def tw3239363030586052232:=()
def tw1857531994898038245:=()
def tw11460735669069982609:=()
def tw9609394126586945637:=()
def tw14939872815772250167:=()
def tw9883727378179753437:=()
def tw4347727117515937690:=()
def tw8880257837041621045:=()
def tw11508128714356039867:=()
def tw6971972217284684212:=()
def tw13891980818998308866:=()
def tw3653813045050060967:=()
def tw17700696801769050144:=()
def tw8506156152185157390:=()
def tw13487331582598958649:=()
def tw9263201853705198179:=()
def tw817085469798176012:=()
def tw7891932269274532295:=()
def tw15083259398974534597:=()
def tw132596191942714068:=()
def tw11203775521094881052:=()
def tw10821230497931022644:=()
def tw14643499898039361480:=()
def tw16952563445449443217:=()
def tw13949105842395299693:=()
def tw804791904171818836:=()
def tw13622374906264796228:=()
def tw13669360820894078164:=()
def tw11989462878383759301:=()
def tw12550716669756804887:=()
def tw10782602620277770721:=()
def tw12549020631620338478:=()
def tw2726463795305710765:=()
def tw16517343510044246672:=()
def tw1153023259706032775:=()
def tw2454879320463575789:=()
def tw7834740522451387556:=()
def tw8652108185893451013:=()
def tw10855409597061625333:=()
def tw11234251815911220718:=()
def tw9461850341942240047:=()
def tw12160151322745188691:=()
def tw3723917228398027061:=()
def tw782200843486545607:=()
def tw13172708243770741771:=()
def tw17529172048242783301:=()
def tw2774000495432932555:=()
def tw3938533441481281072:=()
def tw6408812404890341946:=()
def tw16262334746347833258:=()
def tw23548930315970968:=()
def tw11796087181781098371:=()
def tw17380500951195351429:=()
def tw17718316203591548715:=()
def tw9856040057949532469:=()
def tw8069568510230679041:=()
def tw9017688200240540447:=()
def tw4776418590765753051:=()
def tw16862958462454730437:=()
def tw1686021227208614815:=()
def tw778385453838981966:=()
def tw12133262112361791999:=()
def tw2233465892800515915:=()
def tw12812236323891731311:=()
def tw330890629821951830:=()
def tw13931034834962880565:=()
def tw13935058433270051708:=()
def tw9196020750642665769:=()
def tw14135366146276749004:=()
def tw16622144942482933537:=()
def tw2330645203352978233:=()
def tw8077898145256424597:=()
def tw10064518520077504798:=()
def tw7126593396246074694:=()
def tw2452771007553694715:=()
def tw6784625982589583494:=()
def tw769911087984242297:=()
def tw9540889523216566477:=()
def tw6112924252078697060:=()
def tw499114651257877538:=()
def tw12520617700500916024:=()
def tw2671607691998488571:=()
def tw8108152786455666628:=()
def tw6744745561069381871:=()
def tw2380507487730709700:=()
def tw10250415511450046394:=()
def tw478771620289624068:=()
def tw3853393641331693722:=()
def tw7289017177487807484:=()
def tw16485917512605195837:=()
def tw6237761775616146712:=()
def tw17958331307640867364:=()
def tw7864573108021317108:=()
def tw1243670260234718309:=()
def tw2009072312591341728:=()
def tw12229900770891763840:=()
def tw1810366232575147600:=()
def tw1581422842172028210:=()
def tw8743701876032518002:=()
def tw4175137762684518460:=()
def tw488974448407279277:=()
def tw15294044002729690554:=()
def tw11971510728393850522:=()
def tw12555204013367063686:=()
def tw6403695152246053524:=()
def tw16643145845161199774:=()
def tw10077641419395817165:=()
def tw15590480700914844709:=()
def tw12693297612513009072:=()
def tw4068178409567149279:=()
def tw10204620624251407396:=()
def tw1939372208032115443:=()
def tw4007290171221385194:=()
def tw16690730026690455789:=()
def tw649475644845382373:=()
def tw4599914201449478473:=()
def tw15054574613726927680:=()
def tw13059080554960338508:=()
def tw13524177838470067845:=()
def tw11296620186844550688:=()
def tw13134904985485050926:=()
def tw16882620511759292005:=()
def tw16383063227952741894:=()
def tw17708186655497349086:=()
def tw8092603675361744189:=()
def tw2540398016971875242:=()
def tw12951269058041319408:=()
def tw5631169639584893337:=()
def tw2193462168787740122:=()
def tw2301934904528980899:=()
def tw3408340884018602686:=()
def tw4146047852052338237:=()
def tw11559475891591814772:=()
def tw2488252633262603560:=()
def tw5251176098294781457:=()
def tw7824002011472925521:=()
def tw12607058985209489235:=()
def tw13984774739003848377:=()
def tw15566033257050165180:=()
def tw7929448512796406938:=()
def tw5021720503610656706:=()
def tw1881267755545889838:=()
def tw12592791727008791703:=()
def tw1582981631589115221:=()
def tw5082463190899427435:=()
def tw11633918803670169320:=()
def tw18169824994016122708:=()
def tw11894815196402878110:=()
def tw6119215969571944989:=()
def tw14634173774936476512:=()
def tw9577985684464071869:=()
def tw14143501716436128336:=()
def tw11464606190731689252:=()
def tw1636167260994690162:=()
def tw5663004538801825930:=()
def tw10906739653111643138:=()
def tw11364303423690796567:=()
def tw3090611538807672461:=()
def tw5189323191114981090:=()
def tw16195328078982974867:=()
def tw4533186190292120608:=()
def tw4463814044181260957:=()
def tw17836336019342199609:=()
def tw4341845592931424107:=()
def tw8805726022949115600:=()
def tw3316084460003250862:=()
def tw3781041606482197437:=()
def tw9390298382222668330:=()
def tw13364281774358343286:=()
def tw15442272943701765716:=()
def tw11695166886489056923:=()
def tw88763117587272937:=()
def tw7822291101096925872:=()
def tw7637898061171064166:=()
def tw2260614554944400770:=()
def tw12539782948176112282:=()
def tw17180893089441519387:=()
def tw2879360103659507569:=()
def tw8109279664044599624:=()
def tw3510475572499915138:=()
def tw7473810836669845687:=()
def tw17515820926744250354:=()
def tw6787729894431634579:=()
def tw14082764360869041019:=()
def tw17422363873044825695:=()
def tw18398968789906255870:=()
def tw16465013516331468137:=()
def tw11198965487021857821:=()
def tw3464991964367049697:=()
def tw17323825857720246611:=()
def tw12324145698957126508:=()
def tw16616449996922496032:=()
def tw2415652139232715273:=()
def tw10712627965066266777:=()
def tw14079668343332182924:=()
def tw10084231423395610663:=()
def tw12907911259371171269:=()
def tw7998083539215961602:=()
def tw4037872411489617258:=()
def tw1650565409791036649:=()
def tw1414196586260864254:=()
def tw5367713885234658459:=()
def tw15307244228421397398:=()
def tw1703842811214722391:=()
def tw3173827819360750144:=()
def tw10262968196312664531:=()
def tw3430323612706863472:=()
def tw3424644158234354636:=()
def tw9976083798669293183:=()
def tw681919435175714549:=()
def tw14605578783279833614:=()
def tw6000424504152766538:=()
def tw7235613131477328824:=()
def tw14028647013193786117:=()
def tw16274290894475817283:=()
def tw8834044349334064600:=()
def tw7866842129222331857:=()
def tw17974283973135275257:=()
def tw1565340738886376421:=()
def tw1695622776075969583:=()
def tw16634097388836845144:=()
def tw11059159058027978765:=()
def tw9088779396325649020:=()
def tw3550386501523332996:=()
def tw13462974522181974064:=()
def tw1590952053482515177:=()
def tw16179463363665999377:=()
def tw11825679986761962588:=()
def tw9346633096662410496:=()
def tw3493155196491042455:=()
def tw6893487174104834003:=()
def tw11332301834119969187:=()
def tw260807798680600297:=()
def tw14142207535135271538:=()
def tw7278872260543963420:=()
def tw5627972819623914063:=()
def tw1037386243732078099:=()
def tw2501311763878569865:=()
def tw584698667242289317:=()
def tw16687249432099411929:=()
def tw7672635136675640794:=()
def tw16534286646761345122:=()
def tw8464305251931797676:=()
def tw1969978531004706930:=()
def tw7745145354617931634:=()
def tw15418147066726635217:=()
def tw5467032065668280725:=()
def tw7966028267518788571:=()
def tw15995303266703801389:=()
def tw378482393135783936:=()
def tw18031367846489250153:=()
def tw7406166093192641107:=()
end PySem.W.Fast
open PySem PySem.W PyProof.Rows
set_option maxRecDepth 100000 in
set_option maxHeartbeats 0 in
theorem PySem.Challenge.cw_fewnotes_k51_counts_alone_holds : PySem.Challenge.rw_fewnotes_k51_counts_alone.Holds := by
 w_on;o_law;k_head;(case hw=>w_witness2)
 k_fill
 refine Prf.walk (l:=PySem.Challenge.rw_fewnotes_k51_counts_alone) rfl rfl (fun w h Y=>PySem.W.kIn_of Y) ?F
 case F=>
  intro w mg fa h KX G hmg
  replace hmg:mg (Str.ofString "law")=some (.ref fa):=hmg
  refine' Prf.all_mk KX G hmg ?a0 ?l0 ?c0 ?k0 ?a1 ?l1 ?c1 ?k1 ?a2 ?l2 ?c2 ?k2 ?n2 ?a3 ?l3 ?c3 ?k3 ?a4 ?l4 ?c4 ?k4 ?n4 ?a5 ?l5 ?c5 ?k5 ?n5 ?a6 ?l6 ?c6 ?k6 ?n6 ?a7 ?l7 ?c7 ?k7 ?n7 ?a8 ?l8 ?c8 ?k8 ?n8 ?a9 ?l9 ?c9 ?k9 ?a10 ?l10 ?c10 ?k10 ?n10 ?a11 ?l11 ?c11 ?k11 ?n11 ?a12 ?l12 ?c12 ?k12 ?n12 ?a13 ?l13 ?c13 ?k13 ?n13 ?Yb ?a14 ?l14 ?c14 ?k14 ?n14 ?a15 ?l15 ?c15 ?k15 ?n15 ?a16 ?l16 ?c16 ?k16 ?n16 ?a17 ?l17 ?c17 ?k17 ?n17 ?a18 ?l18 ?c18 ?k18 ?n18 ?a19 ?l19 ?c19 ?k19 ?a20 ?l20 ?c20 ?k20 ?a21 ?l21 ?c21 ?k21 ?a22 ?l22 ?c22 ?k22 ?a23 ?l23 ?c23 ?k23 ?a24 ?l24 ?c24 ?k24 ?n24 ?a25 ?l25 ?c25 ?k25 ?n25 ?a26 ?l26 ?c26 ?k26 ?n26 ?a27 ?l27 ?c27 ?k27 ?n27 ?a28 ?l28 ?c28 ?k28 ?n28 ?a29 ?l29 ?c29 ?k29 ?n29 ?a30 ?l30 ?c30 ?k30 ?n30 ?a31 ?l31 ?c31 ?k31 ?n31 ?a32 ?l32 ?c32 ?k32 ?n32 ?a33 ?l33 ?c33 ?k33 ?n33 ?a34 ?l34 ?c34 ?k34 ?a35 ?l35 ?c35 ?k35 ?a36 ?l36 ?c36 ?Uo ?a37 ?l37 ?c37 ?k37 ?a38 ?l38 ?c38 ?k38 ?a39 ?l39 ?c39 ?k39 ?a40 ?l40 ?c40 ?k40 ?a41 ?l41 ?c41 ?k41 ?a42 ?l42 ?c42 ?k42 ?a43 ?l43 ?c43 ?k43 ?a44 ?l44 ?c44 ?k44 ?a45 ?l45 ?c45 ?k45 ?Cg ?xK ?xP ?xJ ?xH ?xM ?xO ?ou ?rP ?jW ?kJ ?mY ?pR ?vh ?vm ?vg ?vf ?nO ?nP ?jR ?jT ?lX ?lW ?vo ?rO ?rT ?rN ?rM ?rQ ?rR ?jU ?jV ?kI ?jj ?pW ?lF ?oG ?oU ?vq ?oO ?rZ ?sV ?Ck ?t_ ?xT ?yg ?oW ?nu ?mZ ?nA ?Cm ?yc ?xU ?yh ?vp ?sO ?rY ?sU ?jf ?jc ?jy ?jt ?je ?i_ ?lA ?kW ?jz ?ju ?lB ?kY ?gJ ?gH ?iC ?iB ?jm ?jk ?jA ?jw ?lC ?kZ ?m_ ?m5 ?jd ?iZ ?jB ?jx ?k_ ?kO ?Yk ?Yj ?oM ?oK ?oJ ?oR ?oH ?oN ?oF ?sI ?sG ?sE ?sS ?su ?sJ ?rW ?xY ?xX ?xW ?yd ?xV ?xZ ?xR ?DQ ?DP ?jL ?oE ?Ml ?G4 ?pU ?Mj ?oA ?Mi ?G3 ?Mh ?Mg ?Cj ?xQ ?Mf ?Ma ?Ci ?L_
  (case Cg=>k_is)
  (case xK=>k_is)
  (case xP=>k_is)
  (case xJ=>k_is)
  (case xH=>k_is)
  (case xM=>k_is)
  (case xO=>k_is)
  (case ou=>k_is)
  (case rP=>k_is)
  (case jW=>k_is)
  (case kJ=>k_is)
  (case mY=>k_is)
  (case pR=>k_is)
  (case vh=>k_is)
  (case vm=>k_is)
  (case vg=>k_is)
  (case vf=>k_is)
  (case nO=>k_is)
  (case nP=>k_is)
  (case jR=>k_is)
  (case jT=>k_is)
  (case lX=>k_is)
  (case lW=>k_is)
  (case vo=>k_is)
  (case rO=>k_is)
  (case rT=>k_is)
  (case rN=>k_is)
  (case rM=>k_is)
  (case rQ=>k_is)
  (case rR=>k_is)
  (case jU=>k_is)
  (case jV=>k_is)
  (case kI=>k_is)
  (case jj=>k_is)
  (case pW=>k_is)
  (case lF=>rfl)
  (case oG=>k_is)
  (case oU=>k_is)
  (case vq=>k_is)
  (case oO=>rfl)
  (case rZ=>k_is)
  (case sV=>k_is)
  (case Ck=>k_is)
  (case t_=>rfl)
  (case xT=>k_is)
  (case yg=>k_is)
  (case oW=>k_is)
  (case nu=>rfl)
  (case mZ=>k_is)
  (case nA=>k_is)
  (case Cm=>k_is)
  (case yc=>rfl)
  (case xU=>k_is)
  (case yh=>k_is)
  (case vp=>k_is)
  (case sO=>rfl)
  (case rY=>k_is)
  (case sU=>k_is)
  (case jf=>rfl)
  (case jc=>k_is)
  (case jy=>rfl)
  (case jt=>k_is)
  (case je=>rfl)
  (case i_=>k_is)
  (case lA=>rfl)
  (case kW=>k_is)
  (case jz=>rfl)
  (case ju=>k_is)
  (case lB=>rfl)
  (case kY=>k_is)
  (case gJ=>rfl)
  (case gH=>k_is)
  (case iC=>rfl)
  (case iB=>k_is)
  (case jm=>rfl)
  (case jk=>k_is)
  (case jA=>rfl)
  (case jw=>k_is)
  (case lC=>rfl)
  (case kZ=>k_is)
  (case m_=>rfl)
  (case m5=>k_is)
  (case jd=>rfl)
  (case iZ=>k_is)
  (case jB=>rfl)
  (case jx=>k_is)
  (case k_=>rfl)
  (case kO=>k_is)
  (case Yk=>k_is)
  (case Yj=>k_is)
  (case oM=>k_is)
  (case oK=>k_is)
  (case oJ=>k_is)
  (case oR=>k_is)
  (case oH=>k_is)
  (case oN=>k_exc)
  (case oF=>k_is)
  (case sI=>k_is)
  (case sG=>k_is)
  (case sE=>k_is)
  (case sS=>k_is)
  (case su=>k_is)
  (case sJ=>k_exc)
  (case rW=>k_is)
  (case xY=>k_is)
  (case xX=>k_is)
  (case xW=>k_is)
  (case yd=>k_is)
  (case xV=>k_is)
  (case xZ=>k_exc)
  (case xR=>k_is)
  (case DQ=>k_is)
  (case DP=>k_is)
  (case jL=>k_is)
  (case a0=>k_is)
  (case l0=>k_is)
  (case c0=>k_is)
  (case k0=>k_is)
  (case a1=>k_is)
  (case l1=>k_is)
  (case c1=>k_is)
  (case k1=>k_is)
  (case a2=>k_is)
  (case l2=>k_is)
  (case c2=>k_is)
  (case k2=>k_is)
  (case n2=>k_is)
  (case a3=>k_is)
  (case l3=>k_is)
  (case c3=>k_is)
  (case k3=>k_is)
  (case a4=>k_is)
  (case l4=>k_is)
  (case c4=>k_is)
  (case k4=>k_is)
  (case n4=>k_is)
  (case a5=>k_is)
  (case l5=>k_is)
  (case c5=>k_is)
  (case k5=>k_is)
  (case n5=>k_is)
  (case a6=>k_is)
  (case l6=>k_is)
  (case c6=>k_is)
  (case k6=>k_is)
  (case n6=>k_is)
  (case a7=>k_is)
  (case l7=>k_is)
  (case c7=>k_is)
  (case k7=>k_is)
  (case n7=>k_is)
  (case a8=>k_is)
  (case l8=>k_is)
  (case c8=>k_is)
  (case k8=>k_is)
  (case n8=>k_is)
  (case a9=>k_is)
  (case l9=>k_is)
  (case c9=>k_is)
  (case k9=>k_is)
  (case a10=>k_is)
  (case l10=>k_is)
  (case c10=>k_is)
  (case k10=>k_is)
  (case n10=>k_is)
  (case a11=>k_is)
  (case l11=>k_is)
  (case c11=>k_is)
  (case k11=>k_is)
  (case n11=>k_is)
  (case a12=>k_is)
  (case l12=>k_is)
  (case c12=>k_is)
  (case k12=>k_is)
  (case n12=>k_is)
  (case a13=>k_is)
  (case l13=>k_is)
  (case c13=>k_is)
  (case k13=>k_is)
  (case n13=>k_is)
  (case Yb=>k_is)
  (case a14=>k_is)
  (case l14=>k_is)
  (case c14=>k_is)
  (case k14=>k_is)
  (case n14=>k_is)
  (case a15=>k_is)
  (case l15=>k_is)
  (case c15=>k_is)
  (case k15=>k_is)
  (case n15=>k_is)
  (case a16=>k_is)
  (case l16=>k_is)
  (case c16=>k_is)
  (case k16=>k_is)
  (case n16=>k_is)
  (case a17=>k_is)
  (case l17=>k_is)
  (case c17=>k_is)
  (case k17=>k_is)
  (case n17=>k_is)
  (case a18=>k_is)
  (case l18=>k_is)
  (case c18=>k_is)
  (case k18=>k_is)
  (case n18=>k_is)
  (case a19=>k_is)
  (case l19=>k_is)
  (case c19=>k_is)
  (case k19=>k_is)
  (case a20=>k_is)
  (case l20=>k_is)
  (case c20=>k_is)
  (case k20=>k_is)
  (case a21=>k_is)
  (case l21=>k_is)
  (case c21=>k_is)
  (case k21=>k_is)
  (case a22=>k_is)
  (case l22=>k_is)
  (case c22=>k_is)
  (case k22=>k_is)
  (case a23=>k_is)
  (case l23=>k_is)
  (case c23=>k_is)
  (case k23=>k_is)
  (case a24=>k_is)
  (case l24=>k_is)
  (case c24=>k_is)
  (case k24=>k_is)
  (case n24=>k_is)
  (case a25=>k_is)
  (case l25=>k_is)
  (case c25=>k_is)
  (case k25=>k_is)
  (case n25=>k_is)
  (case a26=>k_is)
  (case l26=>k_is)
  (case c26=>k_is)
  (case k26=>k_is)
  (case n26=>k_is)
  (case a27=>k_is)
  (case l27=>k_is)
  (case c27=>k_is)
  (case k27=>k_is)
  (case n27=>k_is)
  (case a28=>k_is)
  (case l28=>k_is)
  (case c28=>k_is)
  (case k28=>k_is)
  (case n28=>k_is)
  (case a29=>k_is)
  (case l29=>k_is)
  (case c29=>k_is)
  (case k29=>k_is)
  (case n29=>k_is)
  (case a30=>k_is)
  (case l30=>k_is)
  (case c30=>k_is)
  (case k30=>k_is)
  (case n30=>k_is)
  (case a31=>k_is)
  (case l31=>k_is)
  (case c31=>k_is)
  (case k31=>k_is)
  (case n31=>k_is)
  (case a32=>k_is)
  (case l32=>k_is)
  (case c32=>k_is)
  (case k32=>k_is)
  (case n32=>k_is)
  (case a33=>k_is)
  (case l33=>k_is)
  (case c33=>k_is)
  (case k33=>k_is)
  (case n33=>k_is)
  (case a34=>k_is)
  (case l34=>k_is)
  (case c34=>k_is)
  (case k34=>k_is)
  (case a35=>k_is)
  (case l35=>k_is)
  (case c35=>k_is)
  (case k35=>k_is)
  (case a36=>k_is)
  (case l36=>k_is)
  (case c36=>k_is)
  (case Uo=>k_is)
  (case a37=>k_is)
  (case l37=>k_is)
  (case c37=>k_is)
  (case k37=>k_is)
  (case a38=>k_is)
  (case l38=>k_is)
  (case c38=>k_is)
  (case k38=>k_is)
  (case a39=>k_is)
  (case l39=>k_is)
  (case c39=>k_is)
  (case k39=>k_is)
  (case a40=>k_is)
  (case l40=>k_is)
  (case c40=>k_is)
  (case k40=>k_is)
  (case a41=>k_is)
  (case l41=>k_is)
  (case c41=>k_is)
  (case k41=>k_is)
  (case a42=>k_is)
  (case l42=>k_is)
  (case c42=>k_is)
  (case k42=>k_is)
  (case a43=>k_is)
  (case l43=>k_is)
  (case c43=>k_is)
  (case k43=>k_is)
  (case a44=>k_is)
  (case l44=>k_is)
  (case c44=>k_is)
  (case k44=>k_is)
  (case a45=>k_is)
  (case l45=>k_is)
  (case c45=>k_is)
  (case k45=>k_is)
  (case oE=>k_is)
  (case Ml=>k_is)
  (case G4=>k_is)
  (case pU=>k_is)
  (case Mj=>k_is)
  (case oA=>k_is)
  (case Mi=>k_is)
  (case G3=>k_is)
  (case Mh=>k_is)
  (case Mg=>k_is)
  (case Cj=>k_is)
  (case xQ=>k_is)
  (case Mf=>k_is)
  (case Ma=>k_is)
  (case Ci=>k_is)
  (case L_=>k_is)
#print axioms PySem.Challenge.cw_fewnotes_k51_counts_alone_holds
