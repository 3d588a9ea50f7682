import PyProof.Rows.All
import Wide.All
import OpenK.AllK
import Wide.FinOn
import Lean
import PyProof.EqAt
import PyProof.EqKinds
import PyProof.TupleCall
import PyProof.EqLayable
import PyProof.ExcArgsOwn
import PyProof.ExcAttrAll.Exception
import PyProof.RulesAs
import PyProof.ExcBaseAll.ValueError
import PyProof.NsDelKeeps
import KE.KRevSl
import PySem.Challenge.RW_fewnotes_k25_no_such_note
set_option Elab.async false
set_option linter.all false
set_option maxRecDepth 100000
namespace L2
open PySem PySem.Spec PyProof.Rows
abbrev Key:=Sum Int Str
def yO:Key->Value->Bool
 | .inl k,v=>Value.isInt k v
 | .inr x,v=>Value.isStrOf x v
def afj (w:World):Key->Int
 | .inl k=>hashInt k
 | .inr x=>hashStr w x
theorem cX:∀{k:Key} {v:Value},yO k v=true->(∃i t,k=Sum.inl i/\v=Value.int i t)\/(∃x t,k=Sum.inr x/\v=Value.str x t)
 | .inl i,v,h=>by
   obtain ⟨t,e⟩:=Value.isInt_shape (k:=i) (v:=v) h
   exact .inl ⟨i,t,rfl,e⟩
 | .inr x,v,h=>by
   obtain ⟨t,e⟩:=Value.isStrOf_shape (x:=x) (v:=v) h
   exact .inr ⟨x,t,rfl,e⟩
theorem K9 (i:Int) (t:Tok):yO (.inl i) (.int i t)=true:=by simp [yO,Value.isInt]
theorem K8 (x:Str) (t:Tok):yO (.inr x) (.str x t)=true:=by simp [yO,Value.isStrOf]
theorem Wz (a b:Int):decide ((Sum.inl a:Key)=Sum.inl b)=(a==b):=by
 by_cases e:a=b
 ·subst e;simp
 ·have h:¬(Sum.inl a:Key)=Sum.inl b:=fun q=>e (Sum.inl.inj q)
  rw [decide_eq_false h]
  exact (beq_eq_false_iff_ne.mpr e).symm
theorem Ww (a b:Str):decide ((Sum.inr a:Key)=Sum.inr b)=decide (a=b):=by
 by_cases e:a=b
 ·subst e;simp
 ·have h:¬(Sum.inr a:Key)=Sum.inr b:=fun q=>e (Sum.inr.inj q)
  rw [decide_eq_false h,decide_eq_false e]
theorem Wy (a:Int) (b:Str):decide ((Sum.inl a:Key)=Sum.inr b)=false:=decide_eq_false (fun q=>nomatch q)
theorem Wx (a:Str) (b:Int):decide ((Sum.inr a:Key)=Sum.inl b)=false:=decide_eq_false (fun q=>nomatch q)
def cC (prog:Program) (w:World):PySem.KeyKind prog w Key where
 is:=yO
 hash:=afj w
 inj:=fun v a b ha hb=>by
  rcases cX ha with ⟨i,t,rfl,rfl⟩|⟨x,t,rfl,rfl⟩
  ·rcases cX hb with ⟨j,u,rfl,e⟩|⟨y,u,rfl,e⟩
   ·injection e with e1 _;rw [e1]
   ·exact nomatch e
  ·rcases cX hb with ⟨j,u,rfl,e⟩|⟨y,u,rfl,e⟩
   ·exact nomatch e
   ·injection e with e1 _;rw [e1]
 byValue:=fun k v h=>by
  rcases cX h with ⟨i,t,rfl,rfl⟩|⟨x,t,rfl,rfl⟩<;>rfl
 pyHash:=fun hv h=>by
  rcases cX hv with ⟨i,t,rfl,rfl⟩|⟨x,t,rfl,rfl⟩
  ·exact wpAny_pyHash_int h
  ·exact wpAny_pyHash_str h
 eqBool:=fun hu hv h=>by
  rcases cX hu with ⟨i,t,rfl,rfl⟩|⟨x,t,rfl,rfl⟩
  ·rcases cX hv with ⟨j,u,rfl,rfl⟩|⟨y,u,rfl,rfl⟩
   ·rw [Wz] at h;exact wpAny_eqBool_int h
   ·rw [Wy] at h;exact SeqAt.EqAt.int_str i t y u _ _ _ _ h
  ·rcases cX hv with ⟨j,u,rfl,rfl⟩|⟨y,u,rfl,rfl⟩
   ·rw [Wx] at h;exact SeqAt.EqAt.str_int x t j u _ _ _ _ h
   ·rw [Ww] at h;exact wpAny_eqBool_str h
 «strs» :=fun k x t v h=>by
  rcases cX h with ⟨i,u,rfl,e⟩|⟨y,u,rfl,e⟩
  ·exact nomatch e
  ·injection e with e1 _
   subst e1
   cases v<;>rfl
theorem Hu (prog:Program) (w:World) (k:Key) (v:Value):(cC prog w).is k v=yO k v:=rfl
theorem Ey (prog:Program) (w:World) (i:Int) (t:Tok):(cC prog w).is (.inl i) (.int i t)=true:=K9 i t
theorem Ew (prog:Program) (w:World) (x:Str) (t:Tok):(cC prog w).is (.inr x) (.str x t)=true:=K8 x t
end L2
namespace L2
open PySem PySem.Spec PyProof.Rows
inductive V where
 | non|bl (b:Bool)|int (i:Int)|str (x:Str)|JZ (b:Array UInt8)|flt (b:UInt64)|ref (a:Addr)|ty (n:String)
 deriving DecidableEq
def RelV:V->Value->Prop
 | .non,u=>u=Value.none
 | .bl b,u=>u=Value.bool b
 | .int i,u=>∃t,u=Value.int i t
 | .str x,u=>∃t,u=Value.str x t
 | .JZ b,u=>∃t,u=Value.bytes b t
 | .flt b,u=>∃t,u=Value.float b t
 | .ref a,u=>u=Value.ref a
 | .ty n,u=>u=Value.type n
abbrev Vals:List V->List Value->Prop:=Paired RelV
theorem Vals.length {xs:List V} {us:List Value} (r:Vals xs us):xs.length=us.length:=Paired.length r
theorem Vals.get:∀{xs:List V} {us:List Value} {i:Nat} {x:V},Vals xs us->xs[i]? = some x -> ∃u,us[i]? = some u/\RelV x u
 | _,_,_,_,.nil,e=>by simp at e
 | _,_,0,_,.cons r _,e=>by simp at e;subst e;exact ⟨_,rfl,r⟩
 | _,_,i+1,x,.cons _ t,e=>by
   obtain ⟨u,h1,h2⟩:=Vals.get (i:=i) (x:=x) t (by simpa using e)
   exact ⟨u,by simpa using h1,h2⟩
theorem Vals.set {x:V} {u:Value} (r:RelV x u):∀{xs:List V} {us:List Value} (i:Nat),Vals xs us->Vals (xs.set i x) (us.set i u)
 | _,_,_,.nil=> .nil
 | _,_,0,.cons _ t=> .cons r t
 | _,_,i+1,.cons q t=> .cons q (Vals.set r i t)
theorem Vals.append {xs ys:List V} {us ws:List Value} (h:Vals xs us) (s:Vals ys ws):Vals (xs++ys) (us++ws):=by
 induction h with
 | nil=>exact s
 | cons r t ih=>exact .cons r ih
theorem Vals.take:∀{xs:List V} {us:List Value} (n:Nat),Vals xs us->Vals (xs.take n) (us.take n)
 | _,_,0,_=> .nil
 | _,_,_+1,.nil=> .nil
 | _,_,n+1,.cons r t=> .cons r (Vals.take n t)
theorem Vals.drop:∀{xs:List V} {us:List Value} (n:Nat),Vals xs us->Vals (xs.drop n) (us.drop n)
 | _,_,0,r=>r
 | _,_,_+1,.nil=> .nil
 | _,_,n+1,.cons _ t=>Vals.drop n t
def vM:Option V->Option Value->Prop
 | some v,some u=>RelV v u
 | none,none=>True
 | _,_=>False
def KV {κ:Type}:List (κ×V)->List (κ×Value)->Prop:=Paired fun (p:κ×V) (q:κ×Value)=>p.1=q.1/\RelV p.2 q.2
def kV:Key->V
 | .inl i=> .int i
 | .inr x=> .str x
inductive HO where
 | lst (xs:List V)
 | tup (xs:List V)
 | dK (kvs:List (Key×V))|dT (kvs:List (List Key×V))
 | set (S:Int->Bool) (n:Nat)
 | ins (C dx:Addr) (fs:List (Str×V))
 | own (x:Addr)
 | xd (fs:List (Str×V))
 | met (f x:Addr)
 | rng (lo hi:Int)
 | jB (o:Obj) (u:HO)
 | Ry (ps:Array Value)
 | ext (φ:Heap->Prop)
abbrev Hp:=Addr->Option HO
def upd (H:Hp) (a:Addr) (o:HO):Hp:=fun b=>if b=a then some o else H b
theorem ak {H:Hp} {a:Addr} {o:HO}:upd H a o a=some o:=by unfold upd;rw [if_pos rfl]
theorem aV {H:Hp} {a b:Addr} {o:HO} (h:b≠a):upd H a o b=H b:=by unfold upd;rw [if_neg h]
theorem wK {H:Hp} {a:Addr} {o u:HO}:upd (upd H a o) a u=upd H a u:=by
 funext b;unfold upd;split<;>rfl
theorem lA {H:Hp} {a b:Addr} {o u:HO} (h:H a=some o) (h':H b=some u) (d:o≠u):a≠b:=by
 intro e;subst e;rw [h] at h';exact d (Option.some.inj h')
theorem aD {H:Hp} {a b:Addr} {o:HO} (h:H a=some o) (h':H b=none):a≠b:=by
 intro e;subst e;rw [h] at h';cases h'
section
variable (P:Program) (w:World)
def bQ (H:Hp) (h:Heap) (a:Addr):HO->Prop
 | .lst xs=>xs.length<=sizeLine /\ ∃(its:List Value) (n:Nat),Vals xs its/\h.get? a=some {cls:= .type "list",data:= .seq its.toArray n}
 | .tup xs=>xs.length<=sizeLine /\ ∃its:List Value,Vals xs its/\IsTup h a its.toArray
 | .dK kvs=>kvs.length<=sizeLine/\(a==sysModules)=false /\ ∃vs,KV kvs vs/\h.DictOf (cC P w) a vs
 | .dT kvs=>kvs.length<=sizeLine/\(a==sysModules)=false /\ ∃xs:List (List Key×Addr×Value),
    Paired (fun (p:List Key×V) (q:List Key×Addr×Value)=>p.1=q.1/\H q.2.1=some (.tup (p.1.map kV))/\RelV p.2 q.2.2) kvs xs /\
    ∃o es ep,h.get? a=some o/\o.ExactDict/\o.data = .dict es ep/\es.toList=xs.map (entryOfKey (tupleKind (cC P w)))/\(xs.map (·.1)).Nodup
 | .set S n=>h.SetOf (intKind P w) a S n
 | .ins C dx fs=>H dx=some (.own a)/\fs.length<=1000/\dx≠a/\h.get? a=some (PySem.W.instObj C dx) /\
    ∃mA,h.Ns1 dx mA/\(∀f,vM (fs.lookup f) (mA f))/\PySem.Within mA (fs.map (·.1))
 | .own _=>∃o,h.get? a=some o
 | .xd fs=>∃mA,h.Ns1 a mA /\ ∀f,vM (fs.lookup f) (mA f)
 | .rng lo hi=>∃t u v,h.get? a=some {cls:= .type "range",data:= .fields #[.int lo t,.int hi u,.int 1 v]}
 | .jB o u=>h.get? a=some o/\bQ H h a u
 | .Ry ps=>h.get? a=some {cls:= .none,data:= .fields ps}
 | .met f x=>h.get? a=some (PySem.W.methodObj (.ref f) (.ref x))
 | .ext φ=>φ h/\(∃o,h.get? a=some o) /\ ∀h1 h2:Heap,φ h1->(∀o,h1.get? a=some o->h2.get? a=some o)->φ h2
def ud (H:Hp) (h:Heap):Prop:=∀a o,H a=some o->bQ P w H h a o
end
section
variable {P:Program} {w:World} {H H':Hp} {h h':Heap} {a:Addr} {o:HO}
theorem bQ.lt (x:bQ P w H h a o):a<h.objs.size:=by
 cases o with
 | lst xs=>obtain ⟨_,_,_,_,e⟩:=x;exact Heap.lt_size e
 | tup xs=>obtain ⟨_,_,_,p⟩:=x;exact p.lt
 | dK kvs=>obtain ⟨_,_,_,_,o,_,_,e,_⟩:=x;exact Heap.lt_size e
 | dT kvs=>obtain ⟨_,_,_,_,o,_,_,e,_⟩:=x;exact Heap.lt_size e
 | set S n=>obtain ⟨o,_,_,_,e,_⟩:=x;exact Heap.lt_size e
 | ins C dx fs=>obtain ⟨_,_,_,e,_⟩:=x;exact Heap.lt_size e
 | own y=>obtain ⟨_,e⟩:=x;exact Heap.lt_size e
 | xd fs=>obtain ⟨_,⟨_,_,_,e,_⟩,_⟩:=x;exact Heap.lt_size e
 | rng lo hi=>obtain ⟨_,_,_,e⟩:=x;exact Heap.lt_size e
 | jB ob u=>obtain ⟨e,_⟩:=x;exact Heap.lt_size e
 | Ry ps=>exact Heap.lt_size (show h.get? a=some _ from x)
 | met f y=>exact Heap.lt_size (show h.get? a=some _ from x)
 | ext φ=>obtain ⟨_,⟨_,e⟩,_⟩:=x;exact Heap.lt_size e
theorem Paired.Wr {α β:Type} {F G:α->β->Prop}:∀{l₁:List α} {l₂:List β},Paired F l₁ l₂->(∀a b,F a b->G a b)->Paired G l₁ l₂
 :=by
 intro l₁ l₂ h f
 induction h with
 | nil=>exact .nil
 | cons r t ih=>exact .cons (f _ _ r) ih
theorem bQ.stay (x:bQ P w H h a o) (k:∀b u,(b=a\/H b=some (.own a))->h.get? b=some u->h'.get? b=some u)
 (ho:∀b,H b=some (.own a)->H' b=some (.own a)) (ht:∀b xs,H b=some (.tup xs)->H' b=some (.tup xs)):bQ P w H' h' a o:=by
 induction o with
 | lst xs=>obtain ⟨z,its,n,r,e⟩:=x;exact ⟨z,its,n,r,k _ _ (.inl rfl) e⟩
 | tup xs=>obtain ⟨z,its,r,ob,e,c⟩:=x;exact ⟨z,its,r,ob,k _ _ (.inl rfl) e,c⟩
 | dK kvs=>obtain ⟨z,y,vs,r,ob,es,ep,e,c⟩:=x;exact ⟨z,y,vs,r,ob,es,ep,k _ _ (.inl rfl) e,c⟩
 | dT kvs=>
   obtain ⟨z,y,xs,r,ob,es,ep,e,c⟩:=x
   exact ⟨z,y,xs,Paired.Wr r fun p q z=>⟨z.1,ht _ _ z.2.1,z.2.2⟩,ob,es,ep,k _ _ (.inl rfl) e,c⟩
 | set S n=>obtain ⟨ob,es,ep,t,e,c⟩:=x;exact ⟨ob,es,ep,t,k _ _ (.inl rfl) e,c⟩
 | ins C dx fs=>
   obtain ⟨d,z,ne,e,mA,⟨od,es,ep,e2,c⟩,r⟩:=x
   exact ⟨ho _ d,z,ne,k _ _ (.inl rfl) e,mA,⟨od,es,ep,k _ _ (.inr d) e2,c⟩,r⟩
 | own y=>obtain ⟨ob,e⟩:=x;exact ⟨ob,k _ _ (.inl rfl) e⟩
 | xd fs=>obtain ⟨mA,⟨od,es,ep,e,c⟩,r⟩:=x;exact ⟨mA,⟨od,es,ep,k _ _ (.inl rfl) e,c⟩,r⟩
 | rng lo hi=>obtain ⟨t,u,v,e⟩:=x;exact ⟨t,u,v,k _ _ (.inl rfl) e⟩
 | jB ob u ih=>obtain ⟨e,q⟩:=x;exact ⟨k _ _ (.inl rfl) e,ih q⟩
 | Ry ps=>
   have e:h.get? a=some {cls:= .none,data:= .fields ps}:=x
   show h'.get? a=some {cls:= .none,data:= .fields ps}
   exact k a _ (.inl rfl) e
 | met f y=>
   have e:h.get? a=some (PySem.W.methodObj (.ref f) (.ref y)):=x
   show h'.get? a=some (PySem.W.methodObj (.ref f) (.ref y))
   exact k a _ (.inl rfl) e
 | ext φ=>obtain ⟨p,⟨o,e⟩,st⟩:=x;exact ⟨st _ _ p fun o q=>k _ _ (.inl rfl) q,⟨o,k _ _ (.inl rfl) e⟩,st⟩
theorem ud.lt (x:ud P w H h) (e:H a=some o):a<h.objs.size:=(x a o e).lt
theorem ud.fresh (x:ud P w H h) (e:h.objs.size<=a):H a=none:=by
 cases q:H a with
 | none=>rfl
 | some u=>exact absurd (Nat.lt_of_lt_of_le (x.lt q) e) (Nat.lt_irrefl _)
theorem ud.kept (x:ud P w H h) (k:∀b u,h.get? b=some u->h'.get? b=some u):ud P w H h':=fun a o e=>
 (x a o e).stay (fun b u _ q=>k b u q) (fun _ q=>q) fun _ _ q=>q
theorem ud.laid (x:ud P w H h) (k:∀b u,h.get? b=some u->h'.get? b=some u) (hp:h.objs.size<=a) (new:bQ P w (upd H a o) h' a o):ud P w (upd H a o) h':=fun b u e=>by
 have hn:=x.fresh hp
 by_cases hb:b=a
 ·subst hb;rw [ak] at e;cases e;exact new
 ·rw [aV hb] at e
  exact (x b u e).stay (fun c v _ q=>k c v q) (fun c q=>by rw [aV (aD q hn)];exact q) fun c xs q=>by rw [aV (aD q hn)];exact q
end
def Rd (H:Hp) (a:Addr) (u:HO):Prop:=H a=some u \/ ∃o,H a=some (.jB o u)
theorem Rd.ok {P:Program} {w:World} {H:Hp} {h:Heap} {a:Addr} {u:HO} (r:Rd H a u) (x:ud P w H h):bQ P w H h a u:=by
 rcases r with r|⟨o,r⟩
 ·exact x a u r
 ·obtain ⟨_,q⟩:=x a _ r
  exact q
def Mut:Option HO->Prop
 | some (.lst _)=>True
 | some (.dK _)=>True
 | some (.dT _)=>True
 | some (.set _ _)=>True
 | some (.ins _ _ _)=>True
 | some (.ext _)=>True
 | _=>False
section
variable {P:Program} {w:World} {H:Hp} {h h':Heap} {x e:Addr} {o':HO}
theorem ud.write (ok:ud P w H h) (mu:Mut (H x)) (he:e=x\/H e=some (.own x)) (k:∀b u,b≠e->h.get? b=some u->h'.get? b=some u) (heo:∃u,h'.get? e=some u)
 (new:bQ P w (upd H x o') h' x o'):ud P w (upd H x o') h':=fun b u q=>by
 have K1:∀c y,H c=some (.own y)->c≠x:=fun c y r z=>by subst z;rw [r] at mu;exact mu
 have aeA:∀c xs,H c=some (.tup xs)->c≠x:=fun c xs r z=>by subst z;rw [r] at mu;exact mu
 by_cases hb:b=x
 ·subst hb;rw [ak] at q;cases q;exact new
 ·rw [aV hb] at q
  by_cases hbe:b=e
  ·have q':H b=some (.own x):=by
    rcases he with z|z
    ·exact absurd (hbe.trans z) hb
    ·rw [hbe];exact z
   rw [q] at q';cases q'
   obtain ⟨v,hv⟩:=heo
   exact ⟨v,by rw [hbe];exact hv⟩
  ·refine (ok b u q).stay (fun c v hc r=>k c v ?_ r) (fun c r=>by rw [aV (K1 c b r)];exact r) fun c xs r=>by rw [aV (aeA c xs r)];exact r
   rcases hc with rfl|hc
   ·exact hbe
   ·rintro rfl
    rcases he with z|z
    ·exact K1 c b hc z
    ·rw [hc] at z;cases z;exact hb rfl
end
structure Un (fs ex:List Addr) (H H':Hp) (h h':Heap):Prop where
 keep:∀b o,h.get? b=some o->H b=none->b∉fs->b∉ex->h'.get? b=some o
 slot:∀b o,h.get? b=some o->H b=none->b∈fs->b∉ex -> ∃sl,h'.get? b=some {o with slots:=sl}
 free:∀b o,h.get? b=some o->H b=none->b∉ex->H' b=none
 there:∀b o,h.get? b=some o->b∉ex -> ∃o',h'.get? b=some o'
 tups:∀b xs,H b=some (.tup xs)->H' b=some (.tup xs)
 rP:∀b o u,H b=some (.jB o u)->H' b=some (.jB o u)
 u9:∀b ps,H b=some (.Ry ps) -> ∃more,H' b=some (.Ry (ps++more))
section
variable {fs fs' ex ex':List Addr} {H H1 H2:Hp} {h h1 h2 h':Heap} {a x e:Addr} {o:HO}
theorem Un.any (u:Un fs ex H H1 h h1) {b:Addr} {ob:Obj} (q:h.get? b=some ob) (n:H b=none) (hx:b∉ex):∃sl,h1.get? b=some {ob with slots:=sl}:=by
 by_cases hb:b∈fs
 ·exact u.slot b ob q n hb hx
 ·exact ⟨ob.slots,u.keep b ob q n hb hx⟩
theorem Un.kept (k:∀b u,h.get? b=some u->h'.get? b=some u):Un fs ex H H h h':=
 ⟨fun b ob q _ _ _=>k b ob q,fun b ob q _ _ _=>⟨ob.slots,k b ob q⟩,fun _ _ _ n _=>n,fun b ob q _=>⟨ob,k b ob q⟩,fun _ _ q=>q,fun _ _ _ q=>q,fun _ ps q=>⟨#[],by rw [q];simp⟩⟩
theorem Un.refl:Un fs ex H H h h:=Un.kept fun _ _ q=>q
theorem Un.laid (k:∀b u,h.get? b=some u->h'.get? b=some u) (hp:h.objs.size<=a) (hn:H a=none):Un fs ex H (upd H a o) h h' where
 keep:=fun b u q _ _ _=>k b u q
 slot:=fun b u q _ _ _=>⟨u.slots,k b u q⟩
 free:=fun b u q n _=>by rw [aV (Nat.ne_of_lt (Nat.lt_of_lt_of_le (Heap.lt_size q) hp))];exact n
 there:=fun b u q _=>⟨u,k b u q⟩
 tups:=fun b xs q=>by rw [aV (aD q hn)];exact q
 rP:=fun b u xs q=>by rw [aV (aD q hn)];exact q
 u9:=fun b ps q=>⟨#[],by rw [aV (aD q hn),q];simp⟩
theorem Un.write (mu:Mut (H x)) (he:e=x\/H e=some (.own x)) (k:∀b u,b≠e->h.get? b=some u->h'.get? b=some u) (heo:∃u,h'.get? e=some u):Un fs ex H (upd H x o) h h':=by
 have hx:∀b,H b=none->b≠x:=fun b n z=>by subst z;rw [n] at mu;exact mu
 have hb:∀b,H b=none->b≠e:=fun b n z=>by
  subst z
  rcases he with r|r
  ·exact hx b n r
  ·rw [n] at r;cases r
 have hm:∀b u,H b=some u -> ¬Mut (some u)->b≠x:=fun b u q nm z=>by subst z;rw [q] at mu;exact nm mu
 refine ⟨fun b u q n _ _=>k b u (hb b n) q,fun b u q n _ _=>⟨u.slots,k b u (hb b n) q⟩,fun b u q n _=>by rw [aV (hx b n)];exact n,fun b u q _=> ?_,
  fun b xs q=>by rw [aV (hm b _ q fun z=>z)];exact q,fun b u xs q=>by rw [aV (hm b _ q fun z=>z)];exact q,fun b ps q=>⟨#[],by rw [aV (hm b _ q fun z=>z),q];simp⟩⟩
 by_cases hbe:b=e
 ·subst hbe;exact heo
 ·exact ⟨u,k b u hbe q⟩
end
def Rm (h:Heap) (H:Hp):List Addr:=(List.range h.objs.size).filter fun a=>(H a).isSome
def Cz (h:Heap) (H:Hp):Heap:=PySem.W.hideAll h (Rm h H)
theorem Lb (h:Heap) (H:Hp):(Cz h H).objs.size=h.objs.size:=PySem.W.hideAll_size _ _
theorem P_ {h:Heap} {H:Hp} {b:Addr} {o:Obj} (e:h.get? b=some o) (n:H b=none):(Cz h H).get? b=some o:=
 PySem.W.hideAll_get _ e fun hm=>by
  have q:(H b).isSome=true:=(List.mem_filter.mp hm).2
  rw [n] at q;simp at q
theorem Ss {h:Heap} {H:Hp} {b:Addr} {o:Obj} (e:(Cz h H).get? b=some o):h.get? b=some o/\H b=none:=by
 have e':h.get? b=some o:=PySem.W.of_hideAll (Rm h H) e
 refine ⟨e', ?_⟩
 cases q:H b with
 | none=>rfl
 | some x=>
   have hm:b∈Rm h H:=List.mem_filter.mpr ⟨List.mem_range.mpr (Heap.lt_size e'),by simp [q]⟩
   have z:(Cz h H).get? b=none:=PySem.W.hideAll_none (Rm h H) hm
   rw [z] at e;cases e
def T8 (g h:Heap) (L:Addr):List (Addr×Obj):=(List.range h.objs.size).filterMap fun a=>if a=L\/(g.get? a).isSome=true then none else (h.get? a).map fun o=>(a,o)
def rest (g h:Heap) (L d:Addr):List (Addr×Obj):=(T8 g h L).filter fun p=>decide (p.1≠d)
end L2
namespace L2
open PySem PySem.Spec PyProof.Rows
structure Mod (K:PySem.W.Frag) (mg:Str->Option Value) (base:Heap):Prop where
 Zg:K.In base
 glob:base.Ns mainGlobals mg
 blt:∃mb,base.Ns builtinsNs mb /\ ∀x:Str,x ≠ "__name__" -> mb x=bootBuiltins x
 nolimit:base.NoLimit
structure Cx where
 prog:Program
 w:World
 K:PySem.W.Frag
 mg:Str->Option Value
 base:Heap
 A:Around
 N:List Str
 s₀:Shared
 H₀:Hp
 env:Env
 outer:List Env
 stack:List Env
 ex:List Addr
 fn:Str->Bool
 calm:Bool
 pn:List (Addr×Obj)
 xe:Value->Shared->Prop
def frs (l:List Env):List Addr:=l.filterMap (·.frame)
abbrev Cx.fs (X:Cx):List Addr:=frs X.outer
def Vis (sc:Scope) (x:Str):Prop:=sc.names.lookup x=some .local\/sc.names.lookup x=some .cell\/sc.names.lookup x=some .free
def Loc (sc:Scope) (x:Str):Prop:=sc.names.lookup x=some .local\/sc.names.lookup x=some .cell
def Look (env:Env) (h:Heap) (m:Str->Option Value) (x:Str) (u:Value):Prop:=
 (env.kindOf x=some .local/\m x=some u)\/((env.kindOf x=some .cell\/env.kindOf x=some .free) /\ ∃c,env.cells.lookup x=some c/\h.IsCell c (some u))
structure Cx.Ok (X:Cx):Prop where
 mod:Mod X.K X.mg X.base
 kind:X.env.scope.kind = .function
 glob:X.env.globals=mainGlobals
 blt:X.env.builtins=builtinsNs
 above:X.s₀.heap.objs.size<=X.env.locals
 inj:∀x y c,X.env.cells.lookup x=some c->X.env.cells.lookup y=some c->x=y
 has:∀x,(X.env.kindOf x=some .cell\/X.env.kindOf x=some .free) -> ∃c,X.env.cells.lookup x=some c
 cab:∀x c,X.fn x=true->X.env.cells.lookup x=some c->X.s₀.heap.objs.size<=c
 hd:X.calm=true->X.A.handled=none
 frames:X.A.frames=some X.stack
 stk:X.stack=X.outer\/(X.stack=X.env::X.outer/\X.env.frame=some X.env.locals)
 X6:∀b∈X.ex,b≠X.env.locals /\ ∀x c,X.env.cells.lookup x=some c->c≠b
 bs:∀b o,X.base.get? b=some o->X.s₀.heap.get? b=some o/\X.H₀ b=none
 Mv:X.base.objs.size<=X.s₀.heap.objs.size
 Cm:∀b o,X.base.get? b=some o->b∉X.ex
 Fw:∀b∈X.ex,b∉X.fs
 rO:X.s₀.heap.FunFrames X.base X.outer
 Rr:∀b∈X.fs,X.H₀ b=none
structure Inv (X:Cx) (pins:List (Addr×Obj)) (σ:List (Option V)) (H:Hp) (s:Shared):Prop where
 ok:X.Ok
 os:s.os=X.s₀.os
 bare:AllBare s.gens
 base:Un X.fs X.ex X.H₀ H X.s₀.heap s.heap
 loc:∃m,s.heap.Ns X.env.locals m /\ ∀(i:Nat) (x:Str) (v:V),X.N[i]? = some x->σ[i]? = some (some v)->Vis X.env.scope x -> ∃u,RelV v u/\Look X.env s.heap m x u
 cell:∀x c,X.env.cells.lookup x=some c -> ∃v,s.heap.IsCell c v
 free:H X.env.locals=none
 jg:∀x c,X.env.cells.lookup x=some c->H c=none
 pin:∀p∈X.pn++pins,s.heap.get? p.1=some p.2/\H p.1=none/\p.1≠X.env.locals/\p.1∉X.fs /\ ∀v,p.2.data ≠ .cell v
 hok:ud X.prog X.w H s.heap
 len:σ.length=X.N.length
section
variable {X:Cx} {pins:List (Addr×Obj)} {σ:List (Option V)} {H H':Hp} {s:Shared} {h':Heap}
theorem Cx.Ok.aeI (ok:X.Ok) {b:Addr} {o:Obj} (e:X.base.get? b=some o):b∉X.fs:=fun hb=>by
 have:=(ok.rO.mem hb).1
 rw [e] at this;cases this
theorem Inv.bs (I:Inv X pins σ H s):∀b o,X.base.get? b=some o->s.heap.get? b=some o/\H b=none:=fun b o e=>
 ⟨I.base.keep b o (I.ok.bs b o e).1 (I.ok.bs b o e).2 (I.ok.aeI e) (I.ok.Cm b o e),I.base.free b o (I.ok.bs b o e).1 (I.ok.bs b o e).2 (I.ok.Cm b o e)⟩
theorem Inv.bk (I:Inv X pins σ H s):∀b o,X.base.get? b=some o->s.heap.get? b=some o:=fun b o e=>(I.bs b o e).1
theorem Inv.mod (I:Inv X pins σ H s):Mod X.K X.mg X.base:=I.ok.mod
theorem Inv.zL (I:Inv X pins σ H s):X.K.In s.heap:=I.ok.mod.Zg.keeps I.bk
theorem Inv.lt (I:Inv X pins σ H s):X.env.locals<s.heap.objs.size:=let ⟨_,hn,_⟩:=I.loc;hn.lt
theorem Inv.sz (I:Inv X pins σ H s):X.s₀.heap.objs.size<=s.heap.objs.size:=Nat.le_trans I.ok.above (Nat.le_of_lt I.lt)
theorem Inv.aeH (I:Inv X pins σ H s) {a:Addr} (h:s.heap.objs.size<=a):a∉X.fs:=fun hb=>by
 obtain ⟨_,o,ho,_⟩:=I.ok.rO.mem hb
 exact absurd (Nat.lt_of_lt_of_le (Heap.lt_size ho) (Nat.le_trans I.sz h)) (Nat.lt_irrefl _)
theorem Inv.U9 (I:Inv X pins σ H s):∀x c,X.env.cells.lookup x=some c->c≠X.env.locals:=fun x c e z=>by
 obtain ⟨v,o,ho,hd⟩:=I.cell x c e
 obtain ⟨m,⟨o',es,ep,ho',hd',_⟩,_⟩:=I.loc
 rw [z,ho'] at ho;cases ho;rw [hd'] at hd;cases hd
theorem Inv.rO (I:Inv X pins σ H s):s.heap.FunFrames X.base X.outer:=by
 have all:∀(l:List Env),(∀b∈frs l,b∈X.fs)->X.s₀.heap.FunFrames X.base l->s.heap.FunFrames X.base l:=by
  intro l
  induction l with
  | nil=>intro _ _;trivial
  | cons env r ih=>
    intro hs hl
    obtain ⟨hk,⟨L,o,hf,hn,ho,hd⟩,hr⟩:=hl
    have hL:L∈X.fs:=hs L (by unfold frs;rw [List.filterMap_cons,hf];exact List.mem_cons_self)
    obtain ⟨sl,e⟩:=I.base.slot L o ho (I.ok.Rr L hL) hL fun z=>I.ok.Fw L z hL
    exact ⟨hk,⟨L,_,hf,hn,e,hd⟩,ih (fun b hb=>hs b (by unfold frs;rw [List.filterMap_cons,hf];exact List.mem_cons_of_mem _ hb)) hr⟩
 exact all X.outer (fun _ hb=>hb) I.ok.rO
theorem Inv.stack (I:Inv X pins σ H s):s.heap.FunFrames X.base X.stack:=by
 rcases I.ok.stk with e|⟨e,hf⟩
 ·rw [e];exact I.rO
 ·rw [e]
  obtain ⟨m,hn,_⟩:=I.loc
  refine .cons (by rw [I.ok.kind];decide) hf hn ?_ I.rO
  exact Heap.get?_none_of_le (Nat.le_trans I.ok.Mv I.ok.above)
theorem Inv.xW (I:Inv X pins σ H s):∀b∈frs X.stack,b∈X.env.locals::X.fs:=fun b hb=>by
 rcases I.ok.stk with e|⟨e,hf⟩
 ·rw [e] at hb;exact List.mem_cons_of_mem _ hb
 ·rw [e] at hb
  unfold frs at hb
  rw [List.filterMap_cons,hf] at hb
  exact hb
theorem Inv.Bq (I:Inv X pins σ H s):∀b∈frs X.stack,H b=none:=fun b hb=>by
 rcases List.mem_cons.mp (I.xW b hb) with e|hb
 ·rw [e];exact I.free
 ·obtain ⟨_,o,ho,_⟩:=I.ok.rO.mem hb
  exact I.base.free b o ho (I.ok.Rr b hb) fun z=>I.ok.Fw b z hb
theorem Inv.step {g':Array GenState} {t':Nat} {d':Drawn} {ch:List Addr} (I:Inv X pins σ H s)
 (hch:∀b∈ch,(b∈X.ex\/X.s₀.heap.objs.size<=b)/\b≠X.env.locals/\(∀x c,X.env.cells.lookup x=some c->c≠b) /\ ∀p∈X.pn++pins,p.1≠b)
 (keep:∀b o,b≠X.env.locals->b∉X.fs->b∉ch->s.heap.get? b=some o->H b=none->h'.get? b=some o)
 (slot:∀b o,b≠X.env.locals->b∈X.fs->b∉ch->s.heap.get? b=some o->H b=none -> ∃sl,h'.get? b=some {o with slots:=sl}) (free:∀b o,b∉ch->s.heap.get? b=some o->H b=none->H' b=none)
 (there:∀b o,b∉ch->s.heap.get? b=some o -> ∃o',h'.get? b=some o')
 (tups:∀b xs,H b=some (.tup xs)->H' b=some (.tup xs)) (rP:∀b o u,H b=some (.jB o u)->H' b=some (.jB o u)) (u9:∀b ps,H b=some (.Ry ps) -> ∃more,H' b=some (.Ry (ps++more)))
 (ns:∀m,s.heap.Ns X.env.locals m->h'.Ns X.env.locals m) (hok:ud X.prog X.w H' h') (hg:AllBare g'):
 Inv X pins σ H' {s with heap:=h',gens:=g',drawn:=d',toks:=t'}:=by
 have Uw:∀b o,X.s₀.heap.get? b=some o->b≠X.env.locals:=fun b o e=>Nat.ne_of_lt (Nat.lt_of_lt_of_le (Heap.lt_size e) I.ok.above)
 have neC:∀b o,X.s₀.heap.get? b=some o->b∉X.ex->b∉ch:=fun b o e hx hb=>by
  rcases (hch b hb).1 with z|z
  ·exact hx z
  ·exact absurd (Nat.lt_of_lt_of_le (Heap.lt_size e) z) (Nat.lt_irrefl _)
 have cellK:∀x c,X.env.cells.lookup x=some c -> ∀v,s.heap.IsCell c v->h'.IsCell c v:=fun x c e v ⟨o,ho,hd⟩=>by
  have Y_:c∉ch:=fun z=>(hch c z).2.2.1 x c e rfl
  by_cases hc:c∈X.fs
  ·obtain ⟨sl,q⟩:=slot c o (I.U9 x c e) hc Y_ ho (I.jg x c e)
   exact ⟨_,q,hd⟩
  ·exact ⟨o,keep c o (I.U9 x c e) hc Y_ ho (I.jg x c e),hd⟩
 refine ⟨I.ok,I.os,hg,⟨fun b o e n hb hx=> ?_,fun b o e n hb hx=> ?_,fun b o e n hx=> ?_,fun b o e hx=> ?_,fun b xs e=>tups b xs (I.base.tups b xs e),fun b o xs e=>rP b o xs (I.base.rP b o xs e),fun b ps e=> ?_⟩, ?_,fun x c e=> ?_, ?_,fun x c e=> ?_,fun p hp=> ?_,hok,I.len⟩
 ·exact keep b o (Uw b o e) hb (neC b o e hx) (I.base.keep b o e n hb hx) (I.base.free b o e n hx)
 ·obtain ⟨sl,e1⟩:=I.base.slot b o e n hb hx
  obtain ⟨sl',e2⟩:=slot b _ (Uw b o e) hb (neC b o e hx) e1 (I.base.free b o e n hx)
  exact ⟨sl',e2⟩
 ·obtain ⟨o',e1⟩:=I.base.there b o e hx
  exact free b o' (neC b o e hx) e1 (I.base.free b o e n hx)
 ·obtain ⟨o',e1⟩:=I.base.there b o e hx
  exact there b o' (neC b o e hx) e1
 ·obtain ⟨m1,e1⟩:=I.base.u9 b ps e
  obtain ⟨m2,e2⟩:=u9 b _ e1
  exact ⟨m1++m2,by rw [e2,Array.append_assoc]⟩
 ·obtain ⟨m,hn,hl⟩:=I.loc
  refine ⟨m,ns m hn,fun i x v e1 e2 e3=> ?_⟩
  obtain ⟨u,r,l⟩:=hl i x v e1 e2 e3
  refine ⟨u,r, ?_⟩
  rcases l with l|⟨k,c,e,z⟩
  ·exact .inl l
  ·exact .inr ⟨k,c,e,cellK x c e _ z⟩
 ·obtain ⟨v,z⟩:=I.cell x c e
  exact ⟨v,cellK x c e v z⟩
 ·obtain ⟨m,⟨o,_,_,ho,_⟩,_⟩:=I.loc
  exact free _ o (fun z=>(hch _ z).2.1 rfl) ho I.free
 ·obtain ⟨v,o,ho,hd⟩:=I.cell x c e
  exact free c o (fun z=>(hch c z).2.2.1 x c e rfl) ho (I.jg x c e)
 ·obtain ⟨e,n,ne,nf,d⟩:=I.pin p hp
  have Y_:p.1∉ch:=fun z=>(hch p.1 z).2.2.2 p hp rfl
  exact ⟨keep p.1 p.2 ne nf Y_ e n,free p.1 p.2 Y_ e n,ne,nf,d⟩
theorem Inv.un {t':Nat} (I:Inv X pins σ H s) (u:Un X.fs [] H H' s.heap h') (hok:ud X.prog X.w H' h'):Inv X pins σ H' {s with heap:=h',toks:=t'}:=by
 obtain ⟨m,⟨o,es,ep,ho,r⟩,_⟩:=id I.loc
 obtain ⟨sl,hL⟩:=u.any ho I.free (by simp)
 exact I.step (g':=s.gens) (d':=s.drawn) (ch:=[]) (fun _ z=>nomatch z) (fun b o _ hb _ e n=>u.keep b o e n hb (by simp)) (fun b o _ hb _ e n=>u.slot b o e n hb (by simp)) (fun b o _ e n=>u.free b o e n (by simp)) (fun b o _ e=>u.there b o e (by simp)) u.tups u.rP u.u9 (fun m' hm=>by
  obtain ⟨o',es',ep',ho',r'⟩:=hm
  rw [ho] at ho';cases ho'
  exact ⟨_,es',ep',hL,r'⟩) hok I.bare
theorem Inv.call {g':Array GenState} {t':Nat} {d':Drawn} {ch:List Addr} (I:Inv X pins σ H s) (u:Un (frs X.stack) ch H H' s.heap h') (hok:ud X.prog X.w H' h') (hg:AllBare g')
 (hch:∀b∈ch,(b∈X.ex\/X.s₀.heap.objs.size<=b)/\b≠X.env.locals/\(∀x c,X.env.cells.lookup x=some c->c≠b) /\ ∀p∈X.pn++pins,p.1≠b):
 Inv X pins σ H' {s with heap:=h',gens:=g',drawn:=d',toks:=t'}:=by
 obtain ⟨m,⟨o,es,ep,ho,r⟩,_⟩:=id I.loc
 obtain ⟨sl,hL⟩:=u.any ho I.free fun z=>(hch _ z).2.1 rfl
 exact I.step (ch:=ch) hch (fun b o hL hb hc e n=>u.keep b o e n (fun z=>(List.mem_cons.mp (I.xW b z)).elim hL hb) hc) (fun b o _ _ hc e n=>u.any e n hc) (fun b o hc e n=>u.free b o e n hc) (fun b o hc e=>u.there b o e hc) u.tups u.rP u.u9 (fun m' hm=>by
  obtain ⟨o',es',ep',ho',r'⟩:=hm
  rw [ho] at ho';cases ho'
  exact ⟨_,es',ep',hL,r'⟩) hok hg
theorem Inv.turned {t':Nat} {it:Addr} (I:Inv X pins σ H s) (k:∀b o,b≠it->s.heap.get? b=some o->h'.get? b=some o) (hn:H it=none) (hL:it≠X.env.locals)
 (h1:it∈X.ex\/X.s₀.heap.objs.size<=it) (h2:∀x c,X.env.cells.lookup x=some c->c≠it) (h3:∀p∈X.pn++pins,p.1≠it):Inv X pins σ H {s with heap:=h',toks:=t'}:=by
 have Sv:∀b u,H b=some u->b≠it:=fun b u e z=>by rw [z,hn] at e;cases e
 refine I.step (g':=s.gens) (d':=s.drawn) (ch:=[it]) (fun b hb=> ?_) (fun b o _ _ hc e _=>k b o (fun z=>hc (by simp [z])) e) (fun b o _ _ hc e _=>⟨o.slots,k b o (fun z=>hc (by simp [z])) e⟩) (fun _ _ _ _ n=>n)
  (fun b o hc e=>⟨o,k b o (fun z=>hc (by simp [z])) e⟩) (fun _ _ e=>e) (fun _ _ _ e=>e) (fun b ps e=>⟨#[],by rw [e];simp⟩) (fun m hm=> ?_) (fun b u e=> ?_) I.bare
 ·have e:b=it:=by simpa using hb
  subst e
  exact ⟨h1,hL,h2,h3⟩
 ·obtain ⟨o,es,ep,ho,r⟩:=hm
  exact ⟨o,es,ep,k _ o (Ne.symm hL) ho,r⟩
 ·refine (I.hok b u e).stay (fun c v hc q=>k c v ?_ q) (fun _ q=>q) fun _ _ q=>q
  rcases hc with z|z
  ·rw [z];exact Sv b u e
  ·exact Sv c _ z
theorem Inv.tok (I:Inv X pins σ H s) (t:Nat):Inv X pins σ H {s with toks:=t}:=I.un (h':=s.heap) (t':=t) Un.refl I.hok
theorem Inv.kept {t':Nat} (I:Inv X pins σ H s) (k:∀b u,s.heap.get? b=some u->h'.get? b=some u):Inv X pins σ H {s with heap:=h',toks:=t'}:=I.un (Un.kept k) (I.hok.kept k)
theorem Inv.laid {a:Addr} {o:HO} {t':Nat} (I:Inv X pins σ H s) (k:∀b u,s.heap.get? b=some u->h'.get? b=some u) (hp:s.heap.objs.size<=a) (new:bQ X.prog X.w (upd H a o) h' a o):
 Inv X pins σ (upd H a o) {s with heap:=h',toks:=t'}:=I.un (Un.laid k hp (I.hok.fresh hp)) (I.hok.laid k hp new)
theorem Inv.write {x e:Addr} {o:HO} {t':Nat} (I:Inv X pins σ H s) (mu:Mut (H x)) (he:e=x\/H e=some (.own x)) (k:∀b u,b≠e->s.heap.get? b=some u->h'.get? b=some u) (heo:∃u,h'.get? e=some u)
 (new:bQ X.prog X.w (upd H x o) h' x o):Inv X pins σ (upd H x o) {s with heap:=h',toks:=t'}:=I.un (Un.write mu he k heo) (I.hok.write mu he k heo new)
theorem Inv.Jq {pA:List (Addr×Obj)} (I:Inv X pins σ H s) (h:∀p∈pA,s.heap.get? p.1=some p.2/\H p.1=none/\p.1≠X.env.locals/\p.1∉X.fs /\ ∀v,p.2.data ≠ .cell v):Inv X pA σ H s:=
 ⟨I.ok,I.os,I.bare,I.base,I.loc,I.cell,I.free,I.jg,fun p hp=>(List.mem_append.mp hp).elim (fun z=>I.pin p (List.mem_append_left _ z)) (h p),I.hok,I.len⟩
theorem yH {N:List Str} (hN:N.Nodup) {i j:Nat} {x:Str} (a:N[i]? = some x) (b:N[j]? = some x):i=j:=by
 obtain ⟨h1,e1⟩:=List.getElem?_eq_some_iff.mp a
 obtain ⟨h2,e2⟩:=List.getElem?_eq_some_iff.mp b
 exact (List.getElem_inj hN).mp (e1.trans e2.symm)
theorem Ad {M:Model} {A:Around} {E:Value->Shared->Prop} {i:Nat} {x:Str} {v:V} {u:Value} {Q:Unit->Shared->Prop} (I:Inv X pins σ H s) (hN:X.N.Nodup) (hi:X.N[i]? = some x) (hx:Loc X.env.scope x) (r:RelV v u)
 (h:∀s',Inv X pins (σ.set i (some v)) H s'->(∃a,Heap.SameBut a s.heap s'.heap/\(a=X.env.locals\/X.env.cells.lookup x=some a))->Q () s') (hf:X.fn x=true\/X.env.scope.names.lookup x=some .local:=by first |exact .inl rfl|exact .inr rfl|assumption):wpAny M A (storeName X.env x u) Q E s:=by
 obtain ⟨m,hn,hl⟩:=id I.loc
 have hcls:(X.env.scope.kind == .class||(X.env.scope.kind == .module&&X.env.locals != X.env.globals))=false:=by rw [I.ok.kind];rfl
 have ajm:i<σ.length:=by rw [I.len];exact (List.getElem?_eq_some_iff.mp hi).1
 have U9:=I.U9
 have tracked:∀{a:Addr} {h':Heap},(∃o,s.heap.get? a=some o/\H a=none)->Heap.SameBut a s.heap h'->ud X.prog X.w H h':=fun {a h'} ha hs b ob e=>by
  obtain ⟨_,_,hfree⟩:=ha
  refine (I.hok b ob e).stay (fun c w' hc q=>(hs.2 c ?_).trans q) (fun _ q=>q) fun _ _ q=>q
  rintro rfl
  rcases hc with rfl|hc
  ·rw [hfree] at e;cases e
  ·rw [hfree] at hc;cases hc
 rcases hx with hk|hk
 ·refine wpAny_storeName_local hk hn (fun h' hn' hs=> ?_) hcls
  obtain ⟨oL,_,_,hoL,_⟩:=id hn
  refine h _ ⟨I.ok,I.os,I.bare,⟨fun b o e n hb hx=> ?_,fun b o e n hb hx=> ?_,I.base.free,fun b o e hx=> ?_,I.base.tups,I.base.rP,I.base.u9⟩,⟨_,hn',fun j y v' e1 e2 e3=> ?_⟩,fun y c e=> ?_,I.free,I.jg,fun p hp=> ?_,tracked ⟨oL,hoL,I.free⟩ hs,by simpa using I.len⟩ ⟨_,hs,.inl rfl⟩
  ·exact (hs.2 b (Nat.ne_of_lt (Nat.lt_of_lt_of_le (Heap.lt_size e) I.ok.above))).trans (I.base.keep b o e n hb hx)
  ·obtain ⟨sl,e1⟩:=I.base.slot b o e n hb hx
   exact ⟨sl,(hs.2 b (Nat.ne_of_lt (Nat.lt_of_lt_of_le (Heap.lt_size e) I.ok.above))).trans e1⟩
  ·obtain ⟨o',e1⟩:=I.base.there b o e hx
   exact ⟨o',(hs.2 b (Nat.ne_of_lt (Nat.lt_of_lt_of_le (Heap.lt_size e) I.ok.above))).trans e1⟩
  ·by_cases hj:j=i
   ·subst hj
    rw [hi] at e1;cases e1
    rw [List.getElem?_set_self ajm] at e2
    cases e2
    exact ⟨u,r,.inl ⟨hk,by simp⟩⟩
   ·rw [List.getElem?_set_ne (Ne.symm hj)] at e2
    obtain ⟨u',r',q⟩:=hl j y v' e1 e2 e3
    refine ⟨u',r', ?_⟩
    rcases q with ⟨k,e⟩|⟨k,c,e,z⟩
    ·refine .inl ⟨k, ?_⟩
     have:y≠x:=fun e=>hj (yH hN e1 (e▸hi))
     simp [this,e]
    ·exact .inr ⟨k,c,e,z.sameBut hs (U9 y c e)⟩
  ·obtain ⟨w',z⟩:=I.cell y c e
   exact ⟨w',z.sameBut hs (U9 y c e)⟩
  ·obtain ⟨e,n,ne,nf,d⟩:=I.pin p hp
   exact ⟨(hs.2 p.1 ne).trans e,n,ne,nf,d⟩
 ·have hfn:X.fn x=true:=by
   rcases hf with z|z
   ·exact z
   ·rw [z] at hk;cases hk
  obtain ⟨c,hc⟩:=I.ok.has x (.inl hk)
  obtain ⟨w',z⟩:=I.cell x c hc
  refine wpAny_storeName_cell I.ok.kind hk hc z (fun h' hc' hs=> ?_)
  obtain ⟨oc,hoc,af_⟩:=id z
  refine h {s with heap:=h'} ⟨I.ok,I.os,I.bare,⟨fun b o e n hb hx=> ?_,fun b o e n hb hx=> ?_,I.base.free,fun b o e hx=> ?_,I.base.tups,I.base.rP,I.base.u9⟩,⟨m,hn.sameBut hs (Ne.symm (U9 x c hc)),fun j y v' e1 e2 e3=> ?_⟩,fun y c' e=> ?_,I.free,I.jg,fun p hp=> ?_,tracked ⟨oc,hoc,I.jg x c hc⟩ hs,by simpa using I.len⟩ ⟨c,hs,.inr hc⟩
  ·exact (hs.2 b (Nat.ne_of_lt (Nat.lt_of_lt_of_le (Heap.lt_size e) (I.ok.cab x c hfn hc)))).trans (I.base.keep b o e n hb hx)
  ·obtain ⟨sl,e1⟩:=I.base.slot b o e n hb hx
   exact ⟨sl,(hs.2 b (Nat.ne_of_lt (Nat.lt_of_lt_of_le (Heap.lt_size e) (I.ok.cab x c hfn hc)))).trans e1⟩
  ·obtain ⟨o',e1⟩:=I.base.there b o e hx
   exact ⟨o',(hs.2 b (Nat.ne_of_lt (Nat.lt_of_lt_of_le (Heap.lt_size e) (I.ok.cab x c hfn hc)))).trans e1⟩
  ·by_cases hj:j=i
   ·subst hj
    rw [hi] at e1;cases e1
    rw [List.getElem?_set_self ajm] at e2
    cases e2
    exact ⟨u,r,.inr ⟨.inl hk,c,hc,hc'⟩⟩
   ·rw [List.getElem?_set_ne (Ne.symm hj)] at e2
    obtain ⟨u',r',q⟩:=hl j y v' e1 e2 e3
    refine ⟨u',r', ?_⟩
    rcases q with q|⟨k,c',e,z'⟩
    ·exact .inl q
    ·refine .inr ⟨k,c',e,z'.sameBut hs ?_⟩
     rintro rfl
     exact hj (yH hN e1 (I.ok.inj _ _ _ e hc▸hi))
  ·by_cases hcc:c'=c
   ·subst hcc;exact ⟨_,hc'⟩
   ·obtain ⟨w2,z2⟩:=I.cell y c' e
    exact ⟨w2,z2.sameBut hs hcc⟩
  ·obtain ⟨e,n,ne,nf,d⟩:=I.pin p hp
   refine ⟨(hs.2 p.1 ?_).trans e,n,ne,nf,d⟩
   intro q
   rw [q,hoc] at e
   have q':oc=p.2:=Option.some.inj e
   exact d w' (by rw [←q'];exact af_)
theorem xV {M:Model} {A:Around} {E:Value->Shared->Prop} {i:Nat} {x:Str} {v:V} {u:Value} {Q:Unit->Shared->Prop} (I:Inv X pins σ H s) (hN:X.N.Nodup) (hi:X.N[i]? = some x) (hx:Loc X.env.scope x) (r:RelV v u)
 (h:∀s',Inv X pins (σ.set i (some v)) H s'->Q () s') (hf:X.fn x=true\/X.env.scope.names.lookup x=some .local:=by first |exact .inl rfl|exact .inr rfl|assumption):wpAny M A (storeName X.env x u) Q E s:=
 Ad I hN hi hx r (fun s' I' _=>h s' I') hf
theorem Inv.call' {s':Shared} {ch:List Addr} (I:Inv X pins σ H s) (ho:s'.os=s.os) (u:Un (frs X.stack) ch H H' s.heap s'.heap) (hok:ud X.prog X.w H' s'.heap) (hg:AllBare s'.gens)
 (hch:∀b∈ch,(b∈X.ex\/X.s₀.heap.objs.size<=b)/\b≠X.env.locals/\(∀x c,X.env.cells.lookup x=some c->c≠b) /\ ∀p∈X.pn++pins,p.1≠b):Inv X pins σ H' s':=by
 obtain ⟨h',g',d',t',o'⟩:=s'
 have e:o'=s.os:=ho
 subst e
 exact I.call (g':=g') (t':=t') (d':=d') u hok hg hch
end
abbrev XK:=Value->Option Addr->Hp->Prop
abbrev St:=List (Option V)
abbrev VK:=V->Hp->Prop
abbrev TE:=St->Hp->VK->Prop
abbrev TT:=St->Hp->(Bool->Hp->Prop)->Prop
abbrev TA:=St->Hp->(List V->Hp->Prop)->Prop
structure Ends where
 nx:St->Hp->Prop
 rt:VK
 bk:St->Hp->Prop:=fun _ _=>False
 ct:St->Hp->Prop:=fun _ _=>False
abbrev TS:=Ends->St->Hp->Prop
def EP (X:Cx) (pins:List (Addr×Obj)) (σ:St) (Q:VK) (u:Value) (s':Shared):Prop:=∃v H',Inv X pins σ H' s'/\RelV v u/\Q v H'
def TP (X:Cx) (pins:List (Addr×Obj)) (σ:St) (Q:Bool->Hp->Prop) (b:Bool) (s':Shared):Prop:=∃H',Inv X pins σ H' s'/\Q b H'
def AP (X:Cx) (pins:List (Addr×Obj)) (σ:St) (Q:List V->Hp->Prop) (us:List Value) (s':Shared):Prop:=∃vs H',Inv X pins σ H' s'/\Vals vs us/\Q vs H'
def SP (X:Cx) (pins:List (Addr×Obj)) (D:Ends) (f:Flow) (s':Shared):Prop:=
 match f with
 | .next=>∃σ' H',Inv X pins σ' H' s'/\D.nx σ' H'
 | .brk=>∃σ' H',Inv X pins σ' H' s'/\D.bk σ' H'
 | .cont=>∃σ' H',Inv X pins σ' H' s'/\D.ct σ' H'
 | .ret u=>∃v σ' H',Inv X pins σ' H' s'/\RelV v u/\D.rt v H'
def PE (X:Cx) (e:Expr) (t:TE):Prop:=
 ∀(pins:List (Addr×Obj)) (s:Shared) (σ:St) (H:Hp) (Q:VK),Inv X pins σ H s->t σ H Q->wpAny (model X.prog X.w) X.A (eval e X.env) (EP X pins σ Q) X.xe s
def PT (X:Cx) (e:Expr) (t:TT):Prop:=
 ∀(pins:List (Addr×Obj)) (s:Shared) (σ:St) (H:Hp) (Q:Bool->Hp->Prop),Inv X pins σ H s->t σ H Q->wpAny (model X.prog X.w) X.A (isTrue e X.env (eval e X.env)) (TP X pins σ Q) X.xe s
def PW (X:Cx) (e:Expr) (t:TT):Prop:=
 ∀(whole:Sem Value) (pins:List (Addr×Obj)) (s:Shared) (σ:St) (H:Hp) (Q:Bool->Hp->Prop),Inv X pins σ H s->t σ H Q->wpAny (model X.prog X.w) X.A (isTrue e X.env whole) (TP X pins σ Q) X.xe s
theorem PW.pt {X:Cx} {e:Expr} {t:TT} (h:PW X e t):PT X e t:=h _
def PA (X:Cx) (es:List Expr) (t:TA):Prop:=
 ∀(pos:Pos) (pins:List (Addr×Obj)) (s:Shared) (σ:St) (H:Hp) (Q:List V->Hp->Prop),Inv X pins σ H s->t σ H Q->wpAny (model X.prog X.w) X.A (spliced (backTo pos (starEach es X.env))) (AP X pins σ Q) X.xe s
def PS (X:Cx) (st:Stmt) (t:TS):Prop:=
 ∀(pins:List (Addr×Obj)) (s:Shared) (σ:St) (H:Hp) (D:Ends),Inv X pins σ H s->t D σ H->wpAny (model X.prog X.w) X.A (exec st X.env) (SP X pins D) X.xe s
def Iz (X:Cx) (st:List Stmt) (t:TS):Prop:=
 ∀(pins:List (Addr×Obj)) (s:Shared) (σ:St) (H:Hp) (D:Ends),Inv X pins σ H s->t D σ H->wpAny (model X.prog X.w) X.A (execs st X.env) (SP X pins D) X.xe s
theorem dz {α:Type} {t:Sem α} {Q Q':α->Shared->Prop} {M:Model} {A:Around} {E:Value->Shared->Prop} {s:Shared} (h:wpAny M A t Q E s) (hQ:∀a s,Q a s->Q' a s):wpAny M A t Q' E s:=wpAny_mono h hQ fun _ _ x=>x
end L2
namespace L2
open PySem PySem.Spec PyProof.Rows
section
variable {X:Cx}
def jP (i:Nat):TE:=fun σ H Q=>∃v,σ[i]? = some (some v)/\Q v H
def tC (v:V):TE:=fun _ H Q=>Q v H
theorem V6 {i:Nat} {x:Str} {pos:Pos} (hN:X.N[i]? = some x) (hv:Vis X.env.scope x) (hd:(x==("__debug__" :Str))=false:=by decide) (hcd:(x==("__classdict__" :Str))=false:=by decide):PE X (.Name x pos) (jP i):=by
 intro pins s σ H Q I h
 obtain ⟨v,e,h⟩:=h
 obtain ⟨m,hn,hl⟩:=I.loc
 obtain ⟨u,r,l⟩:=hl i x v hN e hv
 have fin:EP X pins σ Q u s:=⟨v,H,I,r,h⟩
 rcases l with ⟨hk,hm⟩|⟨hk,c,hc,hcell⟩
 ·exact wpAny_Name (wpAny_loadName_local I.ok.kind hk hn hm fin) hd
 ·rcases hk with hk|hk
  ·exact wpAny_Name (wpAny_loadName_cell I.ok.kind hk hc hcell fin) hd
  ·exact wpAny_Name (wpAny_loadName_free I.ok.kind hk hc hcell fin hcd) hd
theorem au {i j pos}:PE X (.Constant (.int i) j pos) (tC (.int i)):=fun _ _ _ H _ I h=>wpAny_Constant_int ⟨.int i,H,I.tok _,⟨_,rfl⟩,h⟩
theorem iD {b j pos}:PE X (.Constant (.bool b) j pos) (tC (.bl b)):=fun _ _ _ H _ I h=>Constant_bool ⟨.bl b,H,I,rfl,h⟩
theorem V8 {j pos}:PE X (.Constant .none j pos) (tC .non):=fun _ _ _ H _ I h=>Constant_none ⟨.non,H,I,rfl,h⟩
theorem iy {x j pos}:PE X (.Constant (.str x) j pos) (tC (.str x)):=fun _ _ _ H _ I h=>Calls.Constant_str ⟨.str x,H,I.tok _,⟨_,rfl⟩,h⟩
def Gl (X:Cx) (x:Str):Prop:=X.env.kindOf x=some .globalImplicit
theorem uH {E:Value->Shared->Prop} {pins:List (Addr×Obj)} {s:Shared} {σ:St} {H:Hp} {x:Str} {u:Value} {pos:Pos} {Q:Value->Shared->Prop} (I:Inv X pins σ H s) (hg:Gl X x) (hm:X.mg x=some u) (h:Q u s)
 (hd:(x==("__debug__" :Str))=false:=by decide):wpAny (model X.prog X.w) X.A (eval (.Name x pos) X.env) Q E s:=
 Calls.Name_function_global I.ok.kind hg (Calls.loadGlobal_global (by rw [I.ok.glob];exact I.mod.glob.keeps I.bk) hm h) hd
theorem qy {E:Value->Shared->Prop} {pins:List (Addr×Obj)} {s:Shared} {σ:St} {H:Hp} {x:Str} {u:Value} {pos:Pos} {Q:Value->Shared->Prop} (I:Inv X pins σ H s) (hg:Gl X x) (hm:X.mg x=none) (hv:bootBuiltins x=some u) (h:Q u s)
 (hn:x ≠ "__name__" :=by decide) (hd:(x==("__debug__" :Str))=false:=by decide):wpAny (model X.prog X.w) X.A (eval (.Name x pos) X.env) Q E s:=by
 obtain ⟨mb,h1,h2⟩:=I.mod.blt
 exact Calls.Name_function_global I.ok.kind hg (Calls.loadGlobal_builtin (by rw [I.ok.glob];exact I.mod.glob.keeps I.bk) hm (by rw [I.ok.blt];exact h1.keeps I.bk) ((h2 x hn).trans hv) h) hd
theorem gn {x:Str} {v:V} {u:Value} {pos:Pos} (hg:Gl X x) (hm:X.mg x=some u) (r:RelV v u) (hd:(x==("__debug__" :Str))=false:=by decide):PE X (.Name x pos) (tC v):=
 fun _ _ _ H _ I h=>uH I hg hm ⟨v,H,I,r,h⟩ hd
theorem uE {x:Str} {v:V} {u:Value} {pos:Pos} (hg:Gl X x) (hm:X.mg x=none) (hv:bootBuiltins x=some u) (r:RelV v u) (hn:x ≠ "__name__" :=by decide) (hd:(x==("__debug__" :Str))=false:=by decide):PE X (.Name x pos) (tC v):=
 fun _ _ _ H _ I h=>qy I hg hm hv ⟨v,H,I,r,h⟩ hn hd
variable {a b:Expr} {ta tb:TE} {pos:Pos}
def PC (X:Cx) (op:CmpOp) (a b:Expr) (t:TE):Prop:=
 ∀(pins:List (Addr×Obj)) (s:Shared) (σ:St) (H:Hp) (Q:VK),Inv X pins σ H s->t σ H Q ->
  wpAny (model X.prog X.w) X.A (eval a X.env) (fun v s₁=>wpAny (model X.prog X.w) X.A (eval b X.env) (fun u s₂=>wpAny (model X.prog X.w) X.A (compareOp op v u) (EP X pins σ Q) X.xe s₂) X.xe s₁) X.xe s
theorem Pa (b:Expr) {op:CmpOp} (h:op ≠ .In) (h2:op ≠ .NotIn):behindInMarks op b=false:=by
 have e1:(op==CmpOp.In)=false:=by cases op<;>first |rfl|exact absurd rfl h
 have e2:(op==CmpOp.NotIn)=false:=by cases op<;>first |rfl|exact absurd rfl h2
 cases b<;>simp [behindInMarks,e1,e2]
def tB (t:TE):TT:=fun σ H Q=>t σ H fun x H1=>∃c,x = .bl c/\Q c H1
theorem Hg {op:CmpOp} {t:TE} (h:PC X op a b t) (h1:behindInMarks op b=false:=by first |exact Pa _ (by decide) (by decide)|rfl):PT X (.Compare a [op] [b] pos) (tB t):=by
 intro pins s σ H Q I hw
 refine wpAny_isTrue_Compare1 (dz (h pins s σ H _ I hw) fun v s1 h1=>dz h1 fun u s2 h2=>dz h2 fun c s3 ⟨x,H1,I1,r1,q1⟩=> ?_) h1
 obtain ⟨d,rfl,q⟩:=q1
 cases r1
 exact wpAny_truthy_bool ⟨H1,I1,q⟩
theorem eO {e:Expr} {t:TE} (h:PE X e t) (he:∀whole,isTrue e X.env whole=(do let v ←whole;standAt e.pos;holding [v] (truthy v)):=by intro _;rfl):PT X e (tB t):=by
 intro pins s σ H Q I hw
 refine isTrue_plain (dz (h pins s σ H _ I hw) fun v s1 ⟨x,H1,I1,r1,q1⟩=> ?_) (he _)
 obtain ⟨d,rfl,q⟩:=q1
 cases r1
 exact wpAny_truthy_bool ⟨H1,I1,q⟩
variable {tA tB':TT} {rest:List Expr}
def acd (t u:TT):TT:=fun σ H Q=>t σ H fun c H1=>if c=true then u σ H1 Q else Q false H1
def tOr (t u:TT):TT:=fun σ H Q=>t σ H fun c H1=>if c=true then Q true H1 else u σ H1 Q
def ab8 (t:TT):TT:=fun σ H Q=>t σ H fun c H1=>Q (!c) H1
theorem jH (ha:PT X a tA):PW X (.BoolOp .And [a] pos) tA:=by
 intro wh pins s σ H Q I h
 refine isTrue_and (dz (ha pins s σ H Q I h) fun c s1 e=> ?_)
 cases c with
 | true=>exact isTrue_and_nil e
 | false=>exact e
theorem lY (ha:PT X a tA):PW X (.BoolOp .Or [a] pos) tA:=by
 intro wh pins s σ H Q I h
 refine isTrue_or (dz (ha pins s σ H Q I h) fun c s1 e=> ?_)
 cases c with
 | false=>exact isTrue_or_nil e
 | true=>exact e
theorem ni (ha:PT X a tA) (hb:PW X (.BoolOp .And (b::rest) pos) tB'):PW X (.BoolOp .And (a::b::rest) pos) (acd tA tB'):=by
 intro wh pins s σ H Q I h
 refine isTrue_and (dz (ha pins s σ H _ I h) fun c s1 ⟨H1,I1,q1⟩=> ?_)
 cases c with
 | true=>exact hb wh pins s1 σ H1 Q I1 q1
 | false=>exact ⟨H1,I1,q1⟩
theorem nM (ha:PT X a tA) (hb:PW X (.BoolOp .Or (b::rest) pos) tB'):PW X (.BoolOp .Or (a::b::rest) pos) (tOr tA tB'):=by
 intro wh pins s σ H Q I h
 refine isTrue_or (dz (ha pins s σ H _ I h) fun c s1 ⟨H1,I1,q1⟩=> ?_)
 cases c with
 | true=>exact ⟨H1,I1,q1⟩
 | false=>exact hb wh pins s1 σ H1 Q I1 q1
theorem lZ (ha:PT X a tA):PT X (.UnaryOp .Not a pos) (ab8 tA):=by
 intro pins s σ H Q I h
 exact isTrue_not (ha pins s σ H (fun c H1=>Q (!c) H1) I h)
def Yr (ta tb:TE):TE:=fun σ H Q=>ta σ H fun x H1=>∃c,x = .bl c/\if c=true then tb σ H1 Q else Q (.bl false) H1
def Yl (ta tb:TE):TE:=fun σ H Q=>ta σ H fun x H1=>∃c,x = .bl c/\if c=true then Q (.bl true) H1 else tb σ H1 Q
def Ym (ta:TE):TE:=fun σ H Q=>ta σ H fun x H1=>∃c,x = .bl c/\Q (.bl (!c)) H1
theorem nj {op} {t:TE} (h:PE X a t):PE X (.BoolOp op [a] pos) t:=fun pins s σ H Q I hw=>BoolOp_one (h pins s σ H Q I hw)
theorem vm (ha:PE X a ta) (hb:PE X (.BoolOp .And (b::rest) pos) tb):PE X (.BoolOp .And (a::b::rest) pos) (Yr ta tb):=by
 intro pins s σ H Q I h
 refine BoolOp_and (dz (ha pins s σ H _ I h) fun v s1 ⟨x,H1,I1,r1,q1⟩=> ?_)
 obtain ⟨c,rfl,q1⟩:=q1
 cases r1
 refine wpAny_truthy_bool ?_
 cases c with
 | true=>exact hb pins s1 σ H1 Q I1 q1
 | false=>exact ⟨.bl false,H1,I1,rfl,q1⟩
theorem Jt (ha:PE X a ta) (hb:PE X (.BoolOp .Or (b::rest) pos) tb):PE X (.BoolOp .Or (a::b::rest) pos) (Yl ta tb):=by
 intro pins s σ H Q I h
 refine BoolOp_or (dz (ha pins s σ H _ I h) fun v s1 ⟨x,H1,I1,r1,q1⟩=> ?_)
 obtain ⟨c,rfl,q1⟩:=q1
 cases r1
 refine wpAny_truthy_bool ?_
 cases c with
 | false=>exact hb pins s1 σ H1 Q I1 q1
 | true=>exact ⟨.bl true,H1,I1,rfl,q1⟩
theorem V7 (ha:PE X a ta):PE X (.UnaryOp .Not a pos) (Ym ta):=by
 intro pins s σ H Q I h
 refine UnaryOp_ (dz (ha pins s σ H _ I h) fun v s1 ⟨x,H1,I1,r1,q1⟩=> ?_)
 obtain ⟨c,rfl,q1⟩:=q1
 cases r1
 exact not_of (wpAny_truthy_bool ⟨.bl (!c),H1,I1,rfl,q1⟩)
end
end L2
namespace L2
open PySem PySem.Spec PyProof.Rows
def aZ (K:PySem.W.Frag) (H:Hp) (a:Addr) (xs:List V):Prop:=
 Rd H a (.lst xs) \/
  ∃(o:Obj) (its:Array Value) (n:Nat),K.lookup a=some o/\o.cls = .type "list" /\ o.dict=none/\o.data = .seq its n/\its.size<=sizeLine/\Vals xs its.toList
def cD (K:PySem.W.Frag) (H:Hp) (a:Addr) (xs:List V):Prop:=
 Rd H a (.tup xs) \/
  ∃(o:Obj) (its:Array Value) (n:Nat),K.lookup a=some o/\o.cls = .type "tuple" /\ o.data = .seq its n/\its.size<=sizeLine/\Vals xs its.toList
def aik:Value->Option V
 | .none=>some .non
 | .bool b=>some (.bl b)
 | .int i _=>some (.int i)
 | .str x _=>some (.str x)
 | .bytes b _=>some (.JZ b)
 | .float b _=>some (.flt b)
 | .ref a=>some (.ref a)
 | .type n=>some (.ty n)
 | _=>none
theorem RelV.abs {x:V} {u:Value} (r:RelV x u):aik u=some x:=by
 cases x with
 | non=>cases r;rfl
 | bl _=>cases r;rfl
 | int _=>obtain ⟨t,rfl⟩:=r;rfl
 | str _=>obtain ⟨t,rfl⟩:=r;rfl
 | JZ _=>obtain ⟨t,rfl⟩:=r;rfl
 | flt _=>obtain ⟨t,rfl⟩:=r;rfl
 | ref _=>cases r;rfl
 | ty _=>cases r;rfl
theorem RelV.inj {x y:V} {u:Value} (r:RelV x u) (q:RelV y u):x=y:=Option.some.inj (r.abs.symm.trans q.abs)
theorem Vals.inj {xs ys:List V} {us:List Value} (h:Vals xs us) (h':Vals ys us):xs=ys:=by
 induction h generalizing ys with
 | nil=>cases h';rfl
 | cons r t ih=>cases h' with
   | cons r' t'=>rw [r.inj r',ih t']
section
variable {X:Cx} {pins:List (Addr×Obj)} {σ:St} {H:Hp} {s:Shared} {a:Addr} {xs ys:List V}
theorem aZ.of {K:PySem.W.Frag} (h:H a=some (.lst xs)):aZ K H a xs:= .inl (.inl h)
theorem cD.of {K:PySem.W.Frag} (h:H a=some (.tup xs)):cD K H a xs:= .inl (.inl h)
theorem Inv.list (I:Inv X pins σ H s) (h:aZ X.K H a xs):∃its:List Value,Vals xs its/\PlainL s.heap a its.toArray/\xs.length<=sizeLine:=by
 rcases h with h|⟨o,its,n,hk,hc,hd,hs,hz,r⟩
 ·obtain ⟨z,its,n,r,e⟩:=h.ok I.hok
  exact ⟨its,r,⟨_,n,e,rfl,rfl,rfl⟩,z⟩
 ·refine ⟨its.toList,r,⟨o,n,I.zL a o hk,hc,hd,by simpa using hs⟩, ?_⟩
  have e:=r.length
  simp only [Array.length_toList] at e
  omega
theorem Inv.tuple (I:Inv X pins σ H s) (h:cD X.K H a xs):∃its:List Value,Vals xs its/\IsTup s.heap a its.toArray/\xs.length<=sizeLine:=by
 rcases h with h|⟨o,its,n,hk,hc,hs,hz,r⟩
 ·obtain ⟨z,its,r,p⟩:=h.ok I.hok
  exact ⟨its,r,p,z⟩
 ·refine ⟨its.toList,r,⟨o,I.zL a o hk,hc,n,by simpa using hs⟩, ?_⟩
  have e:=r.length
  simp only [Array.length_toList] at e
  omega
theorem Inv.Fd (I:Inv X pins σ H s) (h:aZ X.K H a xs) (h':aZ X.K H a ys):xs=ys:=by
 obtain ⟨its,r,⟨o,n,e,_,_,d⟩,_⟩:=I.list h
 obtain ⟨its',r',⟨o',n',e',_,_,d'⟩,_⟩:=I.list h'
 rw [e] at e';cases e'
 rw [d] at d'
 injection d' with d1 _
 have:its=its':=by simpa using congrArg Array.toList d1
 subst this
 exact r.inj r'
theorem Inv.Kc (I:Inv X pins σ H s) (h:cD X.K H a xs) (h':cD X.K H a ys):xs=ys:=by
 obtain ⟨its,r,⟨o,e,_,n,d⟩,_⟩:=I.tuple h
 obtain ⟨its',r',⟨o',e',_,n',d'⟩,_⟩:=I.tuple h'
 rw [e] at e';cases e'
 rw [d] at d'
 injection d' with d1 _
 have:its=its':=by simpa using congrArg Array.toList d1
 subst this
 exact r.inj r'
end
abbrev Cx.wish (X:Cx) (E:Value->Shared->Prop):Cx:={X with xe:=E}
abbrev Cx.nox (X:Cx):Cx:=X.wish fun _ _=>False
theorem Cx.Ok.wish {X:Cx} (ok:X.Ok) (E:Value->Shared->Prop):(X.wish E).Ok:=
 ⟨ok.mod,ok.kind,ok.glob,ok.blt,ok.above,ok.inj,ok.has,ok.cab,ok.hd,ok.frames,ok.stk,ok.X6,ok.bs,ok.Mv,ok.Cm,ok.Fw,ok.rO,ok.Rr⟩
theorem Cx.Ok.qb {X:Cx} {E:Value->Shared->Prop} (ok:(X.wish E).Ok):X.Ok:=
 ⟨ok.mod,ok.kind,ok.glob,ok.blt,ok.above,ok.inj,ok.has,ok.cab,ok.hd,ok.frames,ok.stk,ok.X6,ok.bs,ok.Mv,ok.Cm,ok.Fw,ok.rO,ok.Rr⟩
section
variable {X:Cx} {pins:List (Addr×Obj)} {σ:St} {H:Hp} {s:Shared} {E:Value->Shared->Prop}
theorem Inv.wish (I:Inv X pins σ H s) (E:Value->Shared->Prop):Inv (X.wish E) pins σ H s:=⟨I.ok.wish E,I.os,I.bare,I.base,I.loc,I.cell,I.free,I.jg,I.pin,I.hok,I.len⟩
theorem Inv.qb (I:Inv (X.wish E) pins σ H s):Inv X pins σ H s:=⟨I.ok.qb,I.os,I.bare,I.base,I.loc,I.cell,I.free,I.jg,I.pin,I.hok,I.len⟩
theorem SP.qb {D:Ends} {f:Flow} {s':Shared} (h:SP (X.wish E) pins D f s'):SP X pins D f s':=by
 cases f with
 | next=>obtain ⟨σ',H',I,q⟩:=h;exact ⟨σ',H',I.qb,q⟩
 | brk=>obtain ⟨σ',H',I,q⟩:=h;exact ⟨σ',H',I.qb,q⟩
 | cont=>obtain ⟨σ',H',I,q⟩:=h;exact ⟨σ',H',I.qb,q⟩
 | ret u=>obtain ⟨v,σ',H',I,r,q⟩:=h;exact ⟨v,σ',H',I.qb,r,q⟩
theorem Iz.nox {st:List Stmt} {t:TS} (h:Iz X.nox st t):Iz X st t:=fun pins s σ H D I hw=>
 wpAny_mono (h pins s σ H D (I.wish _) hw) (fun _ _ q=>q.qb) fun _ _ z=>False.elim z
end
section
variable {X:Cx} {st:Stmt} {rest:List Stmt} {t u:TS} {e:Expr} {te:TE} {pos:Pos}
def Nj:TS:=fun D σ H=>D.nx σ H
def Bo (t u:TS):TS:=fun D σ H=>t {D with nx:=u D} σ H
theorem bG:Iz X [] Nj:=fun _ _ σ H _ I h=>wpAny_execs_nil ⟨σ,H,I,h⟩
theorem aq (h1:PS X st t) (h2:Iz X rest u):Iz X (st::rest) (Bo t u):=by
 intro pins s σ H D I h
 refine wpAny_execs_cons (dz (h1 pins s σ H {D with nx:=u D} I h) fun f s1 q=> ?_)
 cases f with
 | next=>
   obtain ⟨σ',H',I',q⟩:=q
   exact h2 pins s1 σ' H' D I' q
 | ret v=>exact q
 | brk=>exact q
 | cont=>exact q
theorem aF (h1:PS X st t):Iz X [st] t:=by
 intro pins s σ H D I h
 refine wpAny_execs_cons (dz (h1 pins s σ H D I h) fun f s1 q=> ?_)
 cases f with
 | next=>exact wpAny_execs_nil q
 | ret v=>exact q
 | brk=>exact q
 | cont=>exact q
theorem Inv.quiet {pins:List (Addr×Obj)} {σ:St} {H:Hp} {s:Shared} (I:Inv X pins σ H s):interactive X.env=false:=by simp [interactive,I.ok.kind]
def Uj (te:TE):TS:=fun D σ H=>te σ H fun _ H1=>D.nx σ H1
theorem cA (he:PE X e te) (hs:swapsWith e none pos.line X.env=pure false:=by rfl):PS X (.Expr e pos) (Uj te):=by
 intro pins s σ H D I h
 exact wpAny_Expr_any (dz (he pins s σ H _ I h) fun v s1 ⟨x,H1,I1,r1,q1⟩=>⟨σ,H1,I1,q1⟩) I.quiet hs
def Ni (te:TE):TS:=fun D σ H=>te σ H D.rt
theorem aY (he:PE X e te):PS X (.Return (some e) pos) (Ni te):=by
 intro pins s σ H D I h
 exact wpAny_Return_some (dz (he pins s σ H _ I h) fun v s1 ⟨x,H1,I1,r1,q1⟩=>⟨x,σ,H1,I1,r1,q1⟩)
def Yn (c:TT) (t u:TS):TS:=fun D σ H=>c σ H fun b H1=>if b=true then t D σ H1 else u D σ H1
theorem cF {c:Expr} {a b:List Stmt} {tc:TT} (hc:PT X c tc) (ha:Iz X a t) (hb:Iz X b u):PS X (.If c a b pos) (Yn tc t u):=by
 intro pins s σ H D I h
 refine wpAny_If (dz (hc pins s σ H _ I h) fun d s1 ⟨H1,I1,q1⟩=> ?_)
 cases d with
 | true=>exact ha pins s1 σ H1 D I1 q1
 | false=>exact hb pins s1 σ H1 D I1 q1
def Vn:TS:=fun _ _ _=>False
theorem Oh:PS X st Vn:=fun _ _ _ _ _ _ h=>h.elim
end
abbrev TG:=V->St->Hp->(St->Hp->Prop)->Prop
abbrev Rt:=List V->St->Hp->(St->Hp->Prop)->Prop
def PG (X:Cx) (target:Expr) (t:TG):Prop:=
 ∀(pins:List (Addr×Obj)) (s:Shared) (σ:St) (H:Hp) (v:V) (u:Value) (Q:St->Hp->Prop),Inv X pins σ H s->RelV v u->t v σ H Q ->
  wpAny (model X.prog X.w) X.A (assign target X.env u) (fun _ s'=>∃σ' H',Inv X pins σ' H' s'/\Q σ' H') X.xe s
def X_ (X:Cx) (ts:List Expr) (t:Rt):Prop:=
 ∀(pins:List (Addr×Obj)) (s:Shared) (σ:St) (H:Hp) (vs:List V) (us:List Value) (Q:St->Hp->Prop),Inv X pins σ H s->Vals vs us->t vs σ H Q ->
  wpAny (model X.prog X.w) X.A (assignInOrder ((assignEach ts X.env).map (·.2)) us) (fun _ s'=>∃σ' H',Inv X pins σ' H' s'/\Q σ' H') X.xe s
abbrev Xv:=V->V->V->Hp->(Hp->Prop)->Prop
def aaz (X:Cx) (t:Xv):Prop:=
 ∀(pins:List (Addr×Obj)) (s:Shared) (σ:St) (H:Hp) (o i v:V) (ov iv u:Value) (Q:Hp->Prop),Inv X pins σ H s->RelV o ov->RelV i iv->RelV v u->t o i v H Q ->
  wpAny (model X.prog X.w) X.A (setItem ov iv u) (fun _ s'=>∃H',Inv X pins σ H' s'/\Q H') X.xe s
section
variable {X:Cx} {pos:Pos}
def jU (i:Nat):TG:=fun v σ H Q=>Q (σ.set i (some v)) H
theorem aO {i:Nat} {x:Str} (hN:X.N.Nodup) (hi:X.N[i]? = some x) (hx:Loc X.env.scope x) (hf:X.fn x=true\/X.env.scope.names.lookup x=some .local:=by first |exact .inl rfl|exact .inr rfl|assumption):PG X (.Name x pos) (jU i):=by
 intro pins s σ H v u Q I r h
 exact wpAny_assign_Name (xV I hN hi hx r (fun s' I'=>⟨_,H,I',h⟩) hf)
def ZG:Rt:=fun vs σ H Q=>vs=[]/\Q σ H
def Qj (t:TG) (u:Rt):Rt:=fun vs σ H Q=>∃v r,vs=v::r/\t v σ H fun σ' H'=>u r σ' H' Q
theorem jK:X_ X [] ZG:=by
 intro pins s σ H vs us Q I r h
 obtain ⟨e,h⟩:=h
 subst e
 cases r
 exact assignInOrder_nil ⟨σ,H,I,h⟩
theorem bO {e:Expr} {es:List Expr} {t:TG} {u:Rt} (h1:PG X e t) (h2:X_ X es u)
 (hs:(assignEach (e::es) X.env).map (·.2)=assign e X.env::(assignEach es X.env).map (·.2):=by rfl):X_ X (e::es) (Qj t u):=by
 intro pins s σ H vs us Q I r h
 obtain ⟨v,vr,e1,h⟩:=h
 subst e1
 cases r with
 | cons r rr=>
   rw [hs]
   refine assignInOrder_cons (dz (h1 pins s σ H _ _ _ I r h) fun _ s1 ⟨σ1,H1,I1,q1⟩=> ?_)
   exact h2 pins s1 σ1 H1 _ _ Q I1 rr q1
def W_ (K:PySem.W.Frag) (n:Nat) (t:Rt):TG:=fun v σ H Q=>∃a xs,v = .ref a/\cD K H a xs/\xs.length=n/\t xs σ H Q
theorem V5 {es:List Expr} {k:Nat} {t:Rt} {n:Nat} (hc:X.calm=true) (h:X_ X es t)
 (hn:(assignEach es X.env).length=n:=by rfl) (hst:(assignEach es X.env).findIdx? (·.1)=none:=by rfl):PG X (.Tuple es k pos) (W_ X.K n t):=by
 intro pins s σ H v u Q I r hw
 obtain ⟨a,xs,e1,hq,hl,hw⟩:=hw
 subst e1
 cases r
 obtain ⟨its,rv,ht,hz⟩:=I.tuple hq
 refine assign_Tuple_tuple (I.ok.hd hc) ht (by simp [hn,←hl,rv.length]) hst fun h' hx=> ?_
 have I1:Inv X pins σ H {s with heap:=h'}:=I.kept (t':=s.toks) fun b o e=>hx b o (Nat.ne_of_lt (Heap.lt_size e)) e
 exact h pins _ σ H xs _ Q I1 (by simpa using rv) hw
def agg (to ti:TE) (t:Xv):TG:=fun v σ H Q=>to σ H fun o H1=>ti σ H1 fun i H2=>t o i v H2 fun H3=>Q σ H3
theorem yC {o i:Expr} {to ti:TE} {t:Xv} (ho:PE X o to) (hi:PE X i ti) (hs:aaz X t)
 (ha:∀v,assign (.Subscript o i pos) X.env v=(do
   let ov ←holding [v] (eval o X.env)
   let iv ←holding [v,ov] (eval i X.env)
   standAt pos
   holding [v,ov,iv] (setItem ov iv v)
   release [v,ov,iv] []):=by intro _;rfl):PG X (.Subscript o i pos) (agg to ti t):=by
 intro pins s σ H v u Q I r h
 rw [ha]
 refine wpAny_bind (wpAny_holding (dz (ho pins s σ H _ I h) fun ov s1 ⟨x,H1,I1,r1,q1⟩=> ?_))
 refine wpAny_bind (wpAny_holding (dz (hi pins s1 σ H1 _ I1 q1) fun iv s2 ⟨y,H2,I2,r2,q2⟩=> ?_))
 refine wpAny_bind (wpAny_standAt (wpAny_bind (wpAny_holding (dz (hs pins s2 σ H2 x y v ov iv u _ I2 r1 r2 r q2) fun _ s3 ⟨H3,I3,q3⟩=> ?_))))
 exact wpAny_release ⟨σ,H3,I3,q3⟩
def Kd (te:TE) (g:TG):TS:=fun D σ H=>te σ H fun x H1=>g x σ H1 D.nx
theorem qm {tg e:Expr} {te:TE} {g:TG} (he:PE X e te) (hg:PG X tg g) (hs:swapsWithSole [tg] e pos.line X.env=pure false:=by rfl) (hw:swappedStores [tg] e X.env=pure none:=by rfl)
 (h1:(assignEach [tg] X.env).map (·.2)=[assign tg X.env]:=by rfl):PS X (.Assign [tg] e pos) (Kd te g):=by
 intro pins s σ H D I h
 refine wpAny_Assign_stores (dz (he pins s σ H _ I h) fun v s1 ⟨x,H1,I1,r1,q1⟩=> ?_) hs hw
 rw [h1]
 exact dz (hg pins s1 σ H1 x v _ I1 r1 q1) fun _ s2 q=>q
theorem aM {i:Nat} {x:Str} {e:Expr} {te:TE} {pos':Pos} (hN:X.N.Nodup) (hi:X.N[i]? = some x) (hx:Loc X.env.scope x) (he:PE X e te) (hs:swapsWith e (some (.Name x pos')) pos.line X.env=pure false:=by rfl) (hf:X.fn x=true\/X.env.scope.names.lookup x=some .local:=by first |exact .inl rfl|exact .inr rfl|assumption):
 PS X (.Assign [.Name x pos'] e pos) (Kd te (jU i)):=by
 intro pins s σ H D I h
 refine wpAny_Assign_Name (dz (he pins s σ H _ I h) fun v s1 ⟨y,H1,I1,r1,q1⟩=> ?_) hs
 exact xV I1 hN hi hx r1 (fun s2 I2=>⟨_,H1,I2,q1⟩) hf
end
section
variable {X:Cx} {pos:Pos}
end
structure It where
 go:Nat->Hp->Prop
 Uh:Nat->Hp->V->Hp->Prop
 stop:Nat->Hp->Prop
def uf (X:Cx) (pins:List (Addr×Obj)) (H:Hp) (b:Addr):Prop:=
 H b=none/\b≠X.env.locals/\b∉X.fs/\(b∈X.ex\/X.s₀.heap.objs.size<=b)/\(∀x c,X.env.cells.lookup x=some c->c≠b) /\ ∀p∈X.pn++pins,p.1≠b
theorem Inv.wC {X:Cx} {pins:List (Addr×Obj)} {σ:St} {H H':Hp} {s:Shared} {b:Addr} (I:Inv X pins σ H s) (hb:s.heap.objs.size<=b) (hn:H' b=none):uf X pins H' b:=by
 refine ⟨hn,Nat.ne_of_gt (Nat.lt_of_lt_of_le I.lt hb),I.aeH hb,.inr (Nat.le_trans I.sz hb),fun x c e z=> ?_,fun p hp z=> ?_⟩
 ·obtain ⟨v,q⟩:=I.cell x c e
  exact absurd (Nat.lt_of_lt_of_le q.lt (by rw [z];exact hb)) (Nat.lt_irrefl _)
 ·exact absurd (Nat.lt_of_lt_of_le (Heap.lt_size (I.pin p hp).1) (by rw [z];exact hb)) (Nat.lt_irrefl _)
structure Turn (P:Program) (w:World) (K:PySem.W.Frag) (tg:Expr) (J:It) (fp:List Addr) (it:Addr) (tn:Nat->Heap->Prop):Prop where
 mem:it∈fp
 obj:∀i h,tn i h -> ∀b∈fp,∃o,h.get? b=some o /\ ∀v,o.data ≠ .cell v
 keep:∀i h h',tn i h->(∀b∈fp,∀o,h.get? b=some o->h'.get? b=some o)->tn i h'
 item:∀(X:Cx),X.prog=P->X.w=w->X.K=K->X.calm=true -> ∀(i:Nat) (pins:List (Addr×Obj)) (s:Shared) (σ:St) (H:Hp) (E:Value->Shared->Prop),Inv X pins σ H s->(∀b∈fp,uf X pins H b)->tn i s.heap->J.go i H ->
  wpAny (model P w) X.A (pyNext (.ref it)) (fun r s1=>∃u,r=some u /\
   wpAny (model P w) X.A (letOwnedTupleGo tg (.ref it) u) (fun _ s2=>∃x H',Inv X pins σ H' s2/\RelV x u/\J.Uh i H x H'/\tn (i+1) s2.heap /\ ∀b∈fp,H' b=none) E s1) E s
 done:∀(X:Cx),X.prog=P->X.w=w->X.K=K->X.calm=true -> ∀(i:Nat) (pins:List (Addr×Obj)) (s:Shared) (σ:St) (H:Hp) (E:Value->Shared->Prop),Inv X pins σ H s->(∀b∈fp,uf X pins H b)->tn i s.heap->J.stop i H ->
  wpAny (model P w) X.A (pyNext (.ref it)) (fun r s1=>r=none/\Inv X pins σ H s1) E s
 self:∀(A:Around) (i:Nat) (s:Shared) (Q:Value->Shared->Prop) (E:Value->Shared->Prop),tn i s.heap->Q (.ref it) s->wpAny (model P w) A (pyIter (.ref it)) Q E s
abbrev TI:=St->Hp->(It->Hp->Prop)->Prop
def PIE (X:Cx) (pins:List (Addr×Obj)) (σ:St) (tg:Expr) (R:It->Hp->Prop) (itv:Value) (s2:Shared):Prop:=
 ∃(it:Addr) (fp:List Addr) (tn:Nat->Heap->Prop) (J:It) (H':Hp),itv = .ref it/\Inv X pins σ H' s2/\Turn X.prog X.w X.K tg J fp it tn/\tn 0 s2.heap/\(∀b∈fp,uf X pins H' b)/\R J H'
def PI (X:Cx) (tg iter:Expr) (wi:TI):Prop:=
 ∀(pins:List (Addr×Obj)) (s:Shared) (σ:St) (H:Hp) (R:It->Hp->Prop),Inv X pins σ H s->wi σ H R ->
  wpAny (model X.prog X.w) X.A (eval iter X.env) (fun v s1=>wpAny (model X.prog X.w) X.A (pyIter v) (PIE X pins σ tg R) X.xe s1) X.xe s
theorem Aq {M:Model} {A:Around} {E:Value->Shared->Prop} {s:Shared} {tg:Expr} {it:Addr} {u:Value} {o:Obj} {n:String} {vs:Array Value} {Q:Unit->Shared->Prop} (ho:s.heap.get? it=some o) (hc:o.cls = .type n) (hd:o.data = .fields vs)
 (hn:["enumerate","zip","dict_itemiterator","dict_reverseitemiterator","odict_iterator","itertools.zip_longest","itertools.pairwise"].contains n=false) (hQ:Q () s):wpAny M A (letOwnedTupleGo tg (.ref it) u) Q E s:=by
 unfold letOwnedTupleGo
 cases tg<;>first
  | exact wpAny_pure hQ
  | (cases u<;>first
      | exact wpAny_pure hQ
      | (refine wpAny_bind (wpAny_load ho ?_)
         rw [hc,hd]
         show wpAny M A (if (["enumerate","zip","dict_itemiterator","dict_reverseitemiterator","odict_iterator","itertools.zip_longest","itertools.pairwise"].contains n&&vs[0]? == some (rawInt _))=true then _ else _) Q E s
         rw [if_neg (by intro h;rw [hn,Bool.false_and] at h;cases h)]
         exact wpAny_pure hQ))
def Ua (K:PySem.W.Frag) (a:Addr):It:=
 ⟨fun i H=>∃xs x,aZ K H a xs/\xs[i]? = some x,fun i H x H'=>H'=H /\ ∀xs,aZ K H a xs->xs[i]? = some x,fun i H=>∃xs,aZ K H a xs/\xs.length<=i⟩
def Itt (K:PySem.W.Frag) (a:Addr):It:=
 ⟨fun i H=>∃xs x,cD K H a xs/\xs[i]? = some x,fun i H x H'=>H'=H /\ ∀xs,cD K H a xs->xs[i]? = some x,fun i H=>∃xs,cD K H a xs/\xs.length<=i⟩
def Ve (lo:Int) (n:Nat):It:=⟨fun i _=>i<n,fun i H x H'=>H'=H/\x = .int (lo+i),fun i _=>n<=i⟩
theorem J8 {P:Program} {w:World} {K:PySem.W.Frag} {tg:Expr} (a it:Addr):Turn P w K tg (Ua K a) [it] it (fun i h=>h.IsListIter it a i) where
 mem:=by simp
 obj:=fun i h st b hb=>by
  have e:b=it:=by simpa using hb
  subst e
  obtain ⟨o,e,c,d⟩:=st
  exact ⟨o,e,fun v z=>by rw [d] at z;cases z⟩
 keep:=fun i h h' st k=>st.at fun o e=>k it (by simp) o e
 item:=by
  intro X hP hw hK hc i pins s σ H E I hf st hg
  subst hP hw hK
  obtain ⟨xs,x,hq,hx⟩:=hg
  obtain ⟨its,rv,p,hz⟩:=I.list hq
  obtain ⟨u,hu,ru⟩:=rv.get hx
  obtain ⟨f0,f1,f2,f3,f4,f5⟩:=hf it (by simp)
  refine wpAny_pyNext_list_item st p.isList (x:=u) (by simpa using hu) fun h' st' sb=> ?_
  have I1:Inv X pins σ H {s with heap:=h'}:=I.turned (t':=s.toks) (fun b o hb e=>(sb.2 b hb).trans e) f0 f1 f3 f4 f5
  obtain ⟨o,e,c,d⟩:=id st'
  exact ⟨u,rfl,Aq (s:={s with heap:=h'}) e c d (by decide) ⟨x,H,I1,ru,⟨rfl,fun ys hy=>by rw [I.Fd hy hq];exact hx⟩,st',fun b hb=>(hf b hb).1⟩⟩
 done:=by
  intro X hP hw hK hc i pins s σ H E I hf st hg
  subst hP hw hK
  obtain ⟨xs,hq,hx⟩:=hg
  obtain ⟨its,rv,p,hz⟩:=I.list hq
  obtain ⟨f0,f1,f2,f3,f4,f5⟩:=hf it (by simp)
  have hl:=rv.length
  exact wpAny_pyNext_list_end (I.ok.hd hc) st p.isList (by simp;omega) fun h' eb=>⟨rfl,I.turned (t':=s.toks) (fun b o hb e=>eb b o hb e) f0 f1 f3 f4 f5⟩
 self:=fun _ _ _ _ _ st h=>wpAny_pyIter_listiter st h
theorem GC {P:Program} {w:World} {K:PySem.W.Frag} {tg:Expr} (a it:Addr):Turn P w K tg (Itt K a) [it] it (fun i h=>h.IsTupleIter it a i) where
 mem:=by simp
 obj:=fun i h st b hb=>by
  have e:b=it:=by simpa using hb
  subst e
  obtain ⟨o,e,c,d⟩:=st
  exact ⟨o,e,fun v z=>by rw [d] at z;cases z⟩
 keep:=fun i h h' st k=>st.at fun o e=>k it (by simp) o e
 item:=by
  intro X hP hw hK hc i pins s σ H E I hf st hg
  subst hP hw hK
  obtain ⟨xs,x,hq,hx⟩:=hg
  obtain ⟨its,rv,p,hz⟩:=I.tuple hq
  obtain ⟨u,hu,ru⟩:=rv.get hx
  obtain ⟨f0,f1,f2,f3,f4,f5⟩:=hf it (by simp)
  refine wpAny_pyNext_tuple_item st (show s.heap.IsTuple a its.toArray from p) (x:=u) (by simpa using hu) fun h' st' sb=> ?_
  have I1:Inv X pins σ H {s with heap:=h'}:=I.turned (t':=s.toks) (fun b o hb e=>(sb.2 b hb).trans e) f0 f1 f3 f4 f5
  obtain ⟨o,e,c,d⟩:=id st'
  exact ⟨u,rfl,Aq (s:={s with heap:=h'}) e c d (by decide) ⟨x,H,I1,ru,⟨rfl,fun ys hy=>by rw [I.Kc hy hq];exact hx⟩,st',fun b hb=>(hf b hb).1⟩⟩
 done:=by
  intro X hP hw hK hc i pins s σ H E I hf st hg
  subst hP hw hK
  obtain ⟨xs,hq,hx⟩:=hg
  obtain ⟨its,rv,p,hz⟩:=I.tuple hq
  obtain ⟨f0,f1,f2,f3,f4,f5⟩:=hf it (by simp)
  have hl:=rv.length
  exact wpAny_pyNext_tuple_end (I.ok.hd hc) st (show s.heap.IsTuple a its.toArray from p) (by simp;omega) fun h' eb=>⟨rfl,I.turned (t':=s.toks) (fun b o hb e=>eb b o hb e) f0 f1 f3 f4 f5⟩
 self:=fun _ _ _ _ _ st h=>wpAny_pyIter_tupleiter st h
theorem GD {P:Program} {w:World} {K:PySem.W.Frag} {tg:Expr} (it:Addr) (lo:Int) (n:Nat):Turn P w K tg (Ve lo n) [it] it (fun i h=>IsRangeIter h it (lo+(i:Nat)*1) ((n:Int) - (i:Nat)) 1) where
 mem:=by simp
 obj:=fun i h st b hb=>by
  have e:b=it:=by simpa using hb
  subst e
  exact ⟨_,st,fun v z=>by
   have z':Data.fields _=Data.cell v:=z
   cases z'⟩
 keep:=fun i h h' st k=>k it (by simp) _ st
 item:=by
  intro X hP hw hK hc i pins s σ H E I hf st hg
  subst hP hw hK
  obtain ⟨f0,f1,f2,f3,f4,f5⟩:=hf it (by simp)
  have W:=Walks.range (prog:=X.prog) (w:=X.w) (I.ok.hd hc) it lo 1 n
  refine W.item i s _ _ hg st fun v h' tk hv st' kk=> ?_
  obtain ⟨t,rfl⟩:=hv
  have I1:Inv X pins σ H {s with heap:=h',toks:=tk}:=I.turned (fun b o hb e=>kk b o (by simpa using hb) e) f0 f1 f3 f4 f5
  refine ⟨_,rfl,Aq (s:={s with heap:=h',toks:=tk}) (n:= "range_iterator") st' rfl rfl (by decide) ⟨.int (lo+i),H,I1,⟨t, ?_⟩,⟨rfl,rfl⟩,st',fun b hb=>(hf b hb).1⟩⟩
  rw [Int.mul_one]
 done:=by
  intro X hP hw hK hc i pins s σ H E I hf st hg
  subst hP hw hK
  obtain ⟨f0,f1,f2,f3,f4,f5⟩:=hf it (by simp)
  exact wpAny_pyNext_range_end (I.ok.hd hc) st (by have:n<=i:=hg;omega) fun h' eb=>⟨rfl,I.turned (t':=s.toks) (fun b o hb e=>eb b o hb e) f0 f1 f3 f4 f5⟩
 self:=fun _ _ _ _ _ st h=>wpAny_pyIter_rangeiter st h
end L2
namespace L2
open PySem PySem.Spec PyProof.Rows
section
variable {X:Cx} {tg:Expr}
def UJ (K:PySem.W.Frag) (tl:TE):TI:=fun σ H R=>tl σ H fun x H1=>∃a,x = .ref a/\(∃xs,aZ K H1 a xs)/\R (Ua K a) H1
def WW (K:PySem.W.Frag) (tl:TE):TI:=fun σ H R=>tl σ H fun x H1=>∃a,x = .ref a/\(∃xs,cD K H1 a xs)/\R (Itt K a) H1
theorem RZ {l:Expr} {tl:TE} (hl:PE X l tl):PI X tg l (UJ X.K tl):=by
 intro pins s σ H R I h
 refine dz (hl pins s σ H _ I h) fun v s1 ⟨x,H1,I1,r1,q1⟩=> ?_
 obtain ⟨a,e,⟨xs,hq⟩,q⟩:=q1
 subst e
 cases r1
 obtain ⟨its,rv,p,hz⟩:=I1.list hq
 refine wpAny_pyIter_list p.isList ?_
 refine ⟨s1.heap.objs.size,[s1.heap.objs.size],_,_,H1,rfl,I1.kept (t':=s1.toks) fun b o e=>Heap.get?_push_of_some _ e,J8 a _,⟨_,Heap.get?_push_size _ rfl,rfl,rfl⟩,fun b hb=> ?_,q⟩
 have e:b=s1.heap.objs.size:=by simpa using hb
 subst e
 exact I1.wC (Nat.le_refl _) (I1.hok.fresh (Nat.le_refl _))
theorem V4 {l:Expr} {tl:TE} (hl:PE X l tl):PI X tg l (WW X.K tl):=by
 intro pins s σ H R I h
 refine dz (hl pins s σ H _ I h) fun v s1 ⟨x,H1,I1,r1,q1⟩=> ?_
 obtain ⟨a,e,⟨xs,hq⟩,q⟩:=q1
 subst e
 cases r1
 obtain ⟨its,rv,p,hz⟩:=I1.tuple hq
 refine wpAny_pyIter_tuple (show s1.heap.IsTuple a its.toArray from p) ?_
 refine ⟨s1.heap.objs.size,[s1.heap.objs.size],_,_,H1,rfl,I1.kept (t':=s1.toks) fun b o e=>Heap.get?_push_of_some _ e,GC a _,⟨_,Heap.get?_push_size _ rfl,rfl,rfl⟩,fun b hb=> ?_,q⟩
 have e:b=s1.heap.objs.size:=by simpa using hb
 subst e
 exact I1.wC (Nat.le_refl _) (I1.hok.fresh (Nat.le_refl _))
theorem N5 {pins:List (Addr×Obj)} {σ:St} {H:Hp} {s:Shared} {R:It->Hp->Prop} {E:Value->Shared->Prop} {lo hi:Int} {t u v:Tok} {tk:Nat} (I:Inv X pins σ H s) (h1: -(2 ^ 62)<=lo) (h2:lo<2 ^ 62) (h3: -(2 ^ 62)<=hi) (h4:hi<2 ^ 62)
 (q:R (Ve lo (hi - lo).toNat) H):wpAny (model X.prog X.w) X.A (pyIter (.ref s.heap.objs.size)) (PIE X pins σ tg R) E {s with heap:=s.heap.push {cls:= .type "range",data:= .fields #[.int lo t,.int hi u,.int 1 v]},toks:=tk}:=by
 refine wpAny_pyIter_range (IsRange.new ..) (small_one h1 h2 h3 h4) ?_
 have I1:Inv X pins σ H {s with heap:=s.heap.push {cls:= .type "range",data:= .fields #[.int lo t,.int hi u,.int 1 v]},toks:=tk}:=I.kept fun b o e=>Heap.get?_push_of_some _ e
 refine ⟨(s.heap.push {cls:= .type "range",data:= .fields #[.int lo t,.int hi u,.int 1 v]}).objs.size,[(s.heap.push {cls:= .type "range",data:= .fields #[.int lo t,.int hi u,.int 1 v]}).objs.size],_,_,H,rfl,
  I1.kept (t':=tk) fun b o e=>Heap.get?_push_of_some _ e,GD _ lo (hi - lo).toNat, ?_,fun b hb=> ?_,q⟩
 ·have e1:lo+((0:Nat):Int)*1=lo:=by simp
  have e2:(((hi - lo).toNat:Nat):Int) - ((0:Nat):Int)=Builtin.Range.rangeSize lo hi 1:=by rw [rangeSize_one];split<;>omega
  show IsRangeIter _ _ (lo+((0:Nat):Int)*1) ((((hi - lo).toNat:Nat):Int) - ((0:Nat):Int)) 1
  rw [e1,e2]
  exact Heap.get?_push_size _ rfl
 ·have e:b=(s.heap.push {cls:= .type "range",data:= .fields #[.int lo t,.int hi u,.int 1 v]}).objs.size:=by simpa using hb
  subst e
  exact I1.wC (Nat.le_refl _) (I1.hok.fresh (Nat.le_refl _))
def UG (ta:TA):TI:=fun σ H R=>ta σ H fun vs H1=>∃j:Int,vs=[.int j] /\ -(2 ^ 62)<=j/\j<2 ^ 62/\R (Ve 0 j.toNat) H1
theorem dD {a:Expr} {ta:TA} {p pos:Pos} (hg:Gl X "range") (hm:X.mg "range" = none) (ha:PA X [a] ta) (hs:starEach [a] X.env=[(false,eval a X.env)]:=by rfl):PI X tg (.Call (.Name "range" p) [a] [] pos) (UG ta):=by
 intro pins s σ H R I h
 refine Call_ (qy I hg hm boot_range (PyProof.Rows.callWith_type1 (dz (ha pos pins s σ H _ I h) fun us s1 ⟨vs,H1,I1,r1,q1⟩=> ?_) hs rfl))
 obtain ⟨j,e,q1,q2,q⟩:=q1
 subst e
 cases r1 with
 | cons r rr=>
   cases rr
   obtain ⟨t,rfl⟩:=r
   exact call_range_1 (N5 I1 (by omega) (by omega) q1 q2 (by simpa using q))
def Yo (wi:TI) (g:TG) (tb:TS):TS:=fun D σ H=>wi σ H fun J H1=>∃W:Nat->Nat->St->Hp->Prop,(∃m,W 0 m σ H1) /\ ∀i m σ H,W i m σ H ->
 (J.stop i H/\D.nx σ H)\/(J.go i H /\ ∃N:St->Hp->Prop,(∀σ' H',N σ' H' -> ∃m',m'<m/\W (i+1) m' σ' H') /\ ∀x H',J.Uh i H x H'->g x σ H' fun σ2 H2=>tb {D with nx:=N,ct:=N,bk:=D.nx} σ2 H2)
def yx (fp:List Addr) (h:Heap):List (Addr×Obj):=fp.filterMap fun b=>(h.get? b).map fun o=>(b,o)
theorem oX {fp:List Addr} {h:Heap} {b:Addr} {o:Obj} (hb:b∈fp) (e:h.get? b=some o):(b,o)∈yx fp h:=List.mem_filterMap.mpr ⟨b,hb,by rw [e];rfl⟩
theorem KZ {fp:List Addr} {h:Heap} {p:Addr×Obj} (hp:p∈yx fp h):p.1∈fp/\h.get? p.1=some p.2:=by
 obtain ⟨b,hb,e⟩:=List.mem_filterMap.mp hp
 cases q:h.get? b with
 | none=>rw [q] at e;cases e
 | some o=>
   rw [q] at e
   have e':(b,o)=p:=Option.some.inj e
   subst e'
   exact ⟨hb,q⟩
theorem Inv.pinned {pins:List (Addr×Obj)} {σ:St} {H:Hp} {s:Shared} {fp:List Addr} (I:Inv X pins σ H s) (hf:∀b∈fp,uf X pins H b) (ho:∀b∈fp,∃o,s.heap.get? b=some o /\ ∀v,o.data ≠ .cell v):Inv X (pins++yx fp s.heap) σ H s:=
 I.Jq fun p hp=>(List.mem_append.mp hp).elim (fun z=>I.pin p (List.mem_append_right _ z)) fun z=>by
  obtain ⟨hb,e⟩:=KZ z
  obtain ⟨f0,f1,f2,_⟩:=hf p.1 hb
  obtain ⟨o,e',d⟩:=ho p.1 hb
  rw [e] at e';cases e'
  exact ⟨e,f0,f1,f2,d⟩
theorem Inv.ur {pins pl:List (Addr×Obj)} {σ:St} {H:Hp} {s:Shared} (I:Inv X (pins++pl) σ H s):Inv X pins σ H s:=I.Jq fun p hp=>I.pin p (List.mem_append_right _ (List.mem_append_left _ hp))
theorem dB {iter:Expr} {body:List Stmt} {wi:TI} {g:TG} {tb:TS} {pos:Pos} (hp:PassesOwn (model X.prog X.w) X.A X.env X.xe) (hc:X.calm=true) (hi:PI X tg iter wi) (hg:PG X tg g) (hb:Iz X body tb)
 (hs:∀x,foldedSetIterable iter X.env x=pure x:=by intro _;rfl):PS X (.For tg iter body [] pos) (Yo wi g tb):=by
 intro pins s σ H D I h
 refine wpAny_For (dz (hi pins s σ H _ I h) fun v s1 h1=>dz h1 fun itv s2 h2=> ?_) hs
 obtain ⟨it,fp,tn,J,H2,e,I2,T,st2,f2,W,⟨m0,w0⟩,turn⟩:=h2
 subst e
 have stat:∀{H':Hp},(∀b∈fp,H' b=none) -> ∀b∈fp,uf X pins H' b:=fun hn b hb=>⟨hn b hb,(f2 b hb).2⟩
 refine codeAny_forLoop_any (fun n s'=>∃i σ' H',Inv X pins σ' H' s'/\tn i s'.heap/\(∀b∈fp,H' b=none)/\W i n σ' H') ?_ m0 ⟨0,σ,H2,I2,st2,fun b hb=>(f2 b hb).1,w0⟩
 rintro n s3 ⟨i,σ3,H3,I3,st3,ZK,w3⟩
 rcases turn i n σ3 H3 w3 with ⟨stop,qn⟩|⟨go,N,hN,step⟩
 ·refine wpAny_passesOwn hp (dz (T.done X rfl rfl rfl hc i pins s3 σ3 H3 X.xe I3 (stat ZK) st3 stop) fun r s4 ⟨hr,I4⟩=> ?_)
  subst hr
  exact wpAny_execs_nil ⟨σ3,H3,I4,qn⟩
 ·refine wpAny_passesOwn hp (dz (T.item X rfl rfl rfl hc i pins s3 σ3 H3 X.xe I3 (stat ZK) st3 go) fun r s4 ⟨u,hr,h4⟩=> ?_)
  subst hr
  refine wpAny_passesOwn hp (dz h4 fun _ s5 ⟨x,H5,I5,r5,y5,Dq,fr5⟩=> ?_)
  have I5':=I5.pinned (stat fr5) (T.obj _ _ Dq)
  refine wpAny_passesOwn hp (dz (hg _ s5 σ3 H5 x u _ I5' r5 (step x H5 y5)) fun _ s6 ⟨σ6,H6,I6,q6⟩=> ?_)
  refine wpAny_passesOwn hp (dz (hb _ s6 σ6 H6 _ I6 q6) fun f s7 q7=> ?_)
  have again:∀{σ7:St} {H7:Hp},Inv X (pins++yx fp s5.heap) σ7 H7 s7->N σ7 H7 -> ∃m,m<n /\ ∃i σ' H',Inv X pins σ' H' s7/\tn i s7.heap/\(∀b∈fp,H' b=none)/\W i m σ' H':=fun {σ7 H7} I7 n7=>by
   obtain ⟨m',hm,w7⟩:=hN σ7 H7 n7
   refine ⟨m',hm,i+1,σ7,H7,I7.ur,T.keep _ _ _ Dq fun b hb o e=>(I7.pin (b,o) (List.mem_append_right _ (List.mem_append_right _ (oX hb e)))).1,fun b hb=> ?_,w7⟩
   obtain ⟨o,e,d⟩:=T.obj _ _ Dq b hb
   exact (I7.pin (b,o) (List.mem_append_right _ (List.mem_append_right _ (oX hb e)))).2.1
  cases f with
  | next=>obtain ⟨σ7,H7,I7,n7⟩:=q7;exact again I7 n7
  | cont=>obtain ⟨σ7,H7,I7,n7⟩:=q7;exact again I7 n7
  | brk=>obtain ⟨σ7,H7,I7,q7⟩:=q7;exact ⟨σ7,H7,I7.ur,q7⟩
  | ret v=>obtain ⟨x7,σ7,H7,I7,r7,q7⟩:=q7;exact ⟨x7,σ7,H7,I7.ur,r7,q7⟩
end
theorem nQ {K:PySem.W.Frag} {a:Addr} {xs:List V} {g:TG} {tb:TS} {D:Ends} {σ:St} {H:Hp} (Pv:Nat->St->Hp->Prop) (h0:Pv 0 σ H) (hl:∀i σ H,i<=xs.length->Pv i σ H->aZ K H a xs)
 (hs:∀i x σ H,xs[i]? = some x->Pv i σ H->g x σ H fun σ2 H2=>tb {D with nx:=Pv (i+1),ct:=Pv (i+1),bk:=D.nx} σ2 H2) (hd:∀σ H,Pv xs.length σ H->D.nx σ H):
 ∃W:Nat->Nat->St->Hp->Prop,(∃m,W 0 m σ H) /\ ∀i m σ H,W i m σ H ->
  ((Ua K a).stop i H/\D.nx σ H)\/((Ua K a).go i H /\ ∃N:St->Hp->Prop,(∀σ' H',N σ' H' -> ∃m',m'<m/\W (i+1) m' σ' H') /\ ∀x H',(Ua K a).Uh i H x H'->g x σ H' fun σ2 H2=>tb {D with nx:=N,ct:=N,bk:=D.nx} σ2 H2):=by
 refine ⟨fun i m σ H=>m=xs.length - i/\i<=xs.length/\Pv i σ H,⟨xs.length,by simp,Nat.zero_le _,h0⟩, ?_⟩
 rintro i m σ H ⟨rfl,hi,p⟩
 have q:=hl i σ H hi p
 by_cases hlt:i<xs.length
 ·refine .inr ⟨⟨xs,xs[i],q,by simp [hlt]⟩,Pv (i+1),fun σ' H' p'=>⟨xs.length - (i+1),by omega,rfl,hlt,p'⟩,fun x H' y=> ?_⟩
  obtain ⟨e,y⟩:=y
  subst e
  exact hs i x σ _ (y xs q) p
 ·have e:i=xs.length:=by omega
  subst e
  exact .inl ⟨⟨xs,q,Nat.le_refl _⟩,hd σ H p⟩
theorem iG {lo:Int} {n:Nat} {g:TG} {tb:TS} {D:Ends} {σ:St} {H:Hp} (Pv:Nat->St->Hp->Prop) (h0:Pv 0 σ H)
 (hs:∀i σ H,i<n->Pv i σ H->g (.int (lo+i)) σ H fun σ2 H2=>tb {D with nx:=Pv (i+1),ct:=Pv (i+1),bk:=D.nx} σ2 H2) (hd:∀σ H,Pv n σ H->D.nx σ H):
 ∃W:Nat->Nat->St->Hp->Prop,(∃m,W 0 m σ H) /\ ∀i m σ H,W i m σ H ->
  ((Ve lo n).stop i H/\D.nx σ H)\/((Ve lo n).go i H /\ ∃N:St->Hp->Prop,(∀σ' H',N σ' H' -> ∃m',m'<m/\W (i+1) m' σ' H') /\ ∀x H',(Ve lo n).Uh i H x H'->g x σ H' fun σ2 H2=>tb {D with nx:=N,ct:=N,bk:=D.nx} σ2 H2):=by
 refine ⟨fun i m σ H=>m=n - i/\i<=n/\Pv i σ H,⟨n,by simp,Nat.zero_le _,h0⟩, ?_⟩
 rintro i m σ H ⟨rfl,hi,p⟩
 by_cases hlt:i<n
 ·refine .inr ⟨hlt,Pv (i+1),fun σ' H' p'=>⟨n - (i+1),by omega,rfl,hlt,p'⟩,fun x H' y=> ?_⟩
  obtain ⟨e,y⟩:=y
  subst e y
  exact hs i σ _ hlt p
 ·have e:i=n:=by omega
  subst e
  exact .inl ⟨Nat.le_refl _,hd σ H p⟩
end L2
namespace L2
open PySem PySem.Spec PyProof.Rows
abbrev R2:=V->V->Hp->VK->Prop
def rR (X:Cx) (f:Value->Value->Sem Value) (r:R2):Prop:=
 ∀(pins:List (Addr×Obj)) (s:Shared) (σ:St) (H:Hp) (x y:V) (v u:Value) (Q:VK),Inv X pins σ H s->RelV x v->RelV y u->r x y H Q ->
  wpAny (model X.prog X.w) X.A (f v u) (EP X pins σ Q) X.xe s
def UnR (X:Cx) (f:Value->Sem Value) (r:V->Hp->VK->Prop):Prop:=
 ∀(pins:List (Addr×Obj)) (s:Shared) (σ:St) (H:Hp) (x:V) (v:Value) (Q:VK),Inv X pins σ H s->RelV x v->r x H Q ->
  wpAny (model X.prog X.w) X.A (f v) (EP X pins σ Q) X.xe s
def fU (X:Cx) (f:Value) (r:List V->Hp->VK->Prop):Prop:=
 ∀(pins:List (Addr×Obj)) (s:Shared) (σ:St) (H:Hp) (xs:List V) (us:List Value) (Q:VK),Inv X pins σ H s->Vals xs us->r xs H Q ->
  wpAny (model X.prog X.w) X.A (call f us) (EP X pins σ Q) X.xe s
def aio (X:Cx) (r:V->Hp->(Bool->Hp->Prop)->Prop):Prop:=
 ∀(pins:List (Addr×Obj)) (s:Shared) (σ:St) (H:Hp) (x:V) (v:Value) (Q:Bool->Hp->Prop),Inv X pins σ H s->RelV x v->r x H Q ->
  wpAny (model X.prog X.w) X.A (truthy v) (TP X pins σ Q) X.xe s
def Bp (r:R2) (ta tb:TE):TE:=fun σ H Q=>ta σ H fun x H1=>tb σ H1 fun y H2=>r x y H2 Q
def tUn (r:V->Hp->VK->Prop) (ta:TE):TE:=fun σ H Q=>ta σ H fun x H1=>r x H1 Q
def rI (C:Int->Int->Prop) (g:Int->Int->V):R2:=fun x y H Q=>∃i j,x = .int i/\y = .int j/\C i j/\Q (g i j) H
def Ro (g:Int->Int->V):R2:=fun x y H Q=>∃i j,x = .int i/\y = .int j/\Q (g i j) H
def rU (g:Int->V):V->Hp->VK->Prop:=fun x H Q=>∃i,x = .int i/\Q (g i) H
section
variable {X:Cx} {a b c:Expr} {ta tb tc:TE} {pos:Pos}
theorem Xp (ha:PE X a ta) (hb:PE X b tb) {pins:List (Addr×Obj)} {s:Shared} {σ:St} {H:Hp} {R:V->V->Hp->Prop} (I:Inv X pins σ H s)
 (h:ta σ H fun x H1=>tb σ H1 fun y H2=>R x y H2) {Q:Value->Shared->Prop} {f:Value->Value->Sem Value}
 (hf:∀v u s2 x y H2,Inv X pins σ H2 s2->RelV x v->RelV y u->R x y H2->wpAny (model X.prog X.w) X.A (f v u) Q X.xe s2):
 wpAny (model X.prog X.w) X.A (eval a X.env) (fun v s₁=>wpAny (model X.prog X.w) X.A (eval b X.env) (fun u s₂=>wpAny (model X.prog X.w) X.A (f v u) Q X.xe s₂) X.xe s₁) X.xe s:=by
 refine dz (ha pins s σ H _ I h) fun v s1 ⟨x,H1,I1,r1,q1⟩=> ?_
 refine dz (hb pins s1 σ H1 _ I1 q1) fun u s2 ⟨y,H2,I2,r2,q2⟩=> ?_
 exact hf v u s2 x y H2 I2 r1 r2 q2
theorem aP {op:Operator} {r:R2} (ho:rR X (binaryOp op) r) (ha:PE X a ta) (hb:PE X b tb):PE X (.BinOp a op b pos) (Bp r ta tb):=by
 intro pins s σ H Q I h
 exact wpAny_BinOp (Xp ha hb I h fun v u s2 x y H2 I2 rx ry q=>ho pins s2 σ H2 x y v u Q I2 rx ry q)
theorem Eh {op:UnaryOp} {r:V->Hp->VK->Prop} (ho:UnR X (unaryOp op) r) (ha:PE X a ta):PE X (.UnaryOp op a pos) (tUn r ta):=by
 intro pins s σ H Q I h
 exact UnaryOp_ (dz (ha pins s σ H _ I h) fun v s1 ⟨x,H1,I1,r1,q1⟩=>ho pins s1 σ H1 x v Q I1 r1 q1)
theorem Y0 {f:Value->Value->Sem Value} {C:Int->Int->Prop} {g:Int->Int->Int}
 (rule:∀(i j:Int) (t u:Tok) (s:Shared) (Q:Value->Shared->Prop) (E:Value->Shared->Prop),C i j->Q (.int (g i j) s.toks) {s with toks:=s.toks+1}->wpAny (model X.prog X.w) X.A (f (.int i t) (.int j u)) Q E s):
 rR X f (rI C fun i j=> .int (g i j)):=by
 intro pins s σ H x y v u Q I rx ry h
 obtain ⟨i,j,rfl,rfl,hc,q⟩:=h
 obtain ⟨t,rfl⟩:=rx
 obtain ⟨t',rfl⟩:=ry
 exact rule i j t t' s _ _ hc ⟨.int (g i j),H,I.tok _,⟨_,rfl⟩,q⟩
theorem YZ {f:Value->Value->Sem Value} {g:Int->Int->Int}
 (rule:∀(i j:Int) (t u:Tok) (s:Shared) (Q:Value->Shared->Prop) (E:Value->Shared->Prop),Q (.int (g i j) s.toks) {s with toks:=s.toks+1}->wpAny (model X.prog X.w) X.A (f (.int i t) (.int j u)) Q E s):
 rR X f (Ro fun i j=> .int (g i j)):=by
 intro pins s σ H x y v u Q I rx ry h
 obtain ⟨i,j,rfl,rfl,q⟩:=h
 obtain ⟨t,rfl⟩:=rx
 obtain ⟨t',rfl⟩:=ry
 exact rule i j t t' s _ _ ⟨.int (g i j),H,I.tok _,⟨_,rfl⟩,q⟩
theorem R8 {f:Value->Value->Sem Value} {g:Int->Int->Bool}
 (rule:∀(i j:Int) (t u:Tok) (s:Shared) (Q:Value->Shared->Prop) (E:Value->Shared->Prop),Q (.bool (g i j)) s->wpAny (model X.prog X.w) X.A (f (.int i t) (.int j u)) Q E s):
 rR X f (Ro fun i j=> .bl (g i j)):=by
 intro pins s σ H x y v u Q I rx ry h
 obtain ⟨i,j,rfl,rfl,q⟩:=h
 obtain ⟨t,rfl⟩:=rx
 obtain ⟨t',rfl⟩:=ry
 exact rule i j t t' s _ _ ⟨.bl (g i j),H,I,rfl,q⟩
def aaC (i j:Int):Prop:=0<j/\j<1073741824
def Ue (i j:Int):Prop:=0<=j/\j<=1000000/\i.natAbs<2 ^ 64
def XD (i j:Int):Prop:=(-(2 ^ 64)<i/\i<2 ^ 64)\/(-(2 ^ 64)<j/\j<2 ^ 64)
theorem XD.ok {i j:Int} (h:XD i j):IntMulOk i j:=by
 rcases h with ⟨h1,h2⟩|⟨h1,h2⟩
 ·exact .of_left (intBits_le_64 h1 h2)
 ·exact .of_right (intBits_le_64 h1 h2)
theorem bU:rR X (binaryOp .Add) (Ro fun i j=> .int (i+j)):=YZ fun _ _ _ _ _ _ _ q=>add_int q
theorem kE:rR X (binaryOp .Sub) (Ro fun i j=> .int (i - j)):=YZ fun _ _ _ _ _ _ _ q=>sub_int q
theorem yF:rR X (binaryOp .Mult) (rI XD fun i j=> .int (i*j)):=Y0 fun _ _ _ _ _ _ _ hc q=>mul_int q hc.ok
theorem Ju:rR X (binaryOp .FloorDiv) (rI aaC fun i j=> .int (i / j)):=Y0 fun i j _ _ _ _ _ hc q=>by
 have h1:(0:Int)<j:=hc.1
 have h2:j<1073741824:=hc.2
 exact floordiv_int (by omega) (by rw [Int.fdiv_eq_ediv_of_nonneg i (by omega)];exact q) (.inl (PyProof.noPylong_small (by omega)))
theorem nu:rR X (binaryOp .Mod) (rI (fun _ j=>0<j) fun i j=> .int (i % j)):=Y0 fun i j _ _ _ _ _ hc q=>by
 have h1:(0:Int)<j:=hc
 exact mod_int' (by omega) (by rw [Int.fmod_eq_emod_of_nonneg i (by omega)];exact q)
theorem yE:rR X (binaryOp .Pow) (rI Ue fun i j=> .int (i ^ j.toNat)):=Y0 fun _ _ _ _ _ _ _ hc q=>pow_int_small hc.1 hc.2.1 hc.2.2 q
theorem unI {f:Value->Sem Value} {g:Int->Int}
 (rule:∀(i:Int) (t:Tok) (s:Shared) (Q:Value->Shared->Prop) (E:Value->Shared->Prop),Q (.int (g i) s.toks) {s with toks:=s.toks+1}->wpAny (model X.prog X.w) X.A (f (.int i t)) Q E s):
 UnR X f (rU fun i=> .int (g i)):=by
 intro pins s σ H x v Q I rx h
 obtain ⟨i,rfl,q⟩:=h
 obtain ⟨t,rfl⟩:=rx
 exact rule i t s _ _ ⟨.int (g i),H,I.tok _,⟨_,rfl⟩,q⟩
theorem xT:UnR X (unaryOp .USub) (rU fun i=> .int (-i)):=unI fun _ _ _ _ _ q=>neg_int q
end
def Yv:V->V->Bool
 | .non,.non=>true | .non,.int _=>true | .int _,.non=>true | .non,.bl _=>true | .bl _,.non=>true | .non,.str _=>true | .str _,.non=>true
 | .int _,.int _=>true | .bl _,.bl _=>true | .str _,.str _=>true | .JZ _,.JZ _=>true
 | .int _,.str _=>true | .str _,.int _=>true | .bl _,.str _=>true | .str _,.bl _=>true
 | _,_=>false
def rEq:R2:=fun x y H Q=>Yv x y=true/\Q (.bl (decide (x=y))) H
def rNe:R2:=fun x y H Q=>Yv x y=true/\Q (.bl (!decide (x=y))) H
theorem JT {i j:Int}:decide (V.int i=V.int j)=(i==j):=by
 rw [Bool.eq_iff_iff]
 simp
theorem Qu {i j:Bool}:decide (V.bl i=V.bl j)=(i==j):=by
 rw [Bool.eq_iff_iff]
 simp
theorem JR {i j:Str}:decide (V.str i=V.str j)=(i==j):=by
 rw [Bool.eq_iff_iff]
 simp
theorem JV {i j:Array UInt8}:decide (V.JZ i=V.JZ j)=(i.toList==j.toList):=by
 rw [Bool.eq_iff_iff]
 cases i
 cases j
 simp
section
variable {X:Cx} {a b c:Expr} {ta tb tc:TE} {pos:Pos}
theorem bZ {pins:List (Addr×Obj)} {σ:St} {H:Hp} {s:Shared} {Q:VK} {k k':Bool} (I:Inv X pins σ H s) (q:Q (.bl k) H) (e:k=k'):EP X pins σ Q (.bool k') s:=by
 subst e
 exact ⟨.bl k,H,I,rfl,q⟩
theorem mz:rR X (compareOp .Eq) rEq:=by
 intro pins s σ H x y v u Q I rx ry h
 obtain ⟨hs,q⟩:=h
 cases x with
 | non=>
   cases rx
   cases y with
   | non=>cases ry;exact PySem.EqNone.eq_none_none (bZ I q (by simp))
   | bl j=>cases ry;exact PySem.EqNone.eq_none_bool (bZ I q (by simp))
   | int j=>obtain ⟨t',rfl⟩:=ry;exact PySem.EqNone.eq_none_int (bZ I q (by simp))
   | str j=>obtain ⟨t',rfl⟩:=ry;exact PySem.EqNone.eq_none_str (bZ I q (by simp))
   | _=>exact absurd (show false=true from hs) Bool.false_ne_true
 | bl i=>
   cases rx
   cases y with
   | non=>cases ry;exact PySem.EqNone.eq_bool_none (bZ I q (by simp))
   | bl j=>cases ry;exact eq_bool (bZ I q Qu)
   | str j=>obtain ⟨t',rfl⟩:=ry;exact PySem.EqMixed.eq_bool_str (bZ I q (by simp))
   | _=>exact absurd (show false=true from hs) Bool.false_ne_true
 | int i=>
   obtain ⟨t,rfl⟩:=rx
   cases y with
   | non=>cases ry;exact PySem.EqNone.eq_int_none (bZ I q (by simp))
   | int j=>obtain ⟨t',rfl⟩:=ry;exact eq_int (bZ I q JT)
   | str j=>obtain ⟨t',rfl⟩:=ry;exact PySem.EqMixed.eq_int_str (bZ I q (by simp))
   | _=>exact absurd (show false=true from hs) Bool.false_ne_true
 | str i=>
   obtain ⟨t,rfl⟩:=rx
   cases y with
   | non=>cases ry;exact PySem.EqNone.eq_str_none (bZ I q (by simp))
   | bl j=>cases ry;exact PySem.EqMixed.eq_str_bool (bZ I q (by simp))
   | int j=>obtain ⟨t',rfl⟩:=ry;exact PySem.EqMixed.eq_str_int (bZ I q (by simp))
   | str j=>obtain ⟨t',rfl⟩:=ry;exact eq_str (bZ I q JR)
   | _=>exact absurd (show false=true from hs) Bool.false_ne_true
 | JZ i=>
   obtain ⟨t,rfl⟩:=rx
   cases y with
   | JZ j=>obtain ⟨t',rfl⟩:=ry;exact PySem.W.eq_bytes (bZ I q JV)
   | _=>exact absurd (show false=true from hs) Bool.false_ne_true
 | _=>cases y<;>exact absurd (show false=true from hs) Bool.false_ne_true
theorem mQ:rR X (compareOp .NotEq) rNe:=by
 intro pins s σ H x y v u Q I rx ry h
 obtain ⟨hs,q⟩:=h
 cases x with
 | non=>
   cases rx
   cases y with
   | non=>cases ry;exact PySem.EqNone.ne_none_none (bZ I q (by simp))
   | bl j=>cases ry;exact PySem.EqNone.ne_none_bool (bZ I q (by simp))
   | int j=>obtain ⟨t',rfl⟩:=ry;exact PySem.EqNone.ne_none_int (bZ I q (by simp))
   | str j=>obtain ⟨t',rfl⟩:=ry;exact PySem.EqNone.ne_none_str (bZ I q (by simp))
   | _=>exact absurd (show false=true from hs) Bool.false_ne_true
 | bl i=>
   cases rx
   cases y with
   | non=>cases ry;exact PySem.EqNone.ne_bool_none (bZ I q (by simp))
   | bl j=>cases ry;exact ne_bool (bZ I q (congrArg not Qu))
   | str j=>obtain ⟨t',rfl⟩:=ry;exact PySem.EqMixed.ne_bool_str (bZ I q (by simp))
   | _=>exact absurd (show false=true from hs) Bool.false_ne_true
 | int i=>
   obtain ⟨t,rfl⟩:=rx
   cases y with
   | non=>cases ry;exact PySem.EqNone.ne_int_none (bZ I q (by simp))
   | int j=>obtain ⟨t',rfl⟩:=ry;exact ne_int (bZ I q (congrArg not JT))
   | str j=>obtain ⟨t',rfl⟩:=ry;exact PySem.EqMixed.ne_int_str (bZ I q (by simp))
   | _=>exact absurd (show false=true from hs) Bool.false_ne_true
 | str i=>
   obtain ⟨t,rfl⟩:=rx
   cases y with
   | non=>cases ry;exact PySem.EqNone.ne_str_none (bZ I q (by simp))
   | bl j=>cases ry;exact PySem.EqMixed.ne_str_bool (bZ I q (by simp))
   | int j=>obtain ⟨t',rfl⟩:=ry;exact PySem.EqMixed.ne_str_int (bZ I q (by simp))
   | str j=>obtain ⟨t',rfl⟩:=ry;exact ne_str (bZ I q (congrArg not JR))
   | _=>exact absurd (show false=true from hs) Bool.false_ne_true
 | JZ i=>
   obtain ⟨t,rfl⟩:=rx
   cases y with
   | JZ j=>obtain ⟨t',rfl⟩:=ry;exact PySem.W.ne_bytes (bZ I q (congrArg not JV))
   | _=>exact absurd (show false=true from hs) Bool.false_ne_true
 | _=>cases y<;>exact absurd (show false=true from hs) Bool.false_ne_true
theorem vU:rR X (compareOp .Lt) (Ro fun i j=> .bl (decide (i<j))):=R8 fun _ _ _ _ _ _ _ q=>lt_int q
theorem YX:rR X (compareOp .LtE) (Ro fun i j=> .bl (decide (i<=j))):=R8 fun _ _ _ _ _ _ _ q=>le_int q
theorem Ej:rR X (compareOp .Gt) (Ro fun i j=> .bl (decide (j<i))):=R8 fun _ _ _ _ _ _ _ q=>gt_int q
theorem Ut:rR X (compareOp .GtE) (Ro fun i j=> .bl (decide (j<=i))):=R8 fun _ _ _ _ _ _ _ q=>ge_int q
def isObj:HO->Bool
 | .lst _=>true
 | .ins _ _ _=>true
 | _=>false
theorem bw (b:Expr) {op:CmpOp} (h:op ≠ .In:=by decide) (h2:op ≠ .NotIn:=by decide):behindInMarks op b=false:=by
 have e1:(op==CmpOp.In)=false:=by cases op<;>first |rfl|exact absurd rfl h
 have e2:(op==CmpOp.NotIn)=false:=by cases op<;>first |rfl|exact absurd rfl h2
 cases b<;>simp [behindInMarks,e1,e2]
theorem cW {op:CmpOp} {r:R2} (ho:rR X (compareOp op) r) (ha:PE X a ta) (hb:PE X b tb) (hm:behindInMarks op b=false):PE X (.Compare a [op] [b] pos) (Bp r ta tb):=by
 intro pins s σ H Q I h
 exact wpAny_Compare1 (Xp ha hb I h fun v u s2 x y H2 I2 rx ry q=>ho pins s2 σ H2 x y v u Q I2 rx ry q) hm
def Nh (t:TE):TT:=fun σ H Q=>t σ H fun x H'=>∃k,x = .bl k/\Q k H'
theorem bh {op:CmpOp} {r:R2} (ho:rR X (compareOp op) r) (ha:PE X a ta) (hb:PE X b tb) (hm:behindInMarks op b=false):PT X (.Compare a [op] [b] pos) (Nh (Bp r ta tb)):=by
 intro pins s σ H Q I h
 refine wpAny_isTrue_Compare1 (dz (ha pins s σ H _ I h) fun v s1 ⟨x,H1,I1,r1,q1⟩=>dz (hb pins s1 σ H1 _ I1 q1) fun u s2 ⟨y,H2,I2,r2,q2⟩=>
  dz (ho pins s2 σ H2 x y v u _ I2 r1 r2 q2) fun c s3 ⟨z,H3,I3,r3,k,e,q3⟩=> ?_) hm
 subst e
 cases r3
 exact wpAny_truthy_bool ⟨H3,I3,q3⟩
def Vs (r r':R2) (ta tb tc:TE):TE:=fun σ H Q=>ta σ H fun x H1=>tb σ H1 fun y H2=>r x y H2 fun z H3=>∃k,z = .bl k /\
 (if k=true then tc σ H3 fun w' H4=>r' y w' H4 Q else Q (.bl false) H3)
theorem Ou {op op':CmpOp} {r r':R2} (ho:rR X (compareOp op) r) (ho':rR X (compareOp op') r') (ha:PE X a ta) (hb:PE X b tb) (hc:PE X c tc)
 (hm:lastMarks [op,op'] [b,c]=false:=by with_unfolding_all rfl):PE X (.Compare a [op,op'] [b,c] pos) (Vs r r' ta tb tc):=by
 intro pins s σ H Q I h
 refine Compare_chain (dz (ha pins s σ H _ I h) fun v s1 ⟨x,H1,I1,r1,q1⟩=>chain_link (dz (hb pins s1 σ H1 _ I1 q1) fun u s2 ⟨y,H2,I2,r2,q2⟩=>
  dz (ho pins s2 σ H2 x y v u _ I2 r1 r2 q2) fun d s3 ⟨z,H3,I3,r3,k,e,q3⟩=> ?_)) hm
 subst e
 cases r3
 refine wpAny_truthy_bool ?_
 cases k with
 | false=>exact ite_ff ⟨.bl false,H3,I3,rfl,q3⟩
 | true=>exact ite_tt (chain_last (dz (hc pins s3 σ H3 _ I3 q3) fun w' s4 ⟨z',H4,I4,r4,q4⟩=>ho' pins s4 σ H4 y z' u w' Q I4 r2 r4 q4))
def Xu (K:PySem.W.Frag) (x:V) (H:Hp) (k:Bool):Prop:=
 match x with
 | .non=>k=false
 | .bl b=>k=b
 | .int i=>k=(i != 0)
 | .str y=>y.length<=sizeLine/\k=((y.length:Int) != 0)
 | .JZ y=>y.size<=sizeLine/\k=((y.size:Int) != 0)
 | .ref p=>(∃xs,aZ K H p xs/\k = !xs.isEmpty)\/(∃xs,cD K H p xs/\k = !xs.isEmpty) \/ ∃kvs,H p=some (.dK kvs)/\k = !kvs.isEmpty
 | _=>False
theorem Hx {κ:Type} {kvs:List (κ×V)} {vs:List (κ×Value)} (r:KV kvs vs):(!vs.isEmpty) = !kvs.isEmpty:=by
 cases r<;>rfl
theorem yQ {xs:List V} {its:List Value} (r:Vals xs its):(!its.toArray.isEmpty) = !xs.isEmpty:=by
 cases r<;>simp
theorem qx:(sizeLine:Nat)<2 ^ 63:=by rw [sizeLine_eq];decide
theorem Vh:aio X (fun x H Q=>∃k,Xu X.K x H k/\Q k H):=by
 intro pins s σ H x v Q I rx h
 obtain ⟨k,e,q⟩:=h
 have hl:=qx
 have hs:sizeLine=16777216:=sizeLine_eq
 cases x with
 | non=>
   cases rx
   have e':k=false:=e
   subst e'
   exact truthy_none ⟨H,I,q⟩
 | bl b=>
   cases rx
   have e':k=b:=e
   subst e'
   exact wpAny_truthy_bool ⟨H,I,q⟩
 | int i=>
   obtain ⟨t,rfl⟩:=rx
   have e':k=(i != 0):=e
   subst e'
   exact PySem.P.truthy_int ⟨H,I,q⟩
 | str y=>
   obtain ⟨t,rfl⟩:=rx
   obtain ⟨hy,e'⟩:y.length<=sizeLine/\k=((y.length:Int) != 0):=e
   subst e'
   exact PySem.P.truthy_str (by omega) ⟨H,I.tok _,q⟩
 | JZ y=>
   obtain ⟨t,rfl⟩:=rx
   obtain ⟨hy,e'⟩:y.size<=sizeLine/\k=((y.size:Int) != 0):=e
   subst e'
   exact PySem.W.truthy_bytes (by omega) ⟨H,I.tok _,q⟩
 | ref p=>
   cases rx
   have e':(∃xs,aZ X.K H p xs/\k = !xs.isEmpty)\/(∃xs,cD X.K H p xs/\k = !xs.isEmpty) \/ ∃kvs,H p=some (.dK kvs)/\k = !kvs.isEmpty:=e
   rcases e' with ⟨xs,hx,e'⟩|⟨xs,hx,e'⟩|⟨kvs,hx,e'⟩
   ·subst e'
    obtain ⟨its,r,pl,hz⟩:=I.list hx
    have hlen:=r.length
    exact wpAny_truthy_list pl.isList (by simp only [List.size_toArray];omega) ⟨H,I.tok _,by rw [yQ r];exact q⟩
   ·subst e'
    obtain ⟨its,r,pl,hz⟩:=I.tuple hx
    have hlen:=r.length
    exact truthy_tuple pl (by simp only [List.size_toArray];omega) ⟨H,I.tok _,by rw [yQ r];exact q⟩
   ·subst e'
    obtain ⟨hz,hS,vs,r,m⟩:kvs.length<=sizeLine/\(p==sysModules)=false /\ ∃vs,KV kvs vs/\s.heap.DictOf (cC X.prog X.w) p vs:=I.hok p _ hx
    have hlen:kvs.length=vs.length:=Paired.length r
    exact wpAny_truthy_dict hS m (by omega) ⟨H,I.tok _,by rw [Hx r];exact q⟩
 | _=>exact (show False from e).elim
theorem Oe (ha:PE X a ta) (he:∀whole,isTrue a X.env whole=(do let v ←whole;standAt a.pos;holding [v] (truthy v))):
 PT X a (fun σ H Q=>ta σ H fun x H'=>∃k,Xu X.K x H' k/\Q k H'):=by
 intro pins s σ H Q I h
 exact isTrue_plain (dz (ha pins s σ H _ I h) fun v s1 ⟨x,H1,I1,r1,q1⟩=>Vh pins s1 σ H1 x v Q I1 r1 q1) (he _)
theorem vals1 {x:V} {us:List Value} (r:Vals [x] us):∃u,us=[u]/\RelV x u:=by
 cases r with
 | cons r1 r2=>cases r2;exact ⟨_,rfl,r1⟩
theorem vals2 {x y:V} {us:List Value} (r:Vals [x,y] us):∃u w',us=[u,w']/\RelV x u/\RelV y w':=by
 cases r with
 | cons r1 r2=>
   cases r2 with
   | cons r3 r4=>cases r4;exact ⟨_,_,rfl,r1,r3⟩
theorem FT:fU X (.builtin "abs") (fun xs H Q=>∃i,xs=[.int i]/\Q (.int (if i<0 then -i else i)) H):=by
 intro pins s σ H xs us Q I r h
 obtain ⟨i,rfl,q⟩:=h
 obtain ⟨u,rfl,t,rfl⟩:=vals1 r
 exact call_abs_int fun u tk=>⟨.int (if i<0 then -i else i),H,I.tok _,⟨_,rfl⟩,q⟩
theorem nU (hc:X.calm=true):fU X (.builtin "max") (fun xs H Q=>∃i j,xs=[.int i,.int j]/\Q (.int (if j>i then j else i)) H):=by
 intro pins s σ H xs us Q I r h
 obtain ⟨i,j,rfl,q⟩:=h
 obtain ⟨u,w',rfl,⟨t,rfl⟩,⟨t',rfl⟩⟩:=vals2 r
 refine max_two_ints (I.ok.hd hc) fun h' tk k=>⟨_,H,I.kept k, ?_,q⟩
 by_cases hj:j>i
 ·rw [if_pos hj,if_pos hj];exact ⟨_,rfl⟩
 ·rw [if_neg hj,if_neg hj];exact ⟨_,rfl⟩
theorem Lz (hc:X.calm=true):fU X (.builtin "min") (fun xs H Q=>∃i j,xs=[.int i,.int j]/\Q (.int (if j<i then j else i)) H):=by
 intro pins s σ H xs us Q I r h
 obtain ⟨i,j,rfl,q⟩:=h
 obtain ⟨u,w',rfl,⟨t,rfl⟩,⟨t',rfl⟩⟩:=vals2 r
 refine min_two_ints (I.ok.hd hc) fun h' tk k=>⟨_,H,I.kept k, ?_,q⟩
 by_cases hj:j<i
 ·rw [if_pos hj,if_pos hj];exact ⟨_,rfl⟩
 ·rw [if_neg hj,if_neg hj];exact ⟨_,rfl⟩
theorem A_:fU X (.type "int") (fun xs H Q=>(∃i,xs=[.int i]/\Q (.int i) H) \/ ∃k,xs=[.bl k]/\Q (.int (if k then 1 else 0)) H):=by
 intro pins s σ H xs us Q I r h
 rcases h with ⟨i,rfl,q⟩|⟨k,rfl,q⟩
 ·obtain ⟨u,rfl,t,rfl⟩:=vals1 r
  exact call_int_int ⟨.int i,H,I,⟨_,rfl⟩,q⟩
 ·obtain ⟨u,rfl,r1⟩:=vals1 r
  cases r1
  exact call_int_bool ⟨.int (if k then 1 else 0),H,I.tok _,⟨_,rfl⟩,q⟩
end
end L2
namespace L2
open PySem PySem.Spec PyProof.Rows
structure Xw (h:Heap) (x dx C:Addr) (mA:Str->Option Value):Prop where
 obj:h.get? x=some (PySem.W.instObj C dx)
 ns:h.Ns1 dx mA
 ne:dx≠x
theorem K5 {h:Heap} {dx:Addr} {mA:Str->Option Value} (n:h.Ns1 dx mA):∃od,h.get? dx=some od /\ ∀name,PySem.W.lookIn name od=some (mA name):=by
 obtain ⟨o,es,ep,ho,hd,hk,_,hm⟩:=n
 refine ⟨o,ho,fun name=> ?_⟩
 have e:=hm name
 unfold nsFind findBy at e
 rw [←Array.find?_toList] at e
 unfold PySem.W.lookIn
 rw [hd]
 dsimp only
 split
 ·rename_i y q
  rw [q] at e
  exact congrArg some e
 ·rename_i q
  rw [q] at e
  have a:es.toList.any (·.refKey)=false:=by
   rw [List.any_eq_false]
   intro y hy
   obtain ⟨z,t,hkey⟩:=hk y (Array.mem_toList_iff.mp hy)
   simp [DictEntry.refKey,hkey]
  have a':¬es.toList.any (·.refKey)=true:=by rw [a];exact Bool.false_ne_true
  rw [if_neg a']
  exact congrArg some e
theorem Xw.look {h:Heap} {x dx C:Addr} {mA:Str->Option Value} (I:Xw h x dx C mA):∃od,PySem.W.InstAt h x (PySem.W.instObj C dx) C (some od) /\ ∀name,PySem.W.lookIn name od=some (mA name):=
 let ⟨od,ho,hl⟩:=K5 I.ns
 ⟨od,⟨I.obj,rfl,rfl,ho⟩,hl⟩
section
variable {prog:Program} {w:World} {A:Around} {E:Value->Shared->Prop} {s:Shared} {K:PySem.W.Frag} {x dx C f:Addr} {mA:Str->Option Value} {name:Str} {v:Value}
end
theorem vM.some_of {v:V} {o:Option Value} (r:vM (some v) o):∃u,o=some u/\RelV v u:=by
 cases o with
 | none=>exact (show False from r).elim
 | some u=>exact ⟨u,rfl,r⟩
section
variable {P:Program} {w:World} {H H':Hp} {h h':Heap} {a C dx:Addr} {fs fs':List (Str×V)}
theorem S_ (hok:ud P w H h) (e:H a=some (.ins C dx fs)):∃mA,Xw h a dx C mA/\(∀f,vM (fs.lookup f) (mA f))/\PySem.Within mA (fs.map (·.1))/\fs.length<=1000/\H dx=some (.own a):=by
 obtain ⟨d,z,ne,ob,mA,n,r,q⟩:=(show bQ P w H h a (.ins C dx fs) from hok a _ e)
 exact ⟨mA,⟨ob,n,ne⟩,r,q,z,d⟩
end
structure Cls (K:PySem.W.Frag) (C:Addr):Prop where
 pg:PySem.W.plainGet K C Str.empty=true
 hd:PySem.W.hasDictIn K C=true
 po:PySem.W.plainOver K C=true
 sa:PySem.W.findIn K (.ref C) "__setattr__" = some (some (.builtin "object.__setattr__"))
theorem Cls.get {K:PySem.W.Frag} {C:Addr} (c:Cls K C) (f:Str):PySem.W.plainGet K C f=true:=c.pg
section
variable {X:Cx} {pins:List (Addr×Obj)} {σ:St} {H:Hp} {s:Shared} {a C dx:Addr} {fs:List (Str×V)} {f:Str} {v:V} {A:Around} {E:Value->Shared->Prop}
end
section
variable {X:Cx} {o e value:Expr} {f:Str} {pos pos' tpos:Pos} {ta tv:TE}
end
section
variable {X:Cx} {pins:List (Addr×Obj)} {σ:St} {H:Hp} {s:Shared} {A:Around} {E:Value->Shared->Prop} {Q:Value->Shared->Prop} {c:Value} {b:Bool}
inductive uN (K:PySem.W.Frag) (H:Hp):V->Value->Prop where
 | non:uN K H .non (.type "NoneType")
 | bl (x:Bool):uN K H (.bl x) (.type "bool")
 | int (i:Int):uN K H (.int i) (.type "int")
 | str (x:Str):uN K H (.str x) (.type "str")
 | flt (x:UInt64):uN K H (.flt x) (.type "float")
 | lst {a:Addr} {xs:List V} (e:H a=some (.lst xs)):uN K H (.ref a) (.type "list")
 | jB {a:Addr} {o:Obj} {xs:List V} (e:H a=some (.jB o (.lst xs))):uN K H (.ref a) (.type "list")
 | tup {a:Addr} {xs:List V} (e:H a=some (.tup xs)):uN K H (.ref a) (.type "tuple")
 | dK {a:Addr} {kvs:List (Key×V)} (e:H a=some (.dK kvs)):uN K H (.ref a) (.type "dict")
 | dT {a:Addr} {kvs:List (List Key×V)} (e:H a=some (.dT kvs)):uN K H (.ref a) (.type "dict")
 | ins {a C dx:Addr} {fs:List (Str×V)} (e:H a=some (.ins C dx fs)) (cl:Cls K C) (ha:PySem.W.findIn K (.ref C) "__class__" = some (some (.builtin "object.__class__")))
    (hn:PySem.W.specialIn K (.builtin "object.__class__") "__get__" = some (some (.builtin "getset_descriptor.__get__"))) (htk:PySem.W.takesIn K (.builtin "object.__class__")=some true)
    (hm:PySem.W.mroIn K C (.type "object")=some true):uN K H (.ref a) (.ref C)
theorem K_ {x:V} {u t:Value} (I:Inv X pins σ H s) (rx:RelV x u) (ty:uN X.K H x t) (e:PySem.W.kitOne X.K t c=some b) (h:∀tk,Q (.bool b) {s with toks:=tk}):
 wpAny (model X.prog X.w) A (call (.builtin "isinstance") [u,c]) Q E s:=by
 cases ty with
 | non=>cases (show u=Value.none from rx);exact PySem.W.kia_one PySem.W.kitx_none I.zL True.intro e (fun z=>nomatch z) h
 | bl y=>cases (show u=Value.bool y from rx);exact PySem.W.kia_one PySem.W.kitx_bool I.zL True.intro e (fun z=>nomatch z) h
 | int i=>obtain ⟨t,q⟩:=(show ∃t,u=Value.int i t from rx);cases q;exact PySem.W.kia_one PySem.W.kitx_int I.zL True.intro e (fun z=>nomatch z) h
 | str y=>obtain ⟨t,q⟩:=(show ∃t,u=Value.str y t from rx);cases q;exact PySem.W.kia_one PySem.W.kitx_str I.zL True.intro e (fun z=>nomatch z) h
 | flt y=>obtain ⟨t,q⟩:=(show ∃t,u=Value.float y t from rx);cases q;exact PySem.W.kia_one PySem.W.kitx_float I.zL True.intro e (fun z=>nomatch z) h
 | @lst a xs ea=>
   cases (show u=Value.ref a from rx)
   obtain ⟨_,_,n,_,h1⟩:=(show bQ X.prog X.w H s.heap a (.lst xs) from I.hok a _ ea)
   exact PySem.W.kia_one PySem.W.kitx_list I.zL ⟨_,h1,rfl⟩ e (fun z=>nomatch z) h
 | @jB a ob xs ea=>
   cases (show u=Value.ref a from rx)
   obtain ⟨_,_,_,n,_,h1⟩:=(show bQ X.prog X.w H s.heap a (.jB ob (.lst xs)) from I.hok a _ ea)
   exact PySem.W.kia_one PySem.W.kitx_list I.zL ⟨_,h1,rfl⟩ e (fun z=>nomatch z) h
 | @tup a xs ea=>
   cases (show u=Value.ref a from rx)
   obtain ⟨_,_,_,p⟩:=(show bQ X.prog X.w H s.heap a (.tup xs) from I.hok a _ ea)
   obtain ⟨o,h1,h2,_⟩:=p
   exact PySem.W.kia_one PySem.W.kitx_tuple I.zL ⟨o,h1,h2⟩ e (fun z=>nomatch z) h
 | @dK a kvs ea=>
   cases (show u=Value.ref a from rx)
   obtain ⟨_,_,vs,_,p⟩:=(show bQ X.prog X.w H s.heap a (.dK kvs) from I.hok a _ ea)
   obtain ⟨o,es,ep,h1,h2,_⟩:=p
   exact PySem.W.kia_one PySem.W.kitx_dict I.zL ⟨o,h1,h2.1⟩ e (fun z=>nomatch z) h
 | @dT a kvs ea=>
   cases (show u=Value.ref a from rx)
   obtain ⟨_,_,xs,_,o,es,ep,h1,h2,_⟩:=(show bQ X.prog X.w H s.heap a (.dT kvs) from I.hok a _ ea)
   exact PySem.W.kia_one PySem.W.kitx_dict I.zL ⟨o,h1,h2.1⟩ e (fun z=>nomatch z) h
 | @ins a C dx fs ea cl ha hn htk hm=>
   cases (show u=Value.ref a from rx)
   obtain ⟨mA,O,_⟩:=S_ I.hok ea
   obtain ⟨od,J,_⟩:=O.look
   exact PySem.W.kia_one (PySem.W.kitx_own (cl.get _) cl.hd ha hn htk hm) I.zL J e (fun z=>nomatch z) h
end
end L2
namespace L2
open PySem PySem.Spec PyProof.Rows
structure mJ (k:Nat) (A:Around):Prop where
 hd:A.handled=none
 dp:A.depth+3*k+5<recursionLimit
 un:A.units+16*k+200<cLine
theorem mJ.mono {j k:Nat} {A:Around} (r:mJ k A) (h:j<=k):mJ j A:=⟨r.hd,by have:=r.dp;omega,by have:=r.un;omega⟩
theorem mJ.deeper {k:Nat} {A:Around} (r:mJ (k+1) A) (env:Env):mJ k (A.deeper env):=
 ⟨r.hd,by have:=r.dp;show A.depth+1+3*k+5<_;omega,by have:=r.un;show A.units+3+16*k+200<_;omega⟩
theorem mJ.depth {k:Nat} {A:Around} (r:mJ k A):A.depth<recursionLimit:=by have:=r.dp;omega
theorem mJ.units {k:Nat} {A:Around} (r:mJ k A):A.units+64<cLine:=by have:=r.un;omega
def xU:TA:=fun _ H Q=>Q [] H
def jQ (ta:TE) (tr:TA):TA:=fun σ H Q=>ta σ H fun x H1=>tr σ H1 fun xs H2=>Q (x::xs) H2
section
variable {X:Cx} {e:Expr} {es:List Expr} {te:TE} {t:TA} {pos:Pos}
theorem ao:PA X [] xU:=fun _ _ _ _ H Q I h=>Calls.spliced_nil ⟨[],H,I,.nil,h⟩
theorem aj (ha:PE X e te) (hr:PA X es t) (hs:starEach (e::es) X.env=(false,eval e X.env)::starEach es X.env:=by rfl):PA X (e::es) (jQ te t):=by
 intro pos pins s σ H Q I h
 rw [hs]
 show wpAny _ _ (spliced ((false,eval e X.env)::backTo pos (starEach es X.env))) _ _ s
 refine Calls.spliced_cons (dz (ha pins s σ H _ I h) fun u s1 ⟨x,H1,I1,r1,q1⟩=> ?_)
 exact dz (hr pos pins s1 σ H1 _ I1 q1) fun us s2 ⟨xs,H2,I2,r2,q2⟩=>⟨x::xs,H2,I2,.cons r1 r2,q2⟩
def Vk (t:TA):TE:=fun σ H Q=>t σ H fun xs H1=>xs.length<=sizeLine /\ ∀p,H1 p=none->Q (.ref p) (upd H1 p (.tup xs))
def Vo (t:TA):TE:=fun σ H Q=>t σ H fun xs H1=>xs.length<=sizeLine /\ ∀p,H1 p=none->Q (.ref p) (upd H1 p (.lst xs))
theorem dh {x1} (h:PA X es t):PE X (.Tuple es x1 pos) (Vk t):=by
 intro pins s σ H Q I hq
 refine wpAny_Tuple_spliced (dz (h pos pins s σ H _ I hq) fun us s1 ⟨xs,H1,I1,r,z,q⟩=>⟨by rw [←r.length];exact z, ?_⟩)
 have hf:H1 s1.heap.objs.size=none:=I1.hok.fresh (Nat.le_refl _)
 refine ⟨.ref s1.heap.objs.size,upd H1 s1.heap.objs.size (.tup xs),I1.laid (t':=s1.toks) (fun b u e=>Heap.get?_push_of_some _ e) (Nat.le_refl _) ?_,rfl,q _ hf⟩
 exact ⟨z,us,r,⟨_,Heap.get?_push_size _ rfl,rfl,_,rfl⟩⟩
theorem bI (h:PA X es t):PE X (.List es pos) (Vo t):=by
 intro pins s σ H Q I hq
 refine wpAny_List_spliced (dz (h pos pins s σ H _ I hq) fun us s1 ⟨xs,H1,I1,r,z,q⟩=>⟨by rw [←r.length];exact z, ?_⟩)
 have hf:H1 s1.heap.objs.size=none:=I1.hok.fresh (Nat.le_refl _)
 refine ⟨.ref s1.heap.objs.size,upd H1 s1.heap.objs.size (.lst xs),I1.laid (t':=s1.toks) (fun b u e=>Heap.get?_push_of_some _ e) (Nat.le_refl _) ?_,rfl,q _ hf⟩
 exact ⟨z,us,0,r,Heap.get?_push_size _ rfl⟩
end
abbrev Sp:=List V->Hp->VK->XK->Prop
abbrev Mz:=List Env->Hp->Shared->XK->Value->Shared->Prop
structure Ud (P:Program) (w:World) (K:PySem.W.Frag) (mg:Str->Option Value) (base:Heap) (A:Around) (outer:List Env) (s:Shared) (H:Hp):Prop where
 frames:A.frames=some outer
 mod:Mod K mg base
 bs:∀b o,base.get? b=some o->s.heap.get? b=some o/\H b=none
 Mv:base.objs.size<=s.heap.objs.size
 rO:s.heap.FunFrames base outer
 Rr:∀b∈frs outer,H b=none
 hok:ud P w H s.heap
 bare:AllBare s.gens
def CE (outer:List Env) (P:Program) (w:World) (H:Hp) (s:Shared) (Q:VK) (u:Value) (s':Shared):Prop:=
 ∃v H',s'.os=s.os/\AllBare s'.gens/\Un (frs outer) [] H H' s.heap s'.heap/\ud P w H' s'.heap/\RelV v u/\Q v H'
def CR (CX:Mz) (outer:List Env) (P:Program) (w:World) (H:Hp) (s:Shared) (Q:VK) (E:XK) (r:Result) (s':Shared):Prop:=
 match r with
 | .ok (.ret u)=>CE outer P w H s Q u s'
 | .ok _=>False
 | .error e=>CX outer H s E e s'
structure cI (P:Program) (w:World) (K:PySem.W.Frag) (mg:Str->Option Value) (base:Heap) (CX:Mz) (k:Nat) (f:Addr) (fd:FuncData) (ps:List Str) (sp:Sp):Prop where
 len:∀vs H Q E,sp vs H Q E->vs.length=ps.length
 run:∀(A:Around) (outer:List Env) (s:Shared) (H:Hp) (args:Args) (us:List Value) (vs:List V) (Q:VK) (E:XK),mJ k A->Ud P w K mg base A outer s H->BindsTo s fd args (ps.zip us)->Vals vs us->sp vs H Q E ->
  codeAny (model P w) A (.call (.ref f) args) (CR CX outer P w H s Q E) s
section
variable {X:Cx} {pins:List (Addr×Obj)} {σ:St} {H:Hp} {s s':Shared}
theorem Inv.env0 (I:Inv X pins σ H s):Ud X.prog X.w X.K X.mg X.base X.A X.stack s H:=
 ⟨I.ok.frames,I.ok.mod,I.bs,Nat.le_trans I.ok.Mv I.sz,I.stack,I.Bq,I.hok,I.bare⟩
theorem Inv.after {Q:VK} {u:Value} (I:Inv X pins σ H s) (h:CE X.stack X.prog X.w H s Q u s'):EP X pins σ Q u s':=by
 obtain ⟨v,H',os,bare,un,hok,r,q⟩:=h
 obtain ⟨hh,g,d,t,os'⟩:=s'
 obtain rfl:os'=s.os:=os
 exact ⟨v,H',I.call (h':=hh) (g':=g) (d':=d) (t':=t) (ch:=[]) un hok bare (fun b z=>absurd z (by simp)),r,q⟩
end
def DP (sp:Sp) (U5:List V) (E:XK) (t:TA):TE:=fun σ H Q=>t σ H fun vs H1=>sp (vs++U5) H1 Q E
def Binds (K:PySem.W.Frag) (fd:FuncData) (ps:List Str) (ds:List Value):Prop:=
 ∀(s:Shared) (us:List Value),K.In s.heap->(us++ds).length=ps.length->BindsTo s fd ⟨us,[]⟩ (ps.zip (us++ds))
theorem Binds.all {K:PySem.W.Frag} {fd:FuncData} {ps:List Str} (h:∀us:List Value,us.length=ps.length->bindArgs fd ⟨us,[]⟩=pure (ps.zip us)):Binds K fd ps []:=fun s us _ hl=>by
 rw [List.append_nil] at hl ⊢
 exact .of_eq (h us hl)
def Passes (CX:Mz) (X:Cx) (E:XK):Prop:=∀(pins:List (Addr×Obj)) (σ:St) (H:Hp) (s:Shared) (e:Value) (s':Shared),Inv X pins σ H s->CX X.stack H s E e s'->X.xe e s'
section
variable {X:Cx} {CX:Mz} {k:Nat} {f C:Addr} {fd:FuncData} {ps:List Str} {sp:Sp} {U5:List V} {ds:List Value} {E:XK} {x m:Str} {p pos apos:Pos} {e o:Expr} {es:List Expr} {ta:TE} {t:TA}
theorem VP {pins:List (Addr×Obj)} {σ:St} {H:Hp} {s:Shared} {Q:VK} {us:List Value} {vs:List V} (F:cI X.prog X.w X.K X.mg X.base CX k f fd ps sp) (hr:mJ k X.A) (hb:Binds X.K fd ps ds) (hd:Vals U5 ds) (hx:Passes CX X E)
 (I:Inv X pins σ H s) (r:Vals vs us) (h:sp (vs++U5) H Q E):wpAny (model X.prog X.w) X.A (call (.ref f) us) (EP X pins σ Q) X.xe s:=by
 have r2:Vals (vs++U5) (us++ds):=r.append hd
 have hl:(us++ds).length=ps.length:=by rw [←r2.length];exact F.len _ _ _ _ h
 refine wpAny_call (codeAny_mono (F.run X.A X.stack s H ⟨us,[]⟩ (us++ds) (vs++U5) Q E hr I.env0 (hb s us I.zL hl) r2 h) fun r s' hq=> ?_)
 cases r with
 | error e=>exact hx pins σ H s e s' I hq
 | ok fl=>
   cases fl with
   | ret u=>exact I.after hq
   | next=>exact False.elim hq
   | brk=>exact False.elim hq
   | cont=>exact False.elim hq
theorem R0 (F:cI X.prog X.w X.K X.mg X.base CX k f fd ps sp) (hr:mJ k X.A) (hg:Gl X x) (hm:X.mg x=some (.ref f)) (hk:PySem.W.keepIn X.K (.ref f)=true) (hb:Binds X.K fd ps ds) (hd:Vals U5 ds) (hx:Passes CX X E)
 (ha:PA X (e::es) t) (hdb:(x==("__debug__" :Str))=false:=by decide) (he:starEach (e::es) X.env=(false,eval e X.env)::starEach es X.env:=by rfl) (hpl:(backTo pos (starEach es X.env)).any (·.1)=false:=by rfl):
 PE X (.Call (.Name x p) (e::es) [] pos) (DP sp U5 E t):=by
 intro pins s σ H Q I h
 refine wpAny_Call_Name_kw (uH I hg hm ?_ hdb)
 refine PySem.W.callWith_K (h₀:=X.base) I.ok.mod.Zg hk (dz (ha pos pins s σ H _ I h) fun us s1 ⟨vs,H1,I1,r,q⟩=>⟨I1.zL, ?_⟩) he hpl
 exact VP F hr hb hd hx I1 r q
end
section
variable {X:Cx} {CX:Mz} {k:Nat} {f C:Addr} {fd:FuncData} {ps ks:List Str} {sp:Sp} {E:XK} {x m:Str} {p pos apos kpos:Pos} {e o:Expr} {es:List Expr} {kws:List Keyword} {te ta:TE} {t tk:TA} {nm:Option Str}
variable {g:List Value->List Value->List Value} {gV:List V->List V->List V}
end
structure aX (N P:List Str) (sc:Scope):Prop where
 kind:sc.kind = .function
 co:sc.isCoroutine=false
 gen:sc.isGenerator=false
 nd:N.Nodup
 pre:N.take P.length=P
 par:∀x∈P,sc.names.lookup x=some .local\/sc.names.lookup x=some .cell
 Wk:∀y∈sc.names,y.2 ≠ .free
theorem Bb {kindOf:Str->Option NameKind} {x:Str}:∀{binds:List (Str×Value)} {m:Str->Option Value},(∀v,(x,v)∉binds)->bindL kindOf binds m x=m x
 | [],_,_=>rfl
 | (n,v)::r,m,h=>by
   unfold bindL
   rw [Bb fun w hw=>h w (List.mem_cons_of_mem _ hw)]
   split
   ·have:x≠n:=by rintro rfl;exact h v List.mem_cons_self
    simp [this]
   ·rfl
theorem Bd {kindOf:Str->Option NameKind} {x:Str}:∀{binds:List (Str×Value)} {m:Str->Option Value},(∀v,(x,v)∉binds)->bindC kindOf binds m x=m x
 | [],_,_=>rfl
 | (n,v)::r,m,h=>by
   unfold bindC
   rw [Bd fun w hw=>h w (List.mem_cons_of_mem _ hw)]
   split
   ·rfl
   ·have:x≠n:=by rintro rfl;exact h v List.mem_cons_self
    simp [this]
theorem Bc {kindOf:Str->Option NameKind} {x:Str} {v:Value}:∀{P:List Str} {vs:List Value} {i:Nat} {m:Str->Option Value},P.Nodup->P[i]? = some x->vs[i]? = some v->kindOf x=some .local ->
 bindL kindOf (P.zip vs) m x=some v
 | [],_,_,_,_,h,_,_=>by simp at h
 | _::_,[],_,_,_,_,h,_=>by simp at h
 | p::P,w::vs,0,m,nd,h1,h2,hk=>by
   simp at h1 h2;subst h1;subst h2
   show bindL kindOf ((p,w)::P.zip vs) m p=_
   unfold bindL
   rw [Bb fun v hv=>(List.nodup_cons.mp nd).1 (List.of_mem_zip hv).1,if_pos hk]
   simp
 | p::P,w::vs,i+1,m,nd,h1,h2,hk=>by
   show bindL kindOf ((p,w)::P.zip vs) m x=_
   unfold bindL
   exact Bc (i:=i) (List.nodup_cons.mp nd).2 (by simpa using h1) (by simpa using h2) hk
theorem Bf {kindOf:Str->Option NameKind} {x:Str} {v:Value}:∀{P:List Str} {vs:List Value} {i:Nat} {m:Str->Option Value},P.Nodup->P[i]? = some x->vs[i]? = some v->kindOf x≠some .local ->
 bindC kindOf (P.zip vs) m x=some v
 | [],_,_,_,_,h,_,_=>by simp at h
 | _::_,[],_,_,_,_,h,_=>by simp at h
 | p::P,w::vs,0,m,nd,h1,h2,hk=>by
   simp at h1 h2;subst h1;subst h2
   show bindC kindOf ((p,w)::P.zip vs) m p=_
   unfold bindC
   rw [Bd fun v hv=>(List.nodup_cons.mp nd).1 (List.of_mem_zip hv).1,if_neg hk]
   simp
 | p::P,w::vs,i+1,m,nd,h1,h2,hk=>by
   show bindC kindOf ((p,w)::P.zip vs) m x=_
   unfold bindC
   exact Bf (i:=i) (List.nodup_cons.mp nd).2 (by simpa using h1) (by simpa using h2) hk
def start (N:List Str) (vs:List V):St:=vs.map some++List.replicate (N.length - vs.length) none
def rQ (CX:Mz) (P:Program) (w:World) (K:PySem.W.Frag) (mg:Str->Option Value) (base:Heap) (N:List Str) (qual:Str) (scope:Scope) (f:Addr) (cd:Value) (A:Around) (outer:List Env) (s:Shared) (H:Hp) (E:XK):Cx where
 prog:=P
 w:=w
 K:=K
 mg:=mg
 base:=base
 A:=A.deeper (envOfC qual scope s.heap.objs.size f cd)
 N:=N
 s₀:=s
 H₀:=H
 env:=envOfC qual scope s.heap.objs.size f cd
 outer:=outer
 stack:=envOfC qual scope s.heap.objs.size f cd::outer
 ex:=[]
 calm:=true
 fn:=fun _=>true
 pn:=[]
 xe:=fun e s'=>wpAny (model P w) (A.deeper (envOfC qual scope s.heap.objs.size f cd)) (leaving (envOfC qual scope s.heap.objs.size f cd) e) (fun _ s''=>CX outer H s E e s'') (fun e' s''=>CX outer H s E e' s'') s'
theorem FJ {sc:Scope} {n:Nat} {x:Str} (h:sc.names.lookup x=some .cell):∃c,(cellsFrom n sc.names []).lookup x=some c:=by
 have q:=PySem.W.cellsFrom_some sc.names n [] (.inl h)
 exact Option.isSome_iff_exists.mp q
theorem La {CX:Mz} {P:Program} {w:World} {K:PySem.W.Frag} {mg:Str->Option Value} {base:Heap} {N ps:List Str} {qual:Str} {scope:Scope} {f:Addr} {cd:Value} {A:Around} {outer:List Env} {s s1:Shared} {H:Hp} {E:XK} {us:List Value} {vs:List V}
 (S:aX N ps scope) (hd:A.handled=none) (e0:Ud P w K mg base A outer s H) (hl:vs.length=ps.length) (r:Vals vs us)
 (x:InCallC s s.heap.objs.size (bindL (envOfC qual scope s.heap.objs.size f cd).kindOf (ps.zip us) fun _=>none) (cellsFrom (s.heap.objs.size+1) scope.names []) (bindC (envOfC qual scope s.heap.objs.size f cd).kindOf (ps.zip us) fun _=>none) s1):
 Inv (rQ CX P w K mg base N qual scope f cd A outer s H E) [] (start N vs) H s1:=by
 have hpl:ps.length<=N.length:=by have:=congrArg List.length S.pre;rw [List.length_take] at this;omega
 obtain ⟨h1,tk,rfl,hk⟩:=x.done
 have Y9:∀b:Addr,b∉(rQ CX P w K mg base N qual scope f cd A outer s H E).ex:=fun b z=>absurd (show b∈([]:List Addr) from z) (by simp)
 refine ⟨⟨e0.mod,S.kind,rfl,rfl,Nat.le_refl _,fun y z c h1 h2=> ?_,fun y hy=> ?_,fun y c _ h=> ?_,fun _=>hd,Around.frames_deeper e0.frames,.inr ⟨rfl,rfl⟩,fun b z=>absurd z (Y9 b),e0.bs,e0.Mv,fun b _ _=>Y9 b,fun b z=>absurd z (Y9 b),e0.rO,e0.Rr⟩,
  rfl,e0.bare,Un.kept hk,⟨_,x.toInCall.ns,fun i y v h1 h2 h3=> ?_⟩,fun y c h=>⟨_,x.cell y c h⟩,e0.hok.fresh (Nat.le_refl _),fun y c h=> ?_,fun p hp=>absurd (show p∈([]:List (Addr×Obj)) from hp) (by simp),e0.hok.kept hk, ?_⟩
 ·exact name_of_addr x.apart (PySem.mem_of_lookup h1) (PySem.mem_of_lookup h2)
 ·have hy:scope.names.lookup y=some .cell\/scope.names.lookup y=some .free:=hy
  rcases hy with hy|hy
  ·exact FJ hy
  ·exact absurd rfl (S.Wk _ (PySem.mem_of_lookup hy))
 ·exact Nat.le_of_lt (x.above y c (PySem.mem_of_lookup h))
 ·have hi:i<vs.length:=by
   unfold start at h2
   by_cases hi:i<vs.length
   ·exact hi
   ·rw [List.getElem?_append_right (by simpa using hi)] at h2
    rw [List.getElem?_replicate] at h2
    split at h2<;>cases h2
  have ha:vs[i]? = some v:=by
   unfold start at h2
   rw [List.getElem?_append_left (by simpa using hi),List.getElem?_map] at h2
   cases e:vs[i]? with
   | none=>rw [e] at h2;cases h2
   | some a=>rw [e] at h2;cases h2;rfl
  obtain ⟨u,hu,rv⟩:=r.get ha
  have hp:ps[i]? = some y:=by
   rw [←S.pre,List.getElem?_take_of_lt (by omega)];exact h1
  have ndP:ps.Nodup:=by rw [←S.pre];exact S.nd.sublist (List.take_sublist _ _)
  refine ⟨u,rv, ?_⟩
  rcases S.par y (List.mem_of_getElem? hp) with k|k
  ·exact .inl ⟨k,Bc ndP hp hu k⟩
  ·obtain ⟨c,e⟩:=FJ (n:=s.heap.objs.size+1) k
   refine .inr ⟨.inl k,c,e, ?_⟩
   have q:=x.cell y c e
   rw [Bf ndP hp hu (by show scope.names.lookup y≠_;rw [k];decide)] at q
   exact q
 ·exact e0.hok.fresh (Nat.le_of_lt (x.above y c (PySem.mem_of_lookup h)))
 ·unfold start
  show _=N.length
  rw [List.length_append,List.length_map,List.length_replicate]
  omega
theorem U0 {CX:Mz} {P:Program} {w:World} {K:PySem.W.Frag} {mg:Str->Option Value} {base:Heap} {k:Nat} {f:Addr} {name qual:Str} {params:Arguments} {body:List Stmt} {scope:Scope} {dV kV doc pm cdv ct oc:Value} {an od:Option Addr}
 {osl:Array (Option Value)} {N ps:List Str} {sp:Sp} (lk:K.lookup f=some ⟨oc,od,.func (PySem.W.fnOf name qual params body scope dV kV doc pm an cdv ct),osl⟩) (hcd:PySem.W.codeIn K cdv qual=true) (S:aX N ps scope)
 (len:∀vs H Q E,sp vs H Q E->vs.length=ps.length)
 (hbody:∀(A:Around) (outer:List Env) (s:Shared) (H:Hp) (vs:List V) (Q:VK) (E:XK),mJ k (A.deeper (envOfC qual scope s.heap.objs.size f cdv))->sp vs H Q E ->
   ∃t,Iz (rQ CX P w K mg base N qual scope f cdv A outer s H E) body t/\t {nx:=fun _ H'=>Q .non H',rt:=Q} (start N vs) H):
 cI P w K mg base CX (k+1) f (PySem.W.fnOf name qual params body scope dV kV doc pm an cdv ct) ps sp:=by
 refine ⟨len,fun A outer s H args us vs Q E hr e0 hb r hsp=> ?_⟩
 have hl:=len _ _ _ _ hsp
 have KX:K.In s.heap:=e0.mod.Zg.keeps fun b o e=>(e0.bs b o e).1
 have lim:s.heap.NoLimit:=e0.mod.nolimit.keeps fun b o e=>(e0.bs b o e).1
 have hkind:∀y∈ps.zip us,scope.names.lookup y.1=some .local\/(scope.names.lookup y.1=some .cell/\((cellsFrom (s.heap.objs.size+1) scope.names []).lookup y.1).isSome=true):=fun ⟨n,v⟩ hy=>by
  rcases S.par n (List.of_mem_zip hy).1 with q|q
  ·exact .inl q
  ·exact .inr ⟨q,PySem.W.cellsFrom_some _ _ _ (.inl q)⟩
 refine codeAny_call_function hr.depth (KX _ _ lk) rfl S.co S.gen rfl (PySem.W.codeRec_of KX hcd) (hb _ _ _ _ ?_)
 refine wpAny_newFunctionEnv_cells S.kind hkind fun env he s1 x=> ?_
 subst he
 refine ⟨lim.keeps x.toInCall.keep,codeAny_func ?_⟩
 obtain ⟨t,ht,hq⟩:=hbody A outer s H vs Q E (hr.deeper _) hsp
 have I:Inv (rQ CX P w K mg base N qual scope f cdv A outer s H E) [] (start N vs) H s1:=La S hr.hd e0 hl r x
 refine wpAny_mono (ht [] s1 (start N vs) H _ I hq) (fun fl s' hs=> ?_) fun e s' hs=>hs
 have fin:∀{σ':St} {H':Hp} {v:V} {u:Value},Inv (rQ CX P w K mg base N qual scope f cdv A outer s H E) [] σ' H' s'->RelV v u->Q v H'->CE outer P w H s Q u s':=
  fun {σ' H' v u} J rv q=>⟨v,H',J.os,J.bare,J.base,J.hok,rv,q⟩
 cases fl with
 | ret u=>
   obtain ⟨v,σ',H',J,rv,q⟩:=hs
   exact fin J rv q
 | next=>
   obtain ⟨σ',H',J,q⟩:=hs
   exact fin (v:=V.non) (u:=Value.none) J rfl q
 | brk=>
   obtain ⟨_,_,_,q⟩:=hs
   exact False.elim q
 | cont=>
   obtain ⟨_,_,_,q⟩:=hs
   exact False.elim q
end L2
namespace L2
open PySem PySem.Spec PyProof.Rows
section
variable {X:Cx} {x:Str} {p pos:Pos} {e:Expr} {es:List Expr} {t:TA} {id T:String} {r:List V->Hp->VK->Prop}
def tCB (r:List V->Hp->VK->Prop) (t:TA):TE:=fun σ H Q=>t σ H fun vs H1=>r vs H1 Q
theorem aR (hc:fU X (.builtin id) r) (hg:Gl X x) (hm:X.mg x=none) (hv:bootBuiltins x=some (.builtin id)) (ha:PA X (e::es) t) (hn:x ≠ "__name__" :=by decide) (hdb:(x==("__debug__" :Str))=false:=by decide)
 (he:starEach (e::es) X.env=(false,eval e X.env)::starEach es X.env:=by rfl) (hpl:(backTo pos (starEach es X.env)).any (·.1)=false:=by rfl):PE X (.Call (.Name x p) (e::es) [] pos) (tCB r t):=by
 intro pins s σ H Q I h
 refine wpAny_Call_Name_kw (qy I hg hm hv ?_ hn hdb)
 exact PyProof.Rows.callWith_builtin1 (dz (ha pos pins s σ H _ I h) fun us s1 ⟨vs,H1,I1,r1,q1⟩=>hc pins s1 σ H1 vs us Q I1 r1 q1) he hpl
theorem jA (hc:fU X (.type T) r) (hg:Gl X x) (hm:X.mg x=none) (hv:bootBuiltins x=some (.type T)) (ha:PA X (e::es) t) (hn:x ≠ "__name__" :=by decide) (hdb:(x==("__debug__" :Str))=false:=by decide)
 (he:starEach (e::es) X.env=(false,eval e X.env)::starEach es X.env:=by rfl) (hpl:(backTo pos (starEach es X.env)).any (·.1)=false:=by rfl):PE X (.Call (.Name x p) (e::es) [] pos) (tCB r t):=by
 intro pins s σ H Q I h
 refine wpAny_Call_Name_kw (qy I hg hm hv ?_ hn hdb)
 exact PyProof.Rows.callWith_type1 (dz (ha pos pins s σ H _ I h) fun us s1 ⟨vs,H1,I1,r1,q1⟩=>hc pins s1 σ H1 vs us Q I1 r1 q1) he hpl
end
end L2
namespace HT
open PySem PyProof.Rows
section
open PySem.SeqAt
open PySem.AutoSeq1 (wpAny_loadPart')
open PySem.MeetsSeq PySem.MeetsSeq2 PySem.MeetsSeq3
end
section
variable {prog:Program} {w:World} {A:Around} {E:Value->Shared->Prop} {s:Shared}
theorem JX {t b:Addr} {vs ws:List Value} {Q:Value->Shared->Prop} (ht:IsTup s.heap t vs.toArray) (hb:IsTup s.heap b ws.toArray) (hv:vs≠[])
 (h1:ws=[]->Q (.ref t) s) (h2:ws≠[]->Q (.ref s.heap.objs.size) {s with heap:=s.heap.push {cls:= .type "tuple",data:= .seq (vs++ws).toArray}})
 (hsz:vs.length+ws.length<=sizeLine):wpAny (model prog w) A (binaryOp .Add (.ref t) (.ref b)) Q E s:=by
 obtain ⟨⟨cls,dd,data,sl⟩,ho,hc,n,hd⟩:=id ht
 obtain ⟨⟨cls2,dd2,data2,sl2⟩,ho2,hc2,n2,hd2⟩:=id hb
 simp only at hc hd hc2 hd2
 subst hc hd hc2 hd2
 have e:vs.toArray++ws.toArray=(vs++ws).toArray:=by simp
 by_cases hw:ws=[]
 ·exact concat_meets ⟨_,ho,rfl⟩ ⟨_,ho2,rfl⟩ noFill_tuple_add seq_tuple_add PySem.F.slot_tuple_add PySem.F.entry_tuple_add (PySem.F.args_tuple_add_2 _ _)
   (tuple_addW1 t b vs.toArray ws.toArray n n2 dd dd2 sl sl2 (by simpa using hv) (by simp [hw])) ⟨ho,ho2,h1 hw⟩
 ·refine concat_meets ⟨_,ho,rfl⟩ ⟨_,ho2,rfl⟩ noFill_tuple_add seq_tuple_add PySem.F.slot_tuple_add PySem.F.entry_tuple_add (PySem.F.args_tuple_add_2 _ _)
   (tuple_addW2 t b vs.toArray ws.toArray n n2 dd dd2 sl sl2 (by simpa using hv) (by simpa using hw) (by rw [List.size_toArray,List.size_toArray];exact hsz)) ⟨ho,ho2, ?_⟩
  rw [e]
  exact h2 hw
def gJ (n d:Nat):Option Int->Nat
 | none=>d
 | some v=>if v<0 then (v+(n:Int)).toNat else min v.toNat n
theorem yq (n d:Nat):gJ n d none=d:=rfl
theorem uD (n d k:Nat):gJ n d (some (k:Int))=min k n:=by
 show (if (k:Int)<0 then ((k:Int)+(n:Int)).toNat else min (k:Int).toNat n)=min k n
 rw [if_neg (by omega),Int.toNat_natCast]
theorem VL (n d:Nat) (hd:d<=n) (o:Option Int):gJ n d o<=n:=by
 cases o with
 | none=>exact hd
 | some v=>
   show (if v<0 then (v+(n:Int)).toNat else min v.toNat n)<=n
   by_cases hv:v<0
   ·rw [if_pos hv];omega
   ·rw [if_neg hv];exact Nat.min_le_right _ _
theorem JW (v:Int) (n d:Nat):(if v<0 then max (v+(n:Int)) 0 else min v (n:Int))=((gJ n d (some v):Nat):Int):=by
 show (if v<0 then max (v+(n:Int)) 0 else min v (n:Int))=(((if v<0 then (v+(n:Int)).toNat else min v.toNat n):Nat):Int)
 by_cases hv:v<0
 ·simp only [if_pos hv];omega
 ·simp only [if_neg hv];omega
theorem Iw (lo hi:Option Int) (n:Nat):Builtin.Slice.sliceAdjust lo hi 1 (n:Int)=(((gJ n 0 lo:Nat):Int),((gJ n n hi:Nat):Int)):=by
 have h1:¬((1:Int)<0):=by omega
 unfold Builtin.Slice.sliceAdjust
 simp only [h1,if_false]
 refine Prod.ext ?_ ?_
 ·cases lo with
  | none=>rfl
  | some v=>exact JW v n 0
 ·cases hi with
  | none=>rfl
  | some v=>exact JW v n n
theorem Hi (i j:Nat):Builtin.Slice.slicePlaces (i:Int) (j:Int) 1=j - i:=by
 unfold Builtin.Slice.slicePlaces
 have h1:(1:Int)>0:=by omega
 simp only [h1,if_true,Int.ediv_one]
 split<;>omega
theorem yh {v:Value} {o:Option Int} {Q:Option Int->Shared->Prop} (p:IsPart v o) (h:Q o s):wpAny (model prog w) A (Builtin.Slice.slicePartIndex v) Q E s:=by
 cases p with
 | none=>exact slicePart_none h
 | int i t=>exact slicePart_int h
theorem vd {sl:Addr} {vl vu:Value} {lo hi:Option Int} {n:Nat} {Q:Int×Int×Nat->Shared->Prop} (hs:s.heap.IsSliceOf sl vl vu .none) (pl:IsPart vl lo) (pu:IsPart vu hi)
 (h:Q (((gJ n 0 lo:Nat):Int),1,gJ n n hi - gJ n 0 lo) s):wpAny (model prog w) A (Builtin.Slice.sliceApplied (.ref sl) (pure (n:Int))) Q E s:=by
 obtain ⟨os,hos,hcs,hds⟩:=id hs
 unfold Builtin.Slice.sliceApplied Builtin.Slice.sliceFields
 refine wpAny_bind (wpAny_bind (wpAny_field hos hds (x:=vl) rfl (wpAny_bind (wpAny_field hos hds (x:=vu) rfl (wpAny_bind (wpAny_field hos hds (x:= .none) rfl (wpAny_pure ?_)))))))
 refine wpAny_bind (slicePart_none ?_)
 show wpAny _ _ (if ((1:Int)==0)=true then _ else _) _ _ s
 rw [if_neg (by decide)]
 refine wpAny_bind (yh pl (wpAny_bind (yh pu (wpAny_bind (wpAny_pure ?_)))))
 show wpAny _ _ (match Builtin.Slice.sliceAdjust lo hi 1 (n:Int) with |(lo,hi)=>pure (lo,(1:Int),Builtin.Slice.slicePlaces lo hi 1)) _ _ s
 rw [Iw lo hi n]
 show wpAny _ _ (pure (((gJ n 0 lo:Nat):Int),(1:Int),Builtin.Slice.slicePlaces ((gJ n 0 lo:Nat):Int) ((gJ n n hi:Nat):Int) 1)) _ _ s
 rw [Hi]
 exact wpAny_pure h
theorem Ol (xs:Array Value) (i k:Nat):((List.range k).filterMap fun (m:Nat)=>xs[((i:Int)+(m:Int)*1).toNat]?).toArray=((xs.toList.drop i).take k).toArray:=by
 have e:(fun (m:Nat)=>xs[((i:Int)+(m:Int)*1).toNat]?)=fun m=>xs[i+m]? :=by
  funext m
  have:((i:Int)+(m:Int)*1).toNat=i+m:=by omega
  rw [this]
 rw [e]
 have:=pick_run xs i k
 rw [List.filterMap_map] at this
 have e2:((fun x=>xs[x]?)∘fun x=>i+x)=fun m=>xs[i+m]? :=rfl
 rw [e2] at this
 rw [this]
theorem uJ {t sl:Addr} {items:Array Value} {vl vu:Value} {lo hi:Option Int} {Q:Value->Shared->Prop} (ht:IsTup s.heap t items) (hs:s.heap.IsSliceOf sl vl vu .none) (pl:IsPart vl lo) (pu:IsPart vu hi)
 (hw:¬(gJ items.size 0 lo=0/\gJ items.size items.size hi=items.size))
 (h:Q (.ref s.heap.objs.size) {s with heap:=s.heap.push {cls:= .type "tuple",data:= .seq ((items.toList.drop (gJ items.size 0 lo)).take (gJ items.size items.size hi - gJ items.size 0 lo)).toArray}})
 (hsz:items.size<=sizeLine):wpAny (model prog w) A (getItem (.ref t) (.ref sl)) Q E s:=by
 have JN:sizeOk (.seq ((items.toList.drop (gJ items.size 0 lo)).take (gJ items.size items.size hi - gJ items.size 0 lo)).toArray):=by
  show ((items.toList.drop (gJ items.size 0 lo)).take (gJ items.size items.size hi - gJ items.size 0 lo)).toArray.size<=sizeLine
  rw [List.size_toArray,List.length_take,List.length_drop,Array.length_toList]
  omega
 have hj:gJ items.size items.size hi<=items.size:=VL _ _ (Nat.le_refl _) hi
 obtain ⟨os,hos,hcs,hds⟩:=id hs
 have hTs:s.TypeIs (.ref sl) "slice" :=⟨os,hos,hcs⟩
 unfold getItem
 try with_reducible refine wpAny_holding ?_
 first |refine wpAny_bind (wpAny_pure ?_)|skip
 refine wpAny_bind (wpAny_sequenceKey ht.typeIs (by decide) ?_)
 refine wpAny_bind (wpAny_callSpecial?_slot (name:=Str.ofString "__getitem__") ht.typeIs PyProof.Rows.slot_tuple_getitem
  (wpAny_call_entry PyProof.Rows.slot_tuple_getitem ht.typeIs entry_tuple_getitem ?_ (args_tuple_getitem _ _)))
 show wpAny _ _ (Builtin.Tuple.tupleItemsOf (.ref t) >>= _) _ _ s
 refine wpAny_bind (tupleItemsOf_ ht ?_)
 refine wpAny_bind (wpAny_typeOf hTs ?_)
 rw [if_pos (by decide)]
 refine wpAny_bind (vd hs pl pu ?_)
 have hno:¬((((gJ items.size 0 lo:Nat):Int)==0&&(1:Int)==1&&(gJ items.size items.size hi - gJ items.size 0 lo)==items.size)=true):=by
  intro q
  rw [Bool.and_eq_true,Bool.and_eq_true] at q
  have q1:((gJ items.size 0 lo:Nat):Int)=0:=eq_of_beq q.1.1
  have q2:gJ items.size items.size hi - gJ items.size 0 lo=items.size:=eq_of_beq q.2
  exact hw ⟨by omega,by omega⟩
 show wpAny _ _ (if (((gJ items.size 0 lo:Nat):Int)==0&&(1:Int)==1&&(gJ items.size items.size hi - gJ items.size 0 lo)==items.size)=true then _ else _) _ _ s
 rw [if_neg hno,Ol]
 first
  | exact wpAny_bind (m:=Builtin.Tuple.tupleExact _) (wpAny_newObj_type (wpAny_pure ⟨_,rfl,wpAny_pure h⟩) JN)
  | exact wpAny_bind (m:=Builtin.Tuple.tupleExact _) (wpAny_newObj_type (wpAny_bind (wpAny_pure (wpAny_pure ⟨_,rfl,wpAny_pure h⟩))) JN)
  | exact wpAny_bind (wpAny_bind (m:=Builtin.Tuple.tupleExact _) (wpAny_newObj_type (wpAny_pure (wpAny_pure ⟨_,rfl,wpAny_pure h⟩)) JN))
  | exact wpAny_bind (wpAny_bind (m:=Builtin.Tuple.tupleExact _) (wpAny_newObj_type (wpAny_pure ⟨_,rfl,wpAny_pure h⟩) JN))
end
end HT
namespace L2
open PySem PySem.Spec PyProof.Rows
abbrev TO:=St->Hp->(Option Int->Hp->Prop)->Prop
def PO (X:Cx) (e:Option Expr) (t:TO):Prop:=
 ∀(pins:List (Addr×Obj)) (s:Shared) (σ:St) (H:Hp) (Q:Option Int->Hp->Prop),Inv X pins σ H s->t σ H Q ->
  wpAny (model X.prog X.w) X.A (evalPart e X.env) (fun u s'=>∃o H',Inv X pins σ H' s'/\IsPart u o/\Q o H') X.xe s
def Je:TO:=fun _ H Q=>Q none H
def Yk (t:TE):TO:=fun σ H Q=>t σ H fun x H1=>∃i,x = .int i/\Q (some i) H1
section
variable {X:Cx} {e:Expr} {te:TE} {lo hi:Option Expr} {tl th:TO} {pos p2:Pos}
theorem cB:PO X none Je:=by
 intro pins s σ H Q I h
 rw [evalPart_none]
 exact wpAny_pure ⟨none,H,I,.none,h⟩
theorem bW (h:PE X e te):PO X (some e) (Yk te):=by
 intro pins s σ H Q I hw
 rw [evalPart_some]
 refine dz (h pins s σ H _ I hw) fun u s1 ⟨x,H1,I1,r1,q1⟩=> ?_
 obtain ⟨i,rfl,q⟩:=q1
 obtain ⟨t,rfl⟩:=r1
 exact ⟨some i,H1,I1,.int i t,q⟩
def SlR (X:Cx) (r:V->Option Int->Option Int->Hp->VK->Prop):Prop:=
 ∀(pins:List (Addr×Obj)) (s:Shared) (σ:St) (H:Hp) (x:V) (v vl vu:Value) (lo hi:Option Int) (sl:Addr) (Q:VK),Inv X pins σ H s->RelV x v->s.heap.IsSliceOf sl vl vu .none->IsPart vl lo->IsPart vu hi->r x lo hi H Q ->
  ∃T id,typeLookup (.type T) "__getitem__" = pure (some (.builtin id))/\s.TypeIs v T/\wpAny (model X.prog X.w) X.A (getItem v (.ref sl)) (EP X pins σ Q) X.xe s
def tSl (r:V->Option Int->Option Int->Hp->VK->Prop) (te:TE) (tl th:TO):TE:=fun σ H Q=>te σ H fun x H1=>tl σ H1 fun l H2=>th σ H2 fun u H3=>r x l u H3 Q
theorem bK {r:V->Option Int->Option Int->Hp->VK->Prop} (hr:SlR X r) (he:PE X e te) (hl:PO X lo tl) (hu:PO X hi th):PE X (.Subscript e (.Slice lo hi none p2) pos) (tSl r te tl th):=by
 intro pins s σ H Q I h
 refine Subscript_ (dz (he pins s σ H _ I h) fun v s1 ⟨x,H1,I1,r1,q1⟩=> ?_)
 refine wpAny_Slice (dz (hl pins s1 σ H1 _ I1 q1) fun vl s2 ⟨l,H2,I2,pl,q2⟩=>dz (hu pins s2 σ H2 _ I2 q2) fun vu s3 ⟨u,H3,I3,pu,q3⟩=> ?_)
 rw [evalPart_none]
 refine wpAny_pure ?_
 have I4:Inv X pins σ H3 {s3 with heap:=s3.heap.push {cls:= .type "slice",data:= .fields #[vl,vu,.none]}}:=I3.kept (t':=s3.toks) fun b ob q=>Heap.get?_push_of_some _ q
 obtain ⟨T,id,hT,ht,hg⟩:=hr pins {s3 with heap:=s3.heap.push {cls:= .type "slice",data:= .fields #[vl,vu,.none]}} σ H3 x v vl vu l u s3.heap.objs.size Q I4 r1 (Heap.IsSliceOf.new ..) pl pu q3
 show wpAny (model X.prog X.w) X.A (subscriptTail e (.Slice lo hi none p2) v (.ref s3.heap.objs.size)) (EP X pins σ Q) X.xe {s3 with heap:=s3.heap.push {cls:= .type "slice",data:= .fields #[vl,vu,.none]}}
 exact tail_any (ops:=[.ref s3.heap.objs.size,v]) ht hT hg (by with_unfolding_all rfl)
def fL (xs:List V) (lo hi:Option Int):List V:=(xs.drop (HT.gJ xs.length 0 lo)).take (HT.gJ xs.length xs.length hi - HT.gJ xs.length 0 lo)
theorem mV (xs:List V) (lo hi:Option Int):(fL xs lo hi).length<=xs.length:=by
 unfold fL
 rw [List.length_take,List.length_drop]
 omega
def YB (K:PySem.W.Frag):V->Option Int->Option Int->Hp->VK->Prop:=fun x lo hi H Q=>∃a xs,x = .ref a/\cD K H a xs /\
 ¬(HT.gJ xs.length 0 lo=0/\HT.gJ xs.length xs.length hi=xs.length) /\ ∀p,H p=none->Q (.ref p) (upd H p (.tup (fL xs lo hi)))
theorem VF:SlR X (YB X.K):=by
 intro pins s σ H x v vl vu lo hi sl Q I rx hs pl pu h
 obtain ⟨a,xs,rfl,hx,hw,q⟩:=h
 cases rx
 obtain ⟨its,r,ht,hz⟩:=I.tuple hx
 have hlen:its.toArray.size=xs.length:=by rw [List.size_toArray];exact r.length.symm
 refine ⟨"tuple",_,PyProof.Rows.slot_tuple_getitem.lookup,ht.typeIs, ?_⟩
 refine HT.uJ ht hs pl pu (by rw [hlen];exact hw) ?_ (by rw [hlen];exact hz)
 rw [hlen]
 refine ⟨.ref s.heap.objs.size,_,I.laid (t':=s.toks) (o:= .tup (fL xs lo hi)) (fun b ob q=>Heap.get?_push_of_some _ q) (Nat.le_refl _) ?_,rfl,q _ (I.hok.fresh (Nat.le_refl _))⟩
 exact ⟨Nat.le_trans (mV xs lo hi) hz,_,(r.drop (HT.gJ xs.length 0 lo)).take (HT.gJ xs.length xs.length hi - HT.gJ xs.length 0 lo),IsTup.new _ _⟩
def Oa (K:PySem.W.Frag):R2:=fun x y H Q=>∃a b xs ys,x = .ref a/\y = .ref b/\cD K H a xs/\cD K H b ys/\xs≠[]/\xs.length+ys.length<=sizeLine /\
 (ys=[]->Q (.ref a) H)/\(ys≠[] -> ∀p,H p=none->Q (.ref p) (upd H p (.tup (xs++ys))))
theorem Vals.uG {xs:List V} {us:List Value} (r:Vals xs us):us=[]↔xs=[]:=by
 cases r with
 | nil=>simp
 | cons _ _=>simp
theorem R7:rR X (binaryOp .Add) (Oa X.K):=by
 intro pins s σ H x y v u Q I rx ry h
 obtain ⟨a,b,xs,ys,rfl,rfl,ha,hb,hx,hz,q1,q2⟩:=h
 cases rx
 cases ry
 obtain ⟨its,r1,p1,_⟩:=I.tuple ha
 obtain ⟨its2,r2,p2,_⟩:=I.tuple hb
 refine HT.JX p1 p2 (fun z=>hx (r1.uG.mp z)) (fun z=>⟨.ref a,H,I,rfl,q1 (r2.uG.mp z)⟩) (fun z=> ?_) (by rw [←r1.length,←r2.length];exact hz)
 refine ⟨.ref s.heap.objs.size,_,I.laid (t':=s.toks) (o:= .tup (xs++ys)) (fun b ob q=>Heap.get?_push_of_some _ q) (Nat.le_refl _) ?_,rfl,q2 (fun w=>z (r2.uG.mpr w)) _ (I.hok.fresh (Nat.le_refl _))⟩
 exact ⟨by rw [List.length_append];exact hz,_,r1.append r2,IsTup.new _ _⟩
end
end L2
namespace L2
open PySem PySem.Spec PyProof.Rows
def SQ (n:Nat) (i:Int):Option Nat:=if 0<=i then (if i<n then some i.toNat else none) else if -(n:Int)<=i then some (i+n).toNat else none
def Iv {α:Type} (xs:List α) (i:Int):Option α:=(SQ xs.length i).bind fun j=>xs[j]?
theorem JL {n:Nat} {i:Int} {j:Nat} (h:SQ n i=some j):seqIndex? i n=some j/\j<n /\ -(n:Int)<=i/\i<n:=by
 unfold SQ at h
 by_cases h0:0<=i
 ·rw [if_pos h0] at h
  by_cases h1:i<n
  ·rw [if_pos h1] at h
   have e:i.toNat=j:=Option.some.inj h
   exact ⟨by rw [seqIndex_of h0 h1,e],by omega,by omega,h1⟩
  ·rw [if_neg h1] at h;cases h
 ·rw [if_neg h0] at h
  by_cases h1: -(n:Int)<=i
  ·rw [if_pos h1] at h
   have e:(i+n).toNat=j:=Option.some.inj h
   exact ⟨by rw [seqIndex_neg (by omega) h1,e],by omega,h1,by omega⟩
  ·rw [if_neg h1] at h;cases h
theorem Dd {α:Type} {xs:List α} {i:Int} {v:α} (h:Iv xs i=some v):∃j,seqIndex? i xs.length=some j/\xs[j]? = some v/\j<xs.length /\ -(xs.length:Int)<=i/\i<xs.length:=by
 unfold Iv at h
 cases e:SQ xs.length i with
 | none=>rw [e] at h;cases h
 | some j=>
   rw [e] at h
   obtain ⟨h1,h2,h3,h4⟩:=JL e
   exact ⟨j,h1,h,h2,h3,h4⟩
theorem bM {α:Type} {xs:List α} {j:Nat} {v:α} (h:xs[j]? = some v):Iv xs (j:Int)=some v:=by
 have hj:j<xs.length:=(List.getElem?_eq_some_iff.mp h).1
 have e:SQ xs.length (j:Int)=some j:=by
  unfold SQ
  rw [if_pos (by omega),if_pos (by omega)];simp
 unfold Iv;rw [e];exact h
def T_ (b:Expr):Prop:=∀o i,subscripted b false o i=operate [o,i] (getItem o i)
def Mx (X:Cx) (r:R2):Prop:=
 ∀(value slice:Expr) (pins:List (Addr×Obj)) (s:Shared) (σ:St) (H:Hp) (x y:V) (v u:Value) (Q:VK),Inv X pins σ H s->RelV x v->RelV y u->r x y H Q ->
  subscripted slice false v u=operate [v,u] (getItem v u)->wpAny (model X.prog X.w) X.A (subscriptTail value slice v u) (EP X pins σ Q) X.xe s
def MtR (X:Cx) (id:String) (r:V->List V->Hp->VK->Prop):Prop:=
 ∀(pins:List (Addr×Obj)) (s:Shared) (σ:St) (H:Hp) (x:V) (xs:List V) (v:Value) (us:List Value) (Q:VK),Inv X pins σ H s->RelV x v->Vals xs us->r x xs H Q ->
  wpAny (model X.prog X.w) X.A (call (.builtin id) (v::us)) (EP X pins σ Q) X.xe s
section
variable {X:Cx} {a b:Expr} {ta tb:TE} {pos:Pos}
theorem Mx.or {r r':R2} (h:Mx X r) (h':Mx X r'):Mx X (fun x y H Q=>r x y H Q\/r' x y H Q):=by
 intro value slice pins s σ H x y v u Q I rx ry q hs
 rcases q with q|q
 ·exact h value slice pins s σ H x y v u Q I rx ry q hs
 ·exact h' value slice pins s σ H x y v u Q I rx ry q hs
theorem aL {r:R2} (hr:Mx X r) (ha:PE X a ta) (hb:PE X b tb) (hs:T_ b):PE X (.Subscript a b pos) (Bp r ta tb):=by
 intro pins s σ H Q I h
 exact Subscript_ (Xp ha hb I h fun v u s2 x y H2 I2 rx ry q=>hr a b pins s2 σ H2 x y v u Q I2 rx ry q (hs _ _))
def RM (K:PySem.W.Frag):R2:=fun x y H Q=>∃p xs i v,x = .ref p/\y = .int i/\aZ K H p xs/\Iv xs i=some v/\Q v H
def B_ (K:PySem.W.Frag):R2:=fun x y H Q=>∃p xs i v,x = .ref p/\y = .int i/\cD K H p xs/\Iv xs i=some v/\Q v H
def YG:R2:=fun x y H Q=>∃z i c,x = .str z/\y = .int i/\z.length<=sizeLine/\Iv z.cps.toList i=some c/\Q (.str ⟨#[c]⟩) H
theorem JK:Mx X (RM X.K):=by
 intro value slice pins s σ H x y v u Q I rx ry h hs
 obtain ⟨p,xs,i,z,rfl,rfl,hq,he,q⟩:=h
 cases rx
 obtain ⟨t,rfl⟩:=ry
 obtain ⟨its,r,pl,hz⟩:=I.list hq
 obtain ⟨j,h1,h2,h3,h4,h5⟩:=Dd he
 obtain ⟨w,ew,rw'⟩:=r.get h2
 have hl:=r.length
 have hn:=qx
 have fin:EP X pins σ Q w s:=⟨z,H,I,rw',q⟩
 by_cases h0:0<=i
 ·have hj:i.toNat=j:=by
   rw [seqIndex_of h0 h5] at h1
   exact Option.some.inj h1
  exact item_listR pl.isList h0 (by omega) (by rw [hj];simpa using ew) fin hs
 ·have hj:(i+(its.toArray.size:Int)).toNat=j:=by
   rw [seqIndex_neg (by omega) h4] at h1
   rw [List.size_toArray,←hl]
   exact Option.some.inj h1
  exact subscriptTail_builtinR (x:=w) pl.isList.typeIs slot_list_getitem.lookup
   (wpAny_getItem_list_neg (Q:=fun r s'=>r=w/\EP X pins σ Q r s') pl.isList (by omega) (by rw [List.size_toArray]<;>omega) (by omega) (by rw [hj];simpa using ew) ⟨rfl,fin⟩) hs
theorem PJ:Mx X (B_ X.K):=by
 intro value slice pins s σ H x y v u Q I rx ry h hs
 obtain ⟨p,xs,i,z,rfl,rfl,hq,he,q⟩:=h
 cases rx
 obtain ⟨t,rfl⟩:=ry
 obtain ⟨its,r,pl,hz⟩:=I.tuple hq
 obtain ⟨j,h1,h2,h3,h4,h5⟩:=Dd he
 obtain ⟨w,ew,rw'⟩:=r.get h2
 have hl:=r.length
 have hn:=qx
 have fin:EP X pins σ Q w s:=⟨z,H,I,rw',q⟩
 exact subscriptTail_builtinR (x:=w) pl.typeIs slot_tuple_getitem.lookup
  (getItem_tuple (j:=j) (Q:=fun r s'=>r=w/\EP X pins σ Q r s') pl (by omega) (by omega) (by rw [List.size_toArray,←hl];exact h1) (by simpa using ew) ⟨rfl,fin⟩) hs
theorem WM:Mx X YG:=by
 intro value slice pins s σ H x y v u Q I rx ry h hs
 obtain ⟨z,i,c,rfl,rfl,hz,he,q⟩:=h
 obtain ⟨t,rfl⟩:=rx
 obtain ⟨t',rfl⟩:=ry
 obtain ⟨j,h1,h2,h3,h4,h5⟩:=Dd he
 have hl:z.cps.toList.length=z.length:=by simp [Str.length]
 rw [hl] at h1 h4 h5
 have hn:=qx
 exact tail_any (typeIs_str s z t) slot_str_getitem.lookup (getItem_str (c:=c) (by
  have e1:decide (i < -(2 ^ 63:Int))=false:=decide_eq_false (by omega)
  have e2:decide (i≥2 ^ 63)=false:=decide_eq_false (by omega)
  rw [e1,e2,Bool.or_false]) (by rw [h1];simpa using h2) ⟨.str ⟨#[c]⟩,H,I.tok _,⟨_,rfl⟩,q⟩) hs
def rIx (K:PySem.W.Frag):R2:=fun x y H Q=>RM K x y H Q\/B_ K x y H Q\/YG x y H Q
theorem WQ:Mx X (rIx X.K):=JK.or (PJ.or WM)
theorem Hv (its:List Value) (n j:Nat) (u:Value):Obj.mapSeq (·.setIfInBounds j u) {cls:= .type "list",data:= .seq its.toArray n}={cls:= .type "list",data:= .seq (its.set j u).toArray n}:=by
 simp [Obj.mapSeq]
theorem Inv.lst {pins:List (Addr×Obj)} {σ:St} {H:Hp} {s:Shared} {p:Addr} {xs:List V} (I:Inv X pins σ H s) (h:H p=some (.lst xs)):
 ∃(its:List Value) (n:Nat),Vals xs its/\s.heap.get? p=some {cls:= .type "list",data:= .seq its.toArray n}/\xs.length<=sizeLine:=by
 obtain ⟨z,its,n,r,e⟩:=I.hok p _ h
 exact ⟨its,n,r,e,z⟩
theorem Inv.Ws {pins:List (Addr×Obj)} {σ:St} {H:Hp} {s:Shared} {p:Addr} {xs ys:List V} {its its':List Value} {n n':Nat} {f:Obj->Obj} (I:Inv X pins σ H s) (h:H p=some (.lst xs))
 (ho:s.heap.get? p=some {cls:= .type "list",data:= .seq its.toArray n}) (hf:f {cls:= .type "list",data:= .seq its.toArray n}={cls:= .type "list",data:= .seq its'.toArray n'}) (r:Vals ys its') (hz:ys.length<=sizeLine) (t:Nat):
 Inv X pins σ (upd H p (.lst ys)) {s with heap:=s.heap.update p f,toks:=t}:=by
 have e:(s.heap.update p f).get? p=some {cls:= .type "list",data:= .seq its'.toArray n'}:=by
  rw [Heap.get?_update_self f ho (by rw [hf]<;>rfl),hf]
 refine I.write (x:=p) (e:=p) (by rw [h];trivial) (.inl rfl) (fun b u hb q=>(Heap.get?_update_other _ _ (Ne.symm hb)).trans q) ⟨_,e⟩ ?_
 exact ⟨hz,its',n',r,e⟩
def YC:V->V->V->Hp->(Hp->Prop)->Prop:=fun o i v H Q=>∃p xs k j,o = .ref p/\i = .int k/\H p=some (.lst xs)/\SQ xs.length k=some j/\Q (upd H p (.lst (xs.set j v)))
theorem set_list:aaz X YC:=by
 intro pins s σ H o i v ov iv u Q I ro ri rv h
 obtain ⟨p,xs,k,j,rfl,rfl,hp,hj,q⟩:=h
 cases ro
 obtain ⟨t,rfl⟩:=ri
 obtain ⟨its,n,r,ho,hz⟩:=I.lst hp
 obtain ⟨h1,h2,h3,h4⟩:=JL hj
 have hl:=r.length
 have hn:=qx
 have I':Inv X pins σ (upd H p (.lst (xs.set j v))) {s with heap:=s.heap.update p (Obj.mapSeq (·.setIfInBounds j u))}:=
  I.Ws hp ho (Hv its n j u) (r.set rv j) (by rw [List.length_set];exact hz) s.toks
 by_cases h0:0<=k
 ·have hk:k.toNat=j:=by
   rw [seqIndex_of h0 h4] at h1
   exact Option.some.inj h1
  exact PySem.W.ki_setAt ho h0 (by omega) (by rw [List.size_toArray,←hl];exact h4) (by rw [hk];exact ⟨_,I',q⟩)
 ·have hk:(k+(its.toArray.size:Int)).toNat=j:=by
   rw [seqIndex_neg (by omega) h3] at h1
   rw [List.size_toArray,←hl]
   exact Option.some.inj h1
  exact PySem.W.ki_setBack ho (by omega) (by rw [List.size_toArray,←hl];exact h3) (by omega) (by rw [hk];exact ⟨_,I',q⟩)
theorem BW (lo hi:Option Int) (n:Nat):(sliceBounds lo hi none n).1=((HT.gJ n 0 lo:Nat):Int)/\(sliceBounds lo hi none n).2.1=((HT.gJ n n hi:Nat):Int)/\(sliceBounds lo hi none n).2.2=1:=by
 refine ⟨?_, ?_,rfl⟩
 ·cases lo with
  | none=>simp [sliceBounds,HT.gJ]
  | some i=>
    simp only [sliceBounds,HT.gJ,Option.getD_none,show (1:Int)>0 by decide,if_true]
    by_cases h:i<0
    ·simp only [h,if_true]<;>omega
    ·simp only [h,if_false]<;>omega
 ·cases hi with
  | none=>simp [sliceBounds,HT.gJ]
  | some i=>
    simp only [sliceBounds,HT.gJ,Option.getD_none,show (1:Int)>0 by decide,if_true]
    by_cases h:i<0
    ·simp only [h,if_true]<;>omega
    ·simp only [h,if_false]<;>omega
theorem zN (its:List Value) (lo hi:Option Int):slicePick its.toArray lo hi none=((its.drop (HT.gJ its.length 0 lo)).take (HT.gJ its.length its.length hi - HT.gJ its.length 0 lo)).toArray:=by
 obtain ⟨h1,h2,h3⟩:=BW lo hi its.toArray.size
 unfold slicePick
 rw [h1,h2,h3]
 simp only [sliceRange_one,pick_run,List.size_toArray]<;>rfl
def N_ (K:PySem.W.Frag):V->Option Int->Option Int->Hp->VK->Prop:=fun x lo hi H Q=>∃a xs,x = .ref a/\aZ K H a xs /\ ∀p,H p=none->Q (.ref p) (upd H p (.lst (fL xs lo hi)))
theorem RK:SlR X (N_ X.K):=by
 intro pins s σ H x v vl vu lo hi sl Q I rx hs pl pu h
 obtain ⟨a,xs,rfl,hx,q⟩:=h
 cases rx
 obtain ⟨its,r,ht,hz⟩:=I.list hx
 have hlen:=r.length
 refine ⟨"list",_,slot_list_getitem.lookup,ht.isList.typeIs, ?_⟩
 refine wpAny_getItem_list_slice ht.isList hs pl pu .none (by simp) ?_ (by rw [List.size_toArray]<;>omega)
 rw [zN,←hlen]
 refine ⟨.ref s.heap.objs.size,_,I.laid (t':=s.toks) (o:= .lst (fL xs lo hi)) (fun b ob q=>Heap.get?_push_of_some _ q) (Nat.le_refl _) ?_,rfl,q _ (I.hok.fresh (Nat.le_refl _))⟩
 exact ⟨Nat.le_trans (mV xs lo hi) hz,_,0,(r.drop (HT.gJ xs.length 0 lo)).take (HT.gJ xs.length xs.length hi - HT.gJ xs.length 0 lo),Heap.get?_push_size _ rfl⟩
def rZ:V->Bool
 | .non=>true
 | .bl _=>true
 | .int _=>true
 | .str _=>true
 | _=>false
def Mu:V->V->Bool
 | .non,.non=>true
 | .bl a,.bl b=>a==b
 | .bl a,.int b=>(if a then 1 else 0)==b
 | .int a,.bl b=>a==(if b then 1 else 0)
 | .int a,.int b=>a==b
 | .str a,.str b=>a==b
 | _,_=>false
theorem Xh {A:Around} {s:Shared} {y x:V} {u v:Value} (ry:RelV y u) (rx:RelV x v) (fy:rZ y=true) (fx:rZ x=true):SeqAt.EqAt A s u v (Mu y x):=by
 cases y with
 | non=>
   cases ry
   cases x with
   | non=>cases rx;exact SeqAt.EqAt.same _
   | bl b=>cases rx;exact SeqAt.EqAt.none_bool b
   | int b=>obtain ⟨t,rfl⟩:=rx;exact SeqAt.EqAt.none_int b t
   | str b=>obtain ⟨t,rfl⟩:=rx;exact SeqAt.EqAt.none_str b t
   | _=>exact absurd (show false=true from fx) Bool.false_ne_true
 | bl a=>
   cases ry
   cases x with
   | non=>cases rx;exact SeqAt.EqAt.bool_none a
   | bl b=>cases rx;exact SeqAt.EqAt.bool_bool a b
   | int b=>obtain ⟨t,rfl⟩:=rx;exact SeqAt.EqAt.bool_int a b t
   | str b=>obtain ⟨t,rfl⟩:=rx;exact SeqAt.EqAt.bool_str a b t
   | _=>exact absurd (show false=true from fx) Bool.false_ne_true
 | int a=>
   obtain ⟨t',rfl⟩:=ry
   cases x with
   | non=>cases rx;exact SeqAt.EqAt.int_none a t'
   | bl b=>cases rx;exact SeqAt.EqAt.int_bool a t' b
   | int b=>obtain ⟨t,rfl⟩:=rx;exact SeqAt.EqAt.int_int a t' b t
   | str b=>obtain ⟨t,rfl⟩:=rx;exact SeqAt.EqAt.int_str a t' b t
   | _=>exact absurd (show false=true from fx) Bool.false_ne_true
 | str a=>
   obtain ⟨t',rfl⟩:=ry
   cases x with
   | non=>cases rx;exact SeqAt.EqAt.str_none a t'
   | bl b=>cases rx;exact SeqAt.EqAt.str_bool a t' b
   | int b=>obtain ⟨t,rfl⟩:=rx;exact SeqAt.EqAt.str_int a t' b t
   | str b=>obtain ⟨t,rfl⟩:=rx;exact SeqAt.EqAt.str_str a t' b t
   | _=>exact absurd (show false=true from fx) Bool.false_ne_true
 | _=>exact absurd (show false=true from fy) Bool.false_ne_true
def Tv (x:V) (u:Value):Bool:=match u with
 | .none=>Mu .non x
 | .bool b=>Mu (.bl b) x
 | .int i _=>Mu (.int i) x
 | .str z _=>Mu (.str z) x
 | _=>false
theorem Qo {x y:V} {u:Value} (r:RelV y u) (f:rZ y=true):Tv x u=Mu y x:=by
 cases y with
 | non=>cases r;rfl
 | bl b=>cases r;rfl
 | int i=>obtain ⟨t,rfl⟩:=r;rfl
 | str z=>obtain ⟨t,rfl⟩:=r;rfl
 | _=>exact absurd (show false=true from f) Bool.false_ne_true
theorem Dg {x:V}:∀{xs:List V} {us:List Value},Vals xs us->xs.all rZ=true->us.any (Tv x)=xs.any fun y=>Mu y x
 | _,_,.nil,_=>rfl
 | y::xs,u::us,.cons r t,f=>by
   rw [List.all_cons,Bool.and_eq_true] at f
   rw [List.any_cons,List.any_cons,Qo r f.1,Dg t f.2]
theorem yL {A:Around} {s:Shared} {x:V} {v:Value} (rx:RelV x v) (fx:rZ x=true):∀{xs:List V} {us:List Value},Vals xs us->xs.all rZ=true -> ∀u∈us,SeqAt.EqAt A s u v (Tv x u)
 | _,_,.nil,_=>fun u hu=>by cases hu
 | y::xs,u::us,.cons r t,f=>fun u' hu=>by
   rw [List.all_cons,Bool.and_eq_true] at f
   rcases List.mem_cons.mp hu with rfl|hu
   ·rw [Qo r f.1];exact Xh r rx f.1 fx
   ·exact yL rx fx t f.2 u' hu
def inV (x:V) (xs:List V):Bool:=xs.any fun y=>Mu y x
def rIn (K:PySem.W.Frag) (neg:Bool):R2:=fun x y H Q=>∃p xs,y = .ref p/\(aZ K H p xs\/cD K H p xs)/\rZ x=true/\xs.all rZ=true/\Q (.bl (if neg then !inV x xs else inV x xs)) H
theorem Cg:rR X (compareOp .NotIn) (rIn X.K true):=by
 intro pins s σ H x y v u Q I rx ry h
 obtain ⟨p,xs,rfl,hq,fx,fs,q⟩:=h
 cases ry
 rcases hq with hq|hq
 ·obtain ⟨its,r,pl,hz⟩:=I.list hq
  refine SeqAt.notIn_listAt (Tv x) pl.isList (fun w hw=>yL rx fx r fs w (by simpa using hw)) ⟨.bl _,H,I,rfl, ?_⟩
  rw [show its.toArray.any (Tv x)=its.any (Tv x) by simp,Dg r fs]
  exact q
 ·obtain ⟨its,r,pl,hz⟩:=I.tuple hq
  refine SeqAt.notIn_tupleAt (Tv x) pl (fun w hw=>yL rx fx r fs w (by simpa using hw)) ⟨.bl _,H,I,rfl, ?_⟩
  rw [show its.toArray.any (Tv x)=its.any (Tv x) by simp,Dg r fs]
  exact q
theorem CQ:fU X (.builtin "len") (fun xs H Q=>∃p ys,xs=[.ref p]/\(aZ X.K H p ys\/cD X.K H p ys)/\Q (.int ys.length) H):=by
 intro pins s σ H xs us Q I r h
 obtain ⟨p,ys,rfl,hq,q⟩:=h
 obtain ⟨u,rfl,rx⟩:=vals1 r
 cases rx
 have hn:=qx
 rcases hq with hq|hq
 ·obtain ⟨its,r',pl,hz⟩:=I.list hq
  have hlen:=r'.length
  exact Calls.call_len_list pl.isList (by simp only [List.size_toArray]<;>omega) ⟨.int ys.length,H,I.tok _,⟨s.toks+1,by rw [List.size_toArray,hlen]⟩,q⟩
 ·obtain ⟨its,r',pl,hz⟩:=I.tuple hq
  have hlen:=r'.length
  exact len_tuple pl (by simp only [List.size_toArray]<;>omega) ⟨.int ys.length,H,I.tok _,⟨s.toks+1,by rw [List.size_toArray,hlen]⟩,q⟩
theorem CP:fU X (.type "list") (fun xs H Q=>∃p ys,xs=[.ref p]/\(aZ X.K H p ys\/cD X.K H p ys) /\ ∀l,H l=none->Q (.ref l) (upd H l (.lst ys))):=by
 intro pins s σ H xs us Q I r h
 obtain ⟨p,ys,rfl,hq,q⟩:=h
 obtain ⟨u,rfl,rx⟩:=vals1 r
 cases rx
 have fin:∀(its:List Value),Vals ys its->ys.length<=sizeLine -> ∀(h':Heap) (c':Nat),(∀b o',s.heap.get? b=some o'->h'.get? b=some o') ->
  h'.get? s.heap.objs.size=some {cls:= .type "list",dict:=none,data:= .seq its.toArray c',slots:= #[]}->EP X pins σ Q (.ref s.heap.objs.size) {s with heap:=h'}:=fun its r' hz h' c' kp e=>
  ⟨.ref s.heap.objs.size,_,I.laid (t':=s.toks) kp (Nat.le_refl _) (show bQ X.prog X.w _ h' _ (.lst ys) from ⟨hz,its,c',r',e⟩),rfl,q _ (I.hok.fresh (Nat.le_refl _))⟩
 rcases hq with hq|hq
 ·obtain ⟨its,r',pl,hz⟩:=I.list hq
  have hlen:=r'.length
  obtain ⟨o,ho,hc,n,hd⟩:=pl.isList
  exact call_list_seq p (.inl rfl) ho hc hd (fun h' c' kp e=>fin its r' hz h' c' kp e) (by simp only [List.size_toArray]<;>omega)
 ·obtain ⟨its,r',pl,hz⟩:=I.tuple hq
  have hlen:=r'.length
  obtain ⟨o,ho,hc,n,hd⟩:=pl
  exact call_list_seq p (.inr rfl) ho hc hd (fun h' c' kp e=>fin its r' hz h' c' kp e) (by simp only [List.size_toArray]<;>omega)
def tyV (K:PySem.W.Frag) (T:String) (x:V) (H:Hp):Prop:=match x with
 | .str _=>T = "str"
 | .int _=>T = "int"
 | .ref p=>(T = "list" /\ ∃xs,aZ K H p xs)\/(T = "tuple" /\ ∃o,K.lookup p=some o/\o.cls = .type "tuple" /\ o.dict=none) \/
    (T = "dict" /\ ((∃kvs,H p=some (.dK kvs)) \/ ∃kvs,H p=some (.dT kvs)))\/(T = "set" /\ ∃S n,H p=some (.set S n))
 | _=>False
theorem Vg {pins:List (Addr×Obj)} {σ:St} {H:Hp} {s:Shared} {T:String} {x:V} {v:Value} (I:Inv X pins σ H s) (r:RelV x v) (ty:tyV X.K T x H):
 s.TypeIs v T /\ ∀a,v = .ref a -> ∃ob,s.heap.get? a=some ob/\ob.dict=none:=by
 cases x with
 | str z=>
   obtain ⟨t,rfl⟩:=r
   cases (show T = "str" from ty)
   exact ⟨typeIs_str s z t,fun _ e=>nomatch e⟩
 | int i=>
   obtain ⟨t,rfl⟩:=r
   cases (show T = "int" from ty)
   exact ⟨typeIs_int s i t,fun _ e=>nomatch e⟩
 | ref p=>
   cases r
   rcases ty with ⟨rfl,xs,hq⟩|⟨rfl,o,hk,hc,hd⟩|⟨rfl,hk⟩|⟨rfl,S,n,hk⟩
   ·obtain ⟨its,_,pl,_⟩:=I.list hq
    refine ⟨pl.isList.typeIs,fun a e=> ?_⟩
    cases e
    obtain ⟨o,n,e,c,hd,_⟩:=pl
    exact ⟨o,e,hd⟩
   ·refine ⟨⟨o,I.zL p o hk,hc⟩,fun a e=> ?_⟩
    cases e
    exact ⟨o,I.zL _ o hk,hd⟩
   ·have z:∃o,s.heap.get? p=some o/\o.ExactDict:=by
     rcases hk with ⟨kvs,hk⟩|⟨kvs,hk⟩
     ·obtain ⟨_,_,_,_,o,_,_,e,ex,_⟩:=I.hok p _ hk
      exact ⟨o,e,ex⟩
     ·obtain ⟨_,_,_,_,o,_,_,e,ex,_⟩:=I.hok p _ hk
      exact ⟨o,e,ex⟩
    obtain ⟨o,e,ex⟩:=z
    refine ⟨⟨o,e,ex.1⟩,fun a e2=> ?_⟩
    cases e2
    exact ⟨o,e,ex.2.1⟩
   ·obtain ⟨o,_,_,_,e,ex,_⟩:=I.hok p _ hk
    refine ⟨⟨o,e,ex.1⟩,fun a e2=> ?_⟩
    cases e2
    exact ⟨o,e,ex.2.1⟩
 | _=>exact False.elim ty
def tBM (K:PySem.W.Frag) (T:String) (r:V->List V->Hp->VK->Prop) (to:TE) (t:TA):TE:=fun σ H Q=>to σ H fun x H1=>tyV K T x H1/\t σ H1 fun xs H2=>r x xs H2 Q
variable {o e:Expr} {es:List Expr} {to:TE} {t:TA} {name:Str} {apos cpos:Pos} {T id:String} {r:V->List V->Hp->VK->Prop}
theorem Us (pa:PlainAttrs T) (slot:Slot T name id) (hty:typeOf (.builtin id)=pure (.type "method_descriptor")) (hm:MtR X id r) (ho:PE X o to) (ha:PA X (e::es) t)
 (hbase:attributeBase o name X.env (eval o X.env)=eval o X.env:=by rfl)
 (hfew:((backTo cpos (starEach (e::es) X.env)).all (fun x=> !x.1)&&(backToKw cpos (keywordEach [] X.env)).all (fun x=>x.1.isSome)
   && decide ((e::es).length+([]:List Keyword).length+(if ([]:List Keyword).isEmpty then 0 else 1)<30))=true:=by rfl)
 (hline:(apos.endLine==cpos.line)=true:=by rfl) (hs:starEach (e::es) X.env=(false,eval e X.env)::starEach es X.env:=by rfl) (hplain:(backTo cpos (starEach es X.env)).any (·.1)=false:=by rfl):
 PE X (.Call (.Attribute o name apos) (e::es) [] cpos) (tBM X.K T r to t):=by
 intro pins s σ H Q I h
 refine wpAny_Call_method_late hbase hfew hline rfl (dz (ho pins s σ H _ I h) fun v s1 ⟨x,H1,I1,r1,ty,q1⟩=> ?_)
 obtain ⟨h1,h2⟩:=Vg I1 r1 ty
 refine ⟨T,id,pa,slot,hty,h1,h2, ?_⟩
 have hA:=ha cpos pins s1 σ H1 _ I1 q1
 rw [hs] at hA ⊢
 refine Calls.callWith_builtin (by show (false||(backTo cpos (starEach es X.env)).any (·.1))=false;rw [hplain]<;>rfl) (Calls.evalArgs_plain ?_)
 exact dz hA fun us s2 ⟨vs,H2,I2,r2,q2⟩=>hm pins s2 σ H2 x vs v us Q I2 r1 r2 q2
end
end L2
namespace L2
open PySem PySem.Spec PyProof.Rows
def MtM (X:Cx) (id:String) (r:V->List V->Hp->VK->Prop):Prop:=
 ∀(pins:List (Addr×Obj)) (s:Shared) (σ:St) (H:Hp) (x:V) (xs:List V) (v:Value) (us:List Value) (Q:VK),Inv X pins σ H s->RelV x v->Vals xs us->r x xs H Q ->
  wpAny (model X.prog X.w) X.A (call (.builtin id) (v::us)) (EP X pins σ Q) X.xe s
theorem Vals.one {x:V} {us:List Value} (h:Vals [x] us):∃u,us=[u]/\RelV x u:=by
 cases h with
 | cons r t=>cases t;exact ⟨_,rfl,r⟩
theorem Vals.rep {xs:List V} {us:List Value} (h:Vals xs us):∀k:Nat,Vals (List.replicate k xs).flatten (List.replicate k us).flatten
 | 0=> .nil
 | k+1=>by
   rw [List.replicate_succ,List.replicate_succ,List.flatten_cons,List.flatten_cons]
   exact Vals.append h (Vals.rep h k)
theorem foldl_rep (its:List Value):∀(k:Nat) (acc:List Value),
 List.foldl (fun x1 x2=>x1++x2) acc.toArray (List.replicate k its.toArray)=(acc++(List.replicate k its).flatten).toArray
 | 0,acc=>by simp
 | k+1,acc=>by
   have e:acc.toArray++its.toArray=(acc++its).toArray:=by simp
   have e2:(acc++its)++(List.replicate k its).flatten=acc++(List.replicate (k+1) its).flatten:=by
    rw [List.replicate_succ,List.flatten_cons,List.append_assoc]
   rw [←e2,←foldl_rep its k (acc++its),←e,List.replicate_succ,List.foldl_cons]
section
variable {X:Cx} {pins:List (Addr×Obj)} {σ:St} {H:Hp} {s:Shared} {l b:Addr} {xs ys zs:List V}
theorem Inv.Zd {its its':List Value} {n:Nat} {f:Array Value->Array Value} {t':Nat} (I:Inv X pins σ H s) (hH:H l=some (.lst xs))
 (e:s.heap.get? l=some {cls:= .type "list",data:= .seq its.toArray n}) (hf:f its.toArray=its'.toArray) (hv:Vals ys its') (hz:ys.length<=sizeLine):
 Inv X pins σ (upd H l (.lst ys)) {s with heap:=s.heap.update l (Obj.mapSeq f),toks:=t'}:=by
 have q:=PySem.IsL.update e f
 rw [hf] at q
 refine I.write (x:=l) (e:=l) (by rw [hH];exact trivial) (.inl rfl) (fun b' u hb hu=>(Heap.get?_update_other s.heap (Obj.mapSeq f) (Ne.symm hb)).trans hu) ⟨_,q⟩ ?_
 exact ⟨hz,its',_,hv,q⟩
theorem Inv.Ze {its:List Value} {t':Nat} (I:Inv X pins σ H s) (hv:Vals ys its) (hz:ys.length<=sizeLine):
 Inv X pins σ (upd H s.heap.objs.size (.lst ys)) {s with heap:=s.heap.push {cls:= .type "list",data:= .seq its.toArray},toks:=t'}:=
 I.laid (fun _ _ q=>Heap.get?_push_of_some _ q) (Nat.le_refl _) ⟨hz,its,0,hv,Heap.get?_push_size _ rfl⟩
theorem Inv.fresh (I:Inv X pins σ H s):H s.heap.objs.size=none:=I.hok.fresh (Nat.le_refl _)
theorem Inv.K4 (I:Inv X pins σ H s) (hH:H l=some (.lst xs)):xs.length<=sizeLine /\ ∃(its:List Value) (n:Nat),Vals xs its/\xs.length=its.length/\s.heap.get? l=some {cls:= .type "list",data:= .seq its.toArray n}:=by
 obtain ⟨z,its,n,r,e⟩:=I.hok l _ hH
 exact ⟨z,its,n,r,r.length,e⟩
theorem Ep {n:Nat} (h:n<=sizeLine):Builtin.List.listTooLong n=false:=by
 unfold Builtin.List.listTooLong
 exact decide_eq_false (by omega)
end
section
variable {X:Cx}
def Ca:V->List V->Hp->VK->Prop:=fun x vs H Q=>∃l xs y,x = .ref l/\vs=[y]/\H l=some (.lst xs)/\xs.length<sizeLine/\Q .non (upd H l (.lst (xs++[y])))
theorem Al:MtM X "list.append" Ca:=by
 intro pins s σ H x vs v us Q I rx rv h
 obtain ⟨l,xs,y,rfl,rfl,hH,hz,q⟩:=h
 cases rx
 obtain ⟨u,rfl,ru⟩:=rv.one
 obtain ⟨z,its,n,r,hl,e⟩:=I.K4 hH
 refine call_meets F.slot_list_append ⟨_,e,rfl⟩ F.entry_list_append (F.args_list_append_2 _ _) (PySem.list_append l its.toArray n u (by rw [List.size_toArray];omega)) ⟨e, ?_⟩
 refine ⟨.non,_,I.Zd (its':=its++[u]) hH e (by simp) (r.append (.cons ru .nil)) ?_,rfl,q⟩
 rw [List.length_append,List.length_singleton]
 omega
def RQ:V->List V->Hp->VK->Prop:=fun x vs H Q=>∃l b xs zs,x = .ref l/\vs=[.ref b]/\H l=some (.lst xs)/\H b=some (.lst zs)/\xs.length+zs.length<=sizeLine/\Q .non (upd H l (.lst (xs++zs)))
theorem Ak:MtM X "list.extend" RQ:=by
 intro pins s σ H x vs v us Q I rx rv h
 obtain ⟨l,b,xs,zs,rfl,rfl,hH,hB,hz,q⟩:=h
 cases rx
 obtain ⟨u,rfl,ru⟩:=rv.one
 cases ru
 obtain ⟨z,its,n,r,hl,e⟩:=I.K4 hH
 obtain ⟨z2,its2,n2,r2,hl2,e2⟩:=I.K4 hB
 have hsz:its.toArray.size+its2.toArray.size<=sizeLine:=by rw [List.size_toArray,List.size_toArray];omega
 have P0:¬(!its.toArray.isEmpty&&Builtin.List.listTooLong (its.toArray.size+its2.toArray.size))=true:=by
  rw [Ep hsz,Bool.and_false]
  exact Bool.false_ne_true
 refine call_meets F.slot_list_extend ⟨_,e,rfl⟩ F.entry_list_extend (F.args_list_extend_2 _ _)
  (AutoSeq1.list_extend_list_list_0 l its.toArray n b its2.toArray n2 P0 (by rw [List.size_toArray];omega) (by omega)) ⟨e,e2, ?_⟩
 refine ⟨.non,_,I.Zd (its':=its++its2) hH e (by simp) (r.append r2) ?_,rfl,q⟩
 rw [List.length_append]
 omega
def YJ:R2:=fun x y H Q=>∃l b xs zs,x = .ref l/\y = .ref b/\H l=some (.lst xs)/\H b=some (.lst zs)/\xs.length+zs.length<=sizeLine /\ ∀p,H p=none->Q (.ref p) (upd H p (.lst (xs++zs)))
theorem je:rR X (binaryOp .Add) YJ:=by
 intro pins s σ H x y v u Q I rx ry h
 obtain ⟨l,b,xs,zs,rfl,rfl,hH,hB,hz,q⟩:=h
 cases rx
 cases ry
 obtain ⟨z,its,n,r,hl,e⟩:=I.K4 hH
 obtain ⟨z2,its2,n2,r2,hl2,e2⟩:=I.K4 hB
 refine PySem.P.add_list e e2 ?_ (by rw [List.size_toArray,List.size_toArray];omega)
 have ea:its.toArray++its2.toArray=(its++its2).toArray:=by simp
 rw [ea]
 exact ⟨.ref _,_,I.Ze (t':=s.toks) (r.append r2) (by rw [List.length_append];omega),rfl,q _ I.fresh⟩
def acW:R2:=fun x y H Q=>∃l k xs,x = .ref l/\y = .int k/\H l=some (.lst xs) /\ -(2 ^ 63)<=k/\k<2 ^ 63/\xs.length*k.toNat<=sizeLine /\
 ∀p,H p=none->Q (.ref p) (upd H p (.lst (List.replicate k.toNat xs).flatten))
theorem len_rep {α:Type} (xs:List α) (k:Nat):(List.replicate k xs).flatten.length=k*xs.length:=by
 induction k with
 | zero=>simp
 | succ k ih=>rw [List.replicate_succ,List.flatten_cons,List.length_append,ih,Nat.succ_mul,Nat.add_comm]
theorem Ow:rR X (binaryOp .Mult) acW:=by
 intro pins s σ H x y v u Q I rx ry h
 obtain ⟨l,k,xs,rfl,rfl,hH,h1,h2,hz,q⟩:=h
 cases rx
 obtain ⟨t,rfl⟩:=ry
 obtain ⟨z,its,n,r,hl,e⟩:=I.K4 hH
 have hlen:its.toArray.size*k.toNat<=sizeLine:=by rw [List.size_toArray,←hl];exact hz
 have hcap:¬its.toArray.size*k.toNat>(2 ^ 63 - 1) / 8:=by
  have:(sizeLine:Nat)<=(2 ^ 63 - 1) / 8:=by decide
  omega
 have hfit:¬(!Builtin.List.listFitsIndex k)=true:=by
  rw [fitsIndex_both h1 h2]
  exact Bool.false_ne_true
 have P0:¬Builtin.List.listTooLong (its.toArray.size*k.toNat)=true:=by
  rw [Ep hlen]
  exact Bool.false_ne_true
 have hnew:List.foldl (fun x1 x2=>x1++x2) #[] (List.replicate (if its.toArray.isEmpty=true then 0 else k.toNat) its.toArray)=(List.replicate k.toNat its).flatten.toArray:=by
  have f0:∀m:Nat,List.foldl (fun x1 x2=>x1++x2) #[] (List.replicate m its.toArray)=(List.replicate m its).flatten.toArray:=fun m=>by
   have:=foldl_rep its m []
   rw [List.nil_append] at this
   exact this
  rw [f0]
  cases its with
  | nil=>simp
  | cons a r'=>rw [if_neg (by simp)]
 refine wpAny_binaryOp_repeat_ref (T:= "list") (U:= "int") (by decide) ⟨_,e,rfl⟩ (fun s'=>typeIs_int s' k t) noFill_list_mul F.fills_int_mul F.slot_int_rmul repeat_list F.slot_int_index.lookup
  (call_meets F.slot_int_rmul (typeIs_int s k t) F.entry_int_rmul (F.args_int_rmul_2 _ _) (int___rmul___int_list k t l its.toArray n)
    ⟨e,rfl,⟨_,e,rfl⟩,call_meets F.slot_list_mul ⟨_,e,rfl⟩ F.entry_list_mul (F.args_list_mul_2 _ _) (AutoListH.list___mul___list_int_3 l its.toArray n k t hfit hcap P0) ⟨e, ?_⟩⟩)
 rw [hnew]
 exact ⟨.ref _,_,I.Ze (t':=s.toks) (r.rep k.toNat) (by rw [len_rep,Nat.mul_comm];exact hz),rfl,q _ I.fresh⟩
end
section
variable {prog:Program} {w:World} {A:Around} {E:Value->Shared->Prop} {s:Shared}
end
section
variable {X:Cx}
end
end L2
namespace L2
open PySem PySem.Spec PyProof.Rows
section
variable {κ:Type} [DecidableEq κ]
def gF (kvs:List (κ×V)) (k:κ):Option V:=(kvs.find? fun kv=>decide (kv.1=k)).map (·.2)
def putK (kvs:List (κ×V)) (k:κ) (v:V):List (κ×V):=
 if (kvs.any fun kv=>decide (kv.1=k))=true then kvs.map (fun kv=>if kv.1=k then (kv.1,v) else kv) else kvs++[(k,v)]
theorem dY {p:κ×V} {r:List (κ×V)} {k:κ} (e:p.1=k):gF (p::r) k=some p.2:=by simp [gF,List.find?_cons,e]
theorem dJ {p:κ×V} {r:List (κ×V)} {k:κ} (e:¬p.1=k):gF (p::r) k=gF r k:=by simp [gF,List.find?_cons,e]
theorem lV (k:κ):∀kvs:List (κ×V),(kvs.any fun kv=>decide (kv.1=k))=(gF kvs k).isSome
 | []=>rfl
 | p::r=>by
   rw [List.any_cons]
   by_cases e:p.1=k
   ·simp only [dY e,decide_eq_true e,Bool.true_or,Option.isSome_some]
   ·rw [dJ e,decide_eq_false e,Bool.false_or];exact lV k r
theorem Dz (k j:κ) (y:V):∀kvs:List (κ×V),gF (kvs.map fun kv=>if kv.1=k then (kv.1,y) else kv) j=(gF kvs j).map fun x=>if j=k then y else x
 | []=>rfl
 | p::r=>by
   have ih:=Dz k j y r
   rw [List.map_cons]
   by_cases h:p.1=k
   ·rw [if_pos h]
    by_cases e:p.1=j
    ·rw [dY (p:=(p.1,y)) e,dY e,Option.map_some,if_pos (e.symm.trans h)]
    ·rw [dJ (p:=(p.1,y)) e,dJ e,ih]
   ·rw [if_neg h]
    by_cases e:p.1=j
    ·rw [dY (p:=p) e,dY e,Option.map_some,if_neg (fun z=>h (e.trans z))]
    ·rw [dJ (p:=p) e,dJ e,ih]
theorem Ac (k j:κ) (y:V):∀kvs:List (κ×V),gF kvs k=none->gF (kvs++[(k,y)]) j=if j=k then some y else gF kvs j
 | [],_=>by
   by_cases e:k=j
   ·rw [if_pos e.symm];exact dY (p:=(k,y)) e
   ·rw [if_neg (fun z=>e z.symm)];exact dJ (p:=(k,y)) e
 | p::r,hn=>by
   rw [List.cons_append]
   have hk:¬p.1=k:=fun z=>by rw [dY z] at hn;cases hn
   rw [dJ hk] at hn
   have ih:=Ac k j y r hn
   by_cases e:p.1=j
   ·rw [dY e,dY e,if_neg (fun z=>hk (e.trans z))]
   ·rw [dJ e,dJ e,ih]
theorem xQ (kvs:List (κ×V)) (k j:κ) (y:V):gF (putK kvs k y) j=if j=k then some y else gF kvs j:=by
 unfold putK
 by_cases a:(kvs.any fun kv=>decide (kv.1=k))=true
 ·rw [if_pos a,Dz]
  rw [lV] at a
  by_cases e:j=k
  ·obtain ⟨x,hx⟩:=Option.isSome_iff_exists.mp a
   rw [if_pos e,e,hx,Option.map_some,if_pos rfl]
  ·rw [if_neg e]
   cases gF kvs j with
   | none=>rfl
   | some x=>rw [Option.map_some,if_neg e]
 ·rw [if_neg a]
  refine Ac k j y kvs ?_
  rw [lV] at a
  cases q:gF kvs k with
  | none=>rfl
  | some x=>rw [q] at a;exact (a rfl).elim
theorem jT (kvs:List (κ×V)) (k:κ) (v:V):(putK kvs k v).length<=kvs.length+1:=by
 unfold putK
 split
 ·rw [List.length_map];omega
 ·rw [List.length_append,List.length_cons,List.length_nil];omega
theorem Oc {kvs:List (κ×V)} {k:κ} (v:V) (h:gF kvs k=none):putK kvs k v=kvs++[(k,v)]:=by
 unfold putK
 rw [lV,h]
 exact if_neg (by decide)
theorem vM.nP {o:Option V} {u:Option Value} (r:vM o u):o.isSome=u.isSome:=by
 cases o with
 | none=>cases u with
   | none=>rfl
   | some _=>exact (show False from r).elim
 | some _=>cases u with
   | none=>exact (show False from r).elim
   | some _=>rfl
theorem vM.getD {o:Option V} {u:Option Value} {d:V} {d':Value} (r:vM o u) (rd:RelV d d'):RelV (o.getD d) (u.getD d'):=by
 cases o with
 | none=>cases u with
   | none=>exact rd
   | some _=>exact (show False from r).elim
 | some _=>cases u with
   | none=>exact (show False from r).elim
   | some _=>exact r
theorem KV.val {kvs:List (κ×V)} {vs:List (κ×Value)} (r:KV kvs vs) (k:κ):vM (gF kvs k) (valueAt vs k):=by
 unfold KV at r
 induction r with
 | nil=>exact True.intro
 | @cons p q ps qs h t ih=>
   obtain ⟨h1,h2⟩:=h
   by_cases e:p.1=k
   ·have e':q.1=k:=h1.symm.trans e
    have b:valueAt (q::qs) k=some q.2:=by simp [valueAt,List.find?_cons,e']
    rw [dY e,b];exact h2
   ·have e':¬q.1=k:=fun z=>e (h1.trans z)
    have b:valueAt (q::qs) k=valueAt qs k:=by simp [valueAt,List.find?_cons,e']
    rw [dJ e,b];exact ih
theorem KV.any {kvs:List (κ×V)} {vs:List (κ×Value)} (r:KV kvs vs) (k:κ):(kvs.any fun kv=>decide (kv.1=k))=vs.any fun kv=>decide (kv.1=k):=by
 unfold KV at r
 induction r with
 | nil=>rfl
 | cons h t ih=>rw [List.any_cons,List.any_cons,ih,h.1]
theorem KV.repl {kvs:List (κ×V)} {vs:List (κ×Value)} (r:KV kvs vs) (k:κ) {y:V} {u:Value} (ry:RelV y u):
 KV (kvs.map fun kv=>if kv.1=k then (kv.1,y) else kv) (vs.map fun kv=>if kv.1=k then (kv.1,u) else kv):=by
 unfold KV at r ⊢
 induction r with
 | nil=>exact .nil
 | @cons p q ps qs h t ih=>
   rw [List.map_cons,List.map_cons]
   refine .cons ?_ ih
   obtain ⟨h1,h2⟩:=h
   by_cases e:p.1=k
   ·rw [if_pos e,if_pos (h1.symm.trans e)];exact ⟨h1,ry⟩
   ·rw [if_neg e,if_neg (fun z=>e (h1.trans z))];exact ⟨h1,h2⟩
theorem KV.put {kvs:List (κ×V)} {vs:List (κ×Value)} (r:KV kvs vs) (k:κ) {y:V} {u:Value} (ry:RelV y u):KV (putK kvs k y) (stored vs k u):=by
 unfold putK stored
 rw [r.any k]
 by_cases e:(vs.any fun kv=>decide (kv.1=k))=true
 ·rw [if_pos e,if_pos e];exact r.repl k ry
 ·rw [if_neg e,if_neg e];exact Paired.snoc r ⟨rfl,ry⟩
theorem KV.length {kvs:List (κ×V)} {vs:List (κ×Value)} (r:KV kvs vs):kvs.length=vs.length:=Paired.length r
end
theorem yP {P:Program} {w:World} {k:Key} {u:Value} (r:RelV (kV k) u):(cC P w).is k u=true:=by
 cases k with
 | inl i=>obtain ⟨t,e⟩:=(show ∃t,u=Value.int i t from r);subst e;exact Ey P w i t
 | inr x=>obtain ⟨t,e⟩:=(show ∃t,u=Value.str x t from r);subst e;exact Ew P w x t
theorem Am {P:Program} {w:World}:∀{ks:List Key} {us:List Value},Vals (ks.map kV) us->ItemsAre (cC P w) ks us
 | [],_,r=>by rw [List.map_nil] at r;cases r;exact .nil
 | k::ks,_,r=>by
   rw [List.map_cons] at r
   cases r with
   | cons h t=>exact .cons (yP h) (Am t)
abbrev KT (H:Hp):List (List Key×V)->List (List Key×Addr×Value)->Prop:=Paired fun p q=>p.1=q.1/\H q.2.1=some (.tup (p.1.map kV))/\RelV p.2 q.2.2
theorem KT.val {H:Hp} {kvs:List (List Key×V)} {xs:List (List Key×Addr×Value)} (r:KT H kvs xs) (k:List Key):vM (gF kvs k) ((atKey xs k).map (·.2)):=by
 induction r with
 | nil=>exact True.intro
 | @cons p q ps qs h t ih=>
   obtain ⟨h1,_,h2⟩:=h
   by_cases e:p.1=k
   ·have e':q.1=k:=h1.symm.trans e
    have b:atKey (q::qs) k=some q.2:=by simp [atKey,List.find?_cons,e']
    rw [dY e,b];exact h2
   ·have e':¬q.1=k:=fun z=>e (h1.trans z)
    have b:atKey (q::qs) k=atKey qs k:=by simp [atKey,List.find?_cons,e']
    rw [dJ e,b];exact ih
theorem KT.repl {H:Hp} {kvs:List (List Key×V)} {xs:List (List Key×Addr×Value)} (r:KT H kvs xs) (k:List Key) {y:V} {u:Value} (ry:RelV y u):
 KT H (kvs.map fun kv=>if kv.1=k then (kv.1,y) else kv) (xs.map (putAt k u)):=by
 induction r with
 | nil=>exact .nil
 | @cons p q ps qs h t ih=>
   rw [List.map_cons,List.map_cons]
   refine .cons ?_ ih
   obtain ⟨h1,h2,h3⟩:=h
   unfold putAt
   by_cases e:p.1=k
   ·rw [if_pos e,if_pos (h1.symm.trans e)];exact ⟨h1,h2,ry⟩
   ·rw [if_neg e,if_neg (fun z=>e (h1.trans z))];exact ⟨h1,h2,h3⟩
theorem KT.put {H:Hp} {kvs:List (List Key×V)} {xs:List (List Key×Addr×Value)} (r:KT H kvs xs) (k:List Key) {b:Addr} {y:V} {u:Value} (hb:H b=some (.tup (k.map kV))) (ry:RelV y u):
 KT H (putK kvs k y) (storedH xs k b u):=by
 have e:(kvs.any fun kv=>decide (kv.1=k))=(atKey xs k).isSome:=by
  rw [lV,(r.val k).nP,Option.isSome_map]
 unfold putK storedH
 rw [e]
 by_cases q:(atKey xs k).isSome=true
 ·rw [if_pos q,if_pos q];exact r.repl k ry
 ·rw [if_neg q,if_neg q];exact Paired.snoc r ⟨rfl,hb,ry⟩
theorem KT.keeps {H H':Hp} {kvs:List (List Key×V)} {xs:List (List Key×Addr×Value)} (r:KT H kvs xs) (ht:∀b ys,H b=some (.tup ys)->H' b=some (.tup ys)):KT H' kvs xs:=
 Paired.Wr r fun _ _ z=>⟨z.1,ht _ _ z.2.1,z.2.2⟩
section
variable {P:Program} {w:World} {H:Hp} {h:Heap} {a:Addr}
theorem Ur {u:HO} (ok:ud P w H h) (e:Rd H a u):bQ P w H h a u:=e.ok ok
theorem zc {kvs:List (Key×V)} (ok:ud P w H h) (e:Rd H a (.dK kvs)):kvs.length<=sizeLine/\(a==sysModules)=false /\ ∃vs,KV kvs vs/\h.DictOf (cC P w) a vs:=
 show bQ P w H h a (.dK kvs) from Ur ok e
theorem Qs {kvs:List (Key×V)} (ok:ud P w H h) (e:H a=some (.dK kvs)):kvs.length<=sizeLine/\(a==sysModules)=false /\ ∃vs,KV kvs vs/\h.DictOf (cC P w) a vs:=zc ok (.inl e)
theorem vq {ks:List Key} (ok:ud P w H h) (e:H a=some (.tup (ks.map kV))):(tupleKind (cC P w)).is h ks a:=by
 obtain ⟨_,its,r,o,h1,h2,n,h3⟩:=(show bQ P w H h a (.tup (ks.map kV)) from ok a _ e)
 exact ⟨o,its.toArray,n,h1,h2,h3,by simpa using Am r⟩
theorem yZ {kvs:List (List Key×V)} (ok:ud P w H h) (e:Rd H a (.dT kvs)):kvs.length<=sizeLine/\(a==sysModules)=false /\
 ∃xs,KT H kvs xs/\h.DictOfH (tupleKind (cC P w)) a xs:=by
 obtain ⟨z,y,xs,r,o,es,ep,h1,h2,h3,h4,h5⟩:=(show bQ P w H h a (.dT kvs) from Ur ok e)
 refine ⟨z,y,xs,r,o,es,ep,h1,h2,h3,h4,fun x hx=> ?_,h5⟩
 have all:∀{l:List (List Key×V)} {m:List (List Key×Addr×Value)},KT H l m -> ∀x∈m,(tupleKind (cC P w)).is h x.1 x.2.1:=by
  intro l m q
  induction q with
  | nil=>intro x hx;exact nomatch hx
  | @cons p q ps qs hq t ih=>
    intro x hx
    rcases List.mem_cons.mp hx with e|hx
    ·subst e
     exact vq ok (by rw [←hq.1];exact hq.2.1)
    ·exact ih x hx
 exact all r x hx
theorem ZQ {kvs:List (List Key×V)} (ok:ud P w H h) (e:H a=some (.dT kvs)):kvs.length<=sizeLine/\(a==sysModules)=false /\
 ∃xs,KT H kvs xs/\h.DictOfH (tupleKind (cC P w)) a xs:=yZ ok (.inl e)
end
def jD (H:Hp) (a:Addr) (y:V) (r:Option V):Prop:=
 (∃kvs k,Rd H a (.dK kvs)/\y=kV k/\r=gF kvs k) \/ ∃kvs k b,Rd H a (.dT kvs)/\y = .ref b/\H b=some (.tup (k.map kV))/\r=gF kvs k
def z8 (H:Hp) (a:Addr) (y v:V) (H':Hp):Prop:=
 (∃kvs k,H a=some (.dK kvs)/\y=kV k/\kvs.length<sizeLine/\H'=upd H a (.dK (putK kvs k v))) \/
 ∃kvs k b,H a=some (.dT kvs)/\y = .ref b/\H b=some (.tup (k.map kV))/\kvs.length<sizeLine/\H'=upd H a (.dT (putK kvs k v))
theorem jD.k {H:Hp} {a:Addr} {kvs:List (Key×V)} {k:Key} (e:H a=some (.dK kvs)):jD H a (kV k) (gF kvs k):= .inl ⟨kvs,k,.inl e,rfl,rfl⟩
theorem jD.t {H:Hp} {a b:Addr} {kvs:List (List Key×V)} {k:List Key} (e:H a=some (.dT kvs)) (eb:H b=some (.tup (k.map kV))):jD H a (.ref b) (gF kvs k):= .inr ⟨kvs,k,b,.inl e,rfl,eb,rfl⟩
theorem z8.k {H:Hp} {a:Addr} {kvs:List (Key×V)} {k:Key} {v:V} (e:H a=some (.dK kvs)) (hl:kvs.length<sizeLine):z8 H a (kV k) v (upd H a (.dK (putK kvs k v))):= .inl ⟨kvs,k,e,rfl,hl,rfl⟩
theorem z8.t {H:Hp} {a b:Addr} {kvs:List (List Key×V)} {k:List Key} {v:V} (e:H a=some (.dT kvs)) (eb:H b=some (.tup (k.map kV))) (hl:kvs.length<sizeLine):
 z8 H a (.ref b) v (upd H a (.dT (putK kvs k v))):= .inr ⟨kvs,k,b,e,rfl,eb,hl,rfl⟩
section
variable {X:Cx} {pins:List (Addr×Obj)} {σ:St} {H:Hp} {s:Shared} {a:Addr} {y v:V} {u r:Value} {o:Option V} {A:Around} {E:Value->Shared->Prop}
theorem Inv.big (I:Inv X pins σ H s):sysModules<s.heap.objs.size:=by
 have h:mainGlobals<s.heap.objs.size:=(I.mod.glob.keeps I.bk).lt
 exact Nat.lt_trans (by decide) h
theorem Lk {Q:Value->Shared->Prop} (hu:A.units+1<cLine) (I:Inv X pins σ H s) (g:jD H a y (some v)) (ry:RelV y u) (h:∀w' s',Inv X pins σ H s'->RelV v w'->Q w' s'):
 wpAny (model X.prog X.w) A (getItem (.ref a) u) Q E s:=by
 rcases g with ⟨kvs,k,e,ey,l⟩|⟨kvs,k,b,e,ey,eb,l⟩
 ·subst ey
  obtain ⟨z,hd,vs,rel,dd⟩:=zc I.hok e
  obtain ⟨w',hw,rw'⟩:=vM.some_of (v:=v) (o:=valueAt vs k) (by rw [l];exact rel.val k)
  exact wpAny_getItem_of (yP ry) dd.mapOf hw (h w' _ (I.tok _) rw')
 ·subst ey
  cases (show u=Value.ref b from ry)
  obtain ⟨z,hd,xs,rel,dd⟩:=yZ I.hok e
  obtain ⟨w',hw,rw'⟩:=vM.some_of (v:=v) (o:=(atKey xs k).map (·.2)) (by rw [l];exact rel.val k)
  obtain ⟨p,hp,hp2⟩:=Option.map_eq_some_iff.mp hw
  refine wpAny_getItem_heap (tupleKind_room_in1 hu) (vq I.hok eb) dd hp ?_
  rw [hp2]
  exact h w' _ (I.tok _) rw'
theorem agS {Q:Value->Shared->Prop} (hu:A.units+1<cLine) (I:Inv X pins σ H s) (g:jD H a y o) (ry:RelV y u) (h:∀s',Inv X pins σ H s'->Q (.bool o.isSome) s'):
 wpAny (model X.prog X.w) A (compareOp .In u (.ref a)) Q E s:=by
 rcases g with ⟨kvs,k,e,ey,l⟩|⟨kvs,k,b,e,ey,eb,l⟩
 ·subst ey
  obtain ⟨z,hd,vs,rel,dd⟩:=zc I.hok e
  refine wpAny_in_of (yP ry) hd dd.mapOf ?_
  rw [←(rel.val k).nP,←l]
  exact h _ (I.tok _)
 ·subst ey
  cases (show u=Value.ref b from ry)
  obtain ⟨z,hd,xs,rel,dd⟩:=yZ I.hok e
  refine wpAny_in_heap (tupleKind_room_in1 hu) (vq I.hok eb) hd dd ?_
  have q:=(rel.val k).nP
  rw [Option.isSome_map] at q
  rw [←q,←l]
  exact h _ (I.tok _)
theorem TF {Q:Value->Shared->Prop} (hu:A.units+1<cLine) (I:Inv X pins σ H s) (g:jD H a y o) (ry:RelV y u) (h:∀s',Inv X pins σ H s'->Q (.bool (!o.isSome)) s'):
 wpAny (model X.prog X.w) A (compareOp .NotIn u (.ref a)) Q E s:=by
 rcases g with ⟨kvs,k,e,ey,l⟩|⟨kvs,k,b,e,ey,eb,l⟩
 ·subst ey
  obtain ⟨z,hd,vs,rel,dd⟩:=zc I.hok e
  refine wpAny_notIn_of (yP ry) hd dd.mapOf ?_
  rw [←(rel.val k).nP,←l]
  exact h _ (I.tok _)
 ·subst ey
  cases (show u=Value.ref b from ry)
  obtain ⟨z,hd,xs,rel,dd⟩:=yZ I.hok e
  refine wpAny_notIn_heap (tupleKind_room_in1 hu) (vq I.hok eb) hd dd ?_
  have q:=(rel.val k).nP
  rw [Option.isSome_map] at q
  rw [←q,←l]
  exact h _ (I.tok _)
theorem CJ {h':Heap} {t':Nat} {ob:HO} (I:Inv X pins σ H s) (mu:Mut (H a)) (hs:Heap.SameBut a s.heap h') (he:∃q,h'.get? a=some q) (new:bQ X.prog X.w (upd H a ob) h' a ob):
 Inv X pins σ (upd H a ob) {s with heap:=h',toks:=t'}:=
 I.write (x:=a) (e:=a) mu (.inl rfl) (fun b q hb z=>(hs.2 b hb).trans z) he new
theorem Qt {P:Program} {w:World} {H':Hp} {h':Heap} {kvs:List (Key×V)} {vs:List (Key×Value)} (z:kvs.length<=sizeLine) (hd:(a==sysModules)=false) (rel:KV kvs vs) (dd:h'.DictOf (cC P w) a vs):
 bQ P w H' h' a (.dK kvs):=⟨z,hd,vs,rel,dd⟩
theorem Lj {H':Hp} {Q:Unit->Shared->Prop} (hu:A.units+1<cLine) (I:Inv X pins σ H s) (g:z8 H a y v H') (ry:RelV y u) (rv:RelV v r) (h:∀s',Inv X pins σ H' s'->Q () s'):
 wpAny (model X.prog X.w) A (setItem (.ref a) u r) Q E s:=by
 rcases g with ⟨kvs,k,e,ey,l,eH⟩|⟨kvs,k,b,e,ey,eb,l,eH⟩
 ·subst ey eH
  obtain ⟨z,hd,vs,rel,dd⟩:=Qs I.hok e
  have hz:vs.length<=sizeLine:=by rw [←rel.length];exact z
  have hl:(putK kvs k v).length<=sizeLine:=by have:=jT kvs k v;omega
  refine wpAny_setItem_pairs (hsz:=hz) (yP ry) dd fun h' Xj hs=>h _ ?_
  have he:∃q,h'.get? a=some q:=let ⟨q,_,_,hq,_⟩:=Xj;⟨q,hq⟩
  exact CJ I (by rw [e];exact True.intro) hs he (Qt hl hd (rel.put k rv) Xj)
 ·subst ey eH
  cases (show u=Value.ref b from ry)
  obtain ⟨z,hd,xs,rel,dd⟩:=ZQ I.hok e
  have hz:xs.length<=sizeLine:=by rw [←Paired.length rel];exact z
  have hl:(putK kvs k v).length<=sizeLine:=by have:=jT kvs k v;omega
  refine wpAny_setItem_heap (hsz:=hz) (tupleKind_room_in1 hu) (vq I.hok eb) dd fun h' Xj hs=>h _ ?_
  obtain ⟨q,es,ep,hq,h2,h3,h4,_,h5⟩:=Xj
  refine CJ I (by rw [e];exact True.intro) hs ⟨q,hq⟩ ⟨hl,hd,_,(rel.put k eb rv).keeps fun c ys ec=> ?_,q,es,ep,hq,h2,h3,h4,h5⟩
  rw [aV (lA ec e (fun z=>nomatch z))]
  exact ec
end
section
variable {X:Cx} {pins:List (Addr×Obj)} {σ:St} {H:Hp} {s:Shared} {a:Addr} {kvs:List (Key×V)} {k:Key} {u:Value} {A:Around} {E:Value->Shared->Prop}
end
def aaA (i:Expr):Prop:=∀ov iv,subscripted i false ov iv=operate [ov,iv] (getItem ov iv)
theorem RD {prog:Program} {w:World} {A:Around} {E:Value->Shared->Prop} {s:Shared} {env:Env} {value slice:Expr} {pos:Pos} {T id:String} {Q:Value->Shared->Prop}
 (hl:typeLookup (.type T) "__getitem__" = pure (some (.builtin id))) (hs:aaA slice)
 (h:wpAny (model prog w) A (eval value env) (fun o s₁=>wpAny (model prog w) A (eval slice env) (fun i s₂=>s₂.TypeIs o T/\wpAny (model prog w) A (getItem o i) Q E s₂) E s₁) E s):
 wpAny (model prog w) A (eval (.Subscript value slice pos) env) Q E s:=by
 refine Subscript_ (wpAny_mono h (fun o s₁ h₁=>wpAny_mono h₁ (fun i s₂ h₂=> ?_) fun _ _ x=>x) fun _ _ x=>x)
 obtain ⟨hT,h₂⟩:=h₂
 unfold subscriptTail
 refine wpAny_bind ?_
 rw [getitemInPython_of_ne hT.not_modules]
 refine wpAny_bind (wpAny_specialOf hT hl ?_)
 have fin:wpAny (model prog w) A (subscripted slice false o i) (fun r s₃=>wpAny (model prog w) A (letTemporaryGo value o r >>= fun _=>pure r) Q E s₃) E s₂:=by
  rw [hs o i]
  exact wpAny_operating (wpAny_mono h₂ (fun r s₃ h₃=>wpAny_bind (wpAny_letTemporaryGo (wpAny_pure h₃))) fun _ _ x=>x)
 first
  | exact wpAny_pure (wpAny_bind fin)
  | exact wpAny_bind (wpAny_pure (wpAny_bind fin))
  | exact wpAny_bind fin
theorem Fy {X:Cx} {pins:List (Addr×Obj)} {σ:St} {H:Hp} {s:Shared} {a:Addr} {y:V} {o:Option V} (I:Inv X pins σ H s) (g:jD H a y o):s.TypeIs (.ref a) "dict" :=by
 rcases g with ⟨kvs,k,e,_,_⟩|⟨kvs,k,b,e,_,_,_⟩
 ·obtain ⟨_,_,vs,_,dd⟩:=zc I.hok e
  exact dd.typeIs
 ·obtain ⟨_,_,xs,_,dd⟩:=yZ I.hok e
  exact dd.typeIs
def Yq (td ty:TE):TE:=fun σ H Q=>td σ H fun x H1=>ty σ H1 fun y H2=>∃a v,x = .ref a/\jD H2 a y (some v)/\Q v H2
def ab_ (ty td:TE):TE:=fun σ H Q=>ty σ H fun y H1=>td σ H1 fun x H2=>∃a o,x = .ref a/\jD H2 a y o/\Q (.bl o.isSome) H2
def RB (ty td:TE):TE:=fun σ H Q=>ty σ H fun y H1=>td σ H1 fun x H2=>∃a o,x = .ref a/\jD H2 a y o/\Q (.bl (!o.isSome)) H2
def Yx (td ty tv:TE):TS:=fun D σ H=>tv σ H fun v H1=>td σ H1 fun x H2=>ty σ H2 fun y H3=>∃a H4,x = .ref a/\z8 H3 a y v H4/\D.nx σ H4
section
variable {X:Cx} {o i e value:Expr} {pos pos' tpos:Pos} {td ty tv:TE}
theorem gQ (hu:X.A.units+1<cLine) (ho:PE X o td) (hi:PE X i ty) (hs:aaA i):PE X (.Subscript o i pos) (Yq td ty):=by
 intro pins s σ H Q I h
 refine RD PySem.F.slot_dict_getitem.lookup hs (dz (ho pins s σ H _ I h) fun u s1 ⟨x,H1,I1,rx,q1⟩=>dz (hi pins s1 σ H1 _ I1 q1) fun iv s2 ⟨y,H2,I2,ry,a,v,ex,g,q2⟩=> ?_)
 subst ex
 obtain rfl:u=Value.ref a:=rx
 exact ⟨Fy I2 g,Lk hu I2 g ry fun w' s3 I3 rw'=>⟨v,H2,I3,rw',q2⟩⟩
theorem V9 (hu:X.A.units+1<cLine) (hi:PE X i ty) (ho:PE X o td):PC X .In i o (ab_ ty td):=by
 intro pins s σ H Q I h
 refine dz (hi pins s σ H _ I h) fun iv s1 ⟨y,H1,I1,ry,q1⟩=>dz (ho pins s1 σ H1 _ I1 q1) fun u s2 ⟨x,H2,I2,rx,a,ov,ex,g,q2⟩=> ?_
 subst ex
 obtain rfl:u=Value.ref a:=rx
 exact agS hu I2 g ry fun s3 I3=>⟨.bl ov.isSome,H2,I3,rfl,q2⟩
theorem Ah (hu:X.A.units+1<cLine) (hi:PE X i ty) (ho:PE X o td):PC X .NotIn i o (RB ty td):=by
 intro pins s σ H Q I h
 refine dz (hi pins s σ H _ I h) fun iv s1 ⟨y,H1,I1,ry,q1⟩=>dz (ho pins s1 σ H1 _ I1 q1) fun u s2 ⟨x,H2,I2,rx,a,ov,ex,g,q2⟩=> ?_
 subst ex
 obtain rfl:u=Value.ref a:=rx
 exact TF hu I2 g ry fun s3 I3=>⟨.bl (!ov.isSome),H2,I3,rfl,q2⟩
theorem wQ (hu:X.A.units+1<cLine) (ho:PE X o td) (hi:PE X i ty) (hv:PE X value tv) (hs:swapsWith value (some (.Subscript o i pos')) pos.line X.env=pure false):
 PS X (.Assign [.Subscript o i pos'] value pos) (Yx td ty tv):=by
 intro pins s σ H D I h
 refine wpAny_Assign_Subscript (dz (hv pins s σ H _ I h) fun r s1 ⟨v,H1,I1,rv,q1⟩=>dz (ho pins s1 σ H1 _ I1 q1) fun u s2 ⟨x,H2,I2,rx,q2⟩=>dz (hi pins s2 σ H2 _ I2 q2) fun iv s3 ⟨y,H3,I3,ry,a,H4,ex,g,q3⟩=> ?_) hs
 subst ex
 obtain rfl:u=Value.ref a:=rx
 exact Lj hu I3 g ry rv fun s4 I4=>⟨σ,H4,I4,q3⟩
end
theorem Fx {P:Program} {w:World} {H:Hp} (h:Heap) (hb:sysModules<h.objs.size):bQ P w H (h.push {cls:= .type "dict",data:= .dict #[]}) h.objs.size (.dK []):=
 ⟨Nat.zero_le _,beq_eq_false_iff_ne.mpr (Ne.symm (Nat.ne_of_lt hb)),[],.nil,Heap.DictOf.new h⟩
theorem Qq {P:Program} {w:World} {H:Hp} (h:Heap) (hb:sysModules<h.objs.size):bQ P w H (h.push {cls:= .type "dict",data:= .dict #[]}) h.objs.size (.dT []):=
 ⟨Nat.zero_le _,beq_eq_false_iff_ne.mpr (Ne.symm (Nat.ne_of_lt hb)),[],.nil,_, #[],0,Heap.get?_push_size _ rfl,⟨rfl,rfl,rfl⟩,rfl,rfl,List.nodup_nil⟩
def Vq:TE:=fun _ H Q=>∀p,H p=none->Q (.ref p) (upd H p (.dK []))
def Vp:TE:=fun _ H Q=>∀p,H p=none->Q (.ref p) (upd H p (.dT []))
section
variable {X:Cx} {pos:Pos}
theorem Ei:PE X (.Dict [] [] pos) Vq:=fun pins s σ H Q I h=>
 wpAny_Dict_empty ⟨.ref s.heap.objs.size,_,I.laid (a:=s.heap.objs.size) (o:= .dK []) (t':=s.toks) (fun _ _ q=>Heap.get?_push_of_some _ q) (Nat.le_refl _) (Fx s.heap I.big),rfl,h _ (I.hok.fresh (Nat.le_refl _))⟩
theorem Ot:PE X (.Dict [] [] pos) Vp:=fun pins s σ H Q I h=>
 wpAny_Dict_empty ⟨.ref s.heap.objs.size,_,I.laid (a:=s.heap.objs.size) (o:= .dT []) (t':=s.toks) (fun _ _ q=>Heap.get?_push_of_some _ q) (Nat.le_refl _) (Qq s.heap I.big),rfl,h _ (I.hok.fresh (Nat.le_refl _))⟩
end
def GK:List (TE×TE)->St->Hp->(List (V×V)->Hp->Prop)->Prop
 | [],_,H,Q=>Q [] H
 | (tk,tv)::r,σ,H,Q=>tk σ H fun x H1=>tv σ H1 fun y H2=>GK r σ H2 fun ps H3=>Q ((x,y)::ps) H3
abbrev VV:List (V×V)->List (Value×Value)->Prop:=Paired fun p q=>RelV p.1 q.1/\RelV p.2 q.2
def PPs (X:Cx) (pos:Pos) (keys:List (Option Expr)) (values:List Expr) (Rx:List (TE×TE)):Prop:=
 ∀(pins:List (Addr×Obj)) (s:Shared) (σ:St) (H:Hp) (Q:List (V×V)->Hp->Prop),Inv X pins σ H s->GK Rx σ H Q ->
  wpAny (model X.prog X.w) X.A (evalPairs (pairTrees keys values X.env pos)) (fun vs s'=>∃ps H',Inv X pins σ H' s'/\VV ps vs/\Q ps H') X.xe s
theorem Cd {X:Cx} {pos:Pos}:PPs X pos [] [] []:=fun pins s σ H Q I h=>pairTrees_nil_walk ⟨[],H,I,.nil,h⟩
theorem yw {X:Cx} {pos:Pos} {k v:Expr} {ks:List (Option Expr)} {vs:List Expr} {tk tv:TE} {Rx:List (TE×TE)} (hk:PE X k tk) (hv:PE X v tv) (hr:PPs X pos ks vs Rx):
 PPs X pos (some k::ks) (v::vs) ((tk,tv)::Rx):=fun pins s σ H Q I h=>
 pairTrees_cons_walk (dz (hk pins s σ H _ I h) fun u s1 ⟨x,H1,I1,rx,q1⟩=>dz (hv pins s1 σ H1 _ I1 q1) fun w2 s2 ⟨y,H2,I2,ry,q2⟩=>
  dz (hr pins s2 σ H2 _ I2 q2) fun ws s3 ⟨ps,H3,I3,rel,q3⟩=>⟨(x,y)::ps,H3,I3,.cons ⟨rx,ry⟩ rel,q3⟩)
def qw (kvs more:List (Key×V)):List (Key×V):=more.foldl (fun acc kv=>putK acc kv.1 kv.2) kvs
theorem KV.merge:∀{more:List (Key×V)} {rs:List (Key×Value)} {kvs:List (Key×V)} {vs:List (Key×Value)},KV more rs->KV kvs vs->KV (qw kvs more) (merged vs rs):=by
 intro more rs kvs vs r
 unfold KV at r
 induction r generalizing kvs vs with
 | nil=>intro q;exact q
 | @cons p q ps qs h t ih=>
   intro r0
   have e:KV (putK kvs p.1 p.2) (stored vs q.1 q.2):=by
    have:=r0.put p.1 h.2
    rw [←h.1];exact this
   exact ih e
theorem rY:∀(more kvs:List (Key×V)),(qw kvs more).length<=kvs.length+more.length
 | [],kvs=>by show kvs.length<=kvs.length+0;omega
 | p::r,kvs=>by
   have h1:=rY r (putK kvs p.1 p.2)
   have h2:=jT kvs p.1 p.2
   show (qw (putK kvs p.1 p.2) r).length<=_
   rw [List.length_cons];omega
theorem zu {P:Program} {w:World}:∀{kvs:List (Key×V)} {ws:List (Value×Value)},VV (kvs.map fun kv=>(kV kv.1,kv.2)) ws -> ∃rs,Carries (cC P w) ws rs/\KV kvs rs
 | [],_,r=>by rw [List.map_nil] at r;cases r;exact ⟨[],True.intro,.nil⟩
 | p::kvs,_,r=>by
   rw [List.map_cons] at r
   cases r with
   | @cons a b as bs h t=>
     obtain ⟨rs,c,q⟩:=zu (P:=P) (w:=w) t
     obtain ⟨b1,b2⟩:=b
     exact ⟨(p.1,b2)::rs,⟨yP h.1,rfl,c⟩,.cons ⟨rfl,h.2⟩ q⟩
def Yp (Rx:List (TE×TE)):TE:=fun σ H Q=>∀p,H p=none->GK Rx σ (upd H p (.dK [])) fun ps H2=>H2 p=some (.dK []) /\ ∃kvs:List (Key×V),ps=kvs.map (fun kv=>(kV kv.1,kv.2))/\kvs.length<=15/\Q (.ref p) (upd H2 p (.dK (qw [] kvs)))
theorem Ce {X:Cx} {pos:Pos} {keys:List (Option Expr)} {values:List Expr} {Rx:List (TE×TE)} (h:PPs X pos keys values Rx) (hall:keys.all (·.isSome)=true) (hl:keys.length=values.length) (h0:keys≠[])
 (h15:keys.length<=15):PE X (.Dict keys values pos) (Yp Rx):=by
 intro pins s σ H Q I q
 have hn:=I.hok.fresh (Nat.le_refl s.heap.objs.size)
 have I1:=I.laid (a:=s.heap.objs.size) (o:= .dK []) (h':=s.heap.push {cls:= .type "dict",data:= .dict #[]}) (t':=s.toks) (fun _ _ q=>Heap.get?_push_of_some _ q) (Nat.le_refl _) (Fx s.heap I.big)
 refine wpAny_Dict_walk (knd:=cC X.prog X.w) hall hl h0 h15 (dz (h pins _ σ _ _ I1 (q _ hn)) fun ws s2 ⟨ps,H2,I2,rel,e,kvs,ep,lk,q2⟩=> ?_)
 subst ep
 obtain ⟨rs,c,rk⟩:=zu (P:=X.prog) (w:=X.w) rel
 obtain ⟨z,hd,vs0,r0,dd⟩:=Qs I2.hok e
 cases r0
 refine ⟨rs,c,dd,fun h' Xj hs=>⟨.ref s.heap.objs.size,_, ?_,rfl,q2⟩⟩
 have hz:(qw [] kvs).length<=sizeLine:=by
  have h1:=rY kvs []
  rw [List.length_nil] at h1
  rw [sizeLine_eq];omega
 have he:∃q,h'.get? s.heap.objs.size=some q:=let ⟨q,_,_,hq,_⟩:=Xj;⟨q,hq⟩
 exact CJ I2 (by rw [e];exact True.intro) hs he (Qt hz hd (rk.merge .nil) Xj)
structure M2 (X:Cx) (o:Expr) (m:Str) (apos:Pos) (e f:Expr) (cpos:Pos):Prop where
 base:attributeBase o m X.env (eval o X.env)=eval o X.env
 few:((backTo cpos (starEach [e,f] X.env)).all (fun x=> !x.1)&&(backToKw cpos (keywordEach [] X.env)).all (fun x=>x.1.isSome)
  && decide (([e,f]:List Expr).length+([]:List Keyword).length+(if ([]:List Keyword).isEmpty then 0 else 1)<30))=true
 line:(apos.endLine==cpos.line)=true
 trees:backTo cpos (starEach [e,f] X.env)=[(false,eval e X.env),(false,eval f X.env)]
def IsD (H:Hp) (a:Addr):Prop:=(∃kvs,Rd H a (.dK kvs)) \/ ∃kvs,Rd H a (.dT kvs)
theorem WR {X:Cx} {pins:List (Addr×Obj)} {σ:St} {H:Hp} {s:Shared} {a:Addr} (I:Inv X pins σ H s) (d:IsD H a):
 s.TypeIs (.ref a) "dict" /\ (∀b,Value.ref a = .ref b -> ∃ob,s.heap.get? b=some ob/\ob.dict=none)/\(a==sysModules)=false:=by
 rcases d with ⟨kvs,e⟩|⟨kvs,e⟩
 ·obtain ⟨_,hd,vs,_,dd⟩:=zc I.hok e
  refine ⟨dd.typeIs,fun b q=> ?_,hd⟩
  cases q
  obtain ⟨ob,_,_,h1,h2,_⟩:=dd
  exact ⟨ob,h1,h2.2.1⟩
 ·obtain ⟨_,hd,xs,_,dd⟩:=yZ I.hok e
  refine ⟨dd.typeIs,fun b q=> ?_,hd⟩
  cases q
  obtain ⟨ob,_,_,h1,h2,_⟩:=dd
  exact ⟨ob,h1,h2.2.1⟩
section
variable {X:Cx} {pins:List (Addr×Obj)} {σ:St} {H:Hp} {s:Shared} {a:Addr} {y d:V} {u r:Value} {o:Option V} {A:Around} {E:Value->Shared->Prop}
theorem Xl {Q:Value->Shared->Prop} (hu:A.units+1<cLine) (I:Inv X pins σ H s) (g:jD H a y o) (ry:RelV y u) (rd:RelV d r) (h:∀w' s',Inv X pins σ H s'->RelV (o.getD d) w'->Q w' s'):
 wpAny (model X.prog X.w) A (call (.builtin "dict.get") [.ref a,u,r]) Q E s:=by
 rcases g with ⟨kvs,k,e,ey,l⟩|⟨kvs,k,b,e,ey,eb,l⟩
 ·subst ey
  obtain ⟨z,hd,vs,rel,dd⟩:=zc I.hok e
  refine call_meetsIn PySem.F.slot_dict_get dd.typeIs PySem.F.entry_dict_get (PySem.F.args_dict_get_3 _ _ _) (meets_dict_get_default (cC X.prog X.w) a (yP ry) hd r) ⟨_,dd.mapOf,h _ _ (I.tok _) ?_⟩
  rw [l]
  exact (rel.val k).getD rd
 ·subst ey
  cases (show u=Value.ref b from ry)
  obtain ⟨z,hd,xs,rel,dd⟩:=yZ I.hok e
  refine call_meetsIn PySem.F.slot_dict_get dd.typeIs PySem.F.entry_dict_get (PySem.F.args_dict_get_3 _ _ _) (meetsH_dict_get_default (tupleKind (cC X.prog X.w)) a b hd r) ⟨tupleKind_room_in1 hu,k,xs,vq I.hok eb,dd,h _ _ (I.tok _) ?_⟩
  rw [l]
  exact (rel.val k).getD rd
end
def Vr (td ty tx:TE):TE:=fun σ H Q=>td σ H fun x H1=>∃a,x = .ref a/\IsD H1 a/\ty σ H1 fun y H2=>tx σ H2 fun z H3=>∃o,jD H3 a y o/\Q (o.getD z) H3
section
variable {X:Cx} {o e f:Expr} {apos cpos:Pos} {td ty tx:TE}
theorem yD (hu:X.A.units+1<cLine) (ho:PE X o td) (he:PE X e ty) (hf:PE X f tx) (m:M2 X o "get" apos e f cpos):PE X (.Call (.Attribute o "get" apos) [e,f] [] cpos) (Vr td ty tx):=by
 intro pins s σ H Q I h
 refine wpAny_Call_method m.base m.few m.line PySem.F.plainAttrs_dict PySem.F.slot_dict_get PySem.F.type_dict_get (dz (ho pins s σ H _ I h) fun u s1 ⟨x,H1,I1,rx,a,ex,d,q1⟩=> ?_)
 subst ex
 obtain rfl:u=Value.ref a:=rx
 obtain ⟨t1,t2,_⟩:=WR I1 d
 refine ⟨t1,t2, ?_⟩
 rw [m.trees]
 refine Calls.callWith_builtin rfl (Calls.evalArgs_plain (Calls.spliced_cons (dz (he pins s1 σ H1 _ I1 q1) fun iv s2 ⟨y,H2,I2,ry,q2⟩=>
  Calls.spliced_cons (dz (hf pins s2 σ H2 _ I2 q2) fun fv s3 ⟨z,H3,I3,rz,ov,g,q3⟩=>Calls.spliced_nil ?_))))
 exact Xl hu I3 g ry rz fun w' s4 I4 rw'=>⟨_,H3,I4,rw',q3⟩
end
section
variable {X:Cx} {pins:List (Addr×Obj)} {σ:St} {H:Hp} {s:Shared} {a:Addr} {kvs:List (Key×V)} {A:Around} {E:Value->Shared->Prop}
end
section
variable {X:Cx} {pins:List (Addr×Obj)} {σ:St} {H:Hp} {s:Shared} {a:Addr} {y:V} {u:Value} {A:Around} {E:Value->Shared->Prop}
end
end L2
namespace Att
open PySem PySem.W PySem.Calls PyProof.Rows
theorem wB {P:Params} {h:Heap}:∀(ns:List Int) (vs:List Value),WellAll P h vs (ns.map WData.int)->IntsAre vs ns:=by
 intro ns
 induction ns with
 | nil=>
   intro vs w
   rw [List.map_nil] at w
   cases w
   exact .nil
 | cons n ns ih=>
   intro vs w
   rw [List.map_cons] at w
   cases w with
   | cons a b=>
     cases a
     exact .cons _ _ (ih _ b)
theorem Km {l:OpenLaw} {n:Nat} (hn:l.most=some n) {P:Params} {h:Heap} {args:List WData} {vals:List Value}
 (hpre:l.row.toRowW.claim.pre args=true) (hwl:WellAll P h vals args):
 ∃a vs ns,vals=[Value.ref a]/\args=[WData.list (ns.map WData.int)]/\h.get? a=some {cls:= .type "list",data:= .seq vs.toArray}/\IntsAre vs ns/\ns.length<=n:=by
 have hsh:WShape.hasAll [] args [.list .int]=true:=(pre_splitW hpre).1
 have hc:l.pre.holds [] {args:=args}=true:=(pre_splitW hpre).2
 obtain ⟨d,r,rfl,h1,h2⟩:=hasAllW_cons hsh
 obtain rfl:=hasAllW_nil h2
 obtain ⟨xs,rfl,h3⟩:=hasW_list h1
 obtain ⟨ns,rfl⟩:=items_int h3
 have hlen:ns.length<=n:=by
  unfold OpenLaw.pre at hc
  have h4:(WTm.not (.lt (.lit (.int (n:Int))) (.len (.arg 0)))).holds [] {args:=[.list (ns.map .int)]}=true:=by
   have h4:=(holds_andW hc).1
   rw [hn] at h4
   exact h4
  have h5:=condW_of h4 (w_not (w_lt w_lit (w_len_list (w_arg rfl))))
  rw [List.length_map] at h5
  refine Nat.le_of_not_lt fun q=> ?_
  have q':(n:Int)<((ns.length:Nat):Int):=by omega
  first
   | (rw [decide_eq_true q'] at h5;exact absurd h5 (by decide))
   | (simp at h5;omega)
 cases hwl with
 | cons w1 w2=>
   cases w2
   cases w1 with
   | list ho hall=>exact ⟨_,_,ns,rfl,rfl,ho,wB ns _ hall,hlen⟩
theorem Kw (l:OpenLaw) (args:List WData):l.row.toRowW.claim.post args (.bool true) args=true:=
 postW_of (r:=l.row.toRowW) (X:=(true==true))
  (show WShape.has [] (.bool true) .bool=true by first |rfl|decide|simp [WShape.has,WShape.arms,WShape.armsAll])
  (show (WTm.eq .res (.lit (.bool true))).value [] {args:=args,res:=some (.bool true),after:=args}=some (.bool (true==true)) from w_eq_bool (w_res rfl) w_lit) rfl
theorem Gk {l:OpenLaw} {n:Nat} {q:Program} {loose:List Str} {XP:(Str->Option Value)->Heap->Prop} {YP:World->Heap->Prop} {d:DefRec}
 (hn:l.most=some n) (hdf:d.params.defaults=[])
 (call:∀(w:World) (s₀ s₁:Shared) (mg mb:Str->Option Value) (fa:Addr) (o:Obj) (pm cd doc:Value) (a:Addr) (vs:List Value) (ns:List Int),
   Ground q loose [] XP w s₀ mg mb s₁.heap->YP w s₁.heap ->
   s₁.heap.get? fa=some o->o.data = .func (docDef d.name d.params d.body d.scope pm cd doc)->s₁.heap.CodeRec cd d.name->mg d.name=some (.ref fa) ->
   s₁.heap.get? a=some {cls:= .type "list",data:= .seq vs.toArray}->IntsAre vs ns->ns.length<=n->s₁.gens = #[] ->
   codeAny (model l.prog w) callerA (.call (.ref fa) ⟨[.ref a],[]⟩) (fun r s'=>r = .ok (.ret (.bool true))/\OldK s₁.heap s'.heap/\s'.os=s₁.os/\AllBare s'.gens) s₁):
 WalkO q loose XP YP l.row.toRowW d [] (fun f vs=>PySem.call f vs):=by
 intro w s₀ s₁ mg mb G Y fa o pm cd doc dV kV ho hd hcd hD hmg hg args vals as hpre hlay hrd hwl hlo
 obtain rfl:dV = .none:=Dflts.none hD hdf
 obtain rfl:kV = .none:=Dflts.noKw hD
 obtain ⟨a,vs,ns,rfl,rfl,hobj,hints,hlen⟩:=Km hn hpre hwl
 refine enter_call (codeAny_mono (call w s₀ s₁ mg mb fa o pm cd doc a vs ns G Y ho (fd_plain hd) hcd hmg hobj hints hlen hg) fun r s' hq=> ?_)
 obtain ⟨rfl,h2,h3,h4⟩:=hq
 exact ⟨.inl ⟨.bool true,.bool true,[],rfl,fun _=>rfl,.bool true,Kw l _,fun _=>⟨List.Pairwise.nil,fun _ hm=>(nomatch hm)⟩⟩,h2,h3,h4⟩
section
variable {prog:Program} {w:World} {A:Around} {E:Value->Shared->Prop} {s:Shared} {K:Frag}
def ledger (h:Heap) (L d:Addr):List (Addr×Obj):=(List.range h.objs.size).filterMap fun a=>if a=L\/a=d then none else (h.get? a).map fun o=>(a,o)
end
end Att
namespace L2
open PySem PySem.Spec PyProof.Rows
theorem Ab {vs:List Value} {ns:List Int} (h:IntsAre vs ns):Vals (ns.map V.int) vs:=by
 induction h with
 | nil=>exact .nil
 | cons n t h ih=>exact .cons ⟨t,rfl⟩ ih
def Only (H:Hp):Prop:=∀b,H b=none \/ ∃o xs,H b=some (.jB o (.lst xs))
theorem Pk {P:Program} {w:World} {K:PySem.W.Frag} {mg mb:Str->Option Value} {CX:Mz} {k:Nat} {fa a:Addr} {fd:FuncData} {x:Str} {sp:Sp} {s₁:Shared} {vs:List Value} {ns:List Int}
 (KX:K.In s₁.heap) (hns:s₁.heap.Ns mainGlobals mg) (hb:s₁.heap.Ns builtinsNs mb) (hbb:∀x:Str,x ≠ "__name__" -> mb x=bootBuiltins x) (hlim:s₁.heap.NoLimit) (hg:s₁.gens = #[])
 (ha:s₁.heap.get? a=some {cls:= .type "list",data:= .seq vs.toArray}) (hi:IntsAre vs ns) (hl:ns.length<=sizeLine) (hr:mJ k callerA)
 (F:∀base:Heap,K.In base->base.Ns mainGlobals mg->cI P w K mg base CX k fa fd [x] sp) (hbind:∀(s:Shared) (u:Value),BindsTo s fd ⟨[u],[]⟩ [(x,u)])
 (hsp:∀H:Hp,Only H->aZ K H a (ns.map V.int)->sp [.ref a] H (fun v _=>v = .bl true) fun _ _ _=>False)
 (hCX:∀H e s',CX [] H s₁ (fun _ _ _=>False) e s'->False):
 codeAny (model P w) callerA (.call (.ref fa) ⟨[.ref a],[]⟩) (fun r s'=>r = .ok (.ret (.bool true))/\OldK s₁.heap s'.heap/\s'.os=s₁.os/\AllBare s'.gens) s₁:=by
 have rv:=Ab hi
 have lenV:=hi.length
 have core:∀H:Hp,Only H->aZ K H a (ns.map V.int)->ud P w H s₁.heap->(∀b,H b≠none->b=a)->(H a≠none->K.lookup a=none) ->
  codeAny (model P w) callerA (.call (.ref fa) ⟨[.ref a],[]⟩) (fun r s'=>r = .ok (.ret (.bool true))/\OldK s₁.heap s'.heap/\s'.os=s₁.os/\AllBare s'.gens) s₁:=by
  intro H hO hS hok hA hK
  have J0:∀{b:Addr} {o:Obj},s₁.heap.get? b=some o->H b=none->(Cz s₁.heap H).get? b=some o:=fun e n=>P_ e n
  have Y9:∀{b:Addr} {o:Obj} {es:Array DictEntry} {ep:Nat},s₁.heap.get? b=some o->o.data = .dict es ep->H b=none:=fun {b o es ep} e d=>by
   cases q:H b with
   | none=>rfl
   | some u=>
     have e':b=a:=hA b (by rw [q];simp)
     subst e'
     rw [ha] at e;cases e
     have d':Data.seq vs.toArray _=Data.dict es ep:=d
     cases d'
  have nsK:∀{b:Addr} {m:Str->Option Value},s₁.heap.Ns b m->(Cz s₁.heap H).Ns b m:=fun {b m} ⟨o,es,ep,e,d,r⟩=>⟨o,es,ep,J0 e (Y9 e d),d,r⟩
  have hKb:K.In (Cz s₁.heap H):=fun b o e=>J0 (KX b o e) (by
   cases q:H b with
   | none=>rfl
   | some u=>
     have e':b=a:=hA b (by rw [q];simp)
     subst e'
     rw [hK (by rw [q];simp)] at e;cases e)
  have hM:Mod K mg (Cz s₁.heap H):=⟨hKb,nsK hns,⟨mb,nsK hb,hbb⟩,let ⟨mc,h1,h2⟩:=hlim;⟨mc,nsK h1,h2⟩⟩
  have e0:Ud P w K mg (Cz s₁.heap H) callerA [] s₁ H:=⟨rfl,hM,fun b o e=>Ss e,Nat.le_of_eq (Lb _ _),trivial,fun b hb=>absurd (show b∈([]:List Addr) from hb) (by simp),hok,.of_eq hg⟩
  refine codeAny_mono ((F _ hKb (nsK hns)).run callerA [] s₁ H ⟨[.ref a],[]⟩ [.ref a] [.ref a] _ _ hr e0 (hbind s₁ (.ref a)) (.cons rfl .nil) (hsp H hO hS)) fun r s' h=> ?_
  cases r with
  | error e=>exact (hCX H e s' h).elim
  | ok fl=>
    cases fl with
    | next=>exact False.elim h
    | brk=>exact False.elim h
    | cont=>exact False.elim h
    | ret u=>
      obtain ⟨v,H',os,bare,un,hok',r',q⟩:=h
      have q':v = .bl true:=q
      subst q'
      obtain rfl:u=Value.bool true:=r'
      refine ⟨rfl,OldK.of_keep fun b o e=> ?_,os,bare⟩
      cases q:H b with
      | none=>exact un.keep b o e q (by intro z;exact absurd (show b∈([]:List Addr) from z) (by simp)) (by simp)
      | some u=>
        rcases hO b with z|⟨ob,xs,z⟩
        ·rw [q] at z;cases z
        ·have z2:=un.rP b ob _ z
         obtain ⟨e1,_⟩:=hok b _ z
         obtain ⟨e2,_⟩:=hok' b _ z2
         rw [e] at e1;cases e1
         exact e2
 cases hk:K.lookup a with
 | some o=>
   have e:=KX a o hk
   rw [ha] at e
   cases e
   refine core (fun _=>none) (fun _=> .inl rfl) (.inr ⟨_,vs.toArray,_,hk,rfl,rfl,rfl,by rw [List.size_toArray,lenV];exact hl,by simpa using rv⟩) (fun b u z=>by have z':(none:Option HO)=some u:=z;cases z') (fun b z=>absurd rfl z) fun z=>absurd rfl z
 | none=>
   refine core (fun b=>if b=a then some (.jB {cls:= .type "list",data:= .seq vs.toArray} (.lst (ns.map V.int))) else none) (fun b=> ?_) (.inl (.inr ⟨{cls:= .type "list",data:= .seq vs.toArray},if_pos rfl⟩)) (fun b u z=> ?_) (fun b z=> ?_) fun _=>hk
   ·by_cases hb:b=a
    ·exact .inr ⟨_,_,if_pos hb⟩
    ·exact .inl (if_neg hb)
   ·by_cases hb:b=a
    ·have z':=(if_pos hb).symm.trans z
     cases z'
     subst hb
     exact ⟨ha,by rw [List.length_map];exact hl,vs,_,rv,ha⟩
    ·have z':=(if_neg hb).symm.trans z
     cases z'
   ·by_cases hb:b=a
    ·exact hb
    ·exact absurd (if_neg hb) z
end L2
namespace L2
open PySem PySem.Spec PyProof.Rows
abbrev KOf {K:PySem.W.Frag} {h:Heap} (_:K.In h):PySem.W.Frag:=K
theorem Rv {l:PySem.W.OpenLaw} {n k:Nat} {q:Program} {loose:List Str} {XP:(Str->Option Value)->Heap->Prop} {YP:World->Heap->Prop} {d:DefRec} {K:Params->PySem.W.Frag} {CX:World->Mz} {sp:World->Sp} {x:Str}
 (hn:l.most=some n) (hn2:n<=sizeLine) (hdf:d.params.defaults=[]) (hr:mJ k callerA)
 (hY:∀(w:World) (h:Heap),YP w h->(K w.params).In h)
 (F:∀(w:World) (mg:Str->Option Value) (fa:Addr) (h:Heap),(K w.params).In h->h.Ns mainGlobals mg->mg d.name=some (.ref fa) ->
   ∃fd:FuncData,(∀(s:Shared) (u:Value),BindsTo s fd ⟨[u],[]⟩ [(x,u)]) /\
    ∀base:Heap,(K w.params).In base->base.Ns mainGlobals mg->cI l.prog w (K w.params) mg base (CX w) k fa fd [x] (sp w))
 (hsp:∀(w:World) (H:Hp) (a:Addr) (ns:List Int),ns.length<=n->Only H->aZ (K w.params) H a (ns.map V.int)->sp w [.ref a] H (fun v _=>v = .bl true) fun _ _ _=>False)
 (hCX:∀(w:World) (H:Hp) (s:Shared) (e:Value) (s':Shared),CX w [] H s (fun _ _ _=>False) e s'->False):
 PySem.W.WalkO q loose XP YP l.row.toRowW d [] (fun f vs=>PySem.call f vs):=by
 refine Att.Gk hn hdf fun w s₀ s₁ mg mb fa o pm cd doc a vs ns G Y ho hd hcd hmg hobj hints hlen hg=> ?_
 have KX:=hY w _ Y
 obtain ⟨fd,hb,hF⟩:=F w mg fa _ KX G.T.g hmg
 exact Pk KX G.T.g G.T.b G.T.builtins G.T.nolimit hg hobj hints (Nat.le_trans hlen hn2) hr hF hb (fun H hO hS=>hsp w H a ns hlen hO hS) fun H e s'=>hCX w H s₁ e s'
end L2
namespace L2
open PySem PySem.Spec PyProof.Rows
def inClass (s:Stmt) (j:Nat):Stmt:=match s with
 | .ClassDef _ _ _ body _ _ _ _ _ _ _=>body.getD j (.Pass ⟨0,0,0,0⟩)
 | _=> .Pass ⟨0,0,0,0⟩
def aJ (s:Stmt):Arguments:=match s with
 | .FunctionDef _ a _ _ _ _ _ _ _ _=>a
 | _=>{posonlyargs:=[],args:=[],vararg:=none,kwonlyargs:=[],kw_defaults:=[],kwarg:=none,defaults:=[]}
def aG (s:Stmt):List Stmt:=match s with
 | .FunctionDef _ _ b _ _ _ _ _ _ _=>b
 | _=>[]
def aA (s:Stmt):Scope:=match s with
 | .FunctionDef _ _ _ _ _ _ sc _ _ _=>sc
 | _=>{kind:= .function,names:=[],isGenerator:=false,isCoroutine:=false}
abbrev nF:Mz:=fun _ _ _ _ _ _=>False
abbrev E0:XK:=fun _ _ _=>False
theorem YT {X:Cx}:Passes nF X E0:=fun _ _ _ _ _ _ _ h=>h.elim
structure lU (K:PySem.W.Frag) (x qual:Str) (st:Stmt) (f:Addr) (fd:FuncData):Prop where
 ex:∃(oc:Value) (od:Option Addr) (kV doc pm:Value) (an:Option Addr) (cdv ct:Value) (osl:Array (Option Value)),
  fd=PySem.W.fnOf x qual (aJ st) (aG st) (aA st) .none kV doc pm an cdv ct/\K.lookup f=some ⟨oc,od,.func fd,osl⟩/\PySem.W.codeIn K cdv qual=true
 kp:PySem.W.keepIn K (.ref f)=true
section
variable {P:Program} {w:World} {K:PySem.W.Frag} {mg:Str->Option Value} {base:Heap}
theorem lU.ok {x qual:Str} {st:Stmt} {f:Addr} {fd:FuncData} {N ps:List Str} {k:Nat} {sp:Sp} (F:lU K x qual st f fd) (S:aX N ps (aA st)) (len:∀vs H Q E,sp vs H Q E->vs.length=ps.length)
 (hbody:∀(cdv:Value) (A:Around) (outer:List Env) (s:Shared) (H:Hp) (vs:List V) (Q:VK) (E:XK),mJ k (A.deeper (envOfC qual (aA st) s.heap.objs.size f cdv))->sp vs H Q E ->
   ∃t,Iz (rQ nF P w K mg base N qual (aA st) f cdv A outer s H E).nox (aG st) t/\t {nx:=fun _ H'=>Q .non H',rt:=Q} (start N vs) H):cI P w K mg base nF (k+1) f fd ps sp:=by
 obtain ⟨oc,od,kV,doc,pm,an,cdv,ct,osl,rfl,lk,hcd⟩:=F.ex
 refine U0 lk hcd S len fun A outer s H vs Q E hr hsp=> ?_
 obtain ⟨t,h,q⟩:=hbody cdv A outer s H vs Q E hr hsp
 exact ⟨t,h.nox,q⟩
theorem lU.binds {x qual:Str} {st:Stmt} {f:Addr} {fd:FuncData} {ps:List Str} (F:lU K x qual st f fd)
 (h:∀(kV doc pm:Value) (an:Option Addr) (cdv ct:Value) (us:List Value),us.length=ps.length->bindArgs (PySem.W.fnOf x qual (aJ st) (aG st) (aA st) .none kV doc pm an cdv ct) ⟨us,[]⟩=pure (ps.zip us)):Binds K fd ps []:=by
 obtain ⟨oc,od,kV,doc,pm,an,cdv,ct,osl,rfl,lk,hcd⟩:=F.ex
 exact .all (h kV doc pm an cdv ct)
theorem bF {x qual:Str} {st:Stmt} {f:Addr} {oc:Value} {od an:Option Addr} {osl:Array (Option Value)} {kV doc pm cdv ct:Value} (l:K.lookup f=some ⟨oc,od,.func (PySem.W.fnOf x qual (aJ st) (aG st) (aA st) .none kV doc pm an cdv ct),osl⟩)
 (c:PySem.W.codeIn K cdv qual=true) (k:PySem.W.keepIn K (.ref f)=true):lU K x qual st f (PySem.W.fnOf x qual (aJ st) (aG st) (aA st) .none kV doc pm an cdv ct):=⟨⟨oc,od,kV,doc,pm,an,cdv,ct,osl,rfl,l,c⟩,k⟩
end
theorem mR {A:Around} {k:Nat} (hr:mJ k A):A.units+1<cLine:=Nat.lt_of_le_of_lt (Nat.add_le_add_left (by decide:1<=64) _) hr.units
theorem Kg {n:Nat} (h:n<=1000):n<sizeLine:=Nat.lt_of_le_of_lt h (by decide)
section
variable {X:Cx}
theorem pv (i:Nat) {x:Str} {pos:Pos} (hN:X.N[i]? = some x:=by rfl) (hv:Vis X.env.scope x:=by first |exact Or.inl rfl|exact Or.inr (Or.inl rfl)|exact Or.inr (Or.inr rfl)) (hd:(x==("__debug__" :Str))=false:=by decide)
 (hcd:(x==("__classdict__" :Str))=false:=by decide):PE X (.Name x pos) (jP i):=V6 hN hv hd hcd
end
theorem cH {A B:Prop} (h:B):if false=true then A else B:=by
 rw [if_neg Bool.false_ne_true]
 exact h
theorem cQ {A B:Prop} (h:A):if true=true then A else B:=by
 rw [if_pos rfl]
 exact h
theorem rN {c A B:Prop} [Decidable c] (h1:c->A) (h2:¬c->B):if c then A else B:=by
 by_cases h:c
 ·rw [if_pos h]
  exact h1 h
 ·rw [if_neg h]
  exact h2 h
theorem Ao {c A B:Prop} [Decidable c] (hc:c) (h:B):if (!decide c)=true then A else B:=by
 rw [decide_eq_true hc]
 exact cH h
def Same (H H':Hp):Prop:=∀b o,H b=some o->H' b=some o
theorem Same.refl (H:Hp):Same H H:=fun _ _ h=>h
theorem Same.trans {H H1 H2:Hp} (a:Same H H1) (b:Same H1 H2):Same H H2:=fun c o h=>b c o (a c o h)
theorem Same.free {H H':Hp} (e:Same H H') {l:Addr} (h:H' l=Option.none):H l=Option.none:=by
 cases q:H l with
 | none=>rfl
 | some o=>
   rw [e l o q] at h
   cases h
theorem Same.seq {K:PySem.W.Frag} {H H':Hp} {a:Addr} {xs:List V} (e:Same H H') (h:aZ K H a xs):aZ K H' a xs:=by
 rcases h with (h|⟨o,h⟩)|h
 ·exact .inl (.inl (e _ _ h))
 ·exact .inl (.inr ⟨o,e _ _ h⟩)
 ·exact .inr h
section
variable {κ:Type} [DecidableEq κ]
end
end L2
set_option Elab.async false
set_option linter.all false
set_option maxRecDepth 100000
set_option maxHeartbeats 4000000
namespace L2
open PySem PySem.Spec PyProof.Rows
theorem Aj {a n:Addr} (h:a<n): @LT.lt Nat _ a n:=h
def qM (env:Env):List (Str×NameKind)->List (Str×Addr)->List (Str×Addr)
 | [],acc=>acc
 | (n,k)::r,acc=>if k == .free then qM env r ((n,(env.cells.lookup n).getD 0)::acc) else qM env r acc
theorem Ia {env:Env} {scope:Scope} (h:∀y∈scope.names,y.2 = .free->(env.cells.lookup y.1).isSome=true):closureFor scope env=pure (qM env scope.names []):=by
 have go:∀(ns:List (Str×NameKind)) (acc:List (Str×Addr)),(∀y∈ns,y.2 = .free->(env.cells.lookup y.1).isSome=true) ->
  (forIn ns acc (fun x cs=>match x with |(name,kind)=>if (kind == .free)=true then do let c ←cellOf env name;pure (ForInStep.yield ((name,c)::cs)) else pure (ForInStep.yield cs)):Sem (List (Str×Addr)))=pure (qM env ns acc):=by
  intro ns
  induction ns with
  | nil=>intro acc _;rfl
  | cons y r ih=>
    intro acc hy
    obtain ⟨n,k⟩:=y
    rw [List.forIn_cons]
    by_cases hk:k = .free
    ·subst hk
     have hs:=hy (n,.free) List.mem_cons_self rfl
     obtain ⟨c,hc⟩:=Option.isSome_iff_exists.mp hs
     have e:cellOf env n=pure c:=by unfold cellOf;rw [hc]
     show _=pure (qM env r ((n,(env.cells.lookup n).getD 0)::acc))
     rw [←ih _ fun y hm=>hy y (List.mem_cons_of_mem _ hm)]
     simp only [beq_self_eq_true,if_true,e,pure_bind,hc,Option.getD_some]
    ·have hb:(k==NameKind.free)=false:=by simpa using hk
     have hc:qM env ((n,k)::r) acc=qM env r acc:=by
      show (if (k==NameKind.free)=true then _ else _)=_
      rw [if_neg (by rw [hb];decide)]
     rw [hc,←ih _ fun y hm=>hy y (List.mem_cons_of_mem _ hm)]
     simp only [hb,Bool.false_eq_true,if_false,pure_bind]
 have q:=go scope.names [] h
 unfold closureFor
 show (forIn scope.names [] _ >>= fun r=>pure r)=_
 rw [bind_pure]
 exact q
theorem jY {env:Env}:∀(ns:List (Str×NameKind)) (acc:List (Str×Addr)) (x:Str),(∀y∈ns,y.2 = .free->(env.cells.lookup y.1).isSome=true) ->
 (qM env ns acc).lookup x=if (x,NameKind.free)∈ns then env.cells.lookup x else acc.lookup x
 | [],acc,x,_=>by simp [qM]
 | (n,k)::r,acc,x,h=>by
   have hr:∀y∈r,y.2 = .free->(env.cells.lookup y.1).isSome=true:=fun y hm=>h y (List.mem_cons_of_mem _ hm)
   by_cases hk:k = .free
   ·subst hk
    show (qM env r ((n,(env.cells.lookup n).getD 0)::acc)).lookup x=_
    rw [jY r _ x hr]
    obtain ⟨c,hc⟩:=Option.isSome_iff_exists.mp (h (n,.free) List.mem_cons_self rfl)
    have hc:env.cells.lookup n=some c:=hc
    by_cases hm:(x,NameKind.free)∈r
    ·rw [if_pos hm,if_pos (List.mem_cons_of_mem _ hm)]
    ·rw [if_neg hm]
     by_cases e:x=n
     ·subst e
      rw [if_pos List.mem_cons_self,List.lookup_cons,hc]
      simp
     ·rw [if_neg (fun z=>(List.mem_cons.mp z).elim (fun q=>e (congrArg Prod.fst q)) hm),List.lookup_cons]
      have:(x==n)=false:=by simpa using e
      rw [this]
   ·have hb:(k==NameKind.free)=false:=by simpa using hk
    have hc:qM env ((n,k)::r) acc=qM env r acc:=by
     show (if (k==NameKind.free)=true then _ else _)=_
     rw [if_neg (by rw [hb];decide)]
    rw [hc,jY r acc x hr]
    have:((x,NameKind.free)∈(n,k)::r)↔(x,NameKind.free)∈r:=by
     constructor
     ·intro z
      rcases List.mem_cons.mp z with q|q
      ·exact absurd (congrArg Prod.snd q).symm hk
      ·exact q
     ·exact List.mem_cons_of_mem _
    simp only [this]
theorem lX (env:Env):∀(ns:List (Str×NameKind)) (x:Str),
 (ns.map fun (n,k)=>if (k == .free&&env.scope.kind == .function&&env.kindOf n==some .cell) then (n,NameKind.cell) else (n,k)).lookup x =
   (ns.lookup x).map fun k=>if (k == .free&&env.scope.kind == .function&&env.kindOf x==some .cell)=true then NameKind.cell else k
 | [],x=>rfl
 | (n,k)::r,x=>by
   show List.lookup x ((if (k==NameKind.free&&env.scope.kind == .function&&env.kindOf n==some .cell)=true then (n,NameKind.cell) else (n,k))::_)=_
   cases hx:x==n with
   | true=>
     have e:x=n:=by simpa using hx
     subst e
     by_cases hc:(k==NameKind.free&&env.scope.kind == .function&&env.kindOf x==some .cell)=true
     ·rw [if_pos hc];simp only [List.lookup_cons,hx,Option.map_some,if_pos hc]
     ·rw [if_neg hc];simp only [List.lookup_cons,hx,Option.map_some,if_neg hc]
   | false=>
     have ih:=lX env r x
     by_cases hc:(k==NameKind.free&&env.scope.kind == .function&&env.kindOf n==some .cell)=true
     ·rw [if_pos hc];simp only [List.lookup_cons,hx];exact ih
     ·rw [if_neg hc];simp only [List.lookup_cons,hx];exact ih
structure bf (N own:List Str) (caps:List Nat) (XN:List Str) (outer scope:Scope):Prop where
 kind:scope.kind = .function
 O_:∀y∈scope.names,y.2 ≠ .cell
 names:∀y∈scope.names,y.2 = .local->scope.names.lookup y.1=some .local
 free:∀y∈scope.names,y.2 = .free->outer.names.lookup y.1=some .cell\/outer.names.lookup y.1=some .free
 nd:N.Nodup
 len:N.length=own.length+caps.length
 cap:∀(j:Nat),j<caps.length->N[own.length+j]? = XN[caps.getD j 0]? /\ ∃x,N[own.length+j]? = some x/\(x,NameKind.free)∈scope.names/\scope.names.lookup x=some .free
def st0 (own:List Str) (caps:List Nat) (σ:St):St:=own.map (fun _=>none)++caps.map (fun i=>(σ[i]?).join)
def fG (X:Cx) (scope:Scope) (C:Addr) (N:List Str) (s:Shared) (H:Hp) (fp:List Addr):Cx:=
 {X with N:=N,s₀:=s,H₀:=H,env:=compEnvC scope (qM X.env scope.names []) C X.env,outer:=X.stack,ex:=fp,fn:=fun _=>false,pn:=[],xe:=fun _ _=>False}
section
variable {X:Cx} {pins:List (Addr×Obj)} {σ:St} {H:Hp} {s:Shared} {scope:Scope} {N own:List Str} {caps:List Nat} {fp:List Addr} {C:Nat}
theorem bf.Qy (S:bf N own caps X.N X.env.scope scope) (ok:X.Ok):∀y∈scope.names,y.2 = .free->(X.env.cells.lookup y.1).isSome=true:=fun y hy hf=>by
 obtain ⟨c,e⟩:=ok.has y.1 (S.free y hy hf)
 rw [e];rfl
theorem bf.csub (S:bf N own caps X.N X.env.scope scope) (ok:X.Ok) {x:Str} {c:Addr} (h:(qM X.env scope.names []).lookup x=some c):X.env.cells.lookup x=some c:=by
 rw [jY _ _ _ (S.Qy ok)] at h
 split at h
 ·exact h
 ·simp at h
theorem bf.Pj {S:bf N own caps X.N X.env.scope scope} {x:Str} (h:(relabel scope X.env).names.lookup x=some .cell\/(relabel scope X.env).names.lookup x=some .free):(x,NameKind.free)∈scope.names:=by
 have e:=lX X.env scope.names x
 have e':(relabel scope X.env).names.lookup x=(scope.names.lookup x).map fun k=>if (k == .free&&X.env.scope.kind == .function&&X.env.kindOf x==some .cell)=true then NameKind.cell else k:=e
 rw [e'] at h
 cases q:scope.names.lookup x with
 | none=>rw [q] at h;simp at h
 | some k=>
   have hm:=PySem.mem_of_lookup q
   by_cases hk:k = .free
   ·subst hk;exact hm
   ·rw [q] at h
    have hb:(k==NameKind.free)=false:=by simpa using hk
    simp only [Option.map_some,hb,Bool.false_and,Bool.false_eq_true,if_false] at h
    rcases h with h|h
    ·exact absurd (Option.some.inj h) (S.O_ _ hm)
    ·exact absurd (Option.some.inj h) hk
theorem Inv.comp {h1:Heap} {D:Nat} (I:Inv X pins σ H s) (S:bf N own caps X.N X.env.scope scope) (hfp:∀b∈fp,uf X pins H b) (hfo:∀b∈fp,∃o,s.heap.get? b=some o)
 (hD:D=s.heap.objs.size) (hC:C=s.heap.objs.size+1) (old:∀b o,s.heap.get? b=some o->h1.get? b=some o) (hns:h1.Ns C (fun _=>none)) (hl:h1.get? D=some {cls:= .type "list",data:= .seq #[]}) {t:Nat}:
 Inv (fG X scope C N s H fp) [] (st0 own caps σ) (upd H D (.lst [])) {s with heap:=h1,toks:=t}:=by
 have some':=S.Qy I.ok
 have sub:∀{x c},(qM X.env scope.names []).lookup x=some c->X.env.cells.lookup x=some c:=fun h=>S.csub I.ok h
 have freshD:H D=none:=I.hok.fresh (by rw [hD];exact Nat.le_refl _)
 have Xc:H C=none:=I.hok.fresh (by rw [hC];exact Nat.le_succ _)
 have Xm:∀x c,X.env.cells.lookup x=some c->c<s.heap.objs.size:=fun x c e=>by
  obtain ⟨v,z⟩:=I.cell x c e
  exact z.lt
 have agi:∀b∈fp,b<s.heap.objs.size:=fun b hb=>by
  obtain ⟨o,e⟩:=hfo b hb
  exact Heap.lt_size e
 have DC:D≠C:=by omega
 refine ⟨⟨I.ok.mod,S.kind,I.ok.glob,I.ok.blt,by show s.heap.objs.size<=C;omega,fun x y c e1 e2=>I.ok.inj x y c (sub e1) (sub e2),fun x h=> ?_,fun x c h=>(by cases h),I.ok.hd,I.ok.frames,Or.inl rfl,fun b hb=>⟨?_,fun x c e=> ?_⟩,I.bs,Nat.le_trans I.ok.Mv I.sz,fun b o e hb=> ?_,fun b hb z=> ?_,I.stack,I.Bq⟩,
  rfl,I.bare,Un.laid old (by show s.heap.objs.size<=D;omega) freshD,⟨_,hns,fun j x v e1 e2 e3=> ?_⟩,fun x c e=> ?_, ?_,fun x c e=> ?_,fun p hp=> ?_,I.hok.laid old (by omega) ?_, ?_⟩
 ·have hm:=bf.Pj (S:=S) (X:=X) h
  obtain ⟨c,e⟩:=Option.isSome_iff_exists.mp (some' _ hm rfl)
  exact ⟨c,by show (qM X.env scope.names []).lookup x=_;rw [jY _ _ _ some',if_pos hm];exact e⟩
 ·exact Nat.ne_of_lt (show @LT.lt Nat _ b C by have:=Aj (agi b hb);omega)
 ·exact (hfp b hb).2.2.2.2.1 x c (sub e)
 ·rcases (hfp b hb).2.2.2.1 with z|z
  ·exact I.ok.Cm b o e z
  ·exact absurd (Nat.lt_of_lt_of_le (Heap.lt_size e) (Nat.le_trans I.ok.Mv z)) (Nat.lt_irrefl _)
 ·rcases List.mem_cons.mp (I.xW b z) with q|q
  ·exact (hfp b hb).2.1 q
  ·exact (hfp b hb).2.2.1 q
 ·have e1:N[j]? = some x:=e1
  have hj:own.length<=j:=by
   by_cases q:own.length<=j
   ·exact q
   ·exfalso
    unfold st0 at e2
    rw [List.getElem?_append_left (by simp;omega),List.getElem?_map] at e2
    cases r:own[j]? with
    | none=>rw [r] at e2;cases e2
    | some a=>rw [r] at e2;cases e2
  have hjl:j<N.length:=(List.getElem?_eq_some_iff.mp e1).1
  have hjc:j - own.length<caps.length:=by have:=S.len;omega
  obtain ⟨c1,x',c2,c3,c4⟩:=S.cap (j - own.length) hjc
  rw [show own.length+(j - own.length)=j by omega] at c1 c2
  rw [e1] at c2
  cases c2
  have e2':(σ[caps.getD (j - own.length) 0]?).join=some v:=by
   unfold st0 at e2
   rw [List.getElem?_append_right (by simp;omega),List.getElem?_map,List.length_map] at e2
   rw [List.getD_eq_getElem?_getD]
   cases r:caps[j - own.length]? with
   | none=>rw [r] at e2;cases e2
   | some a=>rw [r] at e2;exact Option.some.inj e2
  have agl:σ[caps.getD (j - own.length) 0]? = some (some v):=by
   cases r:σ[caps.getD (j - own.length) 0]? with
   | none=>rw [r] at e2';cases e2'
   | some a=>rw [r] at e2';exact congrArg Option.some e2'
  have kx:X.env.kindOf x=some .cell\/X.env.kindOf x=some .free:=S.free _ c3 rfl
  obtain ⟨m,hn,hl'⟩:=I.loc
  obtain ⟨u,r,l⟩:=hl' _ x v (by rw [←c1];exact e1) agl (by rcases kx with z|z;exact .inr (.inl z);exact .inr (.inr z))
  refine ⟨u,r,.inr ⟨?_, ?_⟩⟩
  ·show (relabel scope X.env).names.lookup x=some .cell\/(relabel scope X.env).names.lookup x=some .free
   have e:(relabel scope X.env).names.lookup x=(scope.names.lookup x).map fun k=>if (k == .free&&X.env.scope.kind == .function&&X.env.kindOf x==some .cell)=true then NameKind.cell else k:=lX X.env scope.names x
   rw [e,c4,Option.map_some]
   split
   ·exact .inl rfl
   ·exact .inr rfl
  ·rcases l with ⟨hk,_⟩|⟨_,c,hc,z⟩
   ·rcases kx with q|q<;>rw [hk] at q<;>cases q
   ·refine ⟨c, ?_, ?_⟩
    ·show (qM X.env scope.names []).lookup x=_
     rw [jY _ _ _ some',if_pos c3];exact hc
    ·obtain ⟨o,ho,hd⟩:=z
     exact ⟨o,old c o ho,hd⟩
 ·obtain ⟨v,o,ho,hd⟩:=I.cell x c (sub e)
  exact ⟨v,o,old c o ho,hd⟩
 ·show upd H D (.lst []) C=none
  rw [aV DC.symm];exact Xc
 ·show upd H D (.lst []) c=none
  rw [aV (Nat.ne_of_lt (by have:=Aj (Xm x c (sub e));omega))];exact I.jg x c (sub e)
 ·cases hp
 ·exact ⟨Nat.zero_le _,[],0,.nil,hl⟩
 ·show (own.map (fun _=>none)++caps.map _).length=N.length
  rw [List.length_append,List.length_map,List.length_map,S.len]
theorem Inv.M9 {pA:List (Addr×Obj)} {σ':St} {H':Hp} {s':Shared} {h':Heap} (I:Inv X pins σ H s) (hfp:∀b∈fp,uf X pins H b) (hC:s.heap.objs.size<=C) (J:Inv (fG X scope C N s H fp) pA σ' H' s') (hs:Heap.SameBut C s'.heap h'):
 Inv X pins σ H' {s' with heap:=h'}:=by
 have nC:∀b o,s.heap.get? b=some o->b≠C:=fun b o e=>Nat.ne_of_lt (by have:=Aj (Heap.lt_size e);omega)
 have u:=J.base
 have frC:H' C=none:=J.free
 refine I.call' (ch:=fp) (s':={s' with heap:=h'}) J.os ⟨fun b o e n hb hx=> ?_,fun b o e n hb hx=> ?_,u.free,fun b o e hx=> ?_,u.tups,u.rP,u.u9⟩ (fun a o e=>(J.hok a o e).stay (fun b v hb q=> ?_) (fun _ q=>q) fun _ _ q=>q) J.bare fun b hb=> ?_
 ·exact (hs.2 b (nC b o e)).trans (u.keep b o e n hb hx)
 ·obtain ⟨sl,q⟩:=u.slot b o e n hb hx
  exact ⟨sl,(hs.2 b (nC b o e)).trans q⟩
 ·obtain ⟨o',q⟩:=u.there b o e hx
  exact ⟨o',(hs.2 b (nC b o e)).trans q⟩
 ·refine (hs.2 b ?_).trans q
  intro z
  subst z
  rcases hb with z|z
  ·subst z;rw [frC] at e;cases e
  ·rw [frC] at z;cases z
 ·exact ⟨(hfp b hb).2.2.2.1,(hfp b hb).2.1,(hfp b hb).2.2.2.2.1,(hfp b hb).2.2.2.2.2⟩
end
section
variable {prog:Program} {w:World} {A:Around} {R:Result->Shared->Prop} {s:Shared}
theorem CN {elt target iter:Expr} {ifs:List Expr} {scope:Scope} {pos:Pos} {it acc:Value} {env:Env} (I:Nat->Shared->Prop)
 (turn:∀n s,I n s->wpAny (model prog w) A (pyNext it) (fun r s1=>match r with
   | none=>R (.ok .next) s1
   | some v=>wpAny (model prog w) A (letOwnedTupleGo target it v) (fun _ s1'=>wpAny (model prog w) A (assign target env v) (fun _ s2=>
      wpAny (model prog w) A (forIn ifs true fun c r=>if r=true then do let ok ←isTrue c env (eval c env);pure (ForInStep.yield ok) else pure (ForInStep.yield r)) (fun ok s3=>
       if ok=true then wpAny (model prog w) A (eval elt env) (fun x s4=>
        wpAny (model prog w) A (call (.builtin "list.append") [acc,x]) (fun _ s5=>∃m,m<n/\I m s5) (fun _ _=>False) s4) (fun _ _=>False) s3
       else ∃m,m<n/\I m s3) (fun _ _=>False) s2) (fun _ _=>False) s1') (fun _ _=>False) s1) (fun _ _=>False) s)
 (n:Nat) (h:I n s):
 codeAny (model prog w) A (.compLoop (.ListComp elt [⟨target,iter,ifs,0⟩] scope pos) 0 it acc env) R s:=by
 refine codeAny_loop rfl I (fun n s hI=> ?_) n h
 show wpAny _ A ((compTurn (.ListComp elt [⟨target,iter,ifs,0⟩] scope pos) 0 it acc env).onRaise (fun x=>do noteFrame x env;theTreesLotGoes x)) _ _ s
 refine wpAny_noted ?_
 rw [compTurn_list]
 refine wpAny_bind (wpAny_standAt (wpAny_bind (wpAny_mono (turn n s hI) (fun r s1 h1=> ?_) fun _ _ h'=>h'.elim)))
 cases r with
 | none=>exact wpAny_pure h1
 | some v=>
   refine wpAny_bind (wpAny_mono h1 (fun _ s1' h1'=> ?_) fun _ _ h'=>h'.elim)
   refine wpAny_bind (wpAny_mono h1' (fun _ s2 h2=>wpAny_bind (wpAny_mono h2 (fun ok s3 h3=> ?_) fun _ _ h'=>h'.elim)) fun _ _ h'=>h'.elim)
   cases ok with
   | false=>exact wpAny_pure ⟨rfl,h3⟩
   | true=>
     exact wpAny_bind (wpAny_bind (wpAny_mono h3 (fun x s4 h4=>wpAny_bind (wpAny_mono h4 (fun _ s5 h5=>wpAny_pure (wpAny_pure ⟨rfl,h5⟩)) fun _ _ h'=>h'.elim)) fun _ _ h'=>h'.elim))
end
def PTs (X:Cx) (ifs:List Expr) (t:TT):Prop:=
 ∀(pins:List (Addr×Obj)) (s:Shared) (σ:St) (H:Hp) (Q:Bool->Hp->Prop),Inv X pins σ H s->t σ H Q ->
  wpAny (model X.prog X.w) X.A (forIn ifs true fun c r=>if r=true then do let ok ←isTrue c X.env (eval c X.env);pure (ForInStep.yield ok) else pure (ForInStep.yield r)) (TP X pins σ Q) X.xe s
def Ys:TT:=fun _ H Q=>Q true H
theorem jJ {X:Cx}:PTs X [] Ys:=fun _ _ _ H _ I h=>wpAny_tests_nil ⟨H,I,h⟩
theorem oU {X:Cx} {c:Expr} {t:TT} (h:PT X c t):PTs X [c] t:=fun pins s σ H Q I q=>wpAny_tests_one (h pins s σ H Q I q)
def qQ (J:It) (g:TG) (tc:TT) (te:TE) (Q:VK) (D:Addr) (σ0:St) (H1:Hp):Prop:=
 ∃W:Nat->Nat->St->Hp->Prop,(∃m,W 0 m σ0 (upd H1 D (.lst []))) /\ ∀i m σ H,W i m σ H ->
  (J.stop i H/\Q (.ref D) H)\/(J.go i H /\ ∃N:St->Hp->Prop,(∀σ' H',N σ' H' -> ∃m',m'<m/\W (i+1) m' σ' H') /\ ∀x H',J.Uh i H x H'->g x σ H' fun σ2 H2=>tc σ2 H2 fun b H3=>
    if b=true then te σ2 H3 fun y H4=>∃acc,H4 D=some (.lst acc)/\acc.length<sizeLine/\N σ2 (upd H4 D (.lst (acc++[y]))) else N σ2 H3)
def Jf (own:List Str) (caps:List Nat) (wi:TI) (g:TG) (tc:TT) (te:TE):TE:=fun σ H Q=>wi σ H fun J H1=>∀D,H1 D=none->qQ J g tc te Q D (st0 own caps σ) H1
section
variable {X:Cx} {elt tg iter:Expr} {ifs:List Expr} {scope:Scope} {pos:Pos} {N own:List Str} {caps:List Nat} {wi:TI} {g:TG} {tc:TT} {te:TE}
theorem Fz {use:Option (Value->Sem Unit)} {Qv:Value->Shared->Prop} {pins:List (Addr×Obj)} {σ:St} {H:Hp} {s:Shared} {Q:VK} (hc:X.calm=true) (S:bf N own caps X.N X.env.scope scope)
 (hg:∀C s H fp,PG (fG X scope C N s H fp) tg g) (hcs:∀C s H fp,PTs (fG X scope C N s H fp) ifs tc) (he:∀C s H fp,PE (fG X scope C N s H fp) elt te)
 (hi:PI X tg iter wi) (hs:∀x,foldedSetIterable iter X.env x=pure x)
 (I:Inv X pins σ H s) (h:Jf own caps wi g tc te σ H Q)
 (fin:∀(D C:Addr) (H':Hp) (s':Shared),(∃m,s'.heap.Ns C m)->Inv X pins σ H' s'->(∀h',Heap.SameBut C s'.heap h'->Inv X pins σ H' {s' with heap:=h'})->uf X pins H' C->Q (.ref D) H' ->
   compPost (model X.prog X.w) X.A X.xe use Qv (.ref D) C (.ok .next) s'):
 wpAny (model X.prog X.w) X.A (comprehension (.ListComp elt [⟨tg,iter,ifs,0⟩] scope pos) scope X.env (firstIterPos [⟨tg,iter,ifs,0⟩] pos) (newList []) false (eval iter X.env) use) Qv X.xe s:=by
 refine wpAny_comprehension_free (use:=use) rfl hs (Ia (S.Qy I.ok)) S.kind S.names (dz (hi pins s σ H _ I h) fun xv s1 h1=>dz h1 fun itv s2 h2=> ?_)
 obtain ⟨it,fp,tn,J,H2,e,I2,T,st2,f2,q2⟩:=h2
 subst e
 refine wpAny_newList ?_
 refine wpAny_newFunctionEnv S.O_ (by intro y hy;simp at hy) (fun h1 Zz hsb1=> ?_) S.kind
 dsimp only at Zz hsb1 ⊢
 have hD:H2 s2.heap.objs.size=none:=I2.hok.fresh (Nat.le_refl _)
 have hsz:(s2.heap.push {cls:= .type "list",data:= .seq ([]:List Value).toArray}).objs.size=s2.heap.objs.size+1:=Heap.size_push ..
 have old:∀b o,s2.heap.get? b=some o->h1.get? b=some o:=fun b o e=>by
  refine hsb1.extBut b o (Nat.ne_of_lt (by have:=Aj (Heap.lt_size e);rw [hsz];omega)) (Heap.get?_push_of_some _ (Heap.get?_push_of_some _ e))
 have hl:h1.get? s2.heap.objs.size=some {cls:= .type "list",data:= .seq #[]}:=
  hsb1.extBut _ _ (Nat.ne_of_lt (by rw [hsz];omega)) (Heap.get?_push_of_some _ (Heap.get?_push_size _ rfl))
 have hfo:∀b∈fp,∃o,s2.heap.get? b=some o:=fun b hb=>let ⟨o,e,_⟩:=T.obj _ _ st2 b hb;⟨o,e⟩
 have I4:=Inv.comp (C:=(s2.heap.push {cls:= .type "list",data:= .seq ([]:List Value).toArray}).objs.size) (t:=s2.toks+([]:List (Str×Value)).length) I2 S f2 hfo rfl hsz old Zz hl
 obtain ⟨W,⟨m0,w0⟩,turn⟩:=q2 _ hD
 generalize hCe:(s2.heap.push {cls:= .type "list",data:= .seq ([]:List Value).toArray}).objs.size=C at *
 generalize hDe:s2.heap.objs.size=D at *
 have hDC:D≠C:=by omega
 have loop:∀s3:Shared,s3={s2 with heap:=h1,toks:=s2.toks+([]:List (Str×Value)).length} ->
  codeAny (model X.prog X.w) X.A (.compLoop (.ListComp elt [⟨tg,iter,ifs,0⟩] scope pos) 0 (.ref it) (.ref D) (fG X scope C N s2 H2 fp).env) (compPost (model X.prog X.w) X.A X.xe use Qv (.ref D) C) s3:=by
  rintro s3 rfl
  have jB:∀b∈fp,(upd H2 D (.lst [])) b=none:=fun b hb=>by
   obtain ⟨o,e⟩:=hfo b hb
   rw [aV (Nat.ne_of_lt (by have:=Aj (Heap.lt_size e);omega))]
   exact (f2 b hb).1
  have stat:∀{H':Hp},(∀b∈fp,H' b=none) -> ∀b∈fp,uf (fG X scope C N s2 H2 fp) [] H' b:=fun hn b hb=>by
   obtain ⟨o,e⟩:=hfo b hb
   have hlt:=Aj (Heap.lt_size e)
   refine ⟨hn b hb, ?_,fun z=> ?_,.inl hb,fun x c e'=>(f2 b hb).2.2.2.2.1 x c (S.csub I2.ok e'),fun p hp=>(by cases hp)⟩
   ·exact Nat.ne_of_lt (show @LT.lt Nat _ b C by omega)
   ·rcases List.mem_cons.mp (I2.xW b z) with q|q
    ·exact (f2 b hb).2.1 q
    ·exact (f2 b hb).2.2.1 q
  refine CN (fun n s'=>∃i σ' H',Inv (fG X scope C N s2 H2 fp) [] σ' H' s'/\tn i s'.heap/\(∀b∈fp,H' b=none)/\W i n σ' H') ?_ m0
   ⟨0,_,_,I4,T.keep _ _ _ st2 fun b _ o e=>old b o e,jB,w0⟩
  rintro n s3 ⟨i,σ3,H3,I3,st3,ZK,w3⟩
  rcases turn i n σ3 H3 w3 with ⟨stop,qn⟩|⟨go,Nx,hNx,step⟩
  ·refine dz (T.done (fG X scope C N s2 H2 fp) rfl rfl rfl hc i [] s3 σ3 H3 _ I3 (stat ZK) st3 stop) fun r s4 ⟨hr,J4⟩=> ?_
   subst hr
   obtain ⟨m4,hn4,_⟩:=J4.loc
   exact fin D C H3 s4 ⟨m4,hn4⟩ (I2.M9 f2 (by omega) J4 (Heap.SameBut.refl _ _)) (fun h' hs'=>I2.M9 f2 (by omega) J4 hs') (I2.wC (show s2.heap.objs.size<=C by omega) J4.free) qn
  ·refine dz (T.item (fG X scope C N s2 H2 fp) rfl rfl rfl hc i [] s3 σ3 H3 _ I3 (stat ZK) st3 go) fun r s4 ⟨u,hr,h4⟩=> ?_
   subst hr
   refine dz h4 fun _ s5 ⟨x,H5,I5,r5,y5,Dq,fr5⟩=> ?_
   have I5':=I5.pinned (stat fr5) (T.obj _ _ Dq)
   refine dz (hg C s2 H2 fp _ s5 σ3 H5 x u _ I5' r5 (step x H5 y5)) fun _ s6 ⟨σ6,H6,I6,q6⟩=> ?_
   refine dz (hcs C s2 H2 fp _ s6 σ6 H6 _ I6 q6) fun ok s7 ⟨H7,I7,q7⟩=> ?_
   have again:∀{σ8:St} {H8:Hp} {s8:Shared},Inv (fG X scope C N s2 H2 fp) ([]++yx fp s5.heap) σ8 H8 s8->Nx σ8 H8 -> ∃m,m<n /\ ∃i σ' H',Inv (fG X scope C N s2 H2 fp) [] σ' H' s8/\tn i s8.heap/\(∀b∈fp,H' b=none)/\W i m σ' H':=fun {σ8 H8 s8} I8 n8=>by
    obtain ⟨m',hm,w8⟩:=hNx _ _ n8
    refine ⟨m',hm,i+1,σ8,H8,I8.ur,T.keep _ _ _ Dq fun b hb o e=>(I8.pin (b,o) (List.mem_append_right _ (List.mem_append_right _ (oX hb e)))).1,fun b hb=> ?_,w8⟩
    obtain ⟨o,e,d⟩:=T.obj _ _ Dq b hb
    exact (I8.pin (b,o) (List.mem_append_right _ (List.mem_append_right _ (oX hb e)))).2.1
   cases ok with
   | false=>
     rw [if_neg (by decide)] at q7
     exact again I7 q7
   | true=>
     rw [if_pos rfl] at q7
     refine dz (he C s2 H2 fp _ s7 σ6 H7 _ I7 q7) fun y s8 ⟨yv,H8,I8,r8,acc,ha,hlen,q8⟩=> ?_
     exact dz (Al _ s8 σ6 H8 (.ref D) [yv] (.ref D) [y] (fun v H9=>Nx σ6 H9) I8 rfl (.cons r8 .nil) ⟨D,acc,yv,rfl,rfl,ha,hlen,q8⟩) fun _ s9 ⟨_,H9,I9,_,q9⟩=>again I9 q9
 exact codeAny_compStart_list (loop _ rfl) (T.self _ 0 _ _ _ (T.keep _ _ _ st2 fun b _ o e=>old b o e) (loop _ rfl))
theorem jL (hc:X.calm=true) (S:bf N own caps X.N X.env.scope scope) (hi:PI X tg iter wi)
 (hg:∀C s H fp,PG (fG X scope C N s H fp) tg g) (hcs:∀C s H fp,PTs (fG X scope C N s H fp) ifs tc) (he:∀C s H fp,PE (fG X scope C N s H fp) elt te)
 (hs:∀x,foldedSetIterable iter X.env x=pure x:=by intro _;rfl):PE X (.ListComp elt [⟨tg,iter,ifs,0⟩] scope pos) (Jf own caps wi g tc te):=by
 intro pins s σ H Q I h
 rw [eval_ListComp]
 refine Fz (use:=none) hc S hg hcs he hi hs I h ?_
 intro D C H' s' hn I' hk _ q
 obtain ⟨m,hn⟩:=hn
 exact ⟨m,hn,fun h' hs'=>⟨.ref D,H',hk h' hs',rfl,q⟩⟩
theorem oV {i:Nat} {x:Str} {px sp:Pos} (hc:X.calm=true) (hN:X.N.Nodup) (hx:X.N[i]? = some x) (hl:Loc X.env.scope x) (S:bf N own caps X.N X.env.scope scope) (hi:PI X tg iter wi)
 (hg:∀C s H fp,PG (fG X scope C N s H fp) tg g) (hcs:∀C s H fp,PTs (fG X scope C N s H fp) ifs tc) (he:∀C s H fp,PE (fG X scope C N s H fp) elt te)
 (hsw:swapsWith (.ListComp elt [⟨tg,iter,ifs,0⟩] scope pos) (some (.Name x px)) sp.line X.env=pure true:=by rfl)
 (hs:∀x,foldedSetIterable iter X.env x=pure x:=by intro _;rfl) (hf:X.fn x=true\/X.env.scope.names.lookup x=some .local:=by first |exact .inl rfl|exact .inr rfl|assumption):
 PS X (.Assign [.Name x px] (.ListComp elt [⟨tg,iter,ifs,0⟩] scope pos) sp) (Kd (Jf own caps wi g tc te) (jU i)):=by
 intro pins s σ H D I h
 rw [exec_Assign_Name_used _ _ _ _ hsw]
 refine wpAny_bind (wpAny_standAt (wpAny_bind ?_))
 show wpAny _ X.A (do let _ ←comprehension (.ListComp elt [⟨tg,iter,ifs,0⟩] scope pos) scope X.env (firstIterPos [⟨tg,iter,ifs,0⟩] pos) (newList []) false (eval iter X.env) (some (assign (.Name x px) X.env))) _ _ s
 refine wpAny_bind (wpAny_mono (Fz (use:=some (assign (.Name x px) X.env)) (Qv:=fun _ s'=>SP X pins D .next s') hc S hg hcs he hi hs I h ?_) (fun _ s' hq=>wpAny_pure (wpAny_pure hq)) fun _ _ e=>e)
 intro E C H' s' hn I' hk fC q
 obtain ⟨m,hn⟩:=hn
 obtain ⟨f0,f1,f2,f3,f4,f5⟩:=fC
 show wpAny _ X.A (assign (.Name x px) X.env (.ref E)) _ _ _
 refine wpAny_assign_Name (Ad I' hN hx hl (v:= .ref E) rfl (fun s2 I2 k=> ?_) hf)
 refine ⟨m, ?_,fun h' hs'=> ?_⟩
 ·obtain ⟨o,es,ep,ho,r⟩:=hn
  obtain ⟨a,ks,ka⟩:=k
  have hCa:C≠a:=fun z=>by
   rcases ka with q'|q'
   ·exact f1 (z.trans q')
   ·exact f4 x a q' z.symm
  exact ⟨o,es,ep,(ks.2 C hCa).trans ho,r⟩
 ·exact ⟨_,H',I2.turned (t':=s2.toks) (fun b o hb e=>(hs'.2 b hb).trans e) f0 f1 f3 f4 f5,q⟩
end
def QC (N own:List Str) (caps:List Nat) (XN:List Str) (outer scope:Scope):Bool:=
 decide (scope.kind = .function)&&scope.names.all (fun y=>decide (y.2 ≠ .cell))&&scope.names.all (fun y=>decide (y.2 ≠ .local)||decide (scope.names.lookup y.1=some .local)) &&
 scope.names.all (fun y=>decide (y.2 ≠ .free)||decide (outer.names.lookup y.1=some .cell)||decide (outer.names.lookup y.1=some .free))&&decide N.Nodup&&decide (N.length=own.length+caps.length) &&
 (List.range caps.length).all (fun j=>match N[own.length+j]? with |some x=>decide (XN[caps.getD j 0]? = some x)&&decide ((x,NameKind.free)∈scope.names)&&decide (scope.names.lookup x=some .free)|none=>false)
theorem bf.of {N own:List Str} {caps:List Nat} {XN:List Str} {outer scope:Scope} (h:QC N own caps XN outer scope=true):bf N own caps XN outer scope:=by
 unfold QC at h
 simp only [Bool.and_eq_true,decide_eq_true_eq,List.all_eq_true,Bool.or_eq_true] at h
 obtain ⟨⟨⟨⟨⟨⟨h1,h2⟩,h3⟩,h4⟩,h5⟩,h6⟩,h7⟩:=h
 refine ⟨h1,h2,fun y hy e=> ?_,fun y hy e=> ?_,h5,h6,fun j hj=> ?_⟩
 ·rcases h3 y hy with z|z
  ·exact absurd e z
  ·exact z
 ·rcases h4 y hy with (z|z)|z
  ·exact absurd e z
  ·exact .inl z
  ·exact .inr z
 ·have q:=h7 j (List.mem_range.mpr hj)
  cases e:N[own.length+j]? with
  | none=>rw [e] at q;cases q
  | some x=>
    rw [e] at q
    simp only [Bool.and_eq_true,decide_eq_true_eq] at q
    exact ⟨q.1.1.symm,x,rfl,q.1.2,q.2⟩
end L2
set_option Elab.async false
set_option linter.all false
set_option maxRecDepth 100000
set_option maxHeartbeats 4000000
namespace L2
open PySem PySem.Spec PyProof.Rows
mutual
def Dat (H:Hp):V->PyData->Prop
 | v,.none=>v = .non
 | v,.bool b=>v = .bl b
 | v,.int i=>v = .int i
 | v,.str x=>v = .str x
 | v,.list ds=>∃a vs,v = .ref a/\H a=some (.lst vs)/\aH H vs ds
 | v,.tuple ds=>∃a vs,v = .ref a/\H a=some (.tup vs)/\aH H vs ds
 | _,.dict _=>False
def aH (H:Hp):List V->List PyData->Prop
 | [],[]=>True
 | v::vs,d::ds=>Dat H v d/\aH H vs ds
 | [],_::_=>False
 | _::_,[]=>False
end
section
variable {H H':Hp}
theorem aH.length:∀{vs:List V} {ds:List PyData},aH H vs ds->vs.length=ds.length
 | [],[],_=>rfl
 | _::_,_::_,h=>by simp only [aH] at h;simp [aH.length h.2]
 | [],_::_,h=>by simp only [aH] at h
 | _::_,[],h=>by simp only [aH] at h
theorem aH.get:∀{vs:List V} {ds:List PyData} {i:Nat} {v:V},aH H vs ds->vs[i]? = some v -> ∃d,ds[i]? = some d/\Dat H v d
 | _::_,_::_,0,_,h,e=>by simp only [aH] at h;simp at e;subst e;exact ⟨_,rfl,h.1⟩
 | _::_,_::_,i+1,_,h,e=>by simp only [aH] at h;simp at e;obtain ⟨d,q,r⟩:=aH.get h.2 e;exact ⟨d,by simpa using q,r⟩
 | [],[],_,_,_,e=>by simp at e
 | [],_::_,_,_,h,_=>by simp only [aH] at h
 | _::_,[],_,_,h,_=>by simp only [aH] at h
theorem aH.getD:∀{vs:List V} {ds:List PyData} {i:Nat} {d:PyData},aH H vs ds->ds[i]? = some d -> ∃v,vs[i]? = some v/\Dat H v d
 | _::_,_::_,0,_,h,e=>by simp only [aH] at h;simp at e;subst e;exact ⟨_,rfl,h.1⟩
 | _::_,_::_,i+1,_,h,e=>by simp only [aH] at h;simp at e;obtain ⟨d,q,r⟩:=aH.getD h.2 e;exact ⟨d,by simpa using q,r⟩
 | [],[],_,_,_,e=>by simp at e
 | [],_::_,_,_,h,_=>by simp only [aH] at h
 | _::_,[],_,_,h,_=>by simp only [aH] at h
theorem aH.append:∀{vs ws:List V} {ds es:List PyData},aH H vs ds->aH H ws es->aH H (vs++ws) (ds++es)
 | [],_,[],_,_,g=>g
 | _::_,_,_::_,_,h,g=>by simp only [aH,List.cons_append] at h ⊢;exact ⟨h.1,aH.append h.2 g⟩
 | [],_,_::_,_,h,_=>by simp only [aH] at h
 | _::_,_,[],_,h,_=>by simp only [aH] at h
theorem aH.ints (ns:List Int):aH H (ns.map V.int) (ns.map PyData.int):=by
 induction ns with
 | nil=>simp only [List.map_nil,aH]
 | cons n r ih=>simp only [List.map_cons,aH,Dat];exact ⟨trivial,ih⟩
mutual
theorem Dat.mono (hl:∀a xs,H a=some (HO.lst xs)->H' a=some (HO.lst xs)) (ht:∀a xs,H a=some (HO.tup xs)->H' a=some (HO.tup xs)):∀(d:PyData) {v:V},Dat H v d->Dat H' v d
 | .none,_,h=>by simp only [Dat] at h ⊢;exact h
 | .bool _,_,h=>by simp only [Dat] at h ⊢;exact h
 | .int _,_,h=>by simp only [Dat] at h ⊢;exact h
 | .str _,_,h=>by simp only [Dat] at h ⊢;exact h
 | .list ds,_,h=>by simp only [Dat] at h ⊢;obtain ⟨a,vs,e,q,r⟩:=h;exact ⟨a,vs,e,hl _ _ q,aH.mono hl ht ds r⟩
 | .tuple ds,_,h=>by simp only [Dat] at h ⊢;obtain ⟨a,vs,e,q,r⟩:=h;exact ⟨a,vs,e,ht _ _ q,aH.mono hl ht ds r⟩
 | .dict _,_,h=>by simp only [Dat] at h
theorem aH.mono (hl:∀a xs,H a=some (HO.lst xs)->H' a=some (HO.lst xs)) (ht:∀a xs,H a=some (HO.tup xs)->H' a=some (HO.tup xs)):∀(ds:List PyData) {vs:List V},aH H vs ds->aH H' vs ds
 | [],[],_=>by simp only [aH]
 | d::ds,v::vs,h=>by simp only [aH] at h ⊢;exact ⟨Dat.mono hl ht d h.1,aH.mono hl ht ds h.2⟩
 | _::_,[],h=>by simp only [aH] at h
 | [],_::_,h=>by simp only [aH] at h
end
mutual
def Mt:PyData->Bool
 | .tuple ds=>zV ds
 | .list _ | .dict _=>false
 | .none | .bool _ | .int _ | .str _=>true
def zV:List PyData->Bool
 | []=>true
 | d::ds=>Mt d&&zV ds
end
mutual
theorem Dat.keep (ht:∀a xs,H a=some (HO.tup xs)->H' a=some (HO.tup xs)):∀(d:PyData) {v:V},Mt d=true->Dat H v d->Dat H' v d
 | .none,_,_,h=>by simp only [Dat] at h ⊢;exact h
 | .bool _,_,_,h=>by simp only [Dat] at h ⊢;exact h
 | .int _,_,_,h=>by simp only [Dat] at h ⊢;exact h
 | .str _,_,_,h=>by simp only [Dat] at h ⊢;exact h
 | .list ds,_,i,h=>by simp only [Mt] at i;cases i
 | .tuple ds,_,i,h=>by simp only [Dat] at h ⊢;simp only [Mt] at i;obtain ⟨a,vs,e,q,r⟩:=h;exact ⟨a,vs,e,ht _ _ q,aH.keep ht ds i r⟩
 | .dict _,_,_,h=>by simp only [Dat] at h
theorem aH.keep (ht:∀a xs,H a=some (HO.tup xs)->H' a=some (HO.tup xs)):∀(ds:List PyData) {vs:List V},zV ds=true->aH H vs ds->aH H' vs ds
 | [],[],_,_=>by simp only [aH]
 | d::ds,v::vs,i,h=>by simp only [aH] at h ⊢;simp only [zV,Bool.and_eq_true] at i;exact ⟨Dat.keep ht d i.1 h.1,aH.keep ht ds i.2 h.2⟩
 | _::_,[],_,h=>by simp only [aH] at h
 | [],_::_,_,h=>by simp only [aH] at h
end
theorem bA {α:Type} (f:α->PyData) (h:∀x,Mt (f x)=true):∀l:List α,zV (l.map f)=true
 | []=>rfl
 | a::l=>by simp only [List.map_cons,zV,h a,bA f h l,Bool.and_self]
end
section
variable {X:Cx} {pins:List (Addr×Obj)} {σ:St} {H:Hp} {s:Shared}
mutual
theorem Inv.reads (I:Inv X pins σ H s):∀(d:PyData) {v:V} {u:Value},Dat H v d->RelV v u -> ∃as,Reads s.heap u d as
 | .none,v,u,h,r=>by
   simp only [Dat] at h;subst h;cases (show u=Value.none from r);exact ⟨_,.none⟩
 | .bool b,v,u,h,r=>by
   simp only [Dat] at h;subst h;cases (show u=Value.bool b from r);exact ⟨_,.bool b⟩
 | .int i,v,u,h,r=>by
   simp only [Dat] at h;subst h;obtain ⟨t,q⟩:=(show ∃t,u=Value.int i t from r);cases q;exact ⟨_,.int i t⟩
 | .str x,v,u,h,r=>by
   simp only [Dat] at h;subst h;obtain ⟨t,q⟩:=(show ∃t,u=Value.str x t from r);cases q;exact ⟨_,.str x t⟩
 | .list ds,v,u,h,r=>by
   simp only [Dat] at h
   obtain ⟨a,vs,rfl,q,g⟩:=h
   cases (show u=Value.ref a from r)
   obtain ⟨its,rv,p,hz⟩:=I.list (aZ.of q)
   obtain ⟨o,ho,hc,n,hd⟩:=p.isList
   obtain ⟨as,ra⟩:=Inv.readsAll I ds g rv
   exact ⟨_,.list ho hc hd (by simpa using ra)⟩
 | .tuple ds,v,u,h,r=>by
   simp only [Dat] at h
   obtain ⟨a,vs,rfl,q,g⟩:=h
   cases (show u=Value.ref a from r)
   obtain ⟨its,rv,p,hz⟩:=I.tuple (cD.of q)
   obtain ⟨o,ho,hc,n,hd⟩:=p
   obtain ⟨as,ra⟩:=Inv.readsAll I ds g rv
   exact ⟨_,.tuple ho hc hd (by simpa using ra)⟩
 | .dict _,_,_,h,_=>by simp only [Dat] at h
theorem Inv.readsAll (I:Inv X pins σ H s):∀(ds:List PyData) {vs:List V} {us:List Value},aH H vs ds->Vals vs us -> ∃as,ReadsAll s.heap us ds as
 | [],[],_,_,.nil=>⟨_,.nil⟩
 | d::ds,v::vs,_,h,.cons r rs=>by
   simp only [aH] at h
   obtain ⟨as,ra⟩:=Inv.reads I d h.1 r
   obtain ⟨bs,rb⟩:=Inv.readsAll I ds h.2 rs
   exact ⟨_,.cons ra rb⟩
 | _::_,[],_,h,_=>by simp only [aH] at h
 | [],_::_,_,h,_=>by simp only [aH] at h
end
def RT (neg:Bool):R2:=fun x y H Q=>∃d e,Dat H x d/\Dat H y e/\SeqAt.shaped d=true/\SeqAt.shaped e=true/\Q (.bl (if neg then !PyData.eqv d e else PyData.eqv d e)) H
theorem Wc (hu:X.A.units+64<cLine):rR X (compareOp .Eq) (RT false):=by
 intro pins s σ H x y v u Q I rx ry h
 obtain ⟨d,e,h1,h2,s1,s2,q⟩:=h
 obtain ⟨as,ra⟩:=I.reads d h1 rx
 obtain ⟨bs,rb⟩:=I.reads e h2 ry
 exact SeqAt.compareEq_shaped ra rb s1 s2 hu ⟨.bl _,H,I,rfl,q⟩
theorem Wb (hu:X.A.units+64<cLine):rR X (compareOp .NotEq) (RT true):=by
 intro pins s σ H x y v u Q I rx ry h
 obtain ⟨d,e,h1,h2,s1,s2,q⟩:=h
 obtain ⟨as,ra⟩:=I.reads d h1 rx
 obtain ⟨bs,rb⟩:=I.reads e h2 ry
 exact SeqAt.compareNe_shaped ra rb s1 s2 hu ⟨.bl _,H,I,rfl,q⟩
theorem QD {c:Value} {cv:V} (rc:RelV cv c):fU X (.builtin "isinstance") (fun xs H Q=>∃x t b,xs=[x,cv]/\uN X.K H x t/\PySem.W.kitOne X.K t c=some b/\Q (.bl b) H):=by
 intro pins s σ H xs us Q I r h
 obtain ⟨x,t,b,rfl,ty,e,q⟩:=h
 obtain ⟨u,w',rfl,r1,r2⟩:=vals2 r
 have:w'=c:=by
  cases cv with
  | non=>exact (show w'=Value.none from r2).trans (show c=Value.none from rc).symm
  | bl b=>exact (show w'=Value.bool b from r2).trans (show c=Value.bool b from rc).symm
  | ref a=>exact (show w'=Value.ref a from r2).trans (show c=Value.ref a from rc).symm
  | ty n=>exact (show w'=Value.type n from r2).trans (show c=Value.type n from rc).symm
  | int i=>obtain ⟨t1,rfl⟩:=(show ∃t,c=Value.int i t from rc);unfold PySem.W.kitOne at e;exact absurd e (by cases ty<;>simp [PySem.W.kitCls])
  | str i=>obtain ⟨t1,rfl⟩:=(show ∃t,c=Value.str i t from rc);unfold PySem.W.kitOne at e;exact absurd e (by cases ty<;>simp [PySem.W.kitCls])
  | JZ i=>obtain ⟨t1,rfl⟩:=(show ∃t,c=Value.bytes i t from rc);unfold PySem.W.kitOne at e;exact absurd e (by cases ty<;>simp [PySem.W.kitCls])
  | flt i=>obtain ⟨t1,rfl⟩:=(show ∃t,c=Value.float i t from rc);unfold PySem.W.kitOne at e;exact absurd e (by cases ty<;>simp [PySem.W.kitCls])
 subst this
 exact K_ I r1 ty e fun tk=>⟨.bl b,H,I.tok _,rfl,q⟩
end
section
variable {prog:Program} {w:World} {A:Around}
theorem tW (hh:A.handled=none) (it a:Addr) (hne:it≠a) (its:List Value):Walks prog w A it [it,a] [it] its.length (fun i v=>its[i]? = some v) (fun i h=>h.IsListIter it a i/\h.IsList a its.toArray) where
 sub:=by simp
 frame:=fun i h h' ⟨s1,o,ho,hc⟩ k=>⟨s1.at fun o e=>k it (by simp) o e,o,k a (by simp) o ho,hc⟩
 item:=fun i s Q E hi ⟨s1,s2⟩ hQ=>wpAny_pyNext_list_item s1 s2 (x:=its[i]) (by simp [hi]) fun h' st' sb=>
  hQ _ h' s.toks (by simp [hi]) ⟨st',s2.extBut sb.extBut hne.symm⟩ fun b o hb e=>(sb.2 b (by simpa using hb)).trans e
 done:=fun s Q E ⟨s1,s2⟩ hQ=>wpAny_pyNext_list_end hh s1 s2 (by simp) fun h' eb=>hQ h' s.toks fun b o hb e=>eb b o (by simpa using hb) e
 self:=fun i s Q E ⟨s1,_⟩ hQ=>wpAny_pyIter_listiter s1 hQ
end
section
variable {X:Cx}
theorem zP (bs:List Bool):(List.range bs.length).all (fun i=>(bs[i]?).getD false)=bs.all id:=by
 rw [Bool.eq_iff_iff,List.all_eq_true,List.all_eq_true]
 constructor
 ·intro h b hb
  obtain ⟨i,hi,rfl⟩:=List.getElem_of_mem hb
  have:=h i (by simpa using hi)
  simpa [hi] using this
 ·intro h i hi
  have hi':i<bs.length:=by simpa using hi
  simpa [hi'] using h bs[i] (List.getElem_mem hi')
theorem zO (bs:List Bool):(List.range bs.length).any (fun i=>(bs[i]?).getD false)=bs.any id:=by
 rw [Bool.eq_iff_iff,List.any_eq_true,List.any_eq_true]
 constructor
 ·rintro ⟨i,hi,h⟩
  have hi':i<bs.length:=by simpa using hi
  exact ⟨bs[i],List.getElem_mem hi',by simpa [hi'] using h⟩
 ·rintro ⟨b,hb,h⟩
  obtain ⟨i,hi,rfl⟩:=List.getElem_of_mem hb
  exact ⟨i,by simpa using hi,by simpa [hi] using h⟩
theorem xP {bs:List Bool}:∀{us:List Value},Vals (bs.map V.bl) us->us=bs.map Value.bool:=by
 induction bs with
 | nil=>intro us r;cases r;rfl
 | cons b bs ih=>
   intro us r
   cases r with
   | cons r rs=>cases (show _=Value.bool b from r);rw [ih rs];rfl
theorem zB (hc:X.calm=true):fU X (.builtin "all") (fun xs H Q=>∃(p:Addr) (bs:List Bool),xs=[.ref p]/\aZ X.K H p (bs.map V.bl)/\Q (.bl (bs.all id)) H):=by
 intro pins s σ H xs us Q I r h
 obtain ⟨p,bs,rfl,hq,q⟩:=h
 obtain ⟨u,rfl,rx⟩:=vals1 r
 cases rx
 obtain ⟨its,rv,pl,hz⟩:=I.list hq
 have e:=xP rv
 have hlen:its.length=bs.length:=by rw [e,List.length_map]
 refine call_all_walk (wpAny_pyIter_list pl.isList ⟨s.heap.objs.size,[s.heap.objs.size,p],[s.heap.objs.size],its.length,_,_,fun i=>(bs[i]?).getD false,rfl,
  tW (show X.A.in1.handled=none from I.ok.hd hc) s.heap.objs.size p ?_ its,⟨⟨_,Heap.get?_push_size _ rfl,rfl,rfl⟩, ?_⟩, ?_, ?_⟩)
 ·intro z
  obtain ⟨o,ho,_⟩:=pl.isList
  have:=Heap.lt_size ho
  rw [←z] at this
  exact Nat.lt_irrefl _ this
 ·obtain ⟨o,ho,hcl⟩:=pl.isList
  exact ⟨o,Heap.get?_push_of_some _ ho,hcl⟩
 ·intro i v s1 Q1 E1 hP hQ
  rw [e,List.getElem?_map] at hP
  cases r:bs[i]? with
  | none=>rw [r] at hP;cases hP
  | some b=>
    rw [r] at hP
    cases hP
    simp only [r,Option.getD_some] at hQ
    exact wpAny_truthy_bool hQ
 ·intro h' tk k
  rw [hlen,zP]
  have f:=I.wC (H':=H) (b:=s.heap.objs.size) (Nat.le_refl _) (I.hok.fresh (Nat.le_refl _))
  have I2:Inv X pins σ H {s with heap:=h',toks:=tk}:=I.turned (h':=h') (t':=tk) (it:=s.heap.objs.size) (fun b o hb e=>k b o (by simpa using hb) (Heap.get?_push_of_some _ e)) f.1 f.2.1 f.2.2.2.1 f.2.2.2.2.1 f.2.2.2.2.2
  exact ⟨.bl _,H,I2,rfl,q⟩
theorem zy (hc:X.calm=true):fU X (.builtin "any") (fun xs H Q=>∃(p:Addr) (bs:List Bool),xs=[.ref p]/\aZ X.K H p (bs.map V.bl)/\Q (.bl (bs.any id)) H):=by
 intro pins s σ H xs us Q I r h
 obtain ⟨p,bs,rfl,hq,q⟩:=h
 obtain ⟨u,rfl,rx⟩:=vals1 r
 cases rx
 obtain ⟨its,rv,pl,hz⟩:=I.list hq
 have e:=xP rv
 have hlen:its.length=bs.length:=by rw [e,List.length_map]
 refine call_any_walk (wpAny_pyIter_list pl.isList ⟨s.heap.objs.size,[s.heap.objs.size,p],[s.heap.objs.size],its.length,_,_,fun i=>(bs[i]?).getD false,rfl,
  tW (show X.A.in1.handled=none from I.ok.hd hc) s.heap.objs.size p ?_ its,⟨⟨_,Heap.get?_push_size _ rfl,rfl,rfl⟩, ?_⟩, ?_, ?_⟩)
 ·intro z
  obtain ⟨o,ho,_⟩:=pl.isList
  have:=Heap.lt_size ho
  rw [←z] at this
  exact Nat.lt_irrefl _ this
 ·obtain ⟨o,ho,hcl⟩:=pl.isList
  exact ⟨o,Heap.get?_push_of_some _ ho,hcl⟩
 ·intro i v s1 Q1 E1 hP hQ
  rw [e,List.getElem?_map] at hP
  cases r:bs[i]? with
  | none=>rw [r] at hP;cases hP
  | some b=>
    rw [r] at hP
    cases hP
    simp only [r,Option.getD_some] at hQ
    exact wpAny_truthy_bool hQ
 ·intro h' tk k
  rw [hlen,zO]
  have f:=I.wC (H':=H) (b:=s.heap.objs.size) (Nat.le_refl _) (I.hok.fresh (Nat.le_refl _))
  have I2:Inv X pins σ H {s with heap:=h',toks:=tk}:=I.turned (h':=h') (t':=tk) (it:=s.heap.objs.size) (fun b o hb e=>k b o (by simpa using hb) (Heap.get?_push_of_some _ e)) f.1 f.2.1 f.2.2.2.1 f.2.2.2.2.1 f.2.2.2.2.2
  exact ⟨.bl _,H,I2,rfl,q⟩
end
end L2
set_option Elab.async false
set_option linter.all false
set_option maxRecDepth 100000
set_option maxHeartbeats 4000000
namespace L2
open PySem PySem.Spec PyProof.Rows
def FnAt (P:Program) (w:World) (K:PySem.W.Frag) (mg:Str->Option Value) (base:Heap) (k:Nat) (x:Str) (ps:List Str) (sp:Sp):Prop:=
 ∃f fd,cI P w K mg base nF k f fd ps sp/\mg x=some (.ref f)/\PySem.W.keepIn K (.ref f)=true/\Binds K fd ps []
section
variable {X:Cx} {k j:Nat} {x:Str} {ps:List Str} {sp:Sp} {e:Expr} {es:List Expr} {t:TA} {p pos:Pos}
theorem aW (F:FnAt X.prog X.w X.K X.mg X.base k x ps sp) (hr:mJ k X.A) (hg:Gl X x) (ha:PA X (e::es) t) (hd:(x==("__debug__" :Str))=false:=by decide)
 (he:starEach (e::es) X.env=(false,eval e X.env)::starEach es X.env:=by rfl) (hpl:(backTo pos (starEach es X.env)).any (·.1)=false:=by rfl):
 PE X (.Call (.Name x p) (e::es) [] pos) (DP sp [] E0 t):=by
 obtain ⟨f,fd,G,hm,hk,hb⟩:=F
 exact R0 G hr hg hm hk hb .nil YT ha (hdb:=hd) (he:=he) (hpl:=hpl)
end
theorem QJ:bootBuiltins "abs" = some (.builtin "abs"):=by kernel_rfl
theorem Ii:bootBuiltins "all" = some (.builtin "all"):=by kernel_rfl
theorem QH:bootBuiltins "any" = some (.builtin "any"):=by kernel_rfl
theorem fQ:bootBuiltins "len" = some (.builtin "len"):=by kernel_rfl
theorem QG:bootBuiltins "min" = some (.builtin "min"):=by kernel_rfl
theorem zE:bootBuiltins "max" = some (.builtin "max"):=by kernel_rfl
theorem Ba:bootBuiltins "sorted" = some (.builtin "sorted"):=by kernel_rfl
theorem cY:bootBuiltins "isinstance" = some (.builtin "isinstance"):=by kernel_rfl
theorem Ih:bootBuiltins "int" = some (.type "int"):=by kernel_rfl
theorem TX:bootBuiltins "bool" = some (.type "bool"):=by kernel_rfl
theorem oY:bootBuiltins "list" = some (.type "list"):=by kernel_rfl
theorem QF:bootBuiltins "tuple" = some (.type "tuple"):=by kernel_rfl
section
variable {X:Cx}
theorem R6:rR X (binaryOp .Mult) (rI IntMulOk fun i j=> .int (i*j)):=Y0 fun _ _ _ _ _ _ _ hc q=>mul_int q hc
end
def Kp (r:Addr) (H H':Hp):Prop:=∀b o,H b=some o->b≠r->H' b=some o
theorem Kp.of_same {r:Addr} {H H':Hp} (h:Same H H'):Kp r H H':=fun b o e _=>h b o e
theorem Kp.trans {r:Addr} {H H1 H2:Hp} (a:Kp r H H1) (b:Kp r H1 H2):Kp r H H2:=fun c o h n=>b c o (a c o h n) n
theorem Kp.refl (r:Addr) (H:Hp):Kp r H H:=fun _ _ h _=>h
theorem Kp.set {r:Addr} {H:Hp} {o:HO}:Kp r H (upd H r o):=fun b u e n=>by rw [aV n];exact e
theorem aB {H:Hp} {p:Addr} {o:HO} (h:H p=none):Same H (upd H p o):=fun b u e=>by rw [aV (aD e h)];exact e
theorem Same.tups {H H':Hp} (e:Same H H'):∀a xs,H a=some (HO.tup xs)->H' a=some (HO.tup xs):=fun a xs h=>e _ _ h
theorem Same.sqL {K:PySem.W.Frag} {H H':Hp} (e:Same H H'):∀a xs,aZ K H a xs->aZ K H' a xs:=fun a xs h=>e.seq h
theorem Kp.tups {H H':Hp} {r:Addr} {ys:List V} (e:Kp r H H') (hr:H r=some (.lst ys)):∀a xs,H a=some (HO.tup xs)->H' a=some (HO.tup xs):=fun a xs h=>e _ _ h (lA h hr (by intro z;cases z))
theorem Kp.tups' {H H':Hp} {r:Addr} {kvs:List (Key×V)} (e:Kp r H H') (hr:H r=some (.dK kvs)):∀a xs,H a=some (HO.tup xs)->H' a=some (HO.tup xs):=fun a xs h=>e _ _ h (lA h hr (by intro z;cases z))
end L2
namespace L2
open PySem PySem.Spec PyProof.Rows
section
variable {X:Cx} {K:PySem.W.Frag}
theorem aK (h:X.K=K):Mx X (RM K):=by subst h;exact JK
theorem aN (h:X.K=K):Mx X (B_ K):=by subst h;exact PJ
theorem JH (h:X.K=K):Mx X (rIx K):=by subst h;exact WQ
theorem iT (h:X.K=K):SlR X (N_ K):=by subst h;exact RK
theorem fH (h:X.K=K):SlR X (YB K):=by subst h;exact VF
theorem jM (h:X.K=K):rR X (compareOp .NotIn) (rIn K true):=by subst h;exact Cg
def YF (K:PySem.W.Frag):List V->Hp->VK->Prop:=fun xs H Q=>∃(p:Addr) (ys:List V),xs=[.ref p]/\(aZ K H p ys\/cD K H p ys)/\Q (.int ys.length) H
theorem bB (h:X.K=K):fU X (.builtin "len") (YF K):=by subst h;exact CQ
def RL (K:PySem.W.Frag):List V->Hp->VK->Prop:=fun xs H Q=>∃(p:Addr) (ys:List V),xs=[.ref p]/\(aZ K H p ys\/cD K H p ys) /\ ∀l,H l=none->Q (.ref l) (upd H l (.lst ys))
theorem gO (h:X.K=K):fU X (.type "list") (RL K):=by subst h;exact CP
def YL (K:PySem.W.Frag):List V->Hp->VK->Prop:=fun xs H Q=>∃(p:Addr) (bs:List Bool),xs=[.ref p]/\aZ K H p (bs.map V.bl)/\Q (.bl (bs.all id)) H
def YK (K:PySem.W.Frag):List V->Hp->VK->Prop:=fun xs H Q=>∃(p:Addr) (bs:List Bool),xs=[.ref p]/\aZ K H p (bs.map V.bl)/\Q (.bl (bs.any id)) H
theorem kZ (h:X.K=K) (hc:X.calm=true):fU X (.builtin "all") (YL K):=by subst h;exact zB hc
theorem pB (h:X.K=K) (hc:X.calm=true):fU X (.builtin "any") (YK K):=by subst h;exact zy hc
theorem qZ (h:X.K=K) (hu:X.A.units+64<cLine):rR X (compareOp .Eq) (RT false):=by subst h;exact Wc hu
theorem Ci (h:X.K=K) (hu:X.A.units+64<cLine):rR X (compareOp .NotEq) (RT true):=by subst h;exact Wb hu
theorem dg {tg l:Expr} {tl:TE} (h:X.K=K) (hl:PE X l tl):PI X tg l (UJ K tl):=by subst h;exact RZ hl
theorem Jr {tg l:Expr} {tl:TE} (h:X.K=K) (hl:PE X l tl):PI X tg l (WW K tl):=by subst h;exact V4 hl
def acX (K:PySem.W.Frag) (c:Value) (cv:V):List V->Hp->VK->Prop:=fun xs H Q=>∃x t b,xs=[x,cv]/\uN K H x t/\PySem.W.kitOne K t c=some b/\Q (.bl b) H
theorem rG {c:Value} {cv:V} (h:X.K=K) (rc:RelV cv c):fU X (.builtin "isinstance") (acX K c cv):=by subst h;exact QD rc
theorem cM {o e:Expr} {to:TE} {t:TA} {apos cpos:Pos} (h:X.K=K) (ho:PE X o to) (ha:PA X [e] t)
 (hbase:attributeBase o "append" X.env (eval o X.env)=eval o X.env:=by rfl)
 (hfew:((backTo cpos (starEach [e] X.env)).all (fun x=> !x.1)&&(backToKw cpos (keywordEach [] X.env)).all (fun x=>x.1.isSome)
   && decide (([e]:List Expr).length+([]:List Keyword).length+(if ([]:List Keyword).isEmpty then 0 else 1)<30))=true:=by rfl)
 (hline:(apos.endLine==cpos.line)=true:=by rfl) (hs:starEach [e] X.env=(false,eval e X.env)::starEach [] X.env:=by rfl) (hplain:(backTo cpos (starEach [] X.env)).any (·.1)=false:=by rfl):
 PE X (.Call (.Attribute o "append" apos) [e] [] cpos) (tBM K "list" Ca to t):=by
 subst h
 exact Us PySem.F.plainAttrs_list PySem.F.slot_list_append PySem.F.type_list_append Al ho ha hbase hfew hline hs hplain
end
end L2
namespace L2
open PySem
section
variable {K:PySem.W.Frag} {a D:Addr} {xs:List V} {g:TG} {tc:TT} {te:TE} {Q:VK} {σ0:St} {H1:Hp}
theorem rE (Pv:Nat->St->Hp->Prop) (h0:Pv 0 σ0 (upd H1 D (.lst []))) (hl:∀i σ H,i<=xs.length->Pv i σ H->aZ K H a xs)
 (hs:∀i x σ H,xs[i]? = some x->Pv i σ H->g x σ H fun σ2 H2=>tc σ2 H2 fun b H3=>
   if b=true then te σ2 H3 fun y H4=>∃acc,H4 D=some (.lst acc)/\acc.length<sizeLine/\Pv (i+1) σ2 (upd H4 D (.lst (acc++[y]))) else Pv (i+1) σ2 H3)
 (hd:∀σ H,Pv xs.length σ H->Q (.ref D) H):qQ (Ua K a) g tc te Q D σ0 H1:=by
 refine ⟨fun i m σ H=>m=xs.length - i/\i<=xs.length/\Pv i σ H,⟨xs.length,by simp,Nat.zero_le _,h0⟩, ?_⟩
 rintro i m σ H ⟨rfl,hi,p⟩
 have q:=hl i σ H hi p
 by_cases hlt:i<xs.length
 ·refine .inr ⟨⟨xs,xs[i],q,by simp [hlt]⟩,Pv (i+1),fun σ' H' p'=>⟨xs.length - (i+1),by omega,rfl,hlt,p'⟩,fun x H' y=> ?_⟩
  obtain ⟨e,y⟩:=y
  subst e
  exact hs i x σ _ (y xs q) p
 ·have e:i=xs.length:=by omega
  subst e
  exact .inl ⟨⟨xs,q,Nat.le_refl _⟩,hd σ H p⟩
theorem QB (Pv:Nat->St->Hp->Prop) (h0:Pv 0 σ0 (upd H1 D (.lst []))) (hl:∀i σ H,i<=xs.length->Pv i σ H->cD K H a xs)
 (hs:∀i x σ H,xs[i]? = some x->Pv i σ H->g x σ H fun σ2 H2=>tc σ2 H2 fun b H3=>
   if b=true then te σ2 H3 fun y H4=>∃acc,H4 D=some (.lst acc)/\acc.length<sizeLine/\Pv (i+1) σ2 (upd H4 D (.lst (acc++[y]))) else Pv (i+1) σ2 H3)
 (hd:∀σ H,Pv xs.length σ H->Q (.ref D) H):qQ (Itt K a) g tc te Q D σ0 H1:=by
 refine ⟨fun i m σ H=>m=xs.length - i/\i<=xs.length/\Pv i σ H,⟨xs.length,by simp,Nat.zero_le _,h0⟩, ?_⟩
 rintro i m σ H ⟨rfl,hi,p⟩
 have q:=hl i σ H hi p
 by_cases hlt:i<xs.length
 ·refine .inr ⟨⟨xs,xs[i],q,by simp [hlt]⟩,Pv (i+1),fun σ' H' p'=>⟨xs.length - (i+1),by omega,rfl,hlt,p'⟩,fun x H' y=> ?_⟩
  obtain ⟨e,y⟩:=y
  subst e
  exact hs i x σ _ (y xs q) p
 ·have e:i=xs.length:=by omega
  subst e
  exact .inl ⟨⟨xs,q,Nat.le_refl _⟩,hd σ H p⟩
theorem H_ {lo:Int} {n:Nat} (Pv:Nat->St->Hp->Prop) (h0:Pv 0 σ0 (upd H1 D (.lst [])))
 (hs:∀i σ H,i<n->Pv i σ H->g (.int (lo+i)) σ H fun σ2 H2=>tc σ2 H2 fun b H3=>
   if b=true then te σ2 H3 fun y H4=>∃acc,H4 D=some (.lst acc)/\acc.length<sizeLine/\Pv (i+1) σ2 (upd H4 D (.lst (acc++[y]))) else Pv (i+1) σ2 H3)
 (hd:∀σ H,Pv n σ H->Q (.ref D) H):qQ (Ve lo n) g tc te Q D σ0 H1:=by
 refine ⟨fun i m σ H=>m=n - i/\i<=n/\Pv i σ H,⟨n,by simp,Nat.zero_le _,h0⟩, ?_⟩
 rintro i m σ H ⟨rfl,hi,p⟩
 by_cases hlt:i<n
 ·refine .inr ⟨hlt,Pv (i+1),fun σ' H' p'=>⟨n - (i+1),by omega,rfl,hlt,p'⟩,fun x H' y=> ?_⟩
  obtain ⟨e,y⟩:=y
  subst e y
  exact hs i σ _ hlt p
 ·have e:i=n:=by omega
  subst e
  exact .inl ⟨Nat.le_refl _,hd σ H p⟩
end
end L2
set_option Elab.async false
set_option linter.all false
set_option maxRecDepth 100000
set_option maxHeartbeats 4000000
namespace L2
open PySem PySem.Spec PyProof.Rows
section
variable {α:Type} (f:α->PyData)
theorem zx:∀(l:List α),(∀x∈l,(f x).canLay0=true)->PyData.canLayAll0 (l.map f)=true
 | [],_=>rfl
 | a::l,h=>by
   show (PyData.canLay0 (f a)&&PyData.canLayAll0 (l.map f))=true
   rw [h a List.mem_cons_self,zx l fun x hx=>h x (List.mem_cons_of_mem _ hx)];rfl
theorem gq (k:Nat):∀(l:List α),(∀x∈l,(f x).depth<=k)->PyData.depthAll (l.map f)<=k
 | [],_=>Nat.zero_le _
 | a::l,h=>by
   show max (PyData.depth (f a)) (PyData.depthAll (l.map f))<=k
   exact Nat.max_le.mpr ⟨h a List.mem_cons_self,gq k l fun x hx=>h x (List.mem_cons_of_mem _ hx)⟩
theorem jR {l:List α} (k:Nat) (hk:k<64) (h1:∀x∈l,(f x).canLay0=true) (h2:∀x∈l,(f x).depth<=k):SeqAt.shaped (.list (l.map f))=true:=by
 unfold SeqAt.shaped
 have e1:PyData.canLay0 (.list (l.map f))=true:=zx f l h1
 have e2:PyData.depth (.list (l.map f))<=64:=by
  show PyData.depthAll (l.map f)+1<=64
  have:=gq f k l h2
  omega
 rw [e1,decide_eq_true e2];rfl
theorem yX [DecidableEq α] (h:∀x y,PyData.eqv (f x) (f y)=decide (x=y)):∀(l m:List α),PyData.eqvAll (l.map f) (m.map f)=decide (l=m)
 | [],[]=>rfl
 | [],_::_=>by simp only [List.map_nil,List.map_cons,PyData.eqvAll];exact (decide_eq_false (by intro z;cases z)).symm
 | _::_,[]=>by simp only [List.map_nil,List.map_cons,PyData.eqvAll];exact (decide_eq_false (by intro z;cases z)).symm
 | a::l,b::m=>by
   simp only [List.map_cons,PyData.eqvAll]
   rw [h a b,yX h l m]
   by_cases e1:a=b
   ·subst e1
    by_cases e2:l=m
    ·subst e2;simp
    ·simp [e2]
   ·simp [e1]
theorem jV [DecidableEq α] (h:∀x y,PyData.eqv (f x) (f y)=decide (x=y)) (l m:List α):PyData.eqv (.list (l.map f)) (.list (m.map f))=decide (l=m):=by
 simp only [PyData.eqv];exact yX f h l m
end
theorem jW {H:Hp} {a:Addr} {vs:List V} {ds:List PyData} (h:H a=some (.lst vs)) (d:aH H vs ds):Dat H (.ref a) (.list ds):=by
 simp only [Dat]
 exact ⟨a,vs,rfl,h,d⟩
theorem Fp (K:PySem.W.Frag):PySem.W.kitOne K (.type "int") (.type "int")=some true:=rfl
theorem Cv (K:PySem.W.Frag):PySem.W.kitOne K (.type "int") (.type "bool")=some false:=by kernel_rfl
theorem zU (K:PySem.W.Frag):PySem.W.kitOne K (.type "list") (.type "list")=some true:=rfl
theorem wA (K:PySem.W.Frag):PySem.W.kitOne K (.type "tuple") (.type "tuple")=some true:=rfl
end L2
namespace L2
open PySem
theorem zm (xs:List V) (k:Nat):fL xs none (some (k:Int))=xs.take k:=by
 unfold fL
 rw [HT.yq,HT.uD,List.drop_zero,Nat.sub_zero]
 by_cases h:k<=xs.length
 ·rw [Nat.min_eq_left h]
 ·rw [Nat.min_eq_right (by omega),List.take_of_length_le (Nat.le_refl _),List.take_of_length_le (by omega)]
theorem uM (xs:List V) (k:Nat):fL xs (some (k:Int)) none=xs.drop k:=by
 unfold fL
 rw [HT.yq,HT.uD]
 by_cases h:k<=xs.length
 ·rw [Nat.min_eq_left h,List.take_of_length_le (by rw [List.length_drop];exact Nat.le_refl _)]
 ·rw [Nat.min_eq_right (by omega),Nat.sub_self,List.take_zero,List.drop_of_length_le (by omega)]
end L2
set_option Elab.async false
set_option linter.all false
set_option maxRecDepth 100000
set_option maxHeartbeats 4000000
namespace PySem.W
open PySem PySem.Spec PySem.Calls PyProof.Rows
theorem Tj:builtinKind "BaseException.__getattribute__" = some .slot:=by decide +kernel
theorem Qf:splitId "BaseException.__getattribute__" = some ("BaseException","__getattribute__"):=by decide +kernel
section
variable {prog:Program} {w:World} {A:Around} {E:Value->Shared->Prop} {s:Shared} {K:Frag} {x D:Addr} {ox:Obj} {odo:Option Obj} {name:Str}
theorem Lh {M:Model} {nameV:Value} {Q:Unit->Shared->Prop} (X:K.In s.heap) (I:InstAt s.heap x ox D odo) (hB:mroIn K D (.type "BaseException")=some true) (hq:Q () s):
 wpAny M A (checkBuiltinCall "BaseException.__getattribute__" ⟨[.ref x,nameV],[]⟩) Q E s:=by
 obtain ⟨hh,g,d,t,os⟩:=s
 have L0:=I.type (M:=M)
 have L3:=looks_mroIn (M:=M) X hB
 have ha:=F.args_bexc_ga (.ref x) nameV
 simp only [checkBuiltinCall,Tj,Qf]
 unfold isInstance
 repeat (first |lk|wp_step)
 all_goals first |exact hq|trace_state
theorem Qm {Q:Option Value->Shared->Prop} {gv a:Value} (X:K.In s.heap) (I:InstAt s.heap x ox D odo) (hga:findIn K (.ref D) "__getattribute__" = some (some (.builtin "BaseException.__getattribute__")))
 (hk:findIn K (.ref D) "__getattr__" = some none) (hB:mroIn K D (.type "BaseException")=some true) (hf:findObj K D odo name=some (.bind gv a))
 (FB:Slot "Exception" "__getattribute__" "BaseException.__getattribute__")
 (h:∀A',codeAny (model prog w) A' (.call gv ⟨[a,.ref x,.ref D],[]⟩) (fun r s'=>match r with | .ok (.ret v)=>wpAny (model prog w) A (handedOut v) (fun v s''=>Q (some v) s'') (fun _ _=>False) s'|_=>False) {s with toks:=s.toks+1}):
 wpAny (model prog w) A (getAttr? (.ref x) name) Q E s:=by
 obtain ⟨hh,g,d,t,os⟩:=s
 have L0:=I.type (M:=model prog w)
 have L1:=looks_findIn (M:=model prog w) X hga
 have L2:=looks_findIn (M:=model prog w) X hk
 have L4:=looks_find (M:=model prog w) X I hf
 have hx2:(Value.builtin "BaseException.__getattribute__" == Value.builtin "object.__getattribute__")=false:=by decide +kernel
 have f3:=FB.bind (.ref x)
 unfold getAttr? getAttrBy? getAttrBy
 refine wpAny_bind (wpAny_mkText (wpAny_bind (wpAny_attempt (wpAny_holding (wpAny_bind (L0.at (wpAny_bind (L1.at ?_))))))))
 simp only [hx2,Bool.and_false,Bool.false_eq_true,if_false]
 unfold getAttrByItsOwn hookBefore
 show wpAny _ _ (typeLookup (.ref D) "__getattr__" >>= _) _ _ _
 refine wpAny_bind (L2.at ?_)
 refine wpAny_bind (wpAny_attempt (wpAny_holding ?_))
 unfold callGetattribute boundAndCalled
 rw [if_neg (by decide)]
 refine wpAny_bind (wpAny_of_eq f3 ?_)
 refine wpAny_call (codeAny_call_builtin FB.plain F.entry_bexc_ga (Lh (s:=⟨hh,g,d,t+1,os⟩) X I hB ?_))
 show wpAny _ _ (Builtin.«object.__getattribute__» ⟨[.ref x,.str name t],[]⟩) _ _ _
 unfold Builtin.«object.__getattribute__»
 refine wpAny_bind (wpAny_pure ?_)
 refine wpAny_bind (wpAny_pure ?_)
 refine wpAny_bind (L0.at (wpAny_bind (L4.at ?_)))
 show wpAny _ _ (Builtin.ObjectAttr.bindTo gv a (.ref x) (.ref D)) _ _ _
 unfold Builtin.ObjectAttr.bindTo
 show wpAny _ _ (holding [a] (call gv [a,.ref x,.ref D]) >>= fun v=>ret v) _ _ _
 refine wpAny_bind (wpAny_holding (wpAny_call (codeAny_mono (h _) fun r s' hr=> ?_)))
 match r,hr with
 | .ok (.ret v),hr=>
   refine wpAny_pure ?_
   exact wpAny_mono hr (fun v s'' q=>wpAny_pure q) fun _ _ z=>z.elim
end
theorem Ql:Slot "Exception" "__getattribute__" "BaseException.__getattribute__" :=F.attr_Exception.ga
theorem zW {K:Frag} {C:Addr} {od:Option Obj} {name:Str} {a g:Value} (hc:(clsIn K C).isSome=true) (ha:findIn K (.ref C) name=some (some a)) (hg:specialIn K a "__get__" = some (some g)) (ht:takesIn K a=some true):findObj K C od name=some (.bind g a):=by
 obtain ⟨cd,hc⟩:=Option.isSome_iff_exists.mp hc
 unfold findObj
 rw [hc,Option.bind_some,ha,Option.bind_some]
 simp [hg,ht]
theorem Lg {prog:Program} {w:World} {A:Around} {E:Value->Shared->Prop} {s:Shared} {K:Frag} {x D:Addr} {ox:Obj} {odo:Option Obj} {Q:Option Value->Shared->Prop} (X:K.In s.heap) (I:InstAt s.heap x ox D odo)
 (hga:findIn K (.ref D) "__getattribute__" = some (some (.builtin "BaseException.__getattribute__"))) (hk:findIn K (.ref D) "__getattr__" = some none) (hB:mroIn K D (.type "BaseException")=some true)
 (hc:(clsIn K D).isSome=true) (ha:findIn K (.ref D) "__class__" = some (some (.builtin "object.__class__")))
 (hn:specialIn K (.builtin "object.__class__") "__get__" = some (some (.builtin "getset_descriptor.__get__"))) (htk:takesIn K (.builtin "object.__class__")=some true) (hm:mroIn K D (.type "object")=some true)
 (h:Q (some (.ref D)) {s with toks:=s.toks+1}):wpAny (model prog w) A (getAttr? (.ref x) "__class__") Q E s:=by
 have hf:findObj K D odo "__class__" = some (.bind (.builtin "getset_descriptor.__get__") (.builtin "object.__class__")):=zW hc ha hn htk
 exact Qm X I hga hk hB hf Ql fun A'=>class_get (s:={s with toks:=s.toks+1}) X I hm (handed_on rfl h)
structure T9 (K:Frag) (D:Addr):Prop where
 hga:findIn K (.ref D) "__getattribute__" = some (some (.builtin "BaseException.__getattribute__"))
 hk:findIn K (.ref D) "__getattr__" = some none
 hB:mroIn K D (.type "BaseException")=some true
 hc:(clsIn K D).isSome=true
 ha:findIn K (.ref D) "__class__" = some (some (.builtin "object.__class__"))
 hn:specialIn K (.builtin "object.__class__") "__get__" = some (some (.builtin "getset_descriptor.__get__"))
 htk:takesIn K (.builtin "object.__class__")=some true
 hm:mroIn K D (.type "object")=some true
theorem Fo {K:Frag} {x D:Addr} (c:T9 K D):KitX K (.ref x) (.ref D) (fun h=>∃ox odo,InstAt h x ox D odo) where
 ty:=fun _ _ _ ⟨_,_,I⟩=>I.type
 it:=fun _ _ X _=>by
  have hc:=c.hc
  unfold clsIn at hc
  split at hc
  ·rename_i c' d' cd' sl' ho
   intro A' Q' E' s' k q
   unfold isType loadHead
   exact wpAny_bind (wpAny_loadPart (k _ _ (X _ _ ho)) (wpAny_pure q))
  ·cases hc
 ne:=fun h tp dd its n sl X htp=>by
  have hc:=c.hc
  refine Bool.eq_false_iff.mpr fun q=> ?_
  have e:D=tp:=Value.ref.inj (beq_iff_eq.mp q)
  subst e
  unfold clsIn at hc
  split at hc
  ·rename_i c' d' cd' sl' ho
   have z:=(X _ _ ho).symm.trans htp
   cases z
  ·cases hc
 ca:=fun X ⟨_,_,I⟩ k=>Lg X I c.hga c.hk c.hB c.hc c.ha c.hn c.htk c.hm k
end PySem.W
set_option Elab.async false
set_option linter.all false
set_option maxRecDepth 100000
set_option maxHeartbeats 4000000
namespace L2
open PySem PySem.Spec PyProof.Rows
def vL (h:Heap) (e:Addr) (cls:Value) (dx:Option Addr) (lo:Addr->Prop):Option Value->Prop
 | none=>∃oe vs,h.get? e=some oe/\oe.cls=cls/\oe.dict=dx/\oe.data = .fields vs/\vs[1]? = some .none
 | some f=>∃oe vs T oT ts,h.get? e=some oe/\oe.cls=cls/\oe.dict=dx/\oe.data = .fields vs/\vs[1]? = some (.ref T)/\lo T/\T≠e/\h.get? T=some oT/\oT.data = .fields ts/\ts[3]? = some f
theorem vL.there {h:Heap} {e:Addr} {cls:Value} {dx:Option Addr} {lo:Addr->Prop} {f:Option Value} (x:vL h e cls dx lo f):∃oe vs,h.get? e=some oe/\oe.cls=cls/\oe.dict=dx/\oe.data = .fields vs:=by
 cases f with
 | none=>obtain ⟨oe,vs,a,b,c,d,_⟩:=x;exact ⟨oe,vs,a,b,c,d⟩
 | some f=>obtain ⟨oe,vs,_,_,_,a,b,c,d,_⟩:=x;exact ⟨oe,vs,a,b,c,d⟩
section
variable {M:Model} {A:Around} {E:Value->Shared->Prop} {s:Shared} {base:Heap} {env:Env} {outer:List Env} {L e:Addr}
structure qP (fr:List Addr) (e:Addr) (lo:Addr->Prop) (h h':Heap):Prop where
 keep:∀b o,h.get? b=some o->b∉fr->b≠e -> ¬lo b->h'.get? b=some o
 slot:∀b o,h.get? b=some o->b∈fr->b≠e -> ¬lo b -> ∃sl,h'.get? b=some {o with slots:=sl}
 there:∀b o,h.get? b=some o -> ∃o',h'.get? b=some o'
theorem qP.trans {fr:List Addr} {lo:Addr->Prop} {h h1 h2:Heap} (a:qP fr e lo h h1) (b:qP fr e lo h1 h2):qP fr e lo h h2 where
 keep:=fun c o q n1 n2 n3=>b.keep c o (a.keep c o q n1 n2 n3) n1 n2 n3
 slot:=fun c o q n1 n2 n3=>by
  obtain ⟨sl,q1⟩:=a.slot c o q n1 n2 n3
  obtain ⟨sl2,q2⟩:=b.slot c _ q1 n1 n2 n3
  exact ⟨sl2,q2⟩
 there:=fun c o q=>by
  obtain ⟨o1,q1⟩:=a.there c o q
  exact b.there c o1 q1
theorem oM {h:Heap} {a:Addr} {o:Obj} {vs:Array Value} (q:h.get? a=some o) (d:o.data = .fields vs) (i:Nat) (v:Value):
 (h.update a (Obj.mapFields (·.setIfInBounds i v))).get? a=some (Obj.mapFields (·.setIfInBounds i v) o)/\(Obj.mapFields (·.setIfInBounds i v) o).data = .fields (vs.setIfInBounds i v) /\
   (Obj.mapFields (·.setIfInBounds i v) o).cls=o.cls/\(Obj.mapFields (·.setIfInBounds i v) o).dict=o.dict:=by
 have d2:=Obj.data_mapFields d (·.setIfInBounds i v)
 refine ⟨Heap.get?_update_self _ q (Obj.isFreed_of_fields d2),d2,Obj.cls_mapFields _ _, ?_⟩
 obtain ⟨c,dd,dt,sl⟩:=o
 simp only at d
 subst d
 rfl
theorem M7 {oe:Obj} {vs:Array Value} {head:Value} {hadNext:Bool} {cls:Value} {dx:Option Addr} {lo:Addr->Prop} {Q:Unit->Shared->Prop} (hfr:A.frames=some (env::outer)) (hl:s.heap.FunFrames base (env::outer)) (hf:env.frame=some L)
 (he:s.heap.get? e=some oe) (hd:oe.data = .fields vs) (hsz:1<vs.size) (hc:oe.cls=cls) (hdx:oe.dict=dx) (hlo:∀T,s.heap.get? T=none->lo T)
 (h:∀h',qP (frs (env::outer)) e lo s.heap h'->vL h' e cls dx lo (some (rawInt L))->Q () {s with heap:=h'}):
 wpAny M A (do let a ←frameOf env;let pl ←entryPlaceOf L hadNext;let b ←EntryCells.newEntry head a .none (rawInt L) .none pl;setField (.ref e) 1 b) Q E s:=by
 have nfr:e∉frs (env::outer):=fun hm=>by
  obtain ⟨_,o,q,nf⟩:=hl.mem hm
  rw [he] at q
  cases q
  exact nf vs hd
 refine wpAny_bind (wpAny_frameOf_fun hfr hl hf fun h1 hs1=> ?_)
 refine wpAny_bind (wpAny_entryPlaceOf fun pl hpl=> ?_)
 unfold EntryCells.newEntry newFields
 refine wpAny_bind (wpAny_newObj_type ?_ (hpl.sizeOk5 _ _ _ _ _))
 generalize hob:({cls:= .type "traceback",dict:=none,data:= .fields ([head,.ref L,.none,rawInt L,.none]++(if pl.isEmpty then List.replicate 6 Value.none else pl)).toArray}:Obj)=ob
 have q1:h1.get? e=some oe:=(hs1.2.1 e nfr).trans he
 have q2:=Heap.get?_push_of_some (h:=h1) ob q1
 have nTe:h1.objs.size≠e:=Nat.ne_of_gt (Heap.lt_size q1)
 have sizes:h1.objs.size=s.heap.objs.size:=hs1.1
 have newT:s.heap.get? h1.objs.size=none:=Heap.get?_none_of_le (by rw [sizes];exact Nat.le_refl _)
 refine wpAny_setField q2 hd hsz (h _ ⟨fun b o q n1 n2 n3=> ?_,fun b o q n1 n2 n3=> ?_,fun b o q=> ?_⟩ ?_)
 ·rw [Heap.get?_update_other _ _ (Ne.symm n2)]
  exact Heap.get?_push_of_some _ ((hs1.2.1 b n1).trans q)
 ·obtain ⟨sl,q3⟩:=hs1.2.2 b o q
  refine ⟨sl, ?_⟩
  rw [Heap.get?_update_other _ _ (Ne.symm n2)]
  exact Heap.get?_push_of_some _ q3
 ·obtain ⟨sl,q3⟩:=hs1.2.2 b o q
  by_cases hb:b=e
  ·subst hb
   exact ⟨_,(oM q2 hd 1 _).1⟩
  ·refine ⟨{o with slots:=sl}, ?_⟩
   rw [Heap.get?_update_other _ _ (Ne.symm hb)]
   exact Heap.get?_push_of_some _ q3
 ·obtain ⟨u1,u2,u3,u4⟩:=oM q2 hd 1 (Value.ref h1.objs.size)
  refine ⟨_,_,h1.objs.size,ob,_,u1,u3.trans hc,u4.trans hdx,u2,by simp [hsz],hlo _ newT,nTe, ?_,by rw [←hob], ?_⟩
  ·rw [Heap.get?_update_other _ _ (Ne.symm nTe)]
   exact Heap.get?_push_size _ (by rw [←hob];rfl)
  ·first |(simp;done)|(rcases hpl with rfl|⟨_,_,_,_,_,_,_,rfl⟩<;>simp)
theorem Ui {cls:Value} {dx:Option Addr} {lo:Addr->Prop} {Q:Unit->Shared->Prop} {fl:Option Value} (hfl:fl=none\/fl=some .none) (hfr:A.frames=some (env::outer)) (hl:s.heap.FunFrames base (env::outer)) (hf:env.frame=some L)
 (x:vL s.heap e cls dx lo fl) (hlo:∀T,s.heap.get? T=none->lo T)
 (h:∀h',qP (frs (env::outer)) e lo s.heap h'->vL h' e cls dx lo (some (rawInt L))->Q () {s with heap:=h'}):wpAny M A (noteFrame (.ref e) env) Q E s:=by
 unfold noteFrame
 simp only [hf]
 rcases hfl with rfl|rfl
 ·obtain ⟨oe,vs,he,hc,hdx,hd,h1⟩:=x
  refine wpAny_bind (wpAny_field he hd h1 ?_)
  rw [if_neg (by decide)]
  exact M7 hfr hl hf he hd (Array.getElem?_eq_some_iff.mp h1).1 hc hdx hlo h
 ·obtain ⟨oe,vs,T,oT,ts,he,hc,hdx,hd,h1,hT,nT,Rq,hdT,h3⟩:=x
  refine wpAny_bind (wpAny_field he hd h1 ?_)
  rw [if_pos (show (Value.ref T != Value.none)=true from by simp)]
  refine wpAny_bind (wpAny_field Rq hdT h3 ?_)
  rw [if_neg (show ¬((Value.none==rawInt L)=true) from by simp [rawInt])]
  have hs3:3<ts.size:=(Array.getElem?_eq_some_iff.mp h3).1
  refine wpAny_bind (wpAny_setField Rq hdT hs3 ?_)
  have oth:∀b,b≠T->(s.heap.update T (Obj.mapFields (·.setIfInBounds 3 Value.none))).get? b=s.heap.get? b:=fun b hb=>Heap.get?_update_other _ _ (Ne.symm hb)
  obtain ⟨u1,u2,u3,u4⟩:=oM Rq hdT 3 Value.none
  have n0:qP (frs (env::outer)) e lo s.heap (s.heap.update T (Obj.mapFields (·.setIfInBounds 3 Value.none))):=by
   have nb:∀b,¬lo b->b≠T:=fun b hb z=>hb (by rw [z];exact hT)
   refine ⟨fun b o q _ _ n3=>(oth b (nb b n3)).trans q,fun b o q _ _ n3=>⟨o.slots,(oth b (nb b n3)).trans q⟩,fun b o q=> ?_⟩
   by_cases hb:b=T
   ·subst hb;exact ⟨_,u1⟩
   ·exact ⟨o,(oth b hb).trans q⟩
  have ffs:(s.heap.update T (Obj.mapFields (·.setIfInBounds 3 Value.none))).FunFrames base (env::outer):=hl.of_keeps fun b o q nf=>by
   by_cases hb:b=T
   ·subst hb;rw [Rq] at q;cases q;exact absurd hdT (nf ts)
   ·exact ⟨o,(oth b hb).trans q,rfl⟩
  refine M7 (s:={s with heap:=s.heap.update T (Obj.mapFields (·.setIfInBounds 3 Value.none))}) hfr ffs hf ((oth e (Ne.symm nT)).trans he) hd (Array.getElem?_eq_some_iff.mp h1).1 hc hdx (fun T' z=> ?_) fun h' n1 x1=>h h' (n0.trans n1) x1
  by_cases hb:T'=T
  ·rw [hb];exact hT
  ·exact hlo T' ((oth T' hb).symm.trans z)
theorem M6 {cls:Value} {dx:Option Addr} {lo:Addr->Prop} {Q:Unit->Shared->Prop} {fr:List Addr} {f:Value} (x:vL s.heap e cls dx lo (some f))
 (h:∀h',qP fr e lo s.heap h'->vL h' e cls dx lo (some .none)->Q () {s with heap:=h'}):wpAny M A (setFlight (.ref e) none) Q E s:=by
 obtain ⟨oe,vs,T,oT,ts,he,hc,hdx,hd,h1,hT,nT,Rq,hdT,h3⟩:=x
 have hs3:3<ts.size:=(Array.getElem?_eq_some_iff.mp h3).1
 unfold setFlight
 refine wpAny_bind (wpAny_field he hd h1 ?_)
 rw [if_pos (show (Value.ref T != Value.none)=true from by simp)]
 have oth:∀b,b≠T->(s.heap.update T (Obj.mapFields (·.setIfInBounds 3 Value.none))).get? b=s.heap.get? b:=fun b hb=>Heap.get?_update_other _ _ (Ne.symm hb)
 obtain ⟨u1,u2,u3,u4⟩:=oM Rq hdT 3 Value.none
 have nb:∀b,¬lo b->b≠T:=fun b hb z=>hb (by rw [z];exact hT)
 refine wpAny_setField Rq hdT hs3 (h _ ⟨fun b o q _ _ n3=>(oth b (nb b n3)).trans q,fun b o q _ _ n3=>⟨o.slots,(oth b (nb b n3)).trans q⟩,fun b o q=> ?_⟩ ?_)
 ·by_cases hb:b=T
  ·subst hb;exact ⟨_,u1⟩
  ·exact ⟨o,(oth b hb).trans q⟩
 ·exact ⟨oe,vs,T,_,_,(oth e (Ne.symm nT)).trans he,hc,hdx,hd,h1,hT,nT,u1,u2,by simp [hs3]⟩
end
section
variable {X:Cx} {pins:List (Addr×Obj)} {σ:St} {H:Hp} {s:Shared} {e:Addr}
theorem bQ.there {P:Program} {w:World} {H:Hp} {h:Heap} {a:Addr} {o:HO} (x:bQ P w H h a o):∃ob,h.get? a=some ob:=by
 induction o with
 | lst xs=>obtain ⟨_,_,_,_,q⟩:=x;exact ⟨_,q⟩
 | tup xs=>obtain ⟨_,_,_,ob,q,_⟩:=x;exact ⟨ob,q⟩
 | dK kvs=>obtain ⟨_,_,_,_,ob,_,_,q,_⟩:=x;exact ⟨ob,q⟩
 | dT kvs=>obtain ⟨_,_,_,_,ob,_,_,q,_⟩:=x;exact ⟨ob,q⟩
 | set S n=>obtain ⟨ob,_,_,_,q,_⟩:=x;exact ⟨ob,q⟩
 | ins C dx fs=>obtain ⟨_,_,_,q,_⟩:=x;exact ⟨_,q⟩
 | own y=>exact x
 | xd fs=>obtain ⟨_,⟨ob,_,_,q,_⟩,_⟩:=x;exact ⟨ob,q⟩
 | rng lo hi=>obtain ⟨_,_,_,q⟩:=x;exact ⟨_,q⟩
 | jB ob u ih=>exact ⟨ob,x.1⟩
 | Ry ps=>exact ⟨_,x⟩
 | met f y=>exact ⟨_,x⟩
 | ext φ=>exact x.2.1
def Dh (X:Cx) (pins:List (Addr×Obj)) (H:Hp) (b:Addr):Prop:=
 H b=none/\b≠X.env.locals/\b∉X.fs/\X.s₀.heap.get? b=none/\(∀x c,X.env.cells.lookup x=some c->c≠b) /\ ∀p∈X.pn++pins,p.1≠b
theorem Inv.xfp (I:Inv X pins σ H s) (hx:X.ex=[]) {b:Addr} (hb:s.heap.get? b=none):Dh X pins H b:=by
 refine ⟨?_,fun z=> ?_,fun z=> ?_, ?_,fun x c q z=> ?_,fun p hp z=> ?_⟩
 ·cases q:H b with
  | none=>rfl
  | some o=>
    obtain ⟨ob,r⟩:=(I.hok b o q).there
    rw [hb] at r;cases r
 ·obtain ⟨m,⟨o,_,_,r,_⟩,_⟩:=I.loc
  rw [←z,hb] at r;cases r
 ·obtain ⟨_,o,r,_⟩:=I.rO.mem z
  rw [hb] at r;cases r
 ·cases q:X.s₀.heap.get? b with
  | none=>rfl
  | some o=>
    obtain ⟨o',r⟩:=I.base.there b o q (by rw [hx];simp)
    rw [hb] at r;cases r
 ·obtain ⟨v,o,r,_⟩:=I.cell x c q
  rw [z,hb] at r;cases r
 ·obtain ⟨r,_⟩:=I.pin p hp
  rw [z,hb] at r;cases r
theorem Inv.noted {lo:Addr->Prop} {h':Heap} (I:Inv X pins σ H s) (n:qP (frs X.stack) e lo s.heap h') (hlo:∀b,(b=e\/lo b)->Dh X pins H b\/s.heap.get? b=none):Inv X pins σ H {s with heap:=h'}:=by
 have off:∀b o,s.heap.get? b=some o->(¬Dh X pins H b)->b≠e /\ ¬lo b:=fun b o q nx=>
  ⟨fun z=>(hlo b (.inl z)).elim nx fun r=>(by rw [r] at q;cases q),fun z=>(hlo b (.inr z)).elim nx fun r=>(by rw [r] at q;cases q)⟩
 have any:∀b o,s.heap.get? b=some o->(¬Dh X pins H b) -> ∃sl,h'.get? b=some {o with slots:=sl}:=fun b o q nx=>by
  obtain ⟨n1,n2⟩:=off b o q nx
  by_cases hb:b∈frs X.stack
  ·exact n.slot b o q hb n1 n2
  ·exact ⟨o.slots,n.keep b o q hb n1 n2⟩
 have s0:∀b o,X.s₀.heap.get? b=some o -> ¬Dh X pins H b:=fun b o q x=>by rw [x.2.2.2.1] at q;cases q
 have Uw:∀b o,X.s₀.heap.get? b=some o->b≠X.env.locals:=fun b o q=>Nat.ne_of_lt (Nat.lt_of_lt_of_le (Heap.lt_size q) I.ok.above)
 have nst:∀b,b≠X.env.locals->b∉X.fs->b∉frs X.stack:=fun b n1 n2 z=>(List.mem_cons.mp (I.xW b z)).elim n1 n2
 have Rm:∀b o,H b=some o -> ¬Dh X pins H b:=fun b o q x=>by rw [x.1] at q;cases q
 have Yh:∀b o,H b=some o->b∉frs X.stack:=fun b o q z=>by rw [I.Bq b z] at q;cases q
 have cl:∀x c,X.env.cells.lookup x=some c -> ∀v,s.heap.IsCell c v->h'.IsCell c v:=fun x c q v ⟨o,ho,hd⟩=>by
  obtain ⟨sl,r⟩:=any c o ho fun z=>z.2.2.2.2.1 x c q rfl
  exact ⟨_,r,hd⟩
 refine ⟨I.ok,I.os,I.bare,⟨fun b o q nn hb hx=> ?_,fun b o q nn hb hx=> ?_,I.base.free,fun b o q hx=> ?_,I.base.tups,I.base.rP,I.base.u9⟩, ?_,fun x c q=> ?_,I.free,I.jg,fun p hp=> ?_,fun a o q=> ?_,I.len⟩
 ·have q1:=I.base.keep b o q nn hb hx
  obtain ⟨n1,n2⟩:=off b o q1 (s0 b o q)
  exact n.keep b o q1 (nst b (Uw b o q) hb) n1 n2
 ·obtain ⟨sl,q1⟩:=I.base.slot b o q nn hb hx
  obtain ⟨sl2,q2⟩:=any b _ q1 (s0 b o q)
  exact ⟨sl2,q2⟩
 ·obtain ⟨o1,q1⟩:=I.base.there b o q hx
  exact n.there b o1 q1
 ·obtain ⟨m,⟨ob,es,ep,ho,r⟩,hl⟩:=I.loc
  obtain ⟨sl,q1⟩:=any _ ob ho fun z=>z.2.1 rfl
  refine ⟨m,⟨_,es,ep,q1,r⟩,fun i x v e1 e2 e3=> ?_⟩
  obtain ⟨u,ru,l⟩:=hl i x v e1 e2 e3
  refine ⟨u,ru, ?_⟩
  rcases l with l|⟨k,c,hc,z⟩
  ·exact .inl l
  ·exact .inr ⟨k,c,hc,cl x c hc _ z⟩
 ·obtain ⟨v,z⟩:=I.cell x c q
  exact ⟨v,cl x c q v z⟩
 ·obtain ⟨q,nn,n1,n2,d⟩:=I.pin p hp
  obtain ⟨m1,m2⟩:=off p.1 p.2 q fun z=>z.2.2.2.2.2 p hp rfl
  exact ⟨n.keep p.1 p.2 q (nst p.1 n1 n2) m1 m2,nn,n1,n2,d⟩
 ·refine (I.hok a o q).stay (fun b u hb r=> ?_) (fun _ z=>z) fun _ _ z=>z
  rcases hb with rfl|hb
  ·obtain ⟨m1,m2⟩:=off b u r (Rm b o q)
   exact n.keep b u r (Yh b o q) m1 m2
  ·obtain ⟨m1,m2⟩:=off b u r (Rm b _ hb)
   exact n.keep b u r (Yh b _ hb) m1 m2
def Ds (P:Program) (w:World):Mz:=fun outer H s E ev s'=>∃(e:Addr) (cls:Value) (dx:Option Addr) (H':Hp),ev = .ref e/\s'.os=s.os/\AllBare s'.gens/\Un (frs outer) [] H H' s.heap s'.heap/\ud P w H' s'.heap /\
 s.heap.get? e=none/\H' e=none/\vL s'.heap e cls dx (fun T=>s.heap.get? T=none/\H' T=none) (some .none)/\E cls dx H'
def Rz (X:Cx) (E:St->XK):Prop:=∀(pins:List (Addr×Obj)) (σ:St) (H:Hp) (s:Shared) (e:Addr) (cls:Value) (dx:Option Addr) (fl:Option Value),(fl=none\/fl=some .none)->Inv X pins σ H s->Dh X pins H e ->
 vL s.heap e cls dx (Dh X pins H) fl->E σ cls dx H->X.xe (.ref e) s
theorem vL.imp {h:Heap} {e:Addr} {cls:Value} {dx:Option Addr} {lo lo':Addr->Prop} {f:Option Value} (x:vL h e cls dx lo f) (k:∀T,(∃o,h.get? T=some o)->lo T->lo' T):vL h e cls dx lo' f:=by
 cases f with
 | none=>exact x
 | some f=>
   obtain ⟨oe,vs,T,oT,ts,he,hc,hdx,hd,h1,hT,nT,Rq,r⟩:=x
   exact ⟨oe,vs,T,oT,ts,he,hc,hdx,hd,h1,k T ⟨oT,Rq⟩ hT,nT,Rq,r⟩
theorem R3 {E:St->XK} {σ:St} (hx:X.ex=[]) (R:Rz X E) {pins:List (Addr×Obj)} {H:Hp} {s s':Shared} {ev:Value} (I:Inv X pins σ H s) (c:Ds X.prog X.w X.stack H s (E σ) ev s'):X.xe ev s':=by
 obtain ⟨e,cls,dx,H',rfl,ho,hg,u,hok,ne,he,x,q⟩:=c
 have I':Inv X pins σ H' s':=I.call' (ch:=[]) ho u hok hg (fun b hb=>by cases hb)
 have fp:∀T,s.heap.get? T=none->H' T=none->Dh X pins H' T:=fun T h1 h2=>by
  obtain ⟨_,a2,a3,a4,a5,a6⟩:=I.xfp hx h1
  exact ⟨h2,a2,a3,a4,a5,a6⟩
 exact R pins σ H' s' e cls dx _ (.inr rfl) I' (fp e ne he) (x.imp fun T _ z=>fp T z.1 z.2) q
theorem NP {P:Program} {w:World} {K:PySem.W.Frag} {mg:Str->Option Value} {base:Heap} {N:List Str} {qual:Str} {scope:Scope} {f:Addr} {cd:Value} {A:Around} {outer:List Env} {s:Shared} {H:Hp} {E:XK}:
 Rz (rQ (Ds P w) P w K mg base N qual scope f cd A outer s H E) (fun _=>E):=by
 intro pins σ H1 s1 e cls dx fl hfl I fe x q
 show wpAny (model P w) _ (leaving _ (.ref e)) _ _ s1
 unfold leaving
 have lo1:∀b,(b=e\/(Dh (rQ (Ds P w) P w K mg base N qual scope f cd A outer s H E) pins H1 b\/s1.heap.get? b=none))->Dh (rQ (Ds P w) P w K mg base N qual scope f cd A outer s H E) pins H1 b\/s1.heap.get? b=none:=fun b z=>z.elim (fun z=> .inl (by rw [z];exact fe)) fun z=>z
 have stk:(rQ (Ds P w) P w K mg base N qual scope f cd A outer s H E).A.frames=some ((rQ (Ds P w) P w K mg base N qual scope f cd A outer s H E).env::outer):=I.ok.frames
 refine wpAny_bind (Ui (base:=base) (lo:=fun T=>Dh (rQ (Ds P w) P w K mg base N qual scope f cd A outer s H E) pins H1 T\/s1.heap.get? T=none) hfl stk I.stack rfl (x.imp fun T _ z=> .inl z) (fun T z=> .inr z) fun h1 n1 x1=> ?_)
 refine M6 (fr:=frs ((rQ (Ds P w) P w K mg base N qual scope f cd A outer s H E).env::outer)) x1 fun h2 n2 x2=> ?_
 have I2:Inv (rQ (Ds P w) P w K mg base N qual scope f cd A outer s H E) pins σ H1 {s1 with heap:=h2}:=I.noted (n1.trans n2) lo1
 refine ⟨e,cls,dx,H1,rfl,I2.os,I2.bare,I2.base,I2.hok,fe.2.2.2.1,fe.1,x2.imp fun T _ z=> ?_,q⟩
 rcases z with z|z
 ·exact ⟨z.2.2.2.1,z.1⟩
 ·have y:=I.xfp rfl z
  exact ⟨y.2.2.2.1,y.1⟩
end
end L2
set_option Elab.async false
set_option linter.all false
set_option maxRecDepth 100000
set_option maxHeartbeats 4000000
namespace L2
open PySem PySem.Spec PyProof.Rows
def pF (P:Program) (w:World) (K:PySem.W.Frag) (mg:Str->Option Value) (base:Heap) (k:Nat) (x:Str) (ps:List Str) (sp:Sp):Prop:=
 ∃f fd,cI P w K mg base (Ds P w) k f fd ps sp/\mg x=some (.ref f)/\PySem.W.keepIn K (.ref f)=true/\Binds K fd ps []
def Vt (sp:Sp) (E:St->XK) (t:TA):TE:=fun σ H Q=>t σ H fun vs H1=>sp vs H1 Q (E σ)
section
variable {X:Cx} {k:Nat} {x:Str} {ps:List Str} {sp:Sp} {e:Expr} {es:List Expr} {t:TA} {p pos:Pos} {E:St->XK}
theorem vh (F:pF X.prog X.w X.K X.mg X.base k x ps sp) (hx:X.ex=[]) (R:Rz X E) (hr:mJ k X.A) (hg:Gl X x) (ha:PA X (e::es) t) (hd:(x==("__debug__" :Str))=false:=by decide)
 (he:starEach (e::es) X.env=(false,eval e X.env)::starEach es X.env:=by rfl) (hpl:(backTo pos (starEach es X.env)).any (·.1)=false:=by rfl):
 PE X (.Call (.Name x p) (e::es) [] pos) (Vt sp E t):=by
 obtain ⟨f,fd,G,hm,hk,hb⟩:=F
 intro pins s σ H Q I h
 refine wpAny_Call_Name_kw (uH I hg hm ?_ hd)
 refine PySem.W.callWith_K (h₀:=X.base) I.ok.mod.Zg hk (dz (ha pos pins s σ H _ I h) fun us s1 ⟨vs,H1,I1,r,q⟩=>⟨I1.zL, ?_⟩) he hpl
 have hlen:us.length=ps.length:=by rw [←r.length];exact G.len _ _ _ _ q
 have hbd:=hb s1 us I1.zL (by rw [List.append_nil];exact hlen)
 rw [List.append_nil] at hbd
 refine wpAny_call (codeAny_mono (G.run X.A X.stack s1 H1 ⟨us,[]⟩ us vs Q (E σ) hr I1.env0 hbd r q) fun res s' hq=> ?_)
 match res,hq with
 | .error ev,hq=>exact R3 hx R I1 hq
 | .ok (.ret u),hq=>exact I1.after hq
end
section
variable {P:Program} {w:World} {K:PySem.W.Frag} {mg:Str->Option Value} {base:Heap}
theorem lU.Y6 {x qual:Str} {st:Stmt} {f:Addr} {fd:FuncData} {N ps:List Str} {k:Nat} {sp:Sp} (F:lU K x qual st f fd) (S:aX N ps (aA st)) (len:∀vs H Q E,sp vs H Q E->vs.length=ps.length)
 (hbody:∀(cdv:Value) (A:Around) (outer:List Env) (s:Shared) (H:Hp) (vs:List V) (Q:VK) (E:XK),mJ k (A.deeper (envOfC qual (aA st) s.heap.objs.size f cdv))->sp vs H Q E ->
   Rz (rQ (Ds P w) P w K mg base N qual (aA st) f cdv A outer s H E) (fun _=>E) ->
   ∃t,Iz (rQ (Ds P w) P w K mg base N qual (aA st) f cdv A outer s H E) (aG st) t/\t {nx:=fun _ H'=>Q .non H',rt:=Q} (start N vs) H):cI P w K mg base (Ds P w) (k+1) f fd ps sp:=by
 obtain ⟨oc,od,kV,doc,pm,an,cdv,ct,osl,rfl,lk,hcd⟩:=F.ex
 exact U0 lk hcd S len fun A outer s H vs Q E hr hsp=>hbody cdv A outer s H vs Q E hr hsp NP
end
theorem Tq {K:PySem.W.Frag} {h:Heap} {C:Addr} {bmB:List Value} {newId:String} (X:K.In h) (q:PySem.W.excIn K C bmB newId=true):
 ∃bm N nm qn bs hdct sn sub ab col dd k0 k1 k2 k3 k5 mN,h.get? C=some (excClassObj nm qn C N bs bm hdct sn sub ab col dd k0 k1 k2 k3 k5 newId)/\h.Ns N mN/\mN "__init__" = none/\OwnTail h bmB bm:=by
 unfold PySem.W.excIn at q
 split at q
 ·rename_i d0 c0 s0 lk
  split at q
  ·rename_i C1 tl a0 a1 a2 a3 nn a5 em es
   simp only [Bool.and_eq_true,beq_iff_eq,Bool.not_eq_true'] at q
   obtain ⟨⟨⟨⟨⟨e1,e2⟩,e3⟩,e4⟩,e5⟩,e6⟩:=q
   subst e1 e2
   obtain ⟨f1,f2,f3,f4,f5,f6,f7,f8,f9,ZL,f11⟩:=c0
   dsimp only at em e3 e5 e6
   subst em e3
   have ez:s0 = #[a0,a1,a2,a3,some (.builtin nn),a5]:=by
    obtain ⟨l⟩:=s0
    simp only at es
    rw [es]
   subst ez
   exact ⟨tl,f4,_,_,_,_,_,_,_,_,_,_,_,_,_,_,_,X _ _ lk,.of_isNs (PySem.W.isNs_of_in X e5),PySem.W.nsMap_none_of_in X e5 e6,PySem.W.tail_of_in X e4⟩
  ·cases q
 ·cases q
def Vm (cls:Value) (E:St->XK) (ta:TA):TS:=fun _ σ H=>ta σ H fun vs H1=>vs.length<=sizeLine/\E σ cls none H1
section
variable {X:Cx} {E:St->XK} {x:Str} {C:Addr} {B newId initId:String} {bmB:List Value} {e0:Expr} {rest:List Expr} {ta:TA} {np cpos pos:Pos}
theorem Ef (FB:ExcBaseFacts B newId initId bmB) (q:PySem.W.excIn X.K C bmB newId=true) (hm:X.mg x=some (.ref C)) (hg:Gl X x) (hc:X.calm=true) (hx:X.ex=[]) (R:Rz X E) (ha:PA X (e0::rest) ta)
 (he:starEach (e0::rest) X.env=(false,eval e0 X.env)::starEach rest X.env:=by rfl) (hplain:(backTo cpos (starEach rest X.env)).any (·.1)=false:=by rfl) (hd:(x==("__debug__" :Str))=false:=by decide):
 PS X (.Raise (some (.Call (.Name x np) (e0::rest) [] cpos)) none pos) (Vm (.ref C) E ta):=by
 intro pins s σ H D I h
 obtain ⟨bm,N,nm,qn,bs,hdct,sn,sub,ab,col,dd,k0,k1,k2,k3,k5,mN,hC,hN,hni,T⟩:=Tq I.ok.mod.Zg q
 refine wpAny_Raise_call_subT (k5:=k5) (k3:=k3) (k2:=k2) (k1:=k1) (k0:=k0) (dd:=dd) (col:=col) (ab:=ab) (sub:=sub) (sn:=sn) (hdct:=hdct) (bs:=bs) (q:=qn) (nm:=nm)
  (C:=C) (N:=N) (bm:=bm) (mN:=mN) FB (T.hasType FB.hasBase) (I.ok.hd hc) (by rw [he];show (false||(backTo cpos (starEach rest X.env)).any (·.1))=false;rw [hplain];rfl) hni (uH I hg hm ⟨rfl, ?_⟩ hd)
 have h2:=ha cpos pins s σ H _ I h
 rw [he] at h2 ⊢
 refine Calls.evalArgs_plain (dz h2 fun us s1 ⟨vs,H1,I1,r,hl,hE⟩=>⟨rfl,by rw [←r.length];exact hl,I1.bk _ _ hC,hN.keeps I1.bk,T.keeps I1.bk,fun h' e mk=> ?_⟩)
 obtain ⟨t,ht,_,_⟩:=mk.there
 have I2:Inv X pins σ H1 {s1 with heap:=h'}:=I1.kept (t':=s1.toks) mk.keeps
 exact R pins σ H1 _ e (.ref C) none none (.inl rfl) I2 (I1.xfp hx mk.new) ⟨_,_,ht,rfl,rfl,rfl,rfl⟩ hE
end
def XO (C:Addr) (dx:Option Addr) (e:Addr):HO:= .ext fun h=>∃oe vs,h.get? e=some oe/\oe.cls = .ref C/\oe.dict=dx/\oe.data = .fields vs
def CK (X:Cx) (e:Addr):Cx:={X with A:=X.A.mark (some (.ref e)),calm:=false,xe:=fun _ _=>False}
def zj (X:Cx) (pins:List (Addr×Obj)) (xe:Value->Shared->Prop):Cx:={X with pn:=X.pn++pins,xe:=xe}
section
variable {X:Cx} {pins:List (Addr×Obj)} {σ:St} {H:Hp} {s:Shared}
theorem Inv.Yi (I:Inv X pins σ H s) (xe:Value->Shared->Prop):Inv (zj X pins xe) [] σ H s:=
 ⟨⟨I.ok.mod,I.ok.kind,I.ok.glob,I.ok.blt,I.ok.above,I.ok.inj,I.ok.has,I.ok.cab,I.ok.hd,I.ok.frames,I.ok.stk,I.ok.X6,I.ok.bs,I.ok.Mv,I.ok.Cm,I.ok.Fw,I.ok.rO,I.ok.Rr⟩,I.os,I.bare,I.base,I.loc,I.cell,I.free,I.jg,
   fun p hp=>I.pin p (by rw [List.append_nil] at hp;exact hp),I.hok,I.len⟩
theorem Inv.Ai {xe:Value->Shared->Prop} {pA:List (Addr×Obj)} (I:Inv (zj X pins xe) pA σ H s):Inv X pins σ H s:=
 ⟨⟨I.ok.mod,I.ok.kind,I.ok.glob,I.ok.blt,I.ok.above,I.ok.inj,I.ok.has,I.ok.cab,I.ok.hd,I.ok.frames,I.ok.stk,I.ok.X6,I.ok.bs,I.ok.Mv,I.ok.Cm,I.ok.Fw,I.ok.rO,I.ok.Rr⟩,I.os,I.bare,I.base,I.loc,I.cell,I.free,I.jg,
   fun p hp=>I.pin p (List.mem_append_left _ hp),I.hok,I.len⟩
theorem Inv.Ng (I:Inv X pins σ H s) (e:Addr):Inv (CK X e) pins σ H s:=
 ⟨⟨I.ok.mod,I.ok.kind,I.ok.glob,I.ok.blt,I.ok.above,I.ok.inj,I.ok.has,I.ok.cab,fun z=>(by cases z),I.ok.frames,I.ok.stk,I.ok.X6,I.ok.bs,I.ok.Mv,I.ok.Cm,I.ok.Fw,I.ok.rO,I.ok.Rr⟩,I.os,I.bare,I.base,I.loc,I.cell,I.free,I.jg,
   I.pin,I.hok,I.len⟩
theorem Inv.Cj {e:Addr} (I:Inv (CK X e) pins σ H s) (hd:X.calm=true->X.A.handled=none):Inv X pins σ H s:=
 ⟨⟨I.ok.mod,I.ok.kind,I.ok.glob,I.ok.blt,I.ok.above,I.ok.inj,I.ok.has,I.ok.cab,hd,I.ok.frames,I.ok.stk,I.ok.X6,I.ok.bs,I.ok.Mv,I.ok.Cm,I.ok.Fw,I.ok.rO,I.ok.Rr⟩,I.os,I.bare,I.base,I.loc,I.cell,I.free,I.jg,
   I.pin,I.hok,I.len⟩
theorem Inv.track {e C:Addr} {dx:Option Addr} {lo:Addr->Prop} {fl:Option Value} (I:Inv X pins σ H s) (hx:X.ex=[]) (fe:Dh X pins H e) (x:vL s.heap e (.ref C) dx lo fl):Inv X pins σ (upd H e (XO C dx e)) s:=by
 obtain ⟨f1,f2,f3,f4,f5,f6⟩:=fe
 obtain ⟨oe,vs,q,hc,hdx,hd⟩:=x.there
 have ne:∀b o,H b=some o->b≠e:=fun b o r=>aD r f1
 refine ⟨I.ok,I.os,I.bare,⟨I.base.keep,I.base.slot,fun b o r n hh=> ?_,I.base.there,fun b xs r=> ?_,fun b o u r=> ?_,fun b ps r=> ?_⟩,I.loc,I.cell, ?_,fun y c r=> ?_,fun p hp=> ?_,fun a o r=> ?_,I.len⟩
 ·rw [aV (fun z=>by rw [z,f4] at r;cases r)]
  exact I.base.free b o r n hh
 ·have r2:=I.base.tups b xs r
  rw [aV (ne b _ r2)];exact r2
 ·have r2:=I.base.rP b o u r
  rw [aV (ne b _ r2)];exact r2
 ·obtain ⟨m,r2⟩:=I.base.u9 b ps r
  exact ⟨m,by rw [aV (ne b _ r2)];exact r2⟩
 ·rw [aV (Ne.symm f2)];exact I.free
 ·rw [aV (f5 y c r)];exact I.jg y c r
 ·obtain ⟨a1,a2,a3⟩:=I.pin p hp
  exact ⟨a1,by rw [aV (f6 p hp)];exact a2,a3⟩
 ·by_cases ha:a=e
  ·subst ha
   rw [ak] at r
   cases r
   exact ⟨⟨oe,vs,q,hc,hdx,hd⟩,⟨oe,q⟩,fun h1 h2 ⟨o1,v1,p1,p2⟩ k=>⟨o1,v1,k _ p1,p2⟩⟩
  ·rw [aV ha] at r
   refine (I.hok a o r).stay (fun _ _ _ z=>z) (fun b z=>by rw [aV (ne b _ z)];exact z) fun b ys z=>by rw [aV (ne b _ z)];exact z
end
section
variable {M:Model} {A:Around} {Er:Value->Shared->Prop} {s:Shared} {K:PySem.W.Frag} {e C D:Addr}
theorem Fb {oe:Obj} {b:Bool} {Q:Bool->Shared->Prop} (X:K.In s.heap) (he:s.heap.get? e=some oe) (hc:oe.cls = .ref C) (hD:(PySem.W.clsIn K D).isSome=true) (hty:PySem.W.typeIn K (.ref D)=some (.type "type"))
 (hB:PySem.W.subIn K (.ref D) (.type "BaseException")=some true) (hs:PySem.W.subIn K (.ref C) (.ref D)=some b) (hq:Q b s):wpAny M A (excMatches (.ref e) (.ref D)) Q Er s:=by
 obtain ⟨hh,g,d,t,os⟩:=s
 have L1:PySem.W.Looks M hh (typeOf (.ref D)) (.type "type"):=PySem.W.looks_typeIn X hty
 have L2:PySem.W.Looks M hh (isSubtype (.ref D) (.type "BaseException")) true:=PySem.W.looks_subIn X hB
 have L3:PySem.W.Looks M hh (isSubtype (.ref C) (.ref D)) b:=PySem.W.looks_subIn X hs
 have L4:PySem.W.Looks M hh (isType (.ref D)) true:=by
  unfold PySem.W.clsIn at hD
  split at hD
  ·rename_i c' d' cd' sl' ho
   intro A' Q' E' s' k q
   unfold isType loadHead
   exact wpAny_bind (wpAny_loadPart (k _ _ (X _ _ ho)) (wpAny_pure q))
  ·cases hD
 have f:=tc_notTuple
 unfold excMatches isExcClass isInstance
 refine wpAny_bind (wpAny_bind (L1.at ?_))
 refine wpAny_of_eq f ?_
 rw [if_neg (by decide)]
 refine wpAny_bind (wpAny_pure ?_)
 simp only [List.forIn_cons,List.forIn_nil]
 refine wpAny_bind (wpAny_bind (wpAny_bind (wpAny_bind (L4.at ?_))))
 rw [if_pos rfl]
 refine L2.at ?_
 simp only [Bool.not_true,Bool.false_eq_true,if_false]
 refine wpAny_pure (wpAny_pure ?_)
 have L0:PySem.W.Looks M hh (typeOf (.ref e)) (.ref C):=by
  intro A' Q' E' s' k q
  unfold typeOf
  refine wpAny_bind (wpAny_loadPart (k _ _ he) ?_)
  rw [hc]
  exact wpAny_pure q
 refine wpAny_bind (L0.at ?_)
 refine wpAny_bind (wpAny_bind (wpAny_bind (L3.at ?_)))
 cases b with
 | true=>exact wpAny_pure (wpAny_pure (wpAny_pure hq))
 | false=>exact wpAny_pure (wpAny_pure (wpAny_pure hq))
end
end L2
set_option Elab.async false
set_option linter.all false
set_option maxRecDepth 100000
set_option maxHeartbeats 4000000
namespace L2
open PySem PySem.Spec PyProof.Rows
section
variable {X:Cx} {pins:List (Addr×Obj)} {σ:St} {H:Hp} {s:Shared}
theorem Inv.gone {i:Nat} {n:Str} {m:Str->Option Value} {v:Option Value} {h':Heap} {t:Nat} (I:Inv X pins σ H s) (hN:X.N.Nodup) (hi:X.N[i]? = some n)
 (hm:∀(j:Nat) (x:Str) (u:V),X.N[j]? = some x->σ[j]? = some (some u)->Vis X.env.scope x -> ∃w',RelV u w'/\Look X.env s.heap m x w')
 (hn:h'.Ns X.env.locals (fun x=>if x=n then v else m x)) (sb:Heap.SameBut X.env.locals s.heap h'):Inv X pins (σ.set i none) H {s with heap:=h',toks:=t}:=by
 have Uw:∀b o,X.s₀.heap.get? b=some o->b≠X.env.locals:=fun b o q=>Nat.ne_of_lt (Nat.lt_of_lt_of_le (Heap.lt_size q) I.ok.above)
 have cl:∀x c,X.env.cells.lookup x=some c -> ∀w',s.heap.IsCell c w'->h'.IsCell c w':=fun x c q w' ⟨o,ho,hd⟩=>⟨o,(sb.2 c (I.U9 x c q)).trans ho,hd⟩
 have Rm:∀b o,H b=some o->b≠X.env.locals:=fun b o q=>aD q I.free
 refine ⟨I.ok,I.os,I.bare,⟨fun b o q nn hb hx=>(sb.2 b (Uw b o q)).trans (I.base.keep b o q nn hb hx),fun b o q nn hb hx=> ?_,I.base.free,fun b o q hx=> ?_,I.base.tups,I.base.rP,I.base.u9⟩,⟨_,hn,fun j x u e1 e2 e3=> ?_⟩,fun x c q=> ?_,I.free,I.jg,fun p hp=> ?_,fun a o q=> ?_, ?_⟩
 ·obtain ⟨sl,r⟩:=I.base.slot b o q nn hb hx
  exact ⟨sl,(sb.2 b (Uw b o q)).trans r⟩
 ·obtain ⟨o',r⟩:=I.base.there b o q hx
  exact ⟨o',(sb.2 b (Uw b o q)).trans r⟩
 ·have hji:j≠i:=by
   rintro rfl
   by_cases hlt:j<σ.length
   ·rw [List.getElem?_set_self hlt] at e2
    cases e2
   ·rw [List.getElem?_eq_none (by rw [List.length_set];omega)] at e2
    cases e2
  rw [List.getElem?_set_ne (Ne.symm hji)] at e2
  obtain ⟨w',r,l⟩:=hm j x u e1 e2 e3
  refine ⟨w',r, ?_⟩
  have hxn:x≠n:=fun z=>hji (yH hN e1 (by rw [z];exact hi))
  rcases l with ⟨k,q⟩|⟨k,c,hc,z⟩
  ·exact .inl ⟨k,by show (if x=n then v else m x)=some w';rw [if_neg hxn];exact q⟩
  ·exact .inr ⟨k,c,hc,cl x c hc _ z⟩
 ·obtain ⟨w',z⟩:=I.cell x c q
  exact ⟨w',cl x c q w' z⟩
 ·obtain ⟨q,nn,n1,r⟩:=I.pin p hp
  exact ⟨(sb.2 p.1 n1).trans q,nn,n1,r⟩
 ·refine (I.hok a o q).stay (fun b u hb r=> ?_) (fun _ z=>z) fun _ _ z=>z
  rcases hb with rfl|hb
  ·exact (sb.2 b (Rm b o q)).trans r
  ·exact (sb.2 b (Rm b _ hb)).trans r
 ·show (σ.set i none).length=X.N.length
  rw [List.length_set]
  exact I.len
theorem q_ {M:Model} {A:Around} {E:Value->Shared->Prop} {i:Nat} {n:Str} {pos:Pos} {Q:Unit->Shared->Prop} (I:Inv X pins σ H s) (hN:X.N.Nodup) (hi:X.N[i]? = some n) (hl:X.env.kindOf n=some .local)
 (h:∀s',Inv X pins (σ.set i none) H s'->Q () s'):wpAny M A (do bindName X.env n .none;unbindBehindTheSuite X.env n pos) Q E s:=by
 obtain ⟨m,hn,hm⟩:=I.loc
 exact wpAny_nameGoes_keeps hl hn (by rw [I.ok.kind];rfl) fun h' v hn' sb=>h _ (I.gone hN hi hm hn' sb)
end
def Xi (D:Ends) (i:Nat):Ends:={nx:=fun σ H=>D.nx (σ.set i none) H,rt:=D.rt,bk:=fun σ H=>D.bk (σ.set i none) H,ct:=fun σ H=>D.ct (σ.set i none) H}
def Vl (K:PySem.W.Frag) (i:Nat) (Dc:Addr) (tb:(St->XK)->TS) (th:TS):TS:=fun D σ H=>
 tb (fun σ1 cls dx H1=>∃C,cls = .ref C/\PySem.W.subIn K (.ref C) (.ref Dc)=some true /\ ∀e,H1 e=none->th (Xi D i) (σ1.set i (some (.ref e))) (upd H1 e (XO C dx e))) D σ H
structure XHd (K:PySem.W.Frag) (D:Addr):Prop where
 cl:(PySem.W.clsIn K D).isSome=true
 ty:PySem.W.typeIn K (.ref D)=some (.type "type")
 bs:PySem.W.subIn K (.ref D) (.type "BaseException")=some true
section
variable {X:Cx} {body suite:List Stmt} {b0:Stmt} {n cn:Str} {i:Nat} {Dc:Addr} {tb:(St->XK)->TS} {th:TS} {cp hpos pos:Pos}
theorem V2 (hc:X.calm=true) (hx:X.ex=[]) (hst:X.stack=X.env::X.outer) (hfm:X.env.frame=some X.env.locals) (hN:X.N.Nodup) (hi:X.N[i]? = some n) (hl:X.env.kindOf n=some .local) (hg:Gl X cn) (hm:X.mg cn=some (.ref Dc)) (hD:XHd X.K Dc)
 (hb:∀(pn:List (Addr×Obj)) (xe:Value->Shared->Prop) (E:St->XK),PassesOwn (model X.prog X.w) X.A X.env xe->Rz {X with pn:=pn,xe:=xe} E->Iz {X with pn:=pn,xe:=xe} body (tb E))
 (hh:∀e,Iz (CK X e) (b0::suite) th) (hd:(cn==("__debug__" :Str))=false:=by decide):
 PS X (.Try body [.ExceptHandler (some (.Name cn cp)) (some n) (b0::suite) hpos] [] [] pos) (Vl X.K i Dc tb th):=by
 intro pins s σ H D I h
 refine wpAny_Try_except ?_
 refine wpAny_mono (hb (X.pn++pins) (fun e s₁=>wpAny (model X.prog X.w) X.A (noteFrame e X.env) (fun _ s₂=>wpAny (model X.prog X.w) X.A (setFlight e none) (fun _ s₃=>wpAny (model X.prog X.w) X.A (handleBy e X.env [.ExceptHandler (some (.Name cn cp)) (some n) (b0::suite) hpos]) (SP X pins D) X.xe s₃) X.xe s₂) X.xe s₁) _
  PassesOwn.looking ?_ [] s σ H D (I.Yi _) h) (fun f s1 q=> ?_) fun _ _ q=>q
 ·
  intro pA σ1 H1 s1 e cls dx fl hfl I1 fe x hE
  obtain ⟨C,rfl,hsub,hth⟩:=hE
  have lo1:∀b,(b=e\/(Dh (zj X pins X.xe) pA H1 b\/s1.heap.get? b=none))->Dh (zj X pins X.xe) pA H1 b\/s1.heap.get? b=none:=fun b z=>z.elim (fun z=> .inl (by rw [z];exact fe)) fun z=>z
  have hfr:X.A.frames=some (X.env::X.outer):=by rw [←hst];exact I.ok.frames
  have hff:s1.heap.FunFrames X.base (X.env::X.outer):=by rw [←hst];exact I1.stack
  refine Ui (base:=X.base) (lo:=fun T=>Dh (zj X pins X.xe) pA H1 T\/s1.heap.get? T=none) hfl hfr hff hfm (x.imp fun T _ z=> .inl z) (fun T z=> .inr z) fun h1 n1 x1=> ?_
  refine M6 (fr:=frs (X.env::X.outer)) x1 fun h2 n2 x2=> ?_
  have n12:qP (frs X.stack) e (fun T=>Dh (zj X pins X.xe) pA H1 T\/s1.heap.get? T=none) s1.heap h2:=by rw [hst];exact n1.trans n2
  have I2:Inv X pins σ1 H1 {s1 with heap:=h2}:=(I1.noted n12 lo1).Ai
  refine wpAny_handleBy_cons (codeAny_handlers_test (uH (I2.Ng e) hg hm ?_ hd)) (by intro z;cases z)
  obtain ⟨oe,vs,q1,q2,q3,q4⟩:=x2.there
  refine Fb (K:=X.K) I2.zL q1 q2 hD.cl hD.ty hD.bs hsub ?_
  rw [if_pos rfl]
  refine codeAny_handlers_suite_as ?_
  refine M6 (fr:=frs (X.env::X.outer)) x2 fun h3 n3 x3=> ?_
  have n13:qP (frs X.stack) e (fun T=>Dh (zj X pins X.xe) pA H1 T\/s1.heap.get? T=none) s1.heap h3:=by rw [hst];exact (n1.trans n2).trans n3
  have I3:Inv X pins σ1 H1 {s1 with heap:=h3}:=(I1.noted n13 lo1).Ai
  have feX:Dh X pins H1 e:=⟨fe.1,fe.2.1,fe.2.2.1,fe.2.2.2.1,fe.2.2.2.2.1,fun p hp=>fe.2.2.2.2.2 p (List.mem_append_left _ hp)⟩
  have I4:Inv X pins σ1 (upd H1 e (XO C dx e)) {s1 with heap:=h3}:=I3.track hx feX x3
  refine xV (X:=CK X e) (I4.Ng e) hN hi (.inl hl) (v:= .ref e) rfl (fun s5 I5=> ?_) (.inr hl)
  refine wpAny_mono (hh e pins s5 _ _ (Xi D i) I5 (hth e fe.1)) (fun f s6 q6=> ?_) fun _ _ z=>z.elim
  cases f with
  | next=>
    obtain ⟨σ6,H6,J6,r6⟩:=q6
    exact q_ (J6.Cj I.ok.hd) hN hi hl fun s7 J7=>⟨_,H6,J7,r6⟩
  | brk=>
    obtain ⟨σ6,H6,J6,r6⟩:=q6
    exact q_ (J6.Cj I.ok.hd) hN hi hl fun s7 J7=>⟨_,H6,J7,r6⟩
  | cont=>
    obtain ⟨σ6,H6,J6,r6⟩:=q6
    exact q_ (J6.Cj I.ok.hd) hN hi hl fun s7 J7=>⟨_,H6,J7,r6⟩
  | ret u=>
    obtain ⟨v6,σ6,H6,J6,rv,r6⟩:=q6
    exact q_ (J6.Cj I.ok.hd) hN hi hl fun s7 J7=>⟨v6,_,H6,J7,rv,r6⟩
 ·cases f with
  | next=>obtain ⟨σ1,H1,J,r⟩:=q;exact wpAny_execs_nil ⟨σ1,H1,J.Ai,r⟩
  | brk=>obtain ⟨σ1,H1,J,r⟩:=q;exact ⟨σ1,H1,J.Ai,r⟩
  | cont=>obtain ⟨σ1,H1,J,r⟩:=q;exact ⟨σ1,H1,J.Ai,r⟩
  | ret u=>obtain ⟨v,σ1,H1,J,rv,r⟩:=q;exact ⟨v,σ1,H1,J.Ai,rv,r⟩
end
section
variable {X:Cx} {K:PySem.W.Frag}
theorem zR {o:Obj} {vs:Array Value} (h:o.data = .fields vs):PySem.W.notCls o=true:=by
 obtain ⟨c,d,dt,sl⟩:=o
 simp only at h
 subst h
 rfl
theorem Ja {C e:Addr} {P:Program} {w:World} {H:Hp} {h:Heap} (x:bQ P w H h e (XO C none e)):∃ox odo,PySem.W.InstAt h e ox C odo:=by
 obtain ⟨⟨oe,vs,q,hc,hd,hf⟩,_⟩:=x
 exact ⟨oe,none,⟨q,hc,zR hf,by rw [hd];trivial⟩⟩
theorem FQ {c:Value} {cv:V} (hk:X.K=K) (rc:∀u,RelV cv u->u=c):fU X (.builtin "isinstance") (fun xs H Q=>∃(e C:Addr) (b:Bool),xs=[.ref e,cv]/\H e=some (XO C none e)/\PySem.W.T9 K C/\PySem.W.kitOne K (.ref C) c=some b/\Q (.bl b) H):=by
 subst hk
 intro pins s σ H xs us Q I r h
 obtain ⟨e,C,b,rfl,he,xc,hb,q⟩:=h
 obtain ⟨u,w',rfl,r1,r2⟩:=vals2 r
 cases (show u=Value.ref e from r1)
 have:=rc _ r2
 subst this
 exact PySem.W.kia_one (PySem.W.Fo xc) I.zL (Ja (I.hok e _ he)) hb (by intro z;cases z) fun tk=>⟨.bl b,H,I.tok _,rfl,q⟩
theorem z_ {cs:List Addr}:∀{us:List Value},Vals (cs.map V.ref) us->us=cs.map Value.ref:=by
 induction cs with
 | nil=>intro us r;cases r;rfl
 | cons c cs ih=>
   intro us r
   cases r with
   | cons r rs=>cases (show _=Value.ref c from r);rw [ih rs];rfl
end
end L2
set_option Elab.async false
set_option linter.all false
set_option maxRecDepth 100000
set_option maxHeartbeats 4000000
namespace L2
open PySem PySem.Spec PyProof.Rows
section
variable {X:Cx} {K:PySem.W.Frag}
theorem Az (hk:X.K=K):fU X (.builtin "isinstance") (fun xs H Q=>∃(e t C:Addr) (cs:List Addr) (b:Bool),xs=[.ref e,.ref t]/\H e=some (XO C none e)/\PySem.W.T9 K C/\H t=some (.tup (cs.map V.ref)) /\
 PySem.W.kitAny K (.ref C) (cs.map Value.ref)=some b/\Q (.bl b) H):=by
 subst hk
 intro pins s σ H xs us Q I r h
 obtain ⟨e,t,C,cs,b,rfl,he,xc,ht,hb,q⟩:=h
 obtain ⟨u,w',rfl,r1,r2⟩:=vals2 r
 cases (show u=Value.ref e from r1)
 cases (show w'=Value.ref t from r2)
 obtain ⟨its,rv,⟨o,ho,hc,m,hd⟩,hz⟩:=I.tuple (cD.of ht)
 have ei:=z_ rv
 subst ei
 obtain ⟨c0,d0,dt,sl⟩:=o
 simp only at hc hd
 subst hc hd
 exact PySem.W.kia_tup (PySem.W.Fo xc) I.zL (Ja (I.hok e _ he)) ho hb (by intro z;cases z) fun tk=>⟨.bl b,H,I.tok _,rfl,q⟩
end
structure Vd (K:PySem.W.Frag) (C D:Addr) (b:Bool):Prop where
 ne:(Value.ref C==Value.ref D)=false
 sub:PySem.W.subIn K (.ref C) (.ref D)=some b
theorem SJ {K:PySem.W.Frag} {C D:Addr} {b:Bool} (h:XHd K D) (p:Vd K C D b):PySem.W.kitOne K (.ref C) (.ref D)=some b:=by
 unfold PySem.W.kitOne
 rw [if_neg (by rw [p.ne];decide)]
 show (if ((PySem.W.clsIn K D).isSome&&PySem.W.typeIn K (.ref D)==some (.type "type"))=true then PySem.W.subIn K (.ref C) (.ref D) else none)=some b
 rw [if_pos (by rw [h.cl,h.ty];rfl)]
 exact p.sub
theorem Pz {K:PySem.W.Frag} {C:Addr}:PySem.W.kitOne K (.ref C) (.ref C)=some true:=by
 unfold PySem.W.kitOne
 rw [if_pos (by simp)]
theorem K6 {K:PySem.W.Frag} {C:Addr} {b:Bool} (h:PySem.W.subIn K (.ref C) (.type "ValueError")=some b):PySem.W.kitOne K (.ref C) (.type "ValueError")=some b:=by
 unfold PySem.W.kitOne
 rw [if_neg (by intro z;cases beq_iff_eq.mp z)]
 show (if PySem.W.kitMeta "ValueError" = true then PySem.W.subIn K (.ref C) (.type "ValueError") else none)=some b
 rw [if_pos (by decide +kernel)]
 exact h
theorem qF {K:PySem.W.Frag} {C:Addr}:∀{cs:List Addr},(∀D∈cs,PySem.W.kitOne K (.ref C) (.ref D)=some false)->PySem.W.kitAny K (.ref C) (cs.map Value.ref)=some false
 | [],_=>rfl
 | D::cs,h=>by
   show PySem.W.kitAny K (.ref C) (.ref D::cs.map Value.ref)=some false
   unfold PySem.W.kitAny
   rw [h D List.mem_cons_self]
   exact qF fun D' hD=>h D' (List.mem_cons_of_mem _ hD)
theorem zX:bootBuiltins "ValueError" = some (.type "ValueError"):=by kernel_rfl
end L2
namespace L2
open PySem
structure Xr (K:PySem.W.Frag) (mg:Str->Option Value) (C:Addr) (nm:Str):Prop where
 bd:mg nm=some (.ref C)
 hd:XHd K C
 xc:PySem.W.T9 K C
 ex:PySem.W.excIn K C [.type "ValueError",.type "Exception",.type "BaseException",.type "object"] "ValueError.__new__" = true
 ve:PySem.W.subIn K (.ref C) (.type "ValueError")=some true
structure Xo (K:PySem.W.Frag) (mg:Str->Option Value) (C D:Addr) (nm:Str) (b:Bool):Prop where
 bd:mg nm=some (.ref D)
 hd:XHd K D
 pr:Vd K C D b
theorem Xo.kit {K:PySem.W.Frag} {mg:Str->Option Value} {C D:Addr} {nm:Str} {b:Bool} (x:Xo K mg C D nm b):PySem.W.kitOne K (.ref C) (.ref D)=some b:=SJ x.hd x.pr
end L2
set_option Elab.async false
set_option linter.all false
set_option maxRecDepth 100000
set_option maxHeartbeats 4000000
namespace L2
open PySem PySem.Spec PyProof.Rows
section
variable {X:Cx} {pins:List (Addr×Obj)} {σ:St} {H:Hp} {s:Shared} {h':Heap}
theorem Inv.Jd {t':Nat} {fp:List Addr} (I:Inv X pins σ H s) (hf:∀b∈fp,uf X pins H b) (k:∀b o,b∉fp->s.heap.get? b=some o->h'.get? b=some o):Inv X pins σ H {s with heap:=h',toks:=t'}:=by
 have Sv:∀b u,H b=some u->b∉fp:=fun b u e z=>by rw [(hf b z).1] at e;cases e
 refine I.step (g':=s.gens) (d':=s.drawn) (ch:=fp) (fun b hb=> ?_) (fun b o _ _ hc e _=>k b o hc e) (fun b o _ _ hc e _=>⟨o.slots,k b o hc e⟩) (fun _ _ _ _ n=>n)
  (fun b o hc e=>⟨o,k b o hc e⟩) (fun _ _ e=>e) (fun _ _ _ e=>e) (fun b ps e=>⟨#[],by rw [e];simp⟩) (fun m hm=> ?_) (fun b u e=> ?_) I.bare
 ·obtain ⟨f0,f1,f2,f3,f4,f5⟩:=hf b hb
  exact ⟨f3,f1,f4,f5⟩
 ·obtain ⟨o,es,ep,ho,r⟩:=hm
  exact ⟨o,es,ep,k _ o (fun z=>(hf _ z).2.1 rfl) ho,r⟩
 ·refine (I.hok b u e).stay (fun c v hc q=>k c v ?_ q) (fun _ q=>q) fun _ _ q=>q
  rcases hc with z|z
  ·rw [z];exact Sv b u e
  ·exact Sv c _ z
theorem uf.upd {b p:Addr} {o:HO} (h:uf X pins H b) (n:b≠p):uf X pins (upd H p o) b:=by
 obtain ⟨f0,r⟩:=h
 exact ⟨by rw [aV n];exact f0,r⟩
theorem Qe {h:Heap} {o u:Obj} {b:Addr} (ho:o.isFreed=false) (e:(h.push o).get? b=some u):(b=h.objs.size/\u=o)\/h.get? b=some u:=by
 by_cases hb:b=h.objs.size
 ·subst hb
  rw [Heap.get?_push_size _ ho] at e
  exact .inl ⟨rfl,(Option.some.inj e).symm⟩
 ·refine .inr ?_
  have lt:=Heap.lt_size e
  have lt2:b<h.objs.size:=by
   have:(h.push o).objs.size=h.objs.size+1:=by simp [Heap.push]
   rw [this] at lt
   exact Nat.lt_of_le_of_ne (Nat.le_of_lt_succ lt) hb
  have:(h.push o).get? b=h.get? b:=by
   simp only [Heap.get?,Heap.push]
   rw [Array.getElem?_push_lt lt2,Array.getElem?_eq_getElem lt2]
  rw [←this]
  exact e
end
def Ite (K:PySem.W.Frag) (l:Addr):It:=
 ⟨fun i H=>∃xs x,aZ K H l xs/\xs[i]? = some x,fun i H x H'=>∃(p:Addr) (y:V),x = .ref p/\H p=none/\(∀xs,aZ K H l xs->xs[i]? = some y)/\H'=upd H p (.tup [.int i,y]),fun i H=>∃xs,aZ K H l xs/\xs.length<=i⟩
theorem J9 {P:Program} {w:World} {K:PySem.W.Frag} {elts:List Expr} {x1:Nat} {pos:Pos} (l e it:Addr) (hne:e≠it):Turn P w K (.Tuple elts x1 pos) (Ite K l) [e,it] e (fun i h=>(∃old,IsEnum h e it i old)/\h.IsListIter it l i) where
 mem:=by simp
 obj:=fun i h st b hb=>by
  obtain ⟨⟨old,he⟩,o,ho,c,d⟩:=st
  have hb':b=e\/b=it:=by simpa using hb
  rcases hb' with rfl|rfl
  ·exact ⟨_,he,fun v z=>by cases z⟩
  ·exact ⟨o,ho,fun v z=>by rw [d] at z;cases z⟩
 keep:=fun i h h' st k=>by
  obtain ⟨⟨old,he⟩,o,ho,c,d⟩:=st
  exact ⟨⟨old,k e (by simp) _ he⟩,o,k it (by simp) _ ho,c,d⟩
 item:=by
  intro X hP hw hK hc i pins s σ H E I hf st hg
  subst hP hw hK
  obtain ⟨xs,x,hq,hx⟩:=hg
  obtain ⟨its,rv,p,hz⟩:=I.list hq
  obtain ⟨u,hu,ru⟩:=rv.get hx
  obtain ⟨⟨old,he⟩,hi⟩:=st
  have elt:=Heap.lt_size he
  have ilt:it<s.heap.objs.size:=by obtain ⟨o,ho,_⟩:=id hi;exact Heap.lt_size ho
  refine wpAny_pyNext_enum_item he hi p.isList (x:=u) (by simpa using hu) hne fun h' hout hit htup hsz hk=> ?_
  refine ⟨_,rfl, ?_⟩
  refine wpAny_letOwnedTupleGo_enum hout fun h2 he2 sb=> ?_
  have hfr:H s.heap.objs.size=none:=I.hok.fresh (Nat.le_refl _)
  have I0:Inv X pins σ (upd H s.heap.objs.size (.tup [.int i,x])) {s with heap:=s.heap.push {cls:= .type "tuple",data:= .seq #[.int i s.toks,u]}}:=
   I.laid (t':=s.toks) (fun b u e=>Heap.get?_push_of_some _ e) (Nat.le_refl _) ⟨by show 2<=sizeLine;decide,[.int i s.toks,u],.cons ⟨_,rfl⟩ (.cons ru .nil),⟨_,Heap.get?_push_size _ rfl,rfl,_,rfl⟩⟩
  have ne1:e≠s.heap.objs.size:=Nat.ne_of_lt elt
  have ne2:it≠s.heap.objs.size:=Nat.ne_of_lt ilt
  have hf0:∀b∈[e,it],uf X pins (upd H s.heap.objs.size (.tup [.int i,x])) b:=fun b hb=>by
   have hb':b=e\/b=it:=by simpa using hb
   rcases hb' with rfl|rfl
   ·exact (hf _ (by simp)).upd ne1
   ·exact (hf _ (by simp)).upd ne2
  have I1:=I0.Jd (h':=h2) (t':=s.toks+1) hf0 (fun b o hb eb=>by
   have b1:b≠e:=fun z=>hb (by simp [z])
   have b2:b≠it:=fun z=>hb (by simp [z])
   rw [sb.2 b b1]
   rcases Qe rfl eb with ⟨rfl,rfl⟩|eb
   ·exact htup
   ·exact hk b o b1 b2 eb)
  refine ⟨.ref s.heap.objs.size,_,I1,rfl,⟨s.heap.objs.size,x,rfl,hfr,fun ys hy=>by rw [I.Fd hy hq];exact hx,rfl⟩,⟨⟨u,he2⟩, ?_⟩,fun b hb=>(hf0 b hb).1⟩
  obtain ⟨o,ho,c,d⟩:=hit
  exact ⟨o,(sb.2 it (Ne.symm hne)).trans ho,c,d⟩
 done:=by
  intro X hP hw hK hc i pins s σ H E I hf st hg
  subst hP hw hK
  obtain ⟨xs,hq,hx⟩:=hg
  obtain ⟨its,rv,p,hz⟩:=I.list hq
  obtain ⟨⟨old,he⟩,hi⟩:=st
  have hl:=rv.length
  exact wpAny_pyNext_enum_end (I.ok.hd hc) he hi p.isList (by simp;omega) fun h' eb=>⟨rfl,I.Jd (t':=s.toks) hf (fun b o hb e=>eb b o (fun z=>hb (by simp [z])) e)⟩
 self:=fun _ _ _ _ _ st h=>by
  obtain ⟨⟨old,he⟩,_⟩:=st
  exact wpAny_pyIter_enum he h
section
variable {X:Cx}
def Zo (K:PySem.W.Frag) (ta:TA):TI:=fun σ H R=>ta σ H fun vs H1=>∃l xs,vs=[.ref l]/\aZ K H1 l xs/\R (Ite K l) H1
theorem CT:bootBuiltins "enumerate" = some (.type "enumerate"):=by kernel_rfl
theorem qp {K:PySem.W.Frag} {a:Expr} {ta:TA} {p pos:Pos} {elts:List Expr} {x1:Nat} {tpos:Pos} (hK:X.K=K) (hg:Gl X "enumerate") (hm:X.mg "enumerate" = none) (ha:PA X [a] ta) (hs:starEach [a] X.env=[(false,eval a X.env)]:=by rfl):PI X (.Tuple elts x1 tpos) (.Call (.Name "enumerate" p) [a] [] pos) (Zo K ta):=by
 subst hK
 intro pins s σ H R I h
 refine Call_ (qy I hg hm CT (PyProof.Rows.callWith_type1 (dz (ha pos pins s σ H _ I h) fun us s1 ⟨vs,H1,I1,r1,q1⟩=> ?_) hs rfl))
 obtain ⟨l,xs,e,hq,q⟩:=q1
 subst e
 cases r1 with
 | cons r rr=>
   cases rr
   cases r
   obtain ⟨its,rv,pl,hz⟩:=I1.list hq
   refine call_enumerate_list pl.isList fun h' hE hI hsz hk=> ?_
   refine wpAny_pyIter_enum hE ?_
   have I2:Inv X pins σ H1 {s1 with heap:=h'}:=I1.kept (t':=s1.toks) hk
   refine ⟨s1.heap.objs.size+1,[s1.heap.objs.size+1,s1.heap.objs.size],_,_,H1,rfl,I2,J9 l _ _ (by simp),⟨⟨_,hE⟩,hI⟩,fun b hb=> ?_,q⟩
   have hb':b=s1.heap.objs.size+1\/b=s1.heap.objs.size:=by simpa using hb
   rcases hb' with rfl|rfl
   ·exact I1.wC (Nat.le_succ _) (I1.hok.fresh (Nat.le_succ _))
   ·exact I1.wC (Nat.le_refl _) (I1.hok.fresh (Nat.le_refl _))
end
section
variable {X:Cx}
end
end L2
set_option Elab.async false
set_option linter.all false
set_option maxRecDepth 100000
set_option maxHeartbeats 4000000
namespace L2
open PySem PySem.Spec PyProof.Rows
section
variable {K:PySem.W.Frag} {a l1 l2 D:Addr} {xs ys:List V} {g:TG} {tc:TT} {te:TE} {Q:VK} {σ0:St} {H1:Hp}
end
section
variable {K:PySem.W.Frag} {a l1 l2:Addr} {xs ys:List V} {g:TG} {tb:TS} {D:Ends} {σ:St} {H:Hp}
theorem qH (Pv:Nat->St->Hp->Prop) (h0:Pv 0 σ H) (hl:∀i σ H,i<=xs.length->Pv i σ H->aZ K H a xs)
 (hs:∀i x σ H p,xs[i]? = some x->Pv i σ H->H p=none->g (.ref p) σ (upd H p (.tup [.int i,x])) fun σ2 H2=>tb {D with nx:=Pv (i+1),ct:=Pv (i+1),bk:=D.nx} σ2 H2) (hd:∀σ H,Pv xs.length σ H->D.nx σ H):
 ∃W:Nat->Nat->St->Hp->Prop,(∃m,W 0 m σ H) /\ ∀i m σ H,W i m σ H ->
  ((Ite K a).stop i H/\D.nx σ H)\/((Ite K a).go i H /\ ∃N:St->Hp->Prop,(∀σ' H',N σ' H' -> ∃m',m'<m/\W (i+1) m' σ' H') /\ ∀x H',(Ite K a).Uh i H x H'->g x σ H' fun σ2 H2=>tb {D with nx:=N,ct:=N,bk:=D.nx} σ2 H2):=by
 refine ⟨fun i m σ H=>m=xs.length - i/\i<=xs.length/\Pv i σ H,⟨xs.length,by simp,Nat.zero_le _,h0⟩, ?_⟩
 rintro i m σ H ⟨rfl,hi,p⟩
 have q:=hl i σ H hi p
 by_cases hlt:i<xs.length
 ·refine .inr ⟨⟨xs,xs[i],q,by simp [hlt]⟩,Pv (i+1),fun σ' H' p'=>⟨xs.length - (i+1),by omega,rfl,hlt,p'⟩,fun x H' y=> ?_⟩
  obtain ⟨t,z,rfl,ht,hz,rfl⟩:=y
  exact hs i z σ _ t (hz xs q) p ht
 ·have e:i=xs.length:=by omega
  subst e
  exact .inl ⟨⟨xs,q,Nat.le_refl _⟩,hd σ H p⟩
end
section
variable {X:Cx}
theorem tY {K:PySem.W.Frag} {T name id:String} {r:V->List V->Hp->VK->Prop} {o e:Expr} {es:List Expr} {to:TE} {t:TA} {apos cpos:Pos} (h:X.K=K) (pa:PlainAttrs T) (slot:Slot T name id) (hty:typeOf (.builtin id)=pure (.type "method_descriptor")) (hm:MtR X id r) (ho:PE X o to) (ha:PA X (e::es) t)
 (hbase:attributeBase o name X.env (eval o X.env)=eval o X.env:=by rfl)
 (hfew:((backTo cpos (starEach (e::es) X.env)).all (fun x=> !x.1)&&(backToKw cpos (keywordEach [] X.env)).all (fun x=>x.1.isSome)
   && decide ((e::es).length+([]:List Keyword).length+(if ([]:List Keyword).isEmpty then 0 else 1)<30))=true:=by rfl)
 (hline:(apos.endLine==cpos.line)=true:=by rfl) (hs:starEach (e::es) X.env=(false,eval e X.env)::starEach es X.env:=by rfl) (hplain:(backTo cpos (starEach es X.env)).any (·.1)=false:=by rfl):
 PE X (.Call (.Attribute o name apos) (e::es) [] cpos) (tBM K T r to t):=by
 subst h
 exact Us pa slot hty hm ho ha hbase hfew hline hs hplain
theorem lM {K:PySem.W.Frag} {es:List Expr} {k:Nat} {t:Rt} {n:Nat} {pos:Pos} (hK:X.K=K) (hc:X.calm=true) (h:X_ X es t)
 (hn:(assignEach es X.env).length=n:=by rfl) (hst:(assignEach es X.env).findIdx? (·.1)=none:=by rfl):PG X (.Tuple es k pos) (W_ K n t):=by subst hK;exact V5 hc h hn hst
end
end L2
set_option Elab.async false
set_option linter.all false
set_option maxRecDepth 100000
set_option maxHeartbeats 4000000
namespace L2
open PySem
section
variable {K:PySem.W.Frag} {a D:Addr} {xs:List V} {tc:TT} {te:TE} {Q:VK} {rest:St} {H1:Hp}
theorem dU {α:Type} (f:Nat->Option α) (n:Nat):(List.range (n+1)).filterMap f=(List.range n).filterMap f++(f n).toList:=by
 rw [List.range_succ,List.filterMap_append]
 cases h:f n<;>simp [h]
theorem qI {α:Type} (f:Nat->Option α) (n:Nat):((List.range n).filterMap f).length<=n:=by
 have:=List.length_filterMap_le f (List.range n)
 simpa using this
theorem Same.newly {H H1:Hp} {D:Addr} {o:HO} (h:Same H H1) (n:H D=none):Same H (upd H1 D o):=fun b u e=>by rw [aV (aD e n)];exact h b u e
theorem qL (f:Nat->Option V) (hD:H1 D=none) (hq:aZ K H1 a xs) (hx:xs.length<=100000)
 (hs:∀i x H (G:Hp->Prop) (F:VK),xs[i]? = some x->Same H1 H->(∀H',Same H H'->f i=none->G H')->(∀y H',Same H H'->f i=some y->F y H')->tc (some x::rest) H fun b H3=>if b=true then te (some x::rest) H3 F else G H3)
 (hd:∀H,Same H1 H->H D=some (.lst ((List.range xs.length).filterMap f))->Q (.ref D) H):qQ (Ua K a) (jU 0) tc te Q D (none::rest) H1:=by
 refine rE (K:=K) (xs:=xs) (fun i σ H=>(∃v,σ=v::rest)/\Same H1 H/\H D=some (.lst ((List.range i).filterMap f))) ⟨⟨none,rfl⟩,aB hD,ak⟩ (fun i σ H _ ⟨_,sm,_⟩=>sm.sqL _ _ hq) ?_ (fun σ H ⟨_,sm,e⟩=>hd H sm e)
 rintro i x σ H hi ⟨⟨v,rfl⟩,sm,e⟩
 have hil:i<xs.length:=(List.getElem?_eq_some_iff.mp hi).1
 refine hs i x H _ _ hi sm (fun H3 s3 ef=>⟨⟨_,rfl⟩,sm.trans s3,by rw [s3 _ _ e,dU,ef];simp⟩) (fun y H4 s4 ef=> ?_)
 refine ⟨_,s4 _ _ e, ?_,⟨_,rfl⟩,(sm.trans s4).newly hD, ?_⟩
 ·have:=qI f i
  rw [sizeLine_eq];omega
 ·rw [ak,dU,ef];rfl
theorem Ax (f:Nat->Option V) (hD:H1 D=none) (hq:H1 a=some (.tup xs)) (hx:xs.length<=100000)
 (hs:∀i x H (G:Hp->Prop) (F:VK),xs[i]? = some x->Same H1 H->(∀H',Same H H'->f i=none->G H')->(∀y H',Same H H'->f i=some y->F y H')->tc (some x::rest) H fun b H3=>if b=true then te (some x::rest) H3 F else G H3)
 (hd:∀H,Same H1 H->H D=some (.lst ((List.range xs.length).filterMap f))->Q (.ref D) H):qQ (Itt K a) (jU 0) tc te Q D (none::rest) H1:=by
 refine QB (K:=K) (xs:=xs) (fun i σ H=>(∃v,σ=v::rest)/\Same H1 H/\H D=some (.lst ((List.range i).filterMap f))) ⟨⟨none,rfl⟩,aB hD,ak⟩ (fun i σ H _ ⟨_,sm,_⟩=>cD.of (sm.tups _ _ hq)) ?_ (fun σ H ⟨_,sm,e⟩=>hd H sm e)
 rintro i x σ H hi ⟨⟨v,rfl⟩,sm,e⟩
 have hil:i<xs.length:=(List.getElem?_eq_some_iff.mp hi).1
 refine hs i x H _ _ hi sm (fun H3 s3 ef=>⟨⟨_,rfl⟩,sm.trans s3,by rw [s3 _ _ e,dU,ef];simp⟩) (fun y H4 s4 ef=> ?_)
 refine ⟨_,s4 _ _ e, ?_,⟨_,rfl⟩,(sm.trans s4).newly hD, ?_⟩
 ·have:=qI f i
  rw [sizeLine_eq];omega
 ·rw [ak,dU,ef];rfl
theorem rD {n:Nat} (f:Nat->Option V) (hD:H1 D=none) (hx:n<=100000)
 (hs:∀i H (G:Hp->Prop) (F:VK),i<n->Same H1 H->(∀H',Same H H'->f i=none->G H')->(∀y H',Same H H'->f i=some y->F y H')->tc (some (.int (0+i))::rest) H fun b H3=>if b=true then te (some (.int (0+i))::rest) H3 F else G H3)
 (hd:∀H,Same H1 H->H D=some (.lst ((List.range n).filterMap f))->Q (.ref D) H):qQ (Ve 0 n) (jU 0) tc te Q D (none::rest) H1:=by
 refine H_ (lo:=0) (n:=n) (fun i σ H=>(∃v,σ=v::rest)/\Same H1 H/\H D=some (.lst ((List.range i).filterMap f))) ⟨⟨none,rfl⟩,aB hD,ak⟩ ?_ (fun σ H ⟨_,sm,e⟩=>hd H sm e)
 rintro i σ H hi ⟨⟨v,rfl⟩,sm,e⟩
 refine hs i H _ _ hi sm (fun H3 s3 ef=>⟨⟨_,rfl⟩,sm.trans s3,by rw [s3 _ _ e,dU,ef];simp⟩) (fun y H4 s4 ef=> ?_)
 refine ⟨_,s4 _ _ e, ?_,⟨_,rfl⟩,(sm.trans s4).newly hD, ?_⟩
 ·have:=qI f i
  rw [sizeLine_eq];omega
 ·rw [ak,dU,ef];rfl
theorem gM {α β:Type} {f g:α->Option β}:∀(l:List α) (_:True) (h:∀x∈l,f x=g x),l.filterMap f=l.filterMap g
 | [],_,_=>rfl
 | x::l,_,h=>by
   rw [List.filterMap_cons,List.filterMap_cons,h x (by simp),gM l trivial fun y hy=>h y (by simp [hy])]
theorem snocInd {α:Type} {P:List α->Prop} (h0:P []) (hs:∀xs x,P xs->P (xs++[x])) (xs:List α):P xs:=by
 rw [←List.reverse_reverse xs]
 induction xs.reverse with
 | nil=>exact h0
 | cons x l ih=>rw [List.reverse_cons];exact hs _ _ ih
theorem wY {α β:Type} (xs:List α) (g:α->β):(List.range xs.length).filterMap (fun i=>(xs[i]?).map g)=xs.map g:=by
 refine snocInd (P:=fun xs=>(List.range xs.length).filterMap (fun i=>(xs[i]?).map g)=xs.map g) rfl (fun xs x ih=> ?_) xs
 ·show (List.range (xs++[x]).length).filterMap (fun i=>((xs++[x])[i]?).map g)=(xs++[x]).map g
  rw [List.length_append,List.length_singleton,dU,List.map_append]
  congr 1
  ·rw [←ih]
   refine gM _ trivial fun i hi=> ?_
   have:i<xs.length:=by simpa using hi
   rw [List.getElem?_append_left this]
  ·simp
theorem Ld {α β:Type} (xs:List α) (p:α->Bool) (g:α->β):(List.range xs.length).filterMap (fun i=>(xs[i]?).bind fun x=>if p x then some (g x) else none)=(xs.filter p).map g:=by
 refine snocInd (P:=fun xs=>(List.range xs.length).filterMap (fun i=>(xs[i]?).bind fun x=>if p x then some (g x) else none)=(xs.filter p).map g) rfl (fun xs x ih=> ?_) xs
 ·show (List.range (xs++[x]).length).filterMap (fun i=>((xs++[x])[i]?).bind fun x=>if p x then some (g x) else none)=((xs++[x]).filter p).map g
  rw [List.length_append,List.length_singleton,dU,List.filter_append,List.map_append]
  congr 1
  ·rw [←ih]
   refine gM _ trivial fun i hi=> ?_
   have:i<xs.length:=by simpa using hi
   rw [List.getElem?_append_left this]
  ·cases h:p x<;>simp [h]
end
end L2
namespace L2
open PySem
section
variable {X:Cx} {K:PySem.W.Frag}
theorem qt (h:X.K=K):rR X (binaryOp .Add) (Oa K):=by subst h;exact R7
end
end L2
namespace L2
open PySem
theorem oN {a b:TS} {D:Ends} {σ:St} {H:Hp} (h:∀R:St->Hp->Prop,(∀σ' H',b D σ' H'->R σ' H')->a {D with nx:=R} σ H):Bo a b D σ H:=h _ (fun _ _ x=>x)
theorem oO {a b:TS} {D:Ends} {σ:St} {H:Hp} (P:St->Hp->Prop) (h1:∀D':Ends,(∀σ' H',P σ' H'->D'.nx σ' H')->D'.rt=D.rt->a D' σ H) (h2:∀σ' H',P σ' H'->b D σ' H'):Bo a b D σ H:=h1 _ h2 rfl
end L2
namespace L2
open PySem PySem.Spec PyProof.Rows
section
variable {X:Cx} {K:PySem.W.Frag} {a:Expr} {ta:TE} {pos:Pos}
def ab6 (K:PySem.W.Frag) (ta:TE):TT:=fun σ H Q=>ta σ H fun x H'=>∃k,Xu K x H' k/\Q k H'
theorem Kv (h:X.K=K) (ha:PE X a ta) (he:∀whole,isTrue a X.env whole=(do let v ←whole;standAt a.pos;holding [v] (truthy v)):=by intro _;rfl):PT X a (ab6 K ta):=by
 subst h
 exact Oe ha he
end
end L2
set_option Elab.async false
set_option linter.all false
set_option maxRecDepth 100000
set_option maxHeartbeats 4000000
namespace L2
open PySem PySem.Spec PyProof.Rows
section
variable {X:Cx} {K:PySem.W.Frag}
end
section
variable {K:PySem.W.Frag} {a D:Addr} {xs:List V} {te:TE} {Q:VK} {rest:St} {H1:Hp}
theorem vD {H:Hp} {vs:List V} {ds:List PyData} {v:V} {d:PyData} (h:aH H vs ds) (hd:Dat H v d):aH H (vs++[v]) (ds++[d]):=aH.append h (by simp only [aH,and_true];exact hd)
end
end L2
set_option Elab.async false
set_option linter.all false
set_option maxRecDepth 100000
set_option maxHeartbeats 4000000
namespace L2
open PySem PySem.Spec PyProof.Rows
section
variable {prog:Program} {w:World} {K:Type} [DecidableEq K] {knd:HeapKind prog w K}
end
section
variable {X:Cx} {o e f:Expr} {td ty tx:TE} {apos cpos:Pos}
end
end L2
namespace L2
open PySem PySem.Spec PyProof.Rows
section
variable {X:Cx} {K:PySem.W.Frag}
end
end L2
namespace L2
open PySem
end L2
set_option Elab.async false
set_option linter.all false
set_option maxRecDepth 100000
set_option maxHeartbeats 4000000
namespace L2
open PySem PySem.Spec PyProof.Rows
section
variable {X:Cx} {K:PySem.W.Frag}
end
def cat:List Str->Str
 | []=>Str.empty
 | x::xs=>x++cat xs
end L2
set_option Elab.async false
set_option linter.all false
set_option maxRecDepth 100000
set_option maxHeartbeats 4000000
namespace L2
open PySem PySem.Spec PyProof.Rows
section
variable {X:Cx} {body suite:List Stmt} {b0:Stmt} {cn:Str} {Dc:Addr} {tb:(St->XK)->TS} {th:TS} {cp hpos pos:Pos}
end
end L2
namespace L2
open PySem PySem.Spec PyProof.Rows
section
variable {X:Cx}
end
end L2
set_option Elab.async false
set_option linter.all false
set_option maxRecDepth 100000
set_option maxHeartbeats 4000000
namespace L2
open PySem PySem.Spec PyProof.Rows
section
variable {X:Cx} {pins:List (Addr×Obj)} {σ:St} {H:Hp} {s:Shared} {d:Addr} {u u':HO}
theorem Inv.Jl (I:Inv X pins σ H s) (e:H d=some u) (h1:∀xs,u ≠ .tup xs) (h2:∀a,u ≠ .own a) (h3:∀ps,u ≠ .Ry ps) (hz:∀o v,X.H₀ d≠some (.jB o v)) (ok:bQ X.prog X.w (upd H d u') s.heap d u'):Inv X pins σ (upd H d u') s:=by
 have nd:∀{b:Addr},H b=none->b≠d:=fun q z=>by rw [z,e] at q;cases q
 have ht:∀b xs,H b=some (HO.tup xs)->(upd H d u') b=some (HO.tup xs):=fun b xs q=>by
  have:b≠d:=fun z=>by rw [z,e] at q;exact h1 xs (Option.some.inj q)
  rw [aV this];exact q
 refine ⟨I.ok,I.os,I.bare,⟨I.base.keep,I.base.slot,fun b o q n hx=> ?_,I.base.there,fun b xs q=>ht b xs (I.base.tups b xs q),fun b o v q=> ?_,fun b ps q=> ?_⟩,I.loc,I.cell, ?_,fun x c q=> ?_,fun p hp=> ?_,fun b v q=> ?_,I.len⟩
 ·have:=I.base.free b o q n hx
  rw [aV (nd this)];exact this
 ·have:=I.base.rP b o v q
  have nb:b≠d:=fun z=>by rw [z] at q;exact hz o v q
  rw [aV nb];exact this
 ·obtain ⟨more,r⟩:=I.base.u9 b ps q
  have nb:b≠d:=fun z=>by rw [z,e] at r;exact h3 _ (Option.some.inj r)
  exact ⟨more,by rw [aV nb];exact r⟩
 ·rw [aV (nd I.free)];exact I.free
 ·rw [aV (nd (I.jg x c q))];exact I.jg x c q
 ·obtain ⟨q1,q2,q3⟩:=I.pin p hp
  exact ⟨q1,by rw [aV (nd q2)];exact q2,q3⟩
 ·by_cases hb:b=d
  ·subst hb
   rw [ak] at q
   cases q
   exact ok
  ·rw [aV hb] at q
   refine (I.hok b v q).stay (fun _ _ _ r=>r) (fun c r=> ?_) ht
   have:c≠d:=fun z=>by rw [z,e] at r;exact h2 _ (Option.some.inj r)
   rw [aV this];exact r
theorem Inv.Uv {kvs:List (Key×V)} (I:Inv X pins σ H s) (e:H d=some (.dK kvs)):∀o v,X.H₀ d≠some (.jB o v):=fun o v q=>by
 have:=I.base.rP d o v q
 rw [e] at this
 cases this
theorem Inv.freeze {kvs:List (Key×V)} {o:Obj} (I:Inv X pins σ H s) (e:H d=some (.dK kvs)) (ho:s.heap.get? d=some o):Inv X pins σ (upd H d (.jB o (.dK kvs))) s:=by
 refine I.Jl e (fun _ z=>by cases z) (fun _ z=>by cases z) (fun _ z=>by cases z) (I.Uv e) ⟨ho, ?_⟩
 obtain ⟨z,y,vs,r,dd⟩:=(show bQ X.prog X.w H s.heap d (.dK kvs) from I.hok d _ e)
 exact ⟨z,y,vs,r,dd⟩
theorem Inv.ab5 {kvs:List (Key×V)} {o:Obj} (I:Inv X pins σ H s) (e:H d=some (.jB o (.dK kvs))) (hz:∀o v,X.H₀ d≠some (.jB o v)):Inv X pins σ (upd H d (.dK kvs)) s:=by
 refine I.Jl e (fun _ z=>by cases z) (fun _ z=>by cases z) (fun _ z=>by cases z) hz ?_
 obtain ⟨_,z,y,vs,r,dd⟩:=(show bQ X.prog X.w H s.heap d (.jB o (.dK kvs)) from I.hok d _ e)
 exact ⟨z,y,vs,r,dd⟩
end
def Yc (d:Addr) (o:Obj) (kvs:List (Key×V)):It:=
 ⟨fun i H=>i<kvs.length/\H d=some (.jB o (.dK kvs)),fun i H x H'=>H'=H /\ ∃k v,kvs[i]? = some (k,v)/\x=kV k,fun i H=>kvs.length<=i/\H d=some (.jB o (.dK kvs))⟩
theorem Wu {kvs:List (Key×V)} {vs:List (Key×Value)} (r:KV kvs vs):∀(i:Nat) (k:Key) (v:V),kvs[i]? = some (k,v) -> ∃u,vs[i]? = some (k,u):=by
 induction r with
 | nil=>intro i k v h;cases h
 | cons h r ih=>
   intro i k v e
   cases i with
   | zero=>
     have e':=Option.some.inj e
     rename_i p q _ _
     obtain ⟨h1,h2⟩:=h
     obtain ⟨q1,q2⟩:=q
     refine ⟨q2, ?_⟩
     have:q1=k:=by rw [e'] at h1;exact h1.symm
     subst this
     rfl
   | succ i=>exact ih i k v (by simpa using e)
theorem J_ {P:Program} {w:World} {K:PySem.W.Frag} {tg:Expr} (d it:Addr) (o:Obj) (kvs:List (Key×V)) (es:Array DictEntry) (ep:Nat) (hd:o.data = .dict es ep):Turn P w K tg (Yc d o kvs) [it] it (fun i h=>h.IsKeyIter it d i kvs.length ep) where
 mem:=by simp
 obj:=fun i h st b hb=>by
  have e:b=it:=by simpa using hb
  subst e
  obtain ⟨o,e,c,d⟩:=st
  exact ⟨o,e,fun v z=>by rw [d] at z;cases z⟩
 keep:=fun i h h' st k=>by
  obtain ⟨o,e,c,d⟩:=st
  exact ⟨o,k it (by simp) o e,c,d⟩
 item:=by
  intro X hP hw hK hc i pins s σ H E I hf st hg
  subst hP hw hK
  obtain ⟨hi,hH⟩:=hg
  obtain ⟨ho,z,y,vs,r,o',es',ep',q1,q2,q3,q4,q5,q6⟩:=(show bQ X.prog X.w H s.heap d (.jB o (.dK kvs)) from I.hok d _ hH)
  rw [ho] at q1
  cases q1
  rw [hd] at q3
  cases q3
  have hl:kvs.length=vs.length:=r.length
  obtain ⟨k,v,Tw⟩:∃k v,kvs[i]? = some (k,v):=⟨kvs[i].1,kvs[i].2,by simp [hi]⟩
  obtain ⟨u,eu⟩:=Wu r i k v Tw
  obtain ⟨f0,f1,f2,f3,f4,f5⟩:=hf it (by simp)
  refine wpAny_pyNext_dict_item (knd:=cC X.prog X.w) (by rw [←hl];exact st) ⟨o,es,ho,q2,hd,q4,q5,q6⟩ eu fun key h' hk st' sb=> ?_
  have I1:Inv X pins σ H {s with heap:=h'}:=I.turned (t':=s.toks) (fun b o hb e=>(sb.2 b hb).trans e) f0 f1 f3 f4 f5
  obtain ⟨ob,e,c,dd⟩:=id st'
  have rk:RelV (kV k) key:=by
   rw [Hu] at hk
   rcases cX hk with ⟨j,t,e1,e2⟩|⟨x,t,e1,e2⟩
   ·subst e1;subst e2;exact ⟨t,rfl⟩
   ·subst e1;subst e2;exact ⟨t,rfl⟩
  exact ⟨key,rfl,Aq (s:={s with heap:=h'}) e c dd (by decide) ⟨kV k,H,I1,rk,⟨rfl,k,v,Tw,rfl⟩,by rw [hl];exact st',fun b hb=>(hf b hb).1⟩⟩
 done:=by
  intro X hP hw hK hc i pins s σ H E I hf st hg
  subst hP hw hK
  obtain ⟨hi,hH⟩:=hg
  obtain ⟨ho,z,y,vs,r,o',es',ep',q1,q2,q3,q4,q5,q6⟩:=(show bQ X.prog X.w H s.heap d (.jB o (.dK kvs)) from I.hok d _ hH)
  rw [ho] at q1
  cases q1
  rw [hd] at q3
  cases q3
  have hl:kvs.length=vs.length:=r.length
  obtain ⟨f0,f1,f2,f3,f4,f5⟩:=hf it (by simp)
  exact wpAny_pyNext_dict_end (knd:=cC X.prog X.w) (I.ok.hd hc) (by rw [←hl];exact st) ⟨o,es,ho,q2,hd,q4,q5,q6⟩ (by simp;omega) fun h' eb=>⟨rfl,I.turned (t':=s.toks) (fun b o hb e=>eb b o hb e) f0 f1 f3 f4 f5⟩
 self:=fun _ _ _ _ _ st h=>wpAny_pyIter_keyiter st h
section
variable {X:Cx} {tg:Expr}
def Zq (tl:TE):TI:=fun σ H R=>tl σ H fun x H1=>∃d kvs,x = .ref d/\H1 d=some (.dK kvs) /\ ∀o,R (Yc d o kvs) (upd H1 d (.jB o (.dK kvs)))
theorem Js {l:Expr} {tl:TE} (hl:PE X l tl):PI X tg l (Zq tl):=by
 intro pins s σ H R I h
 refine dz (hl pins s σ H _ I h) fun v s1 ⟨x,H1,I1,r1,q1⟩=> ?_
 obtain ⟨d,kvs,e,hH,q⟩:=q1
 subst e
 cases r1
 obtain ⟨z,hd,vs,r,o,es,ep,ho,q2,q3,q4,q5,q6⟩:=Qs I1.hok hH
 refine wpAny_pyIter_dict (knd:=cC X.prog X.w) hd ⟨o,es,ho,q2,q3,q4,q5,q6⟩ ?_
 have If:=I1.freeze hH ho
 have hl:kvs.length=vs.length:=r.length
 have Sv:(upd H1 d (HO.jB o (.dK kvs))) s1.heap.objs.size=none:=by
  rw [aV (Ne.symm (Nat.ne_of_lt (Heap.lt_size ho)))]
  exact I1.hok.fresh (Nat.le_refl _)
 refine ⟨s1.heap.objs.size,[s1.heap.objs.size],_,_,upd H1 d (.jB o (.dK kvs)),rfl,If.kept (t':=s1.toks) fun b o e=>Heap.get?_push_of_some _ e,J_ d _ o kvs es ep q3,⟨_,Heap.get?_push_size _ rfl,rfl,by rw [hl];rfl⟩,fun b hb=> ?_,q o⟩
 have e:b=s1.heap.objs.size:=by simpa using hb
 subst e
 exact If.wC (Nat.le_refl _) Sv
end
section
variable {d D:Addr} {o:Obj} {kvs:List (Key×V)} {tc:TT} {te:TE} {Q:VK} {rest:St} {H1:Hp}
theorem Lr (f:Nat->Option V) (hD:H1 D=none) (hq:H1 d=some (.jB o (.dK kvs))) (hx:kvs.length<=100000)
 (hs:∀i k v H (G:Hp->Prop) (F:VK),kvs[i]? = some (k,v)->Same H1 H->(∀H',Same H H'->f i=none->G H')->(∀y H',Same H H'->f i=some y->F y H')->tc (some (kV k)::rest) H fun b H3=>if b=true then te (some (kV k)::rest) H3 F else G H3)
 (hd:∀H,Same H1 H->H D=some (.lst ((List.range kvs.length).filterMap f))->Q (.ref D) H):qQ (Yc d o kvs) (jU 0) tc te Q D (none::rest) H1:=by
 refine ⟨fun i m σ H=>m=kvs.length - i/\i<=kvs.length/\(∃v,σ=v::rest)/\Same H1 H/\H D=some (.lst ((List.range i).filterMap f)),⟨kvs.length,by simp,Nat.zero_le _,⟨none,rfl⟩,aB hD,ak⟩, ?_⟩
 rintro i m σ H ⟨rfl,hi,⟨v,rfl⟩,sm,e⟩
 by_cases hlt:i<kvs.length
 ·refine .inr ⟨⟨hlt,sm _ _ hq⟩,fun σ' H'=>i+1<=kvs.length/\(∃v,σ'=v::rest)/\Same H1 H'/\H' D=some (.lst ((List.range (i+1)).filterMap f)),fun σ' H' p'=>⟨kvs.length - (i+1),by omega,rfl,p'⟩,fun x H' y=> ?_⟩
  obtain ⟨rfl,k,w,Tw,rfl⟩:=y
  refine hs i k w _ _ _ Tw sm (fun H3 s3 ef=>⟨hlt,⟨_,rfl⟩,sm.trans s3,by rw [s3 _ _ e,dU,ef];simp⟩) (fun y H4 s4 ef=> ?_)
  refine ⟨_,s4 _ _ e, ?_,hlt,⟨_,rfl⟩,(sm.trans s4).newly hD, ?_⟩
  ·have:=qI f i
   rw [sizeLine_eq];omega
  ·rw [ak,dU,ef];rfl
 ·have e':i=kvs.length:=by omega
  subst e'
  exact .inl ⟨⟨Nat.le_refl _,sm _ _ hq⟩,hd H sm e⟩
end
def aip (H H' Ub:Hp):Prop:=∃d Pq o kvs,H d=some (.dK Pq)/\H' d=some (.jB o (.dK kvs))/\Ub=upd H' d (.dK kvs)
def Yw (t:TS):TS:=fun D σ H=>t {D with nx:=fun σ' H'=>∃Ub,aip H H' Ub/\D.nx σ' Ub} σ H
theorem Jp {X:Cx} {st:Stmt} {t:TS} (h:PS X st t):PS X st (Yw t):=by
 intro pins s σ H D I q
 refine wpAny_mono (h pins s σ H _ I q) (fun f s1 q1=> ?_) fun _ _ z=>z
 cases f with
 | next=>
   obtain ⟨σ1,H1,I1,H2,⟨d,Pq,o,kvs,e1,e2,rfl⟩,q2⟩:=q1
   exact ⟨σ1,_,I1.ab5 e2 (I.Uv e1),q2⟩
 | brk=>exact q1
 | cont=>exact q1
 | ret u=>exact q1
end L2
set_option Elab.async false
set_option linter.all false
set_option maxRecDepth 100000
set_option maxHeartbeats 4000000
namespace L2
open PySem PySem.Spec PyProof.Rows
theorem Qk {d:Addr} {o:Obj} {kvs:List (Key×V)} {g:TG} {tb:TS} {D:Ends} {σ:St} {H:Hp} (Pv:Nat->St->Hp->Prop) (h0:Pv 0 σ H) (hl:∀i σ H,i<=kvs.length->Pv i σ H->H d=some (.jB o (.dK kvs)))
 (hs:∀i k v σ H,kvs[i]? = some (k,v)->Pv i σ H->g (kV k) σ H fun σ2 H2=>tb {D with nx:=Pv (i+1),ct:=Pv (i+1),bk:=D.nx} σ2 H2) (hd:∀σ H,Pv kvs.length σ H->D.nx σ H):
 ∃W:Nat->Nat->St->Hp->Prop,(∃m,W 0 m σ H) /\ ∀i m σ H,W i m σ H ->
  ((Yc d o kvs).stop i H/\D.nx σ H)\/((Yc d o kvs).go i H /\ ∃N:St->Hp->Prop,(∀σ' H',N σ' H' -> ∃m',m'<m/\W (i+1) m' σ' H') /\ ∀x H',(Yc d o kvs).Uh i H x H'->g x σ H' fun σ2 H2=>tb {D with nx:=N,ct:=N,bk:=D.nx} σ2 H2):=by
 refine ⟨fun i m σ H=>m=kvs.length - i/\i<=kvs.length/\Pv i σ H,⟨kvs.length,by simp,Nat.zero_le _,h0⟩, ?_⟩
 rintro i m σ H ⟨rfl,hi,p⟩
 have q:=hl i σ H hi p
 by_cases hlt:i<kvs.length
 ·refine .inr ⟨⟨hlt,q⟩,Pv (i+1),fun σ' H' p'=>⟨kvs.length - (i+1),by omega,rfl,hlt,p'⟩,fun x H' y=> ?_⟩
  obtain ⟨rfl,k,v,e,rfl⟩:=y
  exact hs i k v σ _ e p
 ·have e:i=kvs.length:=by omega
  subst e
  exact .inl ⟨⟨Nat.le_refl _,q⟩,hd σ H p⟩
def vW (hs:List Int) (g:Int->Int):List (Key×V):=hs.map fun h=>(Sum.inl h,V.int (g h))
theorem Cr {hs:List Int} {g:Int->Int}:∀(h:Int),gF (vW hs g) (Sum.inl h)=if h∈hs then some (V.int (g h)) else none:=by
 intro h
 induction hs with
 | nil=>rfl
 | cons x hs ih=>
   show gF ((Sum.inl x,V.int (g x))::vW hs g) _=_
   by_cases e:x=h
   ·subst e
    rw [dY rfl,if_pos (List.mem_cons_self ..)]
   ·rw [dJ (fun z=>e (Sum.inl.inj z)),ih]
    by_cases m:h∈hs
    ·rw [if_pos m,if_pos (List.mem_cons_of_mem _ m)]
    ·rw [if_neg m,if_neg (fun z=>(List.mem_cons.mp z).elim (fun z=>e z.symm) m)]
def Fv (g:Int->Int) (h v:Int):Int->Int:=fun x=>if x=h then v else g x
def hAdd (hs:List Int) (h:Int):List Int:=if h∈hs then hs else hs++[h]
theorem Sx {hs:List Int} {g:Int->Int} (h v:Int):putK (vW hs g) (Sum.inl h) (V.int v)=vW (hAdd hs h) (Fv g h v):=by
 unfold putK hAdd
 rw [lV,Cr]
 by_cases m:h∈hs
 ·rw [if_pos m,Option.isSome_some,if_pos rfl,if_pos m]
  unfold vW
  rw [List.map_map]
  refine List.map_congr_left fun x _=> ?_
  simp only [Function.comp,Fv]
  by_cases e:x=h
  ·subst e;simp
  ·rw [if_neg (fun z=>e (Sum.inl.inj z)),if_neg e]
 ·rw [if_neg m,if_neg (by simp),if_neg m]
  unfold vW
  rw [List.map_append]
  congr 1
  ·refine List.map_congr_left fun x hx=> ?_
   have:x≠h:=fun z=>m (z▸hx)
   simp only [Fv,if_neg this]
  ·simp [Fv]
theorem yG:∀(n:Nat) (hs:List Int),hs.Nodup->(∀h∈hs,0<=h/\h<(n:Int))->hs.length<=n
 | 0,hs,_,hr=>by
   cases hs with
   | nil=>exact Nat.le_refl _
   | cons x hs=>have:=hr x (List.mem_cons_self ..);omega
 | n+1,hs,nd,hr=>by
   have ih:=yG n (hs.erase (n:Int)) (nd.erase _) fun h hh=>by
    have h1:=(nd.mem_erase_iff).mp hh
    have h2:=hr h h1.2
    have:=h1.1
    omega
   by_cases m:(n:Int)∈hs
   ·rw [List.length_erase_of_mem m] at ih;omega
   ·rw [List.erase_of_not_mem m] at ih;omega
theorem Ti {hs:List Int} {h:Int} (nd:hs.Nodup):(hAdd hs h).Nodup:=by
 unfold hAdd
 by_cases m:h∈hs
 ·rw [if_pos m];exact nd
 ·rw [if_neg m]
  rw [List.nodup_append]
  exact ⟨nd,by simp,fun a ha b hb e=>by simp at hb;subst hb;subst e;exact m ha⟩
theorem yU {hs:List Int} {h x:Int}:x∈hAdd hs h↔x∈hs\/x=h:=by
 unfold hAdd
 by_cases m:h∈hs
 ·rw [if_pos m]
  exact ⟨.inl,fun z=>z.elim id fun e=>e▸m⟩
 ·rw [if_neg m];simp
structure jm (H:Hp) (d:Addr) (g:Int->Int):Prop where
 ex:∃hs:List Int,H d=some (.dK (vW hs g))/\hs.Nodup/\(∀h∈hs,0<=h/\h<8) /\ ∀h,h∉hs->g h=0
 nn:∀h,0<=g h
theorem jm.get {H:Hp} {d:Addr} {g:Int->Int} (k:jm H d g):∃kvs,H d=some (.dK kvs)/\kvs.length<=8 /\ ∀h:Int,(gF kvs (Sum.inl h)).getD (.int 0) = .int (g h):=by
 obtain ⟨hs,e,nd,r,z⟩:=k.ex
 refine ⟨_,e,by rw [vW,List.length_map];exact yG 8 hs nd r,fun h=> ?_⟩
 rw [Cr]
 by_cases m:h∈hs
 ·rw [if_pos m];rfl
 ·rw [if_neg m,z h m];rfl
theorem jm.put {H:Hp} {d:Addr} {g:Int->Int} {h v:Int} (k:jm H d g) (h0:0<=h) (h1:h<8) (v0:0<=v):∃kvs,H d=some (.dK kvs)/\kvs.length<sizeLine /\ ∀H',H' d=some (.dK (putK kvs (Sum.inl h) (.int v)))->jm H' d (Fv g h v):=by
 obtain ⟨hs,e,nd,r,z⟩:=k.ex
 refine ⟨_,e, ?_,fun H' e'=>⟨⟨hAdd hs h,by rw [e',Sx],Ti nd,fun x hx=> ?_,fun x hx=> ?_⟩,fun x=> ?_⟩⟩
 ·have:=yG 8 hs nd r
  rw [vW,List.length_map,sizeLine_eq];omega
 ·rcases yU.mp hx with hx|rfl
  ·exact r x hx
  ·exact ⟨h0,h1⟩
 ·have n1:x∉hs:=fun z=>hx (yU.mpr (.inl z))
  have n2:x≠h:=fun z=>hx (yU.mpr (.inr z))
  unfold Fv
  rw [if_neg n2];exact z x n1
 ·unfold Fv
  split
  ·exact v0
  ·exact k.nn x
theorem jm.kp {H H':Hp} {d r:Addr} {g:Int->Int} (k:jm H d g) (kp:Kp r H H') (n:d≠r):jm H' d g:=by
 obtain ⟨hs,e,q⟩:=k.ex
 exact ⟨⟨hs,kp _ _ e n,q⟩,k.nn⟩
theorem jm.same {H H':Hp} {d:Addr} {g:Int->Int} (k:jm H d g) (s:Same H H'):jm H' d g:=by
 obtain ⟨hs,e,q⟩:=k.ex
 exact ⟨⟨hs,s _ _ e,q⟩,k.nn⟩
theorem jm.ext {H:Hp} {d:Addr} {g g':Int->Int} (k:jm H d g) (e:∀h,g h=g' h):jm H d g':=by
 have:g=g':=funext e
 rw [←this];exact k
end L2
set_option Elab.async false
set_option linter.all false
set_option maxRecDepth 100000
set_option maxHeartbeats 4000000
namespace L2
open PySem PySem.Spec PyProof.Rows
def Q_ (hi:Int) (n:Nat):It:=⟨fun i _=>i<n,fun i H x H'=>H'=H/\x = .int (hi - i),fun i _=>n<=i⟩
theorem DN {P:Program} {w:World} {K:PySem.W.Frag} {tg:Expr} (it:Addr) (hi:Int) (n:Nat):Turn P w K tg (Q_ hi n) [it] it (fun i h=>IsRangeIter h it (hi+(i:Nat)*(-1)) ((n:Int) - (i:Nat)) (-1)) where
 mem:=by simp
 obj:=fun i h st b hb=>by
  have e:b=it:=by simpa using hb
  subst e
  exact ⟨_,st,fun v z=>by
   have z':Data.fields _=Data.cell v:=z
   cases z'⟩
 keep:=fun i h h' st k=>k it (by simp) _ st
 item:=by
  intro X hP hw hK hc i pins s σ H E I hf st hg
  subst hP hw hK
  obtain ⟨f0,f1,f2,f3,f4,f5⟩:=hf it (by simp)
  have W:=Walks.range (prog:=X.prog) (w:=X.w) (I.ok.hd hc) it hi (-1) n
  refine W.item i s _ _ hg st fun v h' tk hv st' kk=> ?_
  obtain ⟨t,rfl⟩:=hv
  have I1:Inv X pins σ H {s with heap:=h',toks:=tk}:=I.turned (fun b o hb e=>kk b o (by simpa using hb) e) f0 f1 f3 f4 f5
  refine ⟨_,rfl,Aq (s:={s with heap:=h',toks:=tk}) (n:= "range_iterator") st' rfl rfl (by decide) ⟨.int (hi - i),H,I1,⟨t, ?_⟩,⟨rfl,rfl⟩,st',fun b hb=>(hf b hb).1⟩⟩
  congr 1
  omega
 done:=by
  intro X hP hw hK hc i pins s σ H E I hf st hg
  subst hP hw hK
  obtain ⟨f0,f1,f2,f3,f4,f5⟩:=hf it (by simp)
  exact wpAny_pyNext_range_end (I.ok.hd hc) st (by have:n<=i:=hg;omega) fun h' eb=>⟨rfl,I.turned (t':=s.toks) (fun b o hb e=>eb b o hb e) f0 f1 f3 f4 f5⟩
 self:=fun _ _ _ _ _ st h=>wpAny_pyIter_rangeiter st h
section
variable {X:Cx} {tg:Expr}
theorem Ul (a b:Int):Builtin.Range.rangeSize a b (-1)=if a>b then a - b else 0:=by
 unfold Builtin.Range.rangeSize
 rw [if_neg (by decide)]
 split
 ·simp
 ·rfl
theorem Kf {a b:Int} (h1: -(2 ^ 61)<=a) (h2:a<2 ^ 61) (h3: -(2 ^ 61)<=b) (h4:b<2 ^ 61):Builtin.Range.small a b (-1)=true:=by
 unfold Builtin.Range.small
 rw [Ul]
 have fits:∀z:Int, -(2 ^ 63)<=z->z<2 ^ 63->Builtin.Range.rangeFitsLong z=true:=fun z l1 l2=>by
  unfold Builtin.Range.rangeFitsLong
  rw [decide_eq_true l1,decide_eq_true l2];rfl
 have f1:=fits (if a>b then a - b else 0) (by split<;>omega) (by split<;>omega)
 have f2:=fits (b+(-1+1)) (by omega) (by omega)
 simp only [fits a (by omega) (by omega),fits b (by omega) (by omega),fits (-1) (by decide) (by decide),f1,f2,Bool.and_self,Bool.true_and,show ¬((-1:Int)>0) by decide,if_false,Bool.or_true]
def Zn (ta:TA):TI:=fun σ H R=>ta σ H fun vs H1=>∃i j:Int,vs=[.int i,.int j,.int (-1)]/\(-(2 ^ 61)<=i/\i<2 ^ 61 /\ -(2 ^ 61)<=j/\j<2 ^ 61)/\R (Q_ i (i - j).toNat) H1
theorem Ag {a b c:Expr} {ta:TA} {p pos:Pos} (hg:Gl X "range") (hm:X.mg "range" = none) (ha:PA X [a,b,c] ta) (hs:starEach [a,b,c] X.env=[(false,eval a X.env),(false,eval b X.env),(false,eval c X.env)]:=by rfl) (hs2:starEach [b,c] X.env=[(false,eval b X.env),(false,eval c X.env)]:=by rfl):
 PI X tg (.Call (.Name "range" p) [a,b,c] [] pos) (Zn ta):=by
 intro pins s σ H R I h
 refine Call_ (qy I hg hm boot_range (PyProof.Rows.callWith_type1 (dz (ha pos pins s σ H _ I h) fun us s1 ⟨vs,H1,I1,r1,q1⟩=> ?_) (by rw [hs,hs2]) (by rw [hs2];rfl)))
 obtain ⟨i,j,e,⟨q1,q2,q3,q4⟩,q⟩:=q1
 subst e
 cases r1 with
 | cons r rr=>
   cases rr with
   | cons r' rr=>
     cases rr with
     | cons r'' rr=>
       cases rr
       obtain ⟨t,rfl⟩:=r
       obtain ⟨t',rfl⟩:=r'
       obtain ⟨t'',rfl⟩:=r''
       refine call_range_3 (by decide) ?_ (.inl (PyProof.noPylong_small (by decide)))
       refine wpAny_pyIter_range (IsRange.new ..) (Kf q1 q2 q3 q4) ?_
       have I2:Inv X pins σ H1 {s1 with heap:=s1.heap.push {cls:= .type "range",data:= .fields #[.int i t,.int j t',.int (-1) t'']}}:=I1.kept (t':=s1.toks) fun b o e=>Heap.get?_push_of_some _ e
       refine ⟨(s1.heap.push {cls:= .type "range",data:= .fields #[.int i t,.int j t',.int (-1) t'']}).objs.size,[(s1.heap.push {cls:= .type "range",data:= .fields #[.int i t,.int j t',.int (-1) t'']}).objs.size],_,_,H1,rfl,
        I2.kept (t':=s1.toks) fun b o e=>Heap.get?_push_of_some _ e,DN _ i (i - j).toNat, ?_,fun b hb=> ?_,q⟩
       ·have e1:i+((0:Nat):Int)*(-1)=i:=by simp
        have e2:(((i - j).toNat:Nat):Int) - ((0:Nat):Int)=Builtin.Range.rangeSize i j (-1):=by rw [Ul];split<;>omega
        show IsRangeIter _ _ (i+((0:Nat):Int)*(-1)) ((((i - j).toNat:Nat):Int) - ((0:Nat):Int)) (-1)
        rw [e1,e2]
        exact Heap.get?_push_size _ rfl
       ·have e:b=(s1.heap.push {cls:= .type "range",data:= .fields #[.int i t,.int j t',.int (-1) t'']}).objs.size:=by simpa using hb
        subst e
        exact I2.wC (Nat.le_refl _) (I2.hok.fresh (Nat.le_refl _))
theorem yV {hi:Int} {n:Nat} {g:TG} {tb:TS} {D:Ends} {σ:St} {H:Hp} (Pv:Nat->St->Hp->Prop) (h0:Pv 0 σ H)
 (hs:∀i σ H,i<n->Pv i σ H->g (.int (hi - i)) σ H fun σ2 H2=>tb {D with nx:=Pv (i+1),ct:=Pv (i+1),bk:=D.nx} σ2 H2) (hd:∀σ H,Pv n σ H->D.nx σ H):
 ∃W:Nat->Nat->St->Hp->Prop,(∃m,W 0 m σ H) /\ ∀i m σ H,W i m σ H ->
  ((Q_ hi n).stop i H/\D.nx σ H)\/((Q_ hi n).go i H /\ ∃N:St->Hp->Prop,(∀σ' H',N σ' H' -> ∃m',m'<m/\W (i+1) m' σ' H') /\ ∀x H',(Q_ hi n).Uh i H x H'->g x σ H' fun σ2 H2=>tb {D with nx:=N,ct:=N,bk:=D.nx} σ2 H2):=by
 refine ⟨fun i m σ H=>m=n - i/\i<=n/\Pv i σ H,⟨n,by simp,Nat.zero_le _,h0⟩, ?_⟩
 rintro i m σ H ⟨rfl,hi',p⟩
 by_cases hlt:i<n
 ·refine .inr ⟨hlt,Pv (i+1),fun σ' H' p'=>⟨n - (i+1),by omega,rfl,hlt,p'⟩,fun x H' y=> ?_⟩
  obtain ⟨e,y⟩:=y
  subst e y
  exact hs i σ _ hlt p
 ·have e:i=n:=by omega
  subst e
  exact .inl ⟨Nat.le_refl _,hd σ H p⟩
theorem vX (v:Nat->Int):∀n,argBest (fun i j=>decide (v i<v j)) n<=n /\ ∀j,j<=n->v (argBest (fun i j=>decide (v i<v j)) n)<=v j
 | 0=>⟨Nat.le_refl _,fun j hj=>by
   have:j=0:=by omega
   subst this
   exact Int.le_refl _⟩
 | n+1=>by
   obtain ⟨l,ih⟩:=vX v n
   have e:argBest (fun i j=>decide (v i<v j)) (n+1)=if decide (v (n+1)<v (argBest (fun i j=>decide (v i<v j)) n)) then n+1 else argBest (fun i j=>decide (v i<v j)) n:=rfl
   rw [e]
   by_cases q:v (n+1)<v (argBest (fun i j=>decide (v i<v j)) n)
   ·rw [decide_eq_true q,if_pos rfl]
    refine ⟨Nat.le_refl _,fun j hj=> ?_⟩
    by_cases hj':j=n+1
    ·subst hj';exact Int.le_refl _
    ·have:=ih j (by omega)
     omega
   ·rw [decide_eq_false q,if_neg (by decide)]
    refine ⟨by omega,fun j hj=> ?_⟩
    by_cases hj':j=n+1
    ·subst hj';omega
    ·exact ih j (by omega)
def YD (K:PySem.W.Frag):List V->Hp->VK->Prop:=fun xs H Q=>∃(p:Addr) (ns:List Int),xs=[.ref p]/\aZ K H p (ns.map V.int)/\0<ns.length /\ ∀m,m∈ns->(∀a∈ns,m<=a)->Q (.int m) H
theorem Ig {K:PySem.W.Frag} (hK:X.K=K) (hc:X.calm=true):fU X (.builtin "min") (YD K):=by
 subst hK
 intro pins s σ H xs us Q I r h
 obtain ⟨p,ns,rfl,hq,hpos,q⟩:=h
 obtain ⟨u,rfl,rx⟩:=vals1 r
 cases rx
 obtain ⟨its,rv,pl,hz⟩:=I.list hq
 have hlen:its.length=ns.length:=by rw [←rv.length,List.length_map]
 have item:∀(i:Nat) (v:Value),its[i]? = some v -> ∃t,v=Value.int ((ns[i]?).getD 0) t/\ns[i]? = some ((ns[i]?).getD 0):=by
  intro i v hP
  have hi:i<its.length:=(List.getElem?_eq_some_iff.mp hP).1
  obtain ⟨u,hu,ru⟩:=rv.get (i:=i) (x:=V.int (ns[i]'(by omega))) (by simp [show i<ns.length by omega])
  rw [hP] at hu
  cases hu
  obtain ⟨t,ht⟩:=ru
  exact ⟨t,by simp [show i<ns.length by omega,ht],by simp [show i<ns.length by omega]⟩
 refine call_min_walk (wpAny_pyIter_list pl.isList ⟨s.heap.objs.size,[s.heap.objs.size,p],[s.heap.objs.size],its.length,_,_,fun i j=>decide ((ns[i]?).getD 0<(ns[j]?).getD 0),rfl,
  tW (show X.A.in1.handled=none from I.ok.hd hc) s.heap.objs.size p ?_ its,⟨⟨_,Heap.get?_push_size _ rfl,rfl,rfl⟩, ?_⟩, ?_,by omega, ?_, ?_⟩)
 ·intro z
  obtain ⟨o,ho,_⟩:=pl.isList
  have:=Heap.lt_size ho
  rw [←z] at this
  exact Nat.lt_irrefl _ this
 ·obtain ⟨o,ho,hcl⟩:=pl.isList
  exact ⟨o,Heap.get?_push_of_some _ ho,hcl⟩
 ·intro b hb
  have hsz:(s.heap.push {cls:= .type "list_iterator",data:= .fields #[.ref p,.int 0 0]}).objs.size=s.heap.objs.size+1:=by simp [Heap.push]
  have hb':b=s.heap.objs.size\/b=p:=by simpa using hb
  show b<(s.heap.push _).objs.size
  rw [hsz]
  rcases hb' with rfl|rfl
  ·exact Nat.lt_succ_self _
  ·obtain ⟨o,ho,_⟩:=pl.isList
   exact Nat.lt_succ_of_lt (Heap.lt_size ho)
 ·intro i j vi vj s' Q' E' hi hj hQ
  obtain ⟨t,rfl,_⟩:=item i vi hi
  obtain ⟨t',rfl,_⟩:=item j vj hj
  exact lt_int hQ
 ·intro v h' tk hv k
  obtain ⟨t,rfl,hm⟩:=item _ v hv
  obtain ⟨l,ih⟩:=vX (fun i=>(ns[i]?).getD 0) (its.length - 1)
  have f:=I.wC (H':=H) (b:=s.heap.objs.size) (Nat.le_refl _) (I.hok.fresh (Nat.le_refl _))
  have I2:Inv X pins σ H {s with heap:=h',toks:=tk}:=I.turned (h':=h') (t':=tk) (it:=s.heap.objs.size) (fun b o hb e=>k b o (by simpa using hb) (Heap.get?_push_of_some _ e)) f.1 f.2.1 f.2.2.2.1 f.2.2.2.2.1 f.2.2.2.2.2
  refine ⟨.int _,H,I2,⟨_,rfl⟩,q _ (List.mem_of_getElem? hm) fun a ha=> ?_⟩
  obtain ⟨j,hj⟩:=List.getElem?_of_mem ha
  have hjl:=(List.getElem?_eq_some_iff.mp hj).1
  have:=ih j (by omega)
  simpa [hj] using this
end
end L2
set_option Elab.async false
set_option linter.all false
set_option maxRecDepth 100000
set_option maxHeartbeats 4000000
namespace L2
open PySem PySem.Spec PyProof.Rows
section
variable {X:Cx} {tg:Expr}
theorem Dw:∀(f:Nat->Int) (l:List Value) (n:Nat),l.length=n->(∀k v,l[k]? = some v -> ∃t,v=Value.int (f k) t)->Vals ((List.range n).map fun k=>V.int (f k)) l
 | f,[],n,hn,_=>by
   have:n=0:=by simpa using hn.symm
   subst this
   exact .nil
 | f,v::l,n,hn,h=>by
   have:n=l.length+1:=by simpa using hn.symm
   subst this
   rw [List.range_succ_eq_map,List.map_cons,List.map_map]
   obtain ⟨t,e⟩:=h 0 v rfl
   exact .cons ⟨t,e⟩ (Dw (fun k=>f (k+1)) l _ rfl fun k u hu=>h (k+1) u hu)
end
end L2
set_option Elab.async false
set_option linter.all false
set_option maxRecDepth 100000
set_option maxHeartbeats 4000000
namespace L2
open PySem PySem.Spec PyProof.Rows
def YH (K:PySem.W.Frag) (neg:Bool):R2:=fun x y H Q=>∃(p:Addr) (vs:List V) (d:PyData) (ds:List PyData),y = .ref p/\aZ K H p vs/\aH H vs ds/\Dat H x d/\SeqAt.shaped d=true/\(∀e∈ds,SeqAt.shaped e=true)/\Q (.bl (if neg then !(ds.any fun e=>PyData.eqv e d) else ds.any fun e=>PyData.eqv e d)) H
section
variable {X:Cx}
theorem Jc {H:Hp} {pins:List (Addr×Obj)} {σ:St} {s:Shared} (I:Inv X pins σ H s):∀{vs:List V} {us:List Value} {ds:List PyData},Vals vs us->aH H vs ds -> ∀u∈us,∃e∈ds,∃as,Reads s.heap u e as
 | [],_,_,.nil,_=>fun u hu=>by cases hu
 | v::vs,_,d::ds,.cons r rs,h=>fun u hu=>by
   simp only [aH] at h
   rcases List.mem_cons.mp hu with rfl|hu
   ·obtain ⟨as,ra⟩:=I.reads d h.1 r
    exact ⟨d,by simp,as,ra⟩
   ·obtain ⟨e,he,q⟩:=Jc I rs h.2 u hu
    exact ⟨e,by simp [he],q⟩
 | _::_,_,[],.cons _ _,h=>by simp only [aH] at h
theorem Jb {H:Hp} {pins:List (Addr×Obj)} {σ:St} {s:Shared} (I:Inv X pins σ H s):∀{vs:List V} {us:List Value} {ds:List PyData},Vals vs us->aH H vs ds -> ∀e∈ds,∃u∈us,∃as,Reads s.heap u e as
 | [],_,[],.nil,_=>fun e he=>by cases he
 | [],_,_::_,.nil,h=>by simp only [aH] at h
 | v::vs,_,d::ds,.cons r rs,h=>fun e he=>by
   simp only [aH] at h
   rcases List.mem_cons.mp he with rfl|he
   ·obtain ⟨as,ra⟩:=I.reads e h.1 r
    exact ⟨_,by simp,as,ra⟩
   ·obtain ⟨u,hu,q⟩:=Jb I rs h.2 e he
    exact ⟨u,by simp [hu],q⟩
 | _::_,_,[],.cons _ _,h=>by simp only [aH] at h
open Classical in
noncomputable def Rp (s:Shared) (ds:List PyData) (d:PyData) (u:Value):Bool:=decide (∃e∈ds,(∃as,Reads s.heap u e as)/\PyData.eqv e d=true)
open Classical in
theorem wV {s:Shared} {ds:List PyData} {d:PyData} {u:Value}:Rp s ds d u=true ↔ ∃e∈ds,(∃as,Reads s.heap u e as)/\PyData.eqv e d=true:=by unfold Rp;exact decide_eq_true_iff
theorem WT {A:Around} {s:Shared} {ds:List PyData} {d:PyData} {u v:Value} {bs:List Addr} (hd:SeqAt.shaped d=true) (hds:∀e∈ds,SeqAt.shaped e=true) (hu:A.units+64<cLine) (rv:Reads s.heap v d bs) (h:∃e∈ds,∃as,Reads s.heap u e as):SeqAt.EqAt A s u v (Rp s ds d u):=by
 by_cases q:∃e∈ds,(∃as,Reads s.heap u e as)/\PyData.eqv e d=true
 ·have:Rp s ds d u=true:=wV.mpr q
  rw [this]
  obtain ⟨e,he,⟨as,ra⟩,ee⟩:=q
  have:=SeqAt.eqAt_reads e d A s u v as bs ra rv (SeqAt.canLay_of_shaped (hds e he)) (SeqAt.canLay_of_shaped hd) (SeqAt.room_of_shaped (hds e he) hu)
  rwa [ee] at this
 ·have:Rp s ds d u=false:=by
   cases z:Rp s ds d u with
   | false=>rfl
   | true=>exact absurd (wV.mp z) q
  rw [this]
  obtain ⟨e,he,as,ra⟩:=h
  have ee:PyData.eqv e d=false:=by
   cases z:PyData.eqv e d with
   | false=>rfl
   | true=>exact absurd ⟨e,he,⟨as,ra⟩,z⟩ q
  have:=SeqAt.eqAt_reads e d A s u v as bs ra rv (SeqAt.canLay_of_shaped (hds e he)) (SeqAt.canLay_of_shaped hd) (SeqAt.room_of_shaped (hds e he) hu)
  rwa [ee] at this
theorem Td {H:Hp} {pins:List (Addr×Obj)} {σ:St} {s:Shared} (I:Inv X pins σ H s) {vs:List V} {us:List Value} {ds:List PyData} {d:PyData} (r:Vals vs us) (h:aH H vs ds):us.toArray.any (Rp s ds d)=ds.any fun e=>PyData.eqv e d:=by
 rw [show us.toArray.any (Rp s ds d)=us.any (Rp s ds d) by simp,Bool.eq_iff_iff,List.any_eq_true,List.any_eq_true]
 constructor
 ·rintro ⟨u,hu,e⟩
  obtain ⟨e,he,_,ee⟩:=wV.mp e
  exact ⟨e,he,ee⟩
 ·rintro ⟨e,he,ee⟩
  obtain ⟨u,hu,q⟩:=Jb I r h e he
  exact ⟨u,hu,wV.mpr ⟨e,he,q,ee⟩⟩
theorem mj {K:PySem.W.Frag} (hK:X.K=K) (hu:X.A.in1.units+64<cLine):rR X (compareOp .NotIn) (YH K true):=by
 subst hK
 intro pins s σ H x y v u Q I rx ry h
 obtain ⟨p,vs,d,ds,rfl,hq,hds,hd,s1,s2,q⟩:=h
 cases ry
 obtain ⟨its,r,pl,hz⟩:=I.list hq
 obtain ⟨bs,rv⟩:=I.reads d hd rx
 refine SeqAt.notIn_listAt (Rp s ds d) pl.isList (fun w hw=>WT s1 s2 hu rv (Jc I r hds w (by simpa using hw))) ⟨.bl _,H,I,rfl, ?_⟩
 rw [Td I r hds]
 exact q
end
end L2
set_option Elab.async false
set_option linter.all false
set_option maxRecDepth 100000
set_option maxHeartbeats 4000000
namespace L2
open PySem PySem.Spec PyProof.Rows
section
variable {H H':Hp}
mutual
theorem Dat.same (k:Same H H'):∀(d:PyData) {v:V},Dat H v d->Dat H' v d
 | .none,_,h=>by simp only [Dat] at h ⊢;exact h
 | .bool _,_,h=>by simp only [Dat] at h ⊢;exact h
 | .int _,_,h=>by simp only [Dat] at h ⊢;exact h
 | .str _,_,h=>by simp only [Dat] at h ⊢;exact h
 | .list ds,_,h=>by simp only [Dat] at h ⊢;obtain ⟨a,vs,e,q,r⟩:=h;exact ⟨a,vs,e,k _ _ q,aH.same k ds r⟩
 | .tuple ds,_,h=>by simp only [Dat] at h ⊢;obtain ⟨a,vs,e,q,r⟩:=h;exact ⟨a,vs,e,k _ _ q,aH.same k ds r⟩
 | .dict _,_,h=>by simp only [Dat] at h
theorem aH.same (k:Same H H'):∀(ds:List PyData) {vs:List V},aH H vs ds->aH H' vs ds
 | [],[],_=>by simp only [aH]
 | d::ds,v::vs,h=>by simp only [aH] at h ⊢;exact ⟨Dat.same k d h.1,aH.same k ds h.2⟩
 | _::_,[],h=>by simp only [aH] at h
 | [],_::_,h=>by simp only [aH] at h
end
end
section
variable {X:Cx} {K:PySem.W.Frag}
end
section
variable {K:PySem.W.Frag} {a D:Addr} {xs:List V} {tc:TT} {te:TE} {Q:VK} {rest:St} {H1:Hp}
theorem wW {f:Nat->Option PyData} (hf:∀i d,f i=some d->Mt d=true):∀l:List Nat,zV (l.filterMap f)=true
 | []=>rfl
 | i::l=>by
   rw [List.filterMap_cons]
   cases e:f i with
   | none=>exact wW hf l
   | some d=>simp only [zV,hf i d e,wW hf l,Bool.and_self]
theorem Ay (f:Nat->Option PyData) (hf:∀i d,f i=some d->Mt d=true) (hD:H1 D=none) (hq:aZ K H1 a xs) (hx:xs.length<=100000)
 (hs:∀i x H (G:Hp->Prop) (F:VK),xs[i]? = some x->Same H1 H->(∀H',Same H H'->f i=none->G H')->(∀y d H',Same H H'->f i=some d->Dat H' y d->F y H')->tc (some x::rest) H fun b H3=>if b=true then te (some x::rest) H3 F else G H3)
 (hd:∀H vs,Same H1 H->H D=some (.lst vs)->aH H vs ((List.range xs.length).filterMap f)->Q (.ref D) H):qQ (Ua K a) (jU 0) tc te Q D (none::rest) H1:=by
 refine rE (K:=K) (xs:=xs) (fun i σ H=>(∃v,σ=v::rest)/\Same H1 H /\ ∃vs,H D=some (.lst vs)/\aH H vs ((List.range i).filterMap f)) ⟨⟨none,rfl⟩,aB hD,[],ak,by simp [aH]⟩ (fun i σ H _ ⟨_,sm,_⟩=>sm.sqL _ _ hq) ?_ (fun σ H ⟨_,sm,vs,e,d⟩=>hd H vs sm e d)
 rintro i x σ H hi ⟨⟨v,rfl⟩,sm,vs,e,d⟩
 have hil:i<xs.length:=(List.getElem?_eq_some_iff.mp hi).1
 have im:=wW hf (List.range i)
 refine hs i x H _ _ hi sm (fun H3 s3 ef=>⟨⟨_,rfl⟩,sm.trans s3,vs,s3 _ _ e, ?_⟩) (fun y dd H4 s4 ef dy=> ?_)
 ·rw [dU,ef]
  simpa using aH.keep s3.tups _ im d
 ·have hl:vs.length<=i:=by rw [d.length];exact qI f i
  have kp:Kp D H4 (upd H4 D (.lst (vs++[y]))):=Kp.set
  have tp:=kp.tups (s4 _ _ e)
  refine ⟨vs,s4 _ _ e, ?_,⟨_,rfl⟩,(sm.trans s4).newly hD,vs++[y],ak, ?_⟩
  ·rw [sizeLine_eq];omega
  ·rw [dU,ef]
   exact vD (aH.keep (fun a xs h=>tp _ _ (s4.tups _ _ h)) _ im d) (Dat.keep tp _ (hf i dd ef) dy)
end
section
variable {X:Cx}
def V0:R2:=fun x y H Q=>∃a b xs ys,x = .ref a/\y = .ref b/\H a=some (.tup xs)/\H b=some (.tup ys)/\xs.length+ys.length<=sizeLine /\ ∀p H',H' p=some (.tup (xs++ys))->Same H H'->Q (.ref p) H'
theorem Ek:rR X (binaryOp .Add) V0:=by
 intro pins s σ H x y v u Q I rx ry h
 obtain ⟨a,b,xs,ys,rfl,rfl,ha,hb,hz,q⟩:=h
 cases rx
 cases ry
 obtain ⟨its,r1,p1,_⟩:=I.tuple (cD.of ha)
 obtain ⟨its2,r2,p2,_⟩:=I.tuple (cD.of hb)
 by_cases hv:its=[]
 ·obtain ⟨⟨cls,dd,data,sl⟩,ho,hc,n,hd⟩:=id p1
  obtain ⟨⟨cls2,dd2,data2,sl2⟩,ho2,hc2,n2,hd2⟩:=id p2
  simp only at hc hd hc2 hd2
  subst hc hd hc2 hd2
  exact concat_meets ⟨_,ho,rfl⟩ ⟨_,ho2,rfl⟩ noFill_tuple_add seq_tuple_add PySem.F.slot_tuple_add PySem.F.entry_tuple_add (PySem.F.args_tuple_add_2 _ _)
   (tuple_addW0 a b its.toArray its2.toArray n n2 dd dd2 sl sl2 (by simp [hv])) ⟨ho,ho2,⟨.ref b,H,I,rfl,q b H (by rw [hb,r1.uG.mp hv];rfl) (Same.refl _)⟩⟩
 refine HT.JX p1 p2 hv (fun z=>⟨.ref a,H,I,rfl,q a H (by rw [ha,r2.uG.mp z,List.append_nil]) (Same.refl _)⟩) (fun z=> ?_) (by rw [←r1.length,←r2.length];exact hz)
 have fr:=I.hok.fresh (Nat.le_refl s.heap.objs.size)
 refine ⟨.ref s.heap.objs.size,_,I.laid (t':=s.toks) (o:= .tup (xs++ys)) (fun b ob q=>Heap.get?_push_of_some _ q) (Nat.le_refl _) ?_,rfl,q _ _ ak (aB fr)⟩
 exact ⟨by rw [List.length_append];exact hz,_,r1.append r2,IsTup.new _ _⟩
end
end L2
set_option Elab.async false
set_option linter.all false
set_option maxRecDepth 100000
set_option maxHeartbeats 4000000
namespace L2
open PySem
section
variable {K:PySem.W.Frag} {a D:Addr} {xs:List V} {tc:TT} {te:TE} {Q:VK} {rest:St} {H1:Hp}
theorem Lx (f:Nat->Option PyData) (hf:∀i d,f i=some d->Mt d=true) (hD:H1 D=none) (hq:H1 a=some (.lst xs)) (hx:xs.length<=100000) (hp:∀(i:Nat) (v:V),xs[i]? = some v -> ∃(t:Addr) (x y:V),v = .ref t/\H1 t=some (.tup [x,y]))
 (hs:∀i t x y H (G:Hp->Prop) (F:VK),xs[i]? = some (.ref t)->H1 t=some (.tup [x,y])->Same H1 H->(∀H',Same H H'->f i=none->G H')->(∀v d H',Same H H'->f i=some d->Dat H' v d->F v H')->tc (some x::some y::rest) H fun b H3=>if b=true then te (some x::some y::rest) H3 F else G H3)
 (hd:∀H vs,Same H1 H->H D=some (.lst vs)->aH H vs ((List.range xs.length).filterMap f)->Q (.ref D) H):qQ (Ua K a) (W_ K 2 (Qj (jU 0) (Qj (jU 1) ZG))) tc te Q D (none::none::rest) H1:=by
 refine rE (K:=K) (xs:=xs) (fun i σ H=>(∃u v,σ=u::v::rest)/\Same H1 H /\ ∃vs,H D=some (.lst vs)/\aH H vs ((List.range i).filterMap f)) ⟨⟨none,none,rfl⟩,aB hD,[],ak,by simp [aH]⟩ (fun i σ H _ ⟨_,sm,_⟩=>aZ.of (sm _ _ hq)) ?_ (fun σ H ⟨_,sm,vs,e,d⟩=>hd H vs sm e d)
 rintro i v σ H hi ⟨⟨u1,u2,rfl⟩,sm,vs,e,d⟩
 obtain ⟨t,x,y,rfl,ht⟩:=hp i v hi
 have hil:i<xs.length:=(List.getElem?_eq_some_iff.mp hi).1
 have im:=wW hf (List.range i)
 refine ⟨t,_,rfl,cD.of (sm _ _ ht),rfl,_,_,rfl,_,_,rfl,rfl, ?_⟩
 refine hs i t x y H _ _ hi ht sm (fun H3 s3 ef=>⟨⟨_,_,rfl⟩,sm.trans s3,vs,s3 _ _ e, ?_⟩) (fun y dd H4 s4 ef dy=> ?_)
 ·rw [dU,ef]
  simpa using aH.keep s3.tups _ im d
 ·have hl:vs.length<=i:=by rw [d.length];exact qI f i
  have kp:Kp D H4 (upd H4 D (.lst (vs++[y]))):=Kp.set
  have tp:=kp.tups (s4 _ _ e)
  refine ⟨vs,s4 _ _ e, ?_,⟨_,_,rfl⟩,(sm.trans s4).newly hD,vs++[y],ak, ?_⟩
  ·rw [sizeLine_eq];omega
  ·rw [dU,ef]
   exact vD (aH.keep (fun a xs h=>tp _ _ (s4.tups _ _ h)) _ im d) (Dat.keep tp _ (hf i dd ef) dy)
end
end L2
set_option Elab.async false
set_option linter.all false
set_option maxRecDepth 100000
set_option maxHeartbeats 4000000
namespace L2
open PySem PySem.Spec PyProof.Rows
theorem mJ.m6 {k:Nat} {A:Around} (r:mJ k A):A.in1.units+64<cLine:=by have:=r.un;show A.units+1+64<_;omega
def ab7 (K:PySem.W.Frag) (te tk:TE):TE:=fun σ H Q=>te σ H fun x H1=>tk σ H1 fun k H2=>∃a xs,x = .ref a/\k = .int (-1)/\aZ K H2 a xs /\ ∀p,H2 p=none->Q (.ref p) (upd H2 p (.lst xs.reverse))
theorem Dy:∀{xs:List V} {us:List Value},Vals xs us->Vals xs.reverse us.reverse
 | [],_,.nil=> .nil
 | _::_,_,.cons r rs=>by
   rw [List.reverse_cons,List.reverse_cons]
   exact (Dy rs).append (.cons r .nil)
section
variable {X:Cx} {K:PySem.W.Frag} {e st:Expr} {te tk:TE} {pos p2:Pos}
theorem Oq (hK:X.K=K) (he:PE X e te) (hk:PE X st tk):PE X (.Subscript e (.Slice none none (some st) p2) pos) (ab7 K te tk):=by
 subst hK
 intro pins s σ H Q I h
 refine Subscript_ (dz (he pins s σ H _ I h) fun v s1 ⟨x,H1,I1,r1,q1⟩=> ?_)
 refine wpAny_Slice ?_
 rw [evalPart_none,evalPart_some]
 refine wpAny_pure (wpAny_pure ?_)
 refine dz (hk pins s1 σ H1 _ I1 q1) fun vk s3 ⟨k,H3,I3,rk,q3⟩=> ?_
 obtain ⟨a,xs,rfl,rfl,hx,q⟩:=q3
 cases r1
 obtain ⟨tt,rfl⟩:=rk
 have I4:Inv X pins σ H3 {s3 with heap:=s3.heap.push {cls:= .type "slice",data:= .fields #[.none,.none,.int (-1) tt]}}:=I3.kept (t':=s3.toks) fun b ob q=>Heap.get?_push_of_some _ q
 obtain ⟨its,r,ht,hz⟩:=I4.list hx
 have hlen:=r.length
 show wpAny (model X.prog X.w) X.A (subscriptTail e (.Slice none none (some st) p2) (.ref a) (.ref s3.heap.objs.size)) (EP X pins σ Q) X.xe {s3 with heap:=s3.heap.push {cls:= .type "slice",data:= .fields #[.none,.none,.int (-1) tt]}}
 refine tail_any (ops:=[.ref a,.ref s3.heap.objs.size]) (T:= "list") ht.isList.typeIs slot_list_getitem.lookup ?_ (by with_unfolding_all rfl)
 refine wpAny_getItem_list_slice ht.isList (Heap.IsSliceOf.new ..) .none .none (.int (-1) tt) (by decide) ?_ (by rw [List.size_toArray]<;>omega)
 rw [PySem.W.krv_pick]
 refine ⟨.ref (s3.heap.push {cls:= .type "slice",data:= .fields #[.none,.none,.int (-1) tt]}).objs.size,_,I4.laid (t':=s3.toks) (o:= .lst xs.reverse) (fun b ob q=>Heap.get?_push_of_some _ q) (Nat.le_refl _) ?_,rfl,q _ (I4.hok.fresh (Nat.le_refl _))⟩
 exact ⟨by rw [List.length_reverse];exact hz,_,0,Dy r,Heap.get?_push_size _ rfl⟩
end
end L2
set_option Elab.async false
set_option linter.all false
set_option maxRecDepth 100000
set_option maxHeartbeats 4000000
namespace L2
open PySem PySem.Spec PyProof.Rows
section
variable {H:Hp}
mutual
theorem Dat.fn:∀(d e:PyData) {v:V},Dat H v d->Dat H v e->d=e
 | .none,e,v,h,g=>by cases e<;>simp only [Dat] at h g<;>first |rfl|(subst h;first |(obtain ⟨_,_,z,_⟩:=g;cases z;done)|(cases g;done))
 | .bool _,e,v,h,g=>by cases e<;>simp only [Dat] at h g<;>first |(subst h;first |(injection g with g;rw [g];done)|(obtain ⟨_,_,z,_⟩:=g;cases z;done)|(cases g;done))
 | .int _,e,v,h,g=>by cases e<;>simp only [Dat] at h g<;>first |(subst h;first |(injection g with g;rw [g];done)|(obtain ⟨_,_,z,_⟩:=g;cases z;done)|(cases g;done))
 | .str _,e,v,h,g=>by cases e<;>simp only [Dat] at h g<;>first |(subst h;first |(injection g with g;rw [g];done)|(obtain ⟨_,_,z,_⟩:=g;cases z;done)|(cases g;done))
 | .list ds,.list es,v,h,g=>by
   simp only [Dat] at h g
   obtain ⟨a,vs,rfl,ha,da⟩:=h
   obtain ⟨b,ws,e,hb,db⟩:=g
   injection e with e
   subst e
   rw [ha] at hb
   injection hb with hb
   injection hb with hb
   subst hb
   rw [aH.fn ds es da db]
 | .tuple ds,.tuple es,v,h,g=>by
   simp only [Dat] at h g
   obtain ⟨a,vs,rfl,ha,da⟩:=h
   obtain ⟨b,ws,e,hb,db⟩:=g
   injection e with e
   subst e
   rw [ha] at hb
   injection hb with hb
   injection hb with hb
   subst hb
   rw [aH.fn ds es da db]
 | .list ds,.tuple es,v,h,g=>by
   simp only [Dat] at h g
   obtain ⟨a,vs,rfl,ha,da⟩:=h
   obtain ⟨b,ws,e,hb,db⟩:=g
   injection e with e
   subst e
   rw [ha] at hb
   injection hb with hb
   cases hb
 | .tuple ds,.list es,v,h,g=>by
   simp only [Dat] at h g
   obtain ⟨a,vs,rfl,ha,da⟩:=h
   obtain ⟨b,ws,e,hb,db⟩:=g
   injection e with e
   subst e
   rw [ha] at hb
   injection hb with hb
   cases hb
 | .list ds,.none,v,h,g=>by simp only [Dat] at h g;obtain ⟨a,vs,rfl,_⟩:=h;cases g
 | .list ds,.bool _,v,h,g=>by simp only [Dat] at h g;obtain ⟨a,vs,rfl,_⟩:=h;cases g
 | .list ds,.int _,v,h,g=>by simp only [Dat] at h g;obtain ⟨a,vs,rfl,_⟩:=h;cases g
 | .list ds,.str _,v,h,g=>by simp only [Dat] at h g;obtain ⟨a,vs,rfl,_⟩:=h;cases g
 | .tuple ds,.none,v,h,g=>by simp only [Dat] at h g;obtain ⟨a,vs,rfl,_⟩:=h;cases g
 | .tuple ds,.bool _,v,h,g=>by simp only [Dat] at h g;obtain ⟨a,vs,rfl,_⟩:=h;cases g
 | .tuple ds,.int _,v,h,g=>by simp only [Dat] at h g;obtain ⟨a,vs,rfl,_⟩:=h;cases g
 | .tuple ds,.str _,v,h,g=>by simp only [Dat] at h g;obtain ⟨a,vs,rfl,_⟩:=h;cases g
 | .list ds,.dict _,v,h,g=>by simp only [Dat] at g
 | .tuple ds,.dict _,v,h,g=>by simp only [Dat] at g
 | .dict _,_,v,h,g=>by simp only [Dat] at h
theorem aH.fn:∀(ds es:List PyData) {vs:List V},aH H vs ds->aH H vs es->ds=es
 | [],[],_,_,_=>rfl
 | d::ds,e::es,v::vs,h,g=>by
   simp only [aH] at h g
   rw [Dat.fn d e h.1 g.1,aH.fn ds es h.2 g.2]
 | [],_::_,[],_,g=>by simp only [aH] at g
 | [],_::_,_::_,h,_=>by simp only [aH] at h
 | _::_,[],[],h,_=>by simp only [aH] at h
 | _::_,[],_::_,_,g=>by simp only [aH] at g
 | _::_,_::_,[],h,_=>by simp only [aH] at h
end
end
def RP (K:PySem.W.Frag):V->List V->Hp->VK->Prop:=fun x vs H Q=>∃(l:Addr) (as:List Addr) (w:V) (d:PyData) (ds:List PyData) (j:Nat) (e:PyData),x = .ref l/\vs=[w]/\aZ K H l (as.map V.ref)/\aH H (as.map V.ref) ds/\Dat H w d/\SeqAt.shaped d=true/\(∀e∈ds,SeqAt.shaped e=true) /\
 ds[j]? = some e/\PyData.eqv e d=true/\(∀m e',m<j->ds[m]? = some e'->PyData.eqv e' d=false)/\Q (.int j) H
section
variable {X:Cx}
open Classical in
noncomputable def Zm (H:Hp) (d:PyData) (u:Value):Bool:=decide (∃a e,u = .ref a/\Dat H (.ref a) e/\PyData.eqv e d=true)
open Classical in
theorem Hy {H:Hp} {d e:PyData} {a:Addr} (h:Dat H (.ref a) e):Zm H d (.ref a)=PyData.eqv e d:=by
 unfold Zm
 rw [Bool.eq_iff_iff,decide_eq_true_iff]
 constructor
 ·rintro ⟨b,e',eb,he,q⟩
  injection eb with eb
  subst eb
  rw [Dat.fn e e' h he]
  exact q
 ·intro q
  exact ⟨a,e,rfl,h,q⟩
theorem oW {K:PySem.W.Frag} (hK:X.K=K) (hu:X.A.in1.units+64<cLine):MtR X "list.index" (RP K):=by
 subst hK
 intro pins s σ H x vs v us Q I rx rv h
 obtain ⟨l,as,w,d,ds,j,e,rfl,rfl,hq,hds,hd,s1,s2,hj,hit,hno,q⟩:=h
 cases rx
 obtain ⟨u,rfl,ru⟩:=rv.one
 obtain ⟨its,r,pl,hz⟩:=I.list hq
 obtain ⟨bs,rd⟩:=I.reads d hd ru
 have ei:=z_ r
 subst ei
 obtain ⟨o,ho,hc,n,hdd⟩:=pl.isList
 obtain ⟨c0,d0,dt,sl⟩:=o
 simp only at hc hdd
 subst hc hdd
 have dl:as.length=ds.length:=by rw [←hds.length,List.length_map]
 have jl:j<as.length:=by rw [dl];exact (List.getElem?_eq_some_iff.mp hj).1
 have at_:∀m (hm:m<as.length),∃e',ds[m]? = some e'/\Dat H (.ref as[m]) e':=fun m hm=>by
  exact hds.get (i:=m) (v:= .ref as[m]) (by rw [List.getElem?_map,List.getElem?_eq_getElem hm];rfl)
 have eqs:∀y∈(as.map Value.ref).toArray,SeqAt.EqAt X.A.in1 s y u (Zm H d y):=fun y hy=>by
  have hy:y∈as.map Value.ref:=by simpa using hy
  obtain ⟨a,ha,rfl⟩:=List.mem_map.mp hy
  obtain ⟨m,hm,rfl⟩:=List.getElem_of_mem ha
  obtain ⟨e',ee,de⟩:=at_ m hm
  rw [Hy de]
  obtain ⟨as',ra⟩:=I.reads e' de (u:= .ref as[m]) rfl
  exact SeqAt.eqAt_reads e' d _ s _ u as' bs ra rd (SeqAt.canLay_of_shaped (s2 e' (List.mem_of_getElem? ee))) (SeqAt.canLay_of_shaped s1) (SeqAt.room_of_shaped (s2 e' (List.mem_of_getElem? ee)) hu)
 have l63:=qx
 have hz':as.length<=sizeLine:=by simpa using hz
 refine call_meets F.slot_list_index ⟨_,ho,rfl⟩ F.entry_list_index (F.args_list_index_2 _ _) (SeqAt.list_indexAt l (as.map Value.ref).toArray n d0 sl u (Zm H d) j (by simpa using jl) (by omega) ?_ (fun m hm hmj=> ?_)) ⟨ho,eqs,⟨.int j,H,I.tok _,⟨_,rfl⟩,q⟩⟩
 ·obtain ⟨e',ee,de⟩:=at_ j jl
  rw [hj] at ee
  cases ee
  show Zm H d ((as.map Value.ref).toArray[j]'(by simpa using jl))=true
  simp only [List.getElem_toArray,List.getElem_map]
  rw [Hy de]
  exact hit
 ·have hm':m<as.length:=by simpa using hm
  obtain ⟨e',ee,de⟩:=at_ m hm'
  simp only [List.getElem_toArray,List.getElem_map]
  rw [Hy de]
  exact hno m e' hmj ee
end
end L2
set_option Elab.async false
set_option linter.all false
set_option maxRecDepth 100000
set_option maxHeartbeats 4000000
namespace L2
open PySem PySem.Spec PyProof.Rows
section
variable {X:Cx} {pins:List (Addr×Obj)} {σ:St} {H:Hp} {s:Shared} {scope:Scope} {N own:List Str} {caps:List Nat} {fp:List Addr} {C:Nat} {xc:Str}
end
section
variable {M:Model} {A:Around} {E:Value->Shared->Prop} {s:Shared}
end
section
variable {X:Cx} {elt tg iter:Expr} {ifs:List Expr} {scope:Scope} {pos:Pos} {N own:List Str} {caps:List Nat} {wi:TI} {g:TG} {tc:TT} {te:TE} {xc:Str}
end
end L2
set_option Elab.async false
set_option linter.all false
set_option maxRecDepth 100000
set_option maxHeartbeats 4000000
namespace Tim
open PySem PyProof.Rows
def mU:Bool->Keyed->Array Keyed->Nat->Nat->Nat->StateT SortSt Sem (Option Nat):=sortPriv% PySem.Builtin.gallop
def oZ (left:Bool) (key:Keyed) (arr:Array Keyed) (base i:Nat):StateT SortSt Sem (Option Bool):=do
 let x ←elem' arr (base+i)
 if left then lt' x key else return (←lt' key x).map (!·)
theorem HS (left:Bool) (key:Keyed) (arr:Array Keyed) (base n hint:Nat):mU left key arr base n hint=(do
 let mut lastofs:=0
 let mut ofs:=1
 let mut lo:=0
 let mut hi:=0
 let some right ←oZ left key arr base hint|return none
 if right then
  let maxofs:=n - hint
  for _ in [0:n] do
   if ofs≥maxofs then break
   let some more ←oZ left key arr base (hint+ofs)|return none
   if !more then break
   lastofs:=ofs
   ofs:=2*ofs+1
  lo:=hint+lastofs+1
  hi:=hint+min ofs maxofs
 else
  let maxofs:=hint+1
  for _ in [0:n] do
   if ofs≥maxofs then break
   let some found ←oZ left key arr base (hint - ofs)|return none
   if found then break
   lastofs:=ofs
   ofs:=2*ofs+1
  lo:=hint+1 - min ofs maxofs
  hi:=hint - lastofs
 for _ in [0:n] do
  if lo≥hi then break
  let m:=lo+(hi - lo) / 2
  let some more ←oZ left key arr base m|return none
  if more then lo:=m+1 else hi:=m
 return some hi):=rfl
section
variable {prog:Program} {w:World} {A:Around} {E:Value->Shared->Prop} {s:Shared} {κ:SortKind} {a₀:Array Keyed} {rk:Value->Nat}
structure Gx (prog:Program) (w:World) (A:Around) (s:Shared) (κ:SortKind) (a₀:Array Keyed) (rk:Value->Nat):Prop where
 ask:∀p∈a₀.toList,∀q∈a₀.toList,∀(E:Value->Shared->Prop) (Q:Bool->Shared->Prop),Q (decide (rk p.1<rk q.1)) s->wpAny (model prog w) A (keyLt' κ p.1 q.1) Q E s
def R (rk:Value->Nat) (xs:Array Keyed) (i:Nat):Nat:=match xs[i]? with
 | some p=>rk p.1
 | none=>0
theorem zF {xs:Array Keyed} {i:Nat} {p:Keyed} (h:xs[i]? = some p):R rk xs i=rk p.1:=by unfold R;rw [h]
theorem gw {xs ys:Array Keyed} {i j:Nat} (h:xs[i]? = ys[j]?):R rk xs i=R rk ys j:=by unfold R;rw [h]
theorem xO {st:SortSt} {p q:Keyed} {Q:Option Bool->SortSt->Prop} (C:Gx prog w A s κ a₀ rk) (hk:kindOf st=κ) (hp:p∈a₀.toList) (hq:q∈a₀.toList) (h:Q (some (decide (rk p.1<rk q.1))) st):
 wpS (model prog w) A E s (lt' p q) Q st:=by
 rw [lt'_eq]
 refine wpS_bind (wpS_get ?_)
 rw [hk]
 refine wpS_bind (wpS_lift (wpAny_attempt (C.ask p hp q hq _ _ ⟨rfl, ?_⟩)))
 exact wpS_pure h
theorem bJ {st:SortSt} {arr:Array Keyed} {i:Nat} {p:Keyed} {Q:Keyed->SortSt->Prop} (hi:arr[i]? = some p) (h:Q p st):wpS (model prog w) A E s (elem' arr i) Q st:=by
 rw [elem'_eq,hi]
 exact wpS_pure h
def By (left:Bool) (k r:Nat):Bool:=if left then decide (r<k) else !decide (k<r)
theorem oK {st:SortSt} {left:Bool} {key:Keyed} {arr:Array Keyed} {base i:Nat} {Q:Option Bool->SortSt->Prop} (C:Gx prog w A s κ a₀ rk) (hk:kindOf st=κ) (hkey:key∈a₀.toList) (uI:∀p∈arr.toList,p∈a₀.toList)
 (hi:base+i<arr.size) (h:Q (some (By left (rk key.1) (R rk arr (base+i)))) st):wpS (model prog w) A E s (oZ left key arr base i) Q st:=by
 unfold oZ
 have e:arr[base+i]? = some arr[base+i]:=getElem?_pos arr (base+i) hi
 have hm:arr[base+i]∈a₀.toList:=uI _ (by simp)
 rw [zF e] at h
 refine wpS_bind (bJ e ?_)
 cases left with
 | true=>exact xO C hk hm hkey h
 | false=>exact wpS_bind (xO C hk hkey hm (wpS_pure h))
theorem Dp {left:Bool} {k r r':Nat} (h:By left k r=true) (le:r'<=r):By left k r'=true:=by
 unfold By at *
 cases left<;>simp at * <;> omega
theorem zK {left:Bool} {k r r':Nat} (h:By left k r=false) (le:r<=r'):By left k r'=false:=by
 unfold By at *
 cases left<;>simp at * <;> omega
def Seg (rk:Value->Nat) (xs:Array Keyed) (lo hi:Nat):Prop:=∀i j,lo<=i->i<=j->j<hi->R rk xs i<=R rk xs j
abbrev GSt:=Option (Option Nat)×Nat×Nat
theorem vO {st:SortSt} {left:Bool} {key:Keyed} {arr:Array Keyed} {base n lo hi:Nat} {Q:GSt->SortSt->Prop} (C:Gx prog w A s κ a₀ rk) (hk:kindOf st=κ) (hkey:key∈a₀.toList) (uI:∀p∈arr.toList,p∈a₀.toList)
 (hn:base+n<=arr.size) (hs:Seg rk arr base (base+n)) (hlh:lo<=hi) (hhn:hi<=n)
 (h1:∀i,i<lo->By left (rk key.1) (R rk arr (base+i))=true) (h2:∀i,hi<=i->i<n->By left (rk key.1) (R rk arr (base+i))=false)
 (h:∀k l,k<=n->(∀i,i<k->By left (rk key.1) (R rk arr (base+i))=true)->(∀i,k<=i->i<n->By left (rk key.1) (R rk arr (base+i))=false)->Q (none,l,k) st):
 wpS (model prog w) A E s (forIn [0:n] ((none,lo,hi):GSt) fun _ __s=>
       if __s.snd.fst≥__s.snd.snd then pure (ForInStep.done (none,__s.snd.fst,__s.snd.snd))
       else do
        let __x ←oZ left key arr base (__s.snd.fst+(__s.snd.snd - __s.snd.fst) / 2)
        match __x with
         | some more=>
           if more=true then
            pure (ForInStep.yield (none,__s.snd.fst+(__s.snd.snd - __s.snd.fst) / 2+1,__s.snd.snd))
           else pure (ForInStep.yield (none,__s.snd.fst,__s.snd.fst+(__s.snd.snd - __s.snd.fst) / 2))
         | _=>pure (ForInStep.done (some none,__s.snd.fst,__s.snd.snd))) Q st:=by
 refine wpS_forRange (I:=fun x c st'=>st'=st /\ ∃lo hi,c=(none,lo,hi)/\lo<=hi/\hi<=n/\hi - lo<=n - x/\(∀i,i<lo->By left (rk key.1) (R rk arr (base+i))=true)/\(∀i,hi<=i->i<n->By left (rk key.1) (R rk arr (base+i))=false)) ?step ?fin ⟨rfl,lo,hi,rfl,hlh,hhn,by omega,h1,h2⟩
 case fin=>
  rintro c st' ⟨rfl,lo,hi,rfl,a1,a2,a3,a4,a5⟩
  have:lo=hi:=by omega
  subst this
  exact h _ _ a2 a4 a5
 case step=>
  rintro x c st' _ hx ⟨rfl,lo,hi,rfl,a1,a2,a3,a4,a5⟩
  dsimp only
  by_cases hge:lo≥hi
  ·rw [if_pos hge]
   have:lo=hi:=by omega
   subst this
   exact wpS_pure (h _ _ a2 a4 a5)
  ·rw [if_neg hge]
   refine wpS_bind (oK C hk hkey uI (by omega) ?_)
   dsimp only
   cases hb:By left (rk key.1) (R rk arr (base+(lo+(hi - lo) / 2))) with
   | true=>
     simp only [if_true]
     refine wpS_pure ⟨rfl,_,_,rfl,by omega,a2,by omega,fun i hi'=> ?_,a5⟩
     exact Dp hb (hs _ _ (by omega) (by omega) (by omega))
   | false=>
     simp only [Bool.false_eq_true,if_false]
     refine wpS_pure ⟨rfl,_,_,rfl,by omega,by omega,by omega,a4,fun i hi' hin=> ?_⟩
     exact zK hb (hs _ _ (by omega) (by omega) (by omega))
theorem jt {st:SortSt} {left:Bool} {key:Keyed} {arr:Array Keyed} {base n hint:Nat} {Q:Option Nat->SortSt->Prop} (C:Gx prog w A s κ a₀ rk) (hk:kindOf st=κ) (hkey:key∈a₀.toList) (uI:∀p∈arr.toList,p∈a₀.toList)
 (hn:base+n<=arr.size) (hh:hint<n) (hs:Seg rk arr base (base+n))
 (h:∀k,k<=n->(∀i,i<k->By left (rk key.1) (R rk arr (base+i))=true)->(∀i,k<=i->i<n->By left (rk key.1) (R rk arr (base+i))=false)->Q (some k) st):
 wpS (model prog w) A E s (mU left key arr base n hint) Q st:=by
 rw [HS]
 refine wpS_bind (oK C hk hkey uI (by omega) ?_)
 dsimp only
 cases hr:By left (rk key.1) (R rk arr (base+hint)) with
 | true=>
   simp only [if_true]
   refine wpS_bind (wpS_mono (wpS_forRange (I:=fun x c st'=>st'=st /\ ∃l o,c=(none,l,o)/\l<o/\x<o/\hint+l<n/\By left (rk key.1) (R rk arr (base+(hint+l)))=true)
    (Q:=fun c st'=>st'=st /\ ∃l o,c=(none,l,o)/\l<o/\hint+l<n/\By left (rk key.1) (R rk arr (base+(hint+l)))=true/\(o<n - hint->By left (rk key.1) (R rk arr (base+(hint+o)))=false)) ?step ?fin ⟨rfl,0,1,rfl,by omega,by omega,by omega,hr⟩) ?post)
   case fin=>
    rintro c st' ⟨rfl,l,o,rfl,a1,a2,a3,a4⟩
    exact ⟨rfl,l,o,rfl,a1,a3,a4,fun z=>by omega⟩
   case step=>
    rintro x c st' _ hx ⟨rfl,l,o,rfl,a1,a2,a3,a4⟩
    dsimp only
    by_cases hge:o≥n - hint
    ·rw [if_pos hge]
     exact wpS_pure ⟨rfl,l,o,rfl,a1,a3,a4,fun z=>by omega⟩
    ·rw [if_neg hge]
     refine wpS_bind (oK C hk hkey uI (by omega) ?_)
     dsimp only
     cases hb:By left (rk key.1) (R rk arr (base+(hint+o))) with
     | true=>
       simp only [Bool.not_true,Bool.false_eq_true,if_false]
       exact wpS_pure ⟨rfl,o,2*o+1,rfl,by omega,by omega,by omega,hb⟩
     | false=>
       simp only [Bool.not_false,if_true]
       exact wpS_pure ⟨rfl,l,o,rfl,a1,a3,a4,fun _=>hb⟩
   case post=>
    rintro c st' ⟨rfl,l,o,rfl,a1,a2,a3,a4⟩
    dsimp only
    refine wpS_bind (vO C hk hkey uI hn hs (by omega) (by omega) (fun i hi=> ?_) (fun i hi hin=> ?_) fun k l' b1 b2 b3=>wpS_pure (h k b1 b2 b3))
    ·exact Dp a3 (hs _ _ (by omega) (by omega) (by omega))
    ·exact zK (a4 (by omega)) (hs _ _ (by omega) (by omega) (by omega))
 | false=>
   simp only [Bool.false_eq_true,if_false]
   refine wpS_bind (wpS_mono (wpS_forRange (I:=fun x c st'=>st'=st /\ ∃l o,c=(none,l,o)/\l<o/\x<o/\l<=hint/\By left (rk key.1) (R rk arr (base+(hint - l)))=false)
    (Q:=fun c st'=>st'=st /\ ∃l o,c=(none,l,o)/\l<o/\l<=hint/\By left (rk key.1) (R rk arr (base+(hint - l)))=false/\(o<hint+1->By left (rk key.1) (R rk arr (base+(hint - o)))=true)) ?step ?fin ⟨rfl,0,1,rfl,by omega,by omega,by omega,hr⟩) ?post)
   case fin=>
    rintro c st' ⟨rfl,l,o,rfl,a1,a2,a3,a4⟩
    exact ⟨rfl,l,o,rfl,a1,a3,a4,fun z=>by omega⟩
   case step=>
    rintro x c st' _ hx ⟨rfl,l,o,rfl,a1,a2,a3,a4⟩
    dsimp only
    by_cases hge:o≥hint+1
    ·rw [if_pos hge]
     exact wpS_pure ⟨rfl,l,o,rfl,a1,a3,a4,fun z=>by omega⟩
    ·rw [if_neg hge]
     refine wpS_bind (oK C hk hkey uI (by omega) ?_)
     dsimp only
     cases hb:By left (rk key.1) (R rk arr (base+(hint - o))) with
     | true=>
       simp only [if_true]
       exact wpS_pure ⟨rfl,l,o,rfl,a1,a3,a4,fun _=>hb⟩
     | false=>
       simp only [Bool.false_eq_true,if_false]
       exact wpS_pure ⟨rfl,o,2*o+1,rfl,by omega,by omega,by omega,hb⟩
   case post=>
    rintro c st' ⟨rfl,l,o,rfl,a1,a2,a3,a4⟩
    dsimp only
    refine wpS_bind (vO C hk hkey uI hn hs (by omega) (by omega) (fun i hi=> ?_) (fun i hi hin=> ?_) fun k l' b1 b2 b3=>wpS_pure (h k b1 b2 b3))
    ·exact Dp (a4 (by omega)) (hs _ _ (by omega) (by omega) (by omega))
    ·exact zK a3 (hs _ _ (by omega) (by omega) (by omega))
end
end Tim
set_option Elab.async false
set_option linter.all false
set_option maxRecDepth 100000
set_option maxHeartbeats 4000000
namespace Tim
open PySem PyProof.Rows
def fD:Nat->StateT SortSt Sem Unit:=sortPriv% PySem.Builtin.setMinGallop
theorem vf (g:Nat):fD g=modify fun s=>SortSt.mk' (kindOf s) (arrOf s) (pendingOf s) g (failedOf s):=rfl
def yI:Array Keyed->Array Keyed->StateT SortSt Sem (Array Keyed):=sortPriv% PySem.Builtin.mergeLo
def yJ:Array Keyed->Array Keyed->StateT SortSt Sem (Array Keyed):=sortPriv% PySem.Builtin.mergeHi
abbrev gH (a b out:Array Keyed) (ia ib:Nat):Array Keyed:=out++a.extract ia a.size++b.extract ib b.size
abbrev tZ (a b out:Array Keyed) (ia ib:Nat):Array Keyed:=out++b.extract ib b.size++a.extract ia a.size
theorem Ez (a b:Array Keyed):yI a b=(do
 rule "list.sort.merge-lo"
 let total:=a.size+b.size
 let mut out:Array Keyed:= #[←elem' b 0]
 let mut ia:=0
 let mut ib:=1
 if ib==b.size then return gH a b out ia ib
 if ia+1==a.size then return tZ a b out ia ib
 let mut minGallop:=gallopOf (←get)
 for _ in [0:total] do
  let mut acount:=0
  let mut bcount:=0
  for _ in [0:total] do
   let some bWins ←lt' (←elem' b ib) (←elem' a ia)|return gH a b out ia ib
   if bWins then
    out:=out.push (←elem' b ib);ib:=ib+1;bcount:=bcount+1;acount:=0
    if ib==b.size then return gH a b out ia ib
    if bcount≥minGallop then break
   else
    out:=out.push (←elem' a ia);ia:=ia+1;acount:=acount+1;bcount:=0
    if ia+1==a.size then return tZ a b out ia ib
    if acount≥minGallop then break
  rule "list.sort.gallop"
  minGallop:=minGallop+1
  for _ in [0:total] do
   if minGallop>1 then minGallop:=minGallop - 1
   fD minGallop
   let some k ←mU false (←elem' b ib) a ia (a.size - ia) 0|return gH a b out ia ib
   acount:=k
   if k>0 then
    out:=out++a.extract ia (ia+k);ia:=ia+k
    if ia+1==a.size then return tZ a b out ia ib
    if ia==a.size then return gH a b out ia ib
   out:=out.push (←elem' b ib);ib:=ib+1
   if ib==b.size then return gH a b out ia ib
   let some k ←mU true (←elem' a ia) b ib (b.size - ib) 0|return gH a b out ia ib
   bcount:=k
   if k>0 then
    out:=out++b.extract ib (ib+k);ib:=ib+k
    if ib==b.size then return gH a b out ia ib
   out:=out.push (←elem' a ia);ia:=ia+1
   if ia+1==a.size then return tZ a b out ia ib
   if acount<7&&bcount<7 then break
  minGallop:=minGallop+1
  fD minGallop
 unsupported "internal:list.sort.merge-bound"):=rfl
section
variable {rk:Value->Nat} {a b out:Array Keyed} {ia ib k:Nat}
def Le (rk:Value->Nat) (x y:Keyed):Prop:=rk x.1<=rk y.1
def Mw (rk:Value->Nat) (l:List Keyed):Prop:=l.Pairwise (Le rk)
structure MI (rk:Value->Nat) (a b out:Array Keyed) (ia ib:Nat):Prop where
 perm:(out.toList++(a.toList.drop ia++b.toList.drop ib)).Perm (a.toList++b.toList)
 sa:Mw rk (out.toList++a.toList.drop ia)
 sb:Mw rk (out.toList++b.toList.drop ib)
structure Mg (rk:Value->Nat) (a b r:Array Keyed):Prop where
 perm:r.toList.Perm (a.toList++b.toList)
 srt:Mw rk r.toList
theorem cG (a:Array Keyed) (i j:Nat):(a.extract i j).toList=(a.toList.drop i).take (j - i):=by
 rw [Array.toList_extract,List.extract_eq_take_drop]
theorem za (l:List Keyed) (i k:Nat):l.drop i=(l.drop i).take k++l.drop (i+k):=by
 rw [←List.drop_drop,List.take_append_drop]
theorem jk {a:Array Keyed} {i:Nat} (h:i<a.size):R rk a i=rk (a[i]).1:=zF (getElem?_pos a i h)
theorem Ph {a:Array Keyed} {x:Keyed} (h:x∈a.toList.drop ia):∃j,ia<=j/\j<a.size/\R rk a j=rk x.1:=by
 obtain ⟨j,hj,e⟩:=List.getElem_of_mem h
 rw [List.length_drop,Array.length_toList] at hj
 rw [List.getElem_drop,Array.getElem_toList] at e
 exact ⟨ia+j,by (clear e hj;omega),by (clear e;omega),by rw [jk (by (clear e;omega)),e]⟩
theorem jO {a:Array Keyed} {x:Keyed} (h:x∈(a.toList.drop ia).take k):∃j,j<k/\ia+j<a.size/\R rk a (ia+j)=rk x.1:=by
 obtain ⟨j,hj,e⟩:=List.getElem_of_mem h
 rw [List.length_take,List.length_drop,Array.length_toList] at hj
 rw [List.getElem_take,List.getElem_drop,Array.getElem_toList] at e
 exact ⟨j,by (clear e;omega),by (clear e;omega),by rw [jk (by (clear e;omega)),e]⟩
theorem jE {x y:List Keyed}:Mw rk (x++y)↔Mw rk x/\Mw rk y /\ ∀p∈x,∀q∈y,rk p.1<=rk q.1:=List.pairwise_append
theorem MI.vG (m:MI rk a b out ia ib) (hle:∀i,i<k->ib+i<b.size -> ∀j,ia<=j->j<a.size->R rk b (ib+i)<=R rk a j):MI rk a b (out++b.extract ib (ib+k)) ia (ib+k):=by
 have e:(out++b.extract ib (ib+k)).toList=out.toList++(b.toList.drop ib).take k:=by rw [Array.toList_append,cG];congr 2;omega
 have sp:=za b.toList ib k
 refine ⟨?_, ?_, ?_⟩
 ·rw [e]
  refine List.Perm.trans ?_ m.perm
  rw [List.append_assoc]
  refine List.Perm.append_left _ ?_
  refine List.Perm.trans ?_ (List.Perm.of_eq (congrArg (a.toList.drop ia ++ ·) sp.symm))
  rw [←List.append_assoc]
  refine List.Perm.trans (List.Perm.append_right _ (List.perm_append_comm)) (List.Perm.of_eq (List.append_assoc _ _ _))
 ·rw [e,List.append_assoc]
  have h1:=jE.mp m.sa
  have h2:=m.sb
  rw [sp] at h2
  have h3:=jE.mp h2
  have h4:=jE.mp h3.2.1
  refine jE.mpr ⟨h1.1,jE.mpr ⟨h4.1,h1.2.1,fun p hp q hq=> ?_⟩,fun p hp q hq=> ?_⟩
  ·obtain ⟨i,i1,i2,i3⟩:=jO (rk:=rk) hp
   obtain ⟨j,j1,j2,j3⟩:=Ph (rk:=rk) hq
   rw [←i3,←j3]
   exact hle i i1 i2 j j1 j2
  ·rcases List.mem_append.mp hq with hq|hq
   ·exact h3.2.2 p hp q (List.mem_append_left _ hq)
   ·exact h1.2.2 p hp q hq
 ·rw [e,List.append_assoc,←sp]
  exact m.sb
theorem MI.swap (m:MI rk a b out ia ib):MI rk b a out ib ia:=⟨(List.Perm.append_left _ List.perm_append_comm).trans (m.perm.trans List.perm_append_comm),m.sb,m.sa⟩
theorem MI.vH (m:MI rk a b out ia ib) (hle:∀i,i<k->ia+i<a.size -> ∀j,ib<=j->j<b.size->R rk a (ia+i)<=R rk b j):MI rk a b (out++a.extract ia (ia+k)) (ia+k) ib:=(m.swap.vG hle).swap
theorem Ed (h:ib<b.size):out.push b[ib]=out++b.extract ib (ib+1):=by
 apply Array.toList_inj.mp
 rw [Array.toList_push,Array.toList_append,cG]
 congr 1
 rw [show ib+1 - ib=1 by (clear h;omega),List.drop_eq_getElem_cons (by rw [Array.length_toList];exact h)]
 rfl
theorem MI.yr (m:MI rk a b out ia ib) (h:ib<b.size) (hle:∀j,ia<=j->j<a.size->R rk b ib<=R rk a j):MI rk a b (out.push b[ib]) ia (ib+1):=by
 rw [Ed h]
 refine m.vG (k:=1) fun i hi hb j j1 j2=> ?_
 have:i=0:=by (clear j2 j1 hb h;omega)
 subst this
 exact hle j j1 j2
theorem MI.yt (m:MI rk a b out ia ib) (h:ia<a.size) (hle:∀j,ib<=j->j<b.size->R rk a ia<=R rk b j):MI rk a b (out.push a[ia]) (ia+1) ib:=(m.swap.yr h hle).swap
theorem MI.done (m:MI rk a b out ia ib) (h:ia=a.size\/ib=b.size):Mg rk a b (gH a b out ia ib):=by
 have e:(gH a b out ia ib).toList=out.toList++(a.toList.drop ia++b.toList.drop ib):=by
  unfold gH
  rw [Array.toList_append,Array.toList_append,cG,cG,List.append_assoc]
  congr 2
  ·rw [List.take_of_length_le];rw [List.length_drop,Array.length_toList];exact Nat.le_refl _
  ·rw [List.take_of_length_le];rw [List.length_drop,Array.length_toList];exact Nat.le_refl _
 refine ⟨by rw [e];exact m.perm, ?_⟩
 rw [e]
 rcases h with h|h
 ·rw [h,show a.toList.drop a.size=[] by rw [List.drop_eq_nil_of_le];rw [Array.length_toList];exact Nat.le_refl _,List.nil_append]
  exact m.sb
 ·rw [h,show b.toList.drop b.size=[] by rw [List.drop_eq_nil_of_le];rw [Array.length_toList];exact Nat.le_refl _,List.append_nil]
  exact m.sa
theorem MI.last (m:MI rk a b out ia ib) (h:∀i j,ib<=i->i<b.size->ia<=j->j<a.size->R rk b i<=R rk a j):Mg rk a b (tZ a b out ia ib):=by
 have m2:=m.vG (k:=b.size - ib) fun i hi hb j j1 j2=>h _ _ (by (clear j2 j1 hb hi;omega)) hb j1 j2
 have e:(tZ a b out ia ib)=gH a b (out++b.extract ib (ib+(b.size - ib))) ia (ib+(b.size - ib)):=by
  unfold gH tZ
  apply Array.toList_inj.mp
  simp only [Array.toList_append,cG]
  have e1:(b.toList.drop (ib+(b.size - ib))).take (b.size - (ib+(b.size - ib)))=[]:=by
   rw [List.take_eq_nil_iff];left;omega
  rw [e1,List.append_nil]
  congr 3
  (clear e1;omega)
 rw [e]
 by_cases hb:ib<=b.size
 ·exact m2.done (.inr (by (clear e;omega)))
 ·refine ⟨?_, ?_⟩
  ·have:=m2.perm
   have e2:(gH a b (out++b.extract ib (ib+(b.size - ib))) ia (ib+(b.size - ib))).toList=(out++b.extract ib (ib+(b.size - ib))).toList++(a.toList.drop ia++b.toList.drop (ib+(b.size - ib))):=by
    unfold gH
    rw [Array.toList_append,Array.toList_append,cG,cG,List.append_assoc]
    congr 2
    ·rw [List.take_of_length_le];rw [List.length_drop,Array.length_toList];exact Nat.le_refl _
    ·rw [List.take_of_length_le];rw [List.length_drop,Array.length_toList];exact Nat.le_refl _
   rw [e2];exact this
  ·unfold gH
   rw [Array.toList_append,Array.toList_append,cG (a:=b) (i:=ib+(b.size - ib)),show b.size - (ib+(b.size - ib))=0 by (clear hb e;omega),List.take_zero,List.append_nil,cG (a:=a)]
   rw [List.take_of_length_le (by rw [List.length_drop,Array.length_toList];exact Nat.le_refl _)]
   exact m2.sa
end
end Tim
set_option Elab.async false
set_option linter.all false
set_option maxRecDepth 100000
set_option maxHeartbeats 4000000
namespace Tim
open PySem PyProof.Rows
section
variable {prog:Program} {w:World} {A:Around} {E:Value->Shared->Prop} {s:Shared} {κ:SortKind} {a₀:Array Keyed} {rk:Value->Nat}
structure Dr (st st':SortSt):Prop where
 k:kindOf st'=kindOf st
 a:arrOf st'=arrOf st
 p:pendingOf st'=pendingOf st
 f:failedOf st'=failedOf st
theorem Dr.refl (st:SortSt):Dr st st:=⟨rfl,rfl,rfl,rfl⟩
theorem Dr.trans {a b c:SortSt} (h:Dr a b) (g:Dr b c):Dr a c:=⟨g.k.trans h.k,g.a.trans h.a,g.p.trans h.p,g.f.trans h.f⟩
theorem qR {st:SortSt} {g:Nat} {Q:Unit->SortSt->Prop} (h:∀st',Dr st st'->Q () st'):wpS (model prog w) A E s (fD g) Q st:=by
 rw [vf]
 exact wpS_modify (h _ ⟨rfl,rfl,rfl,rfl⟩)
theorem aQ {α:Type} {c:Prop} [Decidable c] {x y:StateT SortSt Sem α} {Q:α->SortSt->Prop} {st:SortSt} (h1:c->wpS (model prog w) A E s x Q st) (h2:¬c->wpS (model prog w) A E s y Q st):wpS (model prog w) A E s (if c then x else y) Q st:=by
 by_cases hc:c
 ·rw [if_pos hc];exact h1 hc
 ·rw [if_neg hc];exact h2 hc
theorem XF {k r:Nat} (h:By true k r=true):r<k:=by simpa [By] using h
theorem Ug {k r:Nat} (h:By false k r=true):r<=k:=by simpa [By] using h
theorem Gv {k r:Nat} (h:By true k r=false):k<=r:=by simpa [By] using h
theorem Rj {k r:Nat} (h:By false k r=false):k<r:=by simpa [By] using h
theorem Dt {st:SortSt} {a b:Array Keyed} {Q:Array Keyed->SortSt->Prop} (C:Gx prog w A s κ a₀ rk) (hk:kindOf st=κ) (ha:∀p∈a.toList,p∈a₀.toList) (hb:∀p∈b.toList,p∈a₀.toList)
 (ha1:1<=a.size) (hb1:1<=b.size) (sa:Seg rk a 0 a.size) (sb:Seg rk b 0 b.size) (h0:R rk b 0<=R rk a 0) (hl:R rk b (b.size - 1)<=R rk a (a.size - 1))
 (h:∀r st',Dr st st'->Mg rk a b r->Q r st'):wpS (model prog w) A E s (yI a b) Q st:=by
 have Zj:∀i,i<b.size -> ∃p,b[i]? = some p/\p∈a₀.toList/\R rk b i=rk p.1:=fun i hi=>⟨b[i],getElem?_pos b i hi,hb _ (by simp),jk hi⟩
 have Uy:∀i,i<a.size -> ∃p,a[i]? = some p/\p∈a₀.toList/\R rk a i=rk p.1:=fun i hi=>⟨a[i],getElem?_pos a i hi,ha _ (by simp),jk hi⟩
 have mid:∀i j,i<b.size->j+1=a.size->R rk b i<=R rk a j:=fun i j hi hj=>by
  have:=sb i (b.size - 1) (by (clear hj hi hl h0 hb1 ha1 hk;lia)) (by (clear hj hl h0 hb1 ha1 hk;lia)) (by (clear hj hi hl h0 ha1 hk;lia))
  have e:a.size - 1=j:=by (clear this hi hl h0 hb1 ha1 hk;lia)
  rw [e] at hl
  (clear e hj hi h0 hb1 ha1 hk;lia)
 have m0:MI rk a b #[b[0]] 0 1:=by
  have m:MI rk a b #[] 0 0:=by
   refine ⟨by simp, ?_, ?_⟩
   ·show Mw rk ([]++a.toList.drop 0)
    rw [List.nil_append,List.drop_zero]
    refine List.pairwise_iff_getElem.mpr fun i j hi hj hij=> ?_
    rw [Array.length_toList] at hi hj
    have:=sa i j (by (clear hij hj hi hl h0 hb1 ha1 hk;lia)) (by (clear hj hi hl h0 hb1 ha1 hk;lia)) hj
    rw [jk hi,jk hj] at this
    simpa [Le] using this
   ·show Mw rk ([]++b.toList.drop 0)
    rw [List.nil_append,List.drop_zero]
    refine List.pairwise_iff_getElem.mpr fun i j hi hj hij=> ?_
    rw [Array.length_toList] at hi hj
    have:=sb i j (by (clear hij hj hi hl h0 hb1 ha1 hk;lia)) (by (clear hj hi hl h0 hb1 ha1 hk;lia)) hj
    rw [jk hi,jk hj] at this
    simpa [Le] using this
  exact m.yr (by (clear hl h0 ha1 hk;lia)) fun j _ j2=>Nat.le_trans h0 (sa 0 j (by (clear j2 hl h0 hb1 ha1 hk;lia)) (by (clear j2 hl h0 hb1 ha1 hk;lia)) j2)
 rw [Ez]
 refine wpS_bind (wpS_lift (wpAny_rule ⟨rfl, ?_⟩))
 refine wpS_bind (bJ (p:=b[0]) (getElem?_pos b 0 (by (clear hl h0 ha1 hk;lia))) ?_)
 dsimp only
 refine aQ (fun e=> ?_) (fun e=> ?_)
 ·have e:1=b.size:=by simpa using e
  exact wpS_pure (h _ _ (.refl _) (m0.done (.inr e)))
 have eb:¬1=b.size:=by simpa using e
 refine aQ (fun e=> ?_) (fun e=> ?_)
 ·have e:1=a.size:=by simpa using e
  exact wpS_pure (h _ _ (.refl _) (m0.last fun i j _ hi _ hj=>mid i j hi (by (clear hi eb hl h0 ha1 hk;lia))))
 have ea:¬1=a.size:=by simpa using e
 refine wpS_bind (wpS_get ?_)
 refine wpS_bind (wpS_mono (wpS_forRange (I:=fun x c st'=>Dr st st' /\ ∃out ia ib mg,c=(none,out,ia,ib,mg)/\MI rk a b out ia ib/\ia+2<=a.size/\ib+1<=b.size/\(a.size - ia)+(b.size - ib)+x<=a.size+b.size)
  (Q:=fun c st'=>Dr st st' /\ ∃r cc,c=(some r,cc)/\Mg rk a b r) ?step ?fin ⟨.refl _,_,_,_,_,rfl,m0,by (clear e eb hl h0 hk;lia),by (clear ea e hl h0 ha1 hk;lia),by (clear ea e eb hl h0 ha1 hk;lia)⟩) ?post)
 case post=>
  rintro c st' ⟨kp,r,cc,rfl,m⟩
  exact wpS_pure (h _ _ kp m)
 case fin=>
  rintro c st' ⟨kp,out,ia,ib,mg,rfl,m,a1,b1,le⟩
  (clear b1 ea e eb hl h0 ha1 hk;lia)
 case step=>
  rintro x c st' _ hx ⟨kp,out,ia,ib,mg,rfl,m,a1,b1,le⟩
  dsimp only
  refine wpS_bind (wpS_mono (wpS_forRange (I:=fun y c st2=>st2=st' /\ ∃out ia ib ac bc,c=(none,out,ia,ib,ac,bc)/\MI rk a b out ia ib/\ia+2<=a.size/\ib+1<=b.size/\(a.size - ia)+(b.size - ib)+x+y<=a.size+b.size)
   (Q:=fun c st2=>st2=st'/\((∃r cc,c=(some r,cc)/\Mg rk a b r) \/ ∃out ia ib ac bc,c=(none,out,ia,ib,ac,bc)/\MI rk a b out ia ib/\ia+2<=a.size/\ib+1<=b.size/\(a.size - ia)+(b.size - ib)+x+1<=a.size+b.size)) ?step1 ?Xe ⟨rfl,_,_,_,_,_,rfl,m,a1,b1,by (clear b1 a1 hx ea e eb hl h0 ha1 hk;lia)⟩) ?Oi)
  case Xe=>
   rintro c st2 ⟨rfl,out,ia,ib,ac,bc,rfl,m,a1,b1,le⟩
   (clear b1 hx ea e eb hl h0 ha1 hk;lia)
  case step1=>
   rintro y c st2 _ hy ⟨rfl,out,ia,ib,ac,bc,rfl,m,a1,b1,le⟩
   dsimp only
   obtain ⟨p,ep,mp,rp⟩:=Zj ib (by (clear le a1 hy hx ea e eb hl h0 ha1 hk;lia))
   obtain ⟨q,eq,mq,rq⟩:=Uy ia (by (clear rp ep le b1 hy hx ea e eb hl h0 ha1 hk;lia))
   refine wpS_bind (bJ ep (wpS_bind (bJ eq (wpS_bind (xO C (kp.k.trans hk) mp mq ?_)))))
   dsimp only
   have bV:p=b[ib]:=by rw [getElem?_pos b ib (by (clear rq eq rp ep le a1 hy hx ea e eb hl h0 ha1 hk;lia))] at ep;exact (Option.some.inj ep).symm
   have iH:q=a[ia]:=by rw [getElem?_pos a ia (by (clear bV rq eq rp ep le b1 hy hx ea e eb hl h0 ha1 hk;lia))] at eq;exact (Option.some.inj eq).symm
   refine aQ (fun lt=> ?_) (fun lt=> ?_)
   ·have lt:R rk b ib<R rk a ia:=by rw [rp,rq];simpa using lt
    have m2:MI rk a b (out.push p) ia (ib+1):=by
     rw [bV]
     exact m.yr (by (clear lt iH bV rq eq rp ep le a1 hy hx ea e eb hl h0 ha1 hk;lia)) fun j j1 j2=>by have:=sa ia j (by (clear j2 j1 lt iH bV rq eq rp ep le b1 a1 hy hx ea e eb hl h0 ha1 hk;lia)) j1 j2;(clear j2 j1 iH bV rq eq rp ep le b1 a1 hy hx ea e eb hl h0 ha1 hk;lia)
    refine wpS_bind (bJ ep ?_)
    refine aQ (fun e=> ?_) (fun e=> ?_)
    ·exact wpS_pure ⟨rfl,.inl ⟨_,_,rfl,m2.done (.inr (by simpa using e))⟩⟩
    have e:¬ib+1=b.size:=by simpa using e
    refine aQ (fun _=> ?_) (fun _=> ?_)
    ·exact wpS_pure ⟨rfl,.inr ⟨_,_,_,_,_,rfl,m2,a1,by (clear lt iH bV rq eq rp ep le a1 hy hx ea eb hl h0 ha1 hk;lia),by (clear e lt iH bV rq eq rp ep a1 hy hx ea eb hl h0 ha1 hk;lia)⟩⟩
    ·exact wpS_pure ⟨rfl,_,_,_,_,_,rfl,m2,a1,by (clear lt iH bV rq eq rp ep le a1 hy hx ea eb hl h0 ha1 hk;lia),by (clear e lt iH bV rq eq rp ep a1 hy hx ea eb hl h0 ha1 hk;lia)⟩
   ·have lt:R rk a ia<=R rk b ib:=by rw [rp,rq];simpa using lt
    have m2:MI rk a b (out.push q) (ia+1) ib:=by
     rw [iH]
     exact m.yt (by (clear lt iH bV rq eq rp ep le b1 hy hx ea e eb hl h0 ha1 hk;lia)) fun j j1 j2=>by have:=sb ib j (by (clear j2 j1 lt iH bV rq eq rp ep le b1 a1 hy hx ea e eb hl h0 ha1 hk;lia)) j1 j2;(clear j2 j1 iH bV rq eq rp ep le b1 a1 hy hx ea e eb hl h0 ha1 hk;lia)
    refine wpS_bind (bJ eq ?_)
    refine aQ (fun e=> ?_) (fun e=> ?_)
    ·have e:ia+1+1=a.size:=by simpa using e
     exact wpS_pure ⟨rfl,.inl ⟨_,_,rfl,m2.last fun i j _ hi _ hj=>mid i j hi (by (clear hi lt iH bV rq eq rp ep le b1 a1 hy hx ea eb hl h0 ha1 hk;lia))⟩⟩
    have e:¬ia+1+1=a.size:=by simpa using e
    refine aQ (fun _=> ?_) (fun _=> ?_)
    ·exact wpS_pure ⟨rfl,.inr ⟨_,_,_,_,_,rfl,m2,by (clear lt iH bV rq eq rp ep le b1 hy hx ea eb hl h0 ha1 hk;lia),b1,by (clear e lt iH bV rq eq rp ep b1 hy hx ea eb hl h0 ha1 hk;lia)⟩⟩
    ·exact wpS_pure ⟨rfl,_,_,_,_,_,rfl,m2,by (clear lt iH bV rq eq rp ep le b1 hy hx ea eb hl h0 ha1 hk;lia),b1,by (clear e lt iH bV rq eq rp ep b1 hy hx ea eb hl h0 ha1 hk;lia)⟩
  case Oi=>
   rintro c st2 ⟨rfl,(⟨r,cc,rfl,mr⟩|⟨out,ia,ib,ac,bc,rfl,m,a1,b1,le⟩)⟩
   ·exact wpS_pure ⟨kp,r,_,rfl,mr⟩
   dsimp only
   refine wpS_bind (wpS_lift (wpAny_rule ⟨rfl, ?_⟩))
   refine wpS_bind (wpS_mono (wpS_forRange (I:=fun y c st3=>Dr st st3 /\ ∃out ia ib mg ac bc,c=(none,out,ia,ib,mg,ac,bc)/\MI rk a b out ia ib/\ia+2<=a.size/\ib+1<=b.size/\(a.size - ia)+(b.size - ib)+x+1+y<=a.size+b.size)
    (Q:=fun c st3=>Dr st st3/\((∃r cc,c=(some r,cc)/\Mg rk a b r) \/ ∃out ia ib mg ac bc,c=(none,out,ia,ib,mg,ac,bc)/\MI rk a b out ia ib/\ia+2<=a.size/\ib+1<=b.size/\(a.size - ia)+(b.size - ib)+x+1<=a.size+b.size)) ?Nm ?fin2 ⟨kp,_,_,_,_,_,_,rfl,m,a1,b1,by (clear b1 a1 hx ea e eb hl h0 ha1 hk;lia)⟩) ?post2)
   case fin2=>
    rintro c st3 ⟨Px,out,ia,ib,mg,ac,bc,rfl,m,a1,b1,le⟩
    (clear b1 a1 hx ea e eb hl h0 ha1 hk;lia)
   case post2=>
    rintro c st3 ⟨Px,(⟨r,cc,rfl,mr⟩|⟨out,ia,ib,mg,ac,bc,rfl,m,a1,b1,le⟩)⟩
    ·exact wpS_pure ⟨Px,r,_,rfl,mr⟩
    dsimp only
    refine wpS_bind (qR fun qd k4=>wpS_pure ⟨Px.trans k4,_,_,_,_,rfl,m,a1,b1,by (clear b1 a1 hx ea e eb hl h0 ha1 hk;lia)⟩)
   case Nm=>
    rintro y c st3 _ hy ⟨Px,out,ia,ib,mg,ac,bc,rfl,m,a1,b1,le⟩
    dsimp only
    refine aQ (fun _=> ?_) (fun _=> ?_)
    all_goals
     refine wpS_bind (qR fun qd k4=> ?_)
     have Cu:=Px.trans k4
     obtain ⟨p,ep,mp,rp⟩:=Zj ib (by (clear le a1 hy hx ea e eb hl h0 ha1 hk;lia))
     have bV:p=b[ib]:=by rw [getElem?_pos b ib (by (clear rp ep le a1 hy hx ea e eb hl h0 ha1 hk;lia))] at ep;exact (Option.some.inj ep).symm
     refine wpS_bind (bJ ep (wpS_bind (jt C (Cu.k.trans hk) mp ha (by (clear bV rp ep le b1 hy hx ea e eb hl h0 ha1 hk;lia)) (by (clear bV rp ep le b1 hy hx ea e eb hl h0 ha1 hk;lia)) (fun i j h1 h2 h3=>sa i j (by (clear h3 h2 h1 bV rp ep le b1 a1 hy hx ea e eb hl h0 ha1 hk;lia)) h2 (by (clear h2 h1 bV rp ep le b1 hy hx ea e eb hl h0 ha1 hk;lia))) fun k k1 k2 k3=> ?_)))
     dsimp only
     have mA:MI rk a b (out++a.extract ia (ia+k)) (ia+k) ib:=m.vH (k:=k) fun i hi hs j j1 j2=>by
      have e1:=Ug (k2 i hi)
      have e2:=sb ib j (by (clear e1 j2 j1 hs hi k1 bV rp ep le b1 a1 hy hx ea e eb hl h0 ha1 hk;lia)) j1 j2
      rw [rp] at e2
      (clear j2 j1 hs hi k1 bV rp ep le b1 a1 hy hx ea e eb hl h0 ha1 hk;lia)
     have nxt:∀j,ia+k<=j->j<a.size->R rk b ib<=R rk a j:=fun j j1 j2=>by
      have:=Rj (k3 (j - ia) (by (clear j2 k1 bV rp ep le b1 a1 hy hx ea e eb hl h0 ha1 hk;lia)) (by (clear j1 k1 bV rp ep le b1 hy hx ea e eb hl h0 ha1 hk;lia)))
      rw [show ia+(j - ia)=j by (clear this j2 k1 bV rp ep le b1 a1 hy hx ea e eb hl h0 ha1 hk;lia)] at this
      rw [rp];(clear j2 j1 k1 bV rp ep le b1 a1 hy hx ea e eb hl h0 ha1 hk;lia)
     apply aQ
     case' h1=>
      intro kpos
      refine aQ (fun e=> ?_) (fun e=> ?_)
      ·have e:ia+k+1=a.size:=by simpa using e
       exact wpS_pure ⟨Cu,.inl ⟨_,_,rfl,mA.last fun i j _ hi _ hj=>mid i j hi (by (clear hi kpos k1 bV rp ep le b1 a1 hy hx ea eb hl h0 ha1 hk;lia))⟩⟩
      have e1:¬ia+k+1=a.size:=by simpa using e
      refine aQ (fun e=> ?_) (fun e=> ?_)
      ·exact wpS_pure ⟨Cu,.inl ⟨_,_,rfl,mA.done (.inl (by simpa using e))⟩⟩
      have e2:¬ia+k=a.size:=by simpa using e
      have a3:ia+k+2<=a.size:=by (clear e kpos bV rp ep le b1 hy hx ea eb hl h0 ha1 hk;lia)
      have iz:(a.size - (ia+k))+(b.size - ib)+x+1+y<=a.size+b.size:=by (clear a3 e2 e e1 kpos k1 bV rp ep b1 a1 hy hx ea eb hl h0 ha1 hk;lia)
      generalize out++a.extract ia (ia+k)=akl at mA ⊢
      generalize ia+k=ia3 at mA nxt a3 iz ⊢
     case' h2=>
      intro kpos
      have k0:k=0:=by (clear k1 bV rp ep le b1 a1 hy hx ea e eb hl h0 ha1 hk;lia)
      have a3:ia+2<=a.size:=by (clear k0 kpos k1 bV rp ep le b1 hy hx ea e eb hl h0 ha1 hk;lia)
      have iz:(a.size - ia)+(b.size - ib)+x+1+y<=a.size+b.size:=by (clear a3 k0 kpos k1 bV rp ep b1 a1 hy hx ea e eb hl h0 ha1 hk;lia)
      subst k0
      replace nxt:∀j,ia<=j->j<a.size->R rk b ib<=R rk a j:=nxt
      replace mA:=m
     all_goals
      have mB:=mA.yr (by (clear kpos k1 iz a3 bV rp ep le a1 hy hx ea e eb hl h0 ha1 hk;lia)) nxt
      rw [←bV] at mB
      refine wpS_bind (bJ ep ?_)
      refine aQ (fun e=> ?_) (fun e=> ?_)
      ·exact wpS_pure ⟨Cu,.inl ⟨_,_,rfl,mB.done (.inr (by simpa using e))⟩⟩
      have e3:¬ib+1=b.size:=by simpa using e
      obtain ⟨q,eq,mq,rq⟩:=Uy _ (show _<a.size from Nat.lt_of_lt_of_le (Nat.lt_succ_of_lt (Nat.lt_succ_self _)) a3)
      refine wpS_bind (bJ eq (wpS_bind (jt C (Cu.k.trans hk) mq hb (by (clear rq eq e3 e kpos k1 iz a3 bV rp ep le a1 hy hx ea eb hl h0 ha1 hk;lia)) (by (clear rq eq e kpos k1 iz a3 bV rp ep le a1 hy hx ea eb hl h0 ha1 hk;lia)) (fun i j h1 h2 h3=>sb i j (by (clear h3 h2 h1 rq eq e3 e kpos k1 iz a3 bV rp ep le b1 a1 hy hx ea eb hl h0 ha1 hk;lia)) h2 (by (clear h2 h1 rq eq e3 e kpos k1 iz a3 bV rp ep le a1 hy hx ea eb hl h0 ha1 hk;lia))) fun k' l1 l2 l3=> ?_)))
      dsimp only
      have mC:=mB.vG (k:=k') fun i hi hs j j1 j2=>by
       have e1:=XF (l2 i hi)
       have e2:=sa _ j (by (clear e1 j2 j1 hs hi l1 rq eq e3 e kpos k1 iz a3 bV rp ep le b1 a1 hy hx ea eb hl h0 ha1 hk;lia)) j1 j2
       rw [rq] at e2
       (clear j2 j1 hs hi l1 rq eq e3 e kpos k1 iz a3 bV rp ep le b1 a1 hy hx ea eb hl h0 ha1 hk;lia)
      apply aQ
      case' h1=>
       intro kpos
       refine aQ (fun e=> ?_) (fun e=> ?_)
       ·exact wpS_pure ⟨Cu,.inl ⟨_,_,rfl,mC.done (.inr (by simpa using e))⟩⟩
       have e5:¬ib+1+k'=b.size:=by simpa using e
       have nx:∀j,ib+1+k'<=j->j<b.size->rk q.1<=R rk b j:=fun j j1 j2=>by
        have:=Gv (l3 (j - (ib+1)) (by (clear j2 e5 e kpos l1 rq eq e3 k1 iz a3 bV rp ep le b1 a1 hy hx ea eb hl h0 ha1 hk;lia)) (by (clear j1 e5 e kpos l1 rq eq k1 iz a3 bV rp ep le a1 hy hx ea eb hl h0 ha1 hk;lia)))
        rw [show ib+1+(j - (ib+1))=j by (clear this j2 e5 e kpos l1 rq eq e3 k1 iz a3 bV rp ep le b1 a1 hy hx ea eb hl h0 ha1 hk;lia)] at this
        (clear j2 j1 e5 e kpos l1 rq eq e3 k1 iz a3 bV rp ep le b1 a1 hy hx ea eb hl h0 ha1 hk;lia)
       have b3:ib+1+k'+1<=b.size:=by (clear e kpos rq eq e3 k1 iz a3 bV rp ep le a1 hy hx ea eb hl h0 ha1 hk;lia)
      case' h2=>
       intro kpos
       have k0:k'=0:=by (clear l1 rq eq e3 e k1 iz a3 bV rp ep le b1 a1 hy hx ea eb hl h0 ha1 hk;lia)
       have nx:∀j,ib+1<=j->j<b.size->rk q.1<=R rk b j:=fun j j1 j2=>by
        have:=Gv (l3 (j - (ib+1)) (by (clear j2 j1 k0 l1 rq eq e3 e k1 iz a3 bV rp ep le b1 a1 hy hx ea eb hl h0 ha1 hk;lia)) (by (clear j1 k0 kpos l1 rq eq e k1 iz a3 bV rp ep le a1 hy hx ea eb hl h0 ha1 hk;lia)))
        rw [show ib+1+(j - (ib+1))=j by (clear this j2 k0 kpos l1 rq eq e3 e k1 iz a3 bV rp ep le b1 a1 hy hx ea eb hl h0 ha1 hk;lia)] at this
        (clear j2 j1 k0 kpos l1 rq eq e3 e k1 iz a3 bV rp ep le b1 a1 hy hx ea eb hl h0 ha1 hk;lia)
       have b3:ib+1+1<=b.size:=by (clear k0 kpos l1 rq eq e k1 iz a3 bV rp ep le a1 hy hx ea eb hl h0 ha1 hk;lia)
       replace mC:=mB
      all_goals
       have mD:=mC.yt (by (clear b3 kpos l1 rq eq e3 e k1 iz bV rp ep le b1 hy hx ea eb hl h0 ha1 hk;lia)) (fun j j1 j2=>by rw [rq];exact nx j j1 j2)
       have iH:=Option.some.inj ((getElem?_pos a _ (by (clear b3 kpos l1 rq eq e3 e k1 iz bV rp ep le b1 hy hx ea eb hl h0 ha1 hk;lia))).symm.trans eq)
       rw [iH] at mD
       refine wpS_bind (bJ eq ?_)
       refine aQ (fun e=> ?_) (fun e=> ?_)
       ·exact wpS_pure ⟨Cu,.inl ⟨_,_,rfl,mD.last fun i j _ hi _ hj=>mid i j hi (by have e:=eq_of_beq e;(clear hi iH b3 kpos l1 rq eq e3 k1 iz a3 bV rp ep le b1 a1 hy hx ea eb hl h0 ha1 hk;lia))⟩⟩
       have e6:¬_=a.size:=fun z=>e (beq_iff_eq.mpr z)
       refine aQ (fun _=> ?_) (fun _=> ?_)
       ·exact wpS_pure ⟨Cu,.inr ⟨_,_,_,_,_,_,rfl,mD,by (clear e iH b3 kpos l1 rq eq e3 k1 iz bV rp ep le b1 hy hx ea eb hl h0 ha1 hk;lia),by (clear e6 e iH b3 kpos rq eq k1 iz a3 bV rp ep le a1 hy hx ea eb hl h0 ha1 hk;lia),by (clear e6 e iH b3 kpos l1 rq eq e3 k1 a3 bV rp ep b1 a1 hy hx ea eb hl h0 ha1 hk;lia)⟩⟩
       ·exact wpS_pure ⟨Cu,_,_,_,_,_,_,rfl,mD,by (clear e iH b3 kpos l1 rq eq e3 k1 iz bV rp ep le b1 hy hx ea eb hl h0 ha1 hk;lia),by (clear e6 e iH b3 kpos rq eq k1 iz a3 bV rp ep le a1 hy hx ea eb hl h0 ha1 hk;lia),by (clear e6 e iH b3 kpos l1 rq eq e3 k1 a3 bV rp ep hy hx ea eb hl h0 ha1 hk;lia)⟩
end
end Tim
set_option Elab.async false
set_option linter.all false
set_option maxRecDepth 100000
set_option maxHeartbeats 4000000
namespace Tim
open PySem PyProof.Rows
abbrev kY (a b out:Array Keyed) (na nb:Nat):Array Keyed:=a.extract 0 na++b.extract 0 nb++out.reverse
abbrev rB (a b out:Array Keyed) (na nb:Nat):Array Keyed:=b.extract 0 nb++a.extract 0 na++out.reverse
theorem EY (a b:Array Keyed):yJ a b=(do
 rule "list.sort.merge-hi"
 let total:=a.size+b.size
 let mut na:=a.size - 1
 let mut nb:=b.size
 let mut out:Array Keyed:= #[←elem' a na]
 if na==0 then return kY a b out na nb
 if nb==1 then return rB a b out na nb
 let mut minGallop:=gallopOf (←get)
 for _ in [0:total] do
  let mut acount:=0
  let mut bcount:=0
  for _ in [0:total] do
   let some aWins ←lt' (←elem' b (nb - 1)) (←elem' a (na - 1))|return kY a b out na nb
   if aWins then
    na:=na - 1;out:=out.push (←elem' a na);acount:=acount+1;bcount:=0
    if na==0 then return kY a b out na nb
    if acount≥minGallop then break
   else
    nb:=nb - 1;out:=out.push (←elem' b nb);bcount:=bcount+1;acount:=0
    if nb==1 then return rB a b out na nb
    if bcount≥minGallop then break
  rule "list.sort.gallop"
  minGallop:=minGallop+1
  for _ in [0:total] do
   if minGallop>1 then minGallop:=minGallop - 1
   fD minGallop
   let some at_ ←mU false (←elem' b (nb - 1)) a 0 na (na - 1)|return kY a b out na nb
   let k:=na - at_
   acount:=k
   if k>0 then
    out:=out++(a.extract at_ na).reverse;na:=at_
    if na==0 then return kY a b out na nb
   nb:=nb - 1;out:=out.push (←elem' b nb)
   if nb==1 then return rB a b out na nb
   let some at_ ←mU true (←elem' a (na - 1)) b 0 nb (nb - 1)|return kY a b out na nb
   let k:=nb - at_
   bcount:=k
   if k>0 then
    out:=out++(b.extract at_ nb).reverse;nb:=at_
    if nb==1 then return rB a b out na nb
    if nb==0 then return kY a b out na nb
   na:=na - 1;out:=out.push (←elem' a na)
   if na==0 then return kY a b out na nb
   if acount<7&&bcount<7 then break
  minGallop:=minGallop+1
  fD minGallop
 unsupported "internal:list.sort.merge-bound"):=rfl
section
variable {rk:Value->Nat} {a b out:Array Keyed} {na nb k:Nat}
structure MH (rk:Value->Nat) (a b out:Array Keyed) (na nb:Nat):Prop where
 perm:(a.toList.take na++(b.toList.take nb++out.toList.reverse)).Perm (a.toList++b.toList)
 sa:Mw rk (a.toList.take na++out.toList.reverse)
 sb:Mw rk (b.toList.take nb++out.toList.reverse)
theorem GJ (l:List Keyed) {i j:Nat} (h:i<=j):l.take j=l.take i++(l.drop i).take (j - i):=by
 rw [List.take_drop,show i+(j - i)=j by lia]
 have:=(List.take_append_drop i (l.take j)).symm
 rwa [List.take_take,Nat.min_eq_left h] at this
theorem K3 {a:Array Keyed} {x:Keyed} (h:x∈a.toList.take na):∃j,j<na/\j<a.size/\R rk a j=rk x.1:=by
 have h':x∈(a.toList.drop 0).take na:=by rw [List.drop_zero];exact h
 obtain ⟨j,j1,j2,j3⟩:=jO (rk:=rk) h'
 rw [Nat.zero_add] at j2 j3
 exact ⟨j,j1,j2,j3⟩
theorem MH.vH (m:MH rk a b out na nb) {at_:Nat} (hat:at_<=na) (hle:∀i,at_<=i->i<na->i<a.size -> ∀j,j<nb->j<b.size->R rk b j<=R rk a i):MH rk a b (out++(a.extract at_ na).reverse) at_ nb:=by
 have e:(out++(a.extract at_ na).reverse).toList.reverse=(a.toList.drop at_).take (na - at_)++out.toList.reverse:=by
  rw [Array.toList_append,List.reverse_append,Array.toList_reverse,List.reverse_reverse,cG]
 have sp:=GJ a.toList hat
 refine ⟨?_, ?_, ?_⟩
 ·rw [e]
  refine List.Perm.trans ?_ m.perm
  rw [sp,List.append_assoc]
  refine List.Perm.append_left _ ?_
  rw [←List.append_assoc,←List.append_assoc]
  exact List.Perm.append_right _ List.perm_append_comm
 ·rw [e,←List.append_assoc,←sp]
  exact m.sa
 ·rw [e]
  have h1:=m.sa
  rw [sp,List.append_assoc] at h1
  have h2:=jE.mp (jE.mp h1).2.1
  have h3:=jE.mp m.sb
  refine jE.mpr ⟨h3.1,jE.mpr ⟨h2.1,h3.2.1,h2.2.2⟩,fun p hp q hq=> ?_⟩
  rcases List.mem_append.mp hq with hq|hq
  ·obtain ⟨i,i1,i2,i3⟩:=K3 (rk:=rk) hp
   obtain ⟨j,j1,j2,j3⟩:=jO (rk:=rk) hq
   rw [←i3,←j3]
   exact hle _ (by (clear j3 j2 j1 i3 i2 i1 h3 h2 sp e hat;lia)) (by (clear j3 j2 i3 i2 i1 h3 h2 sp e hat;lia)) j2 i i1 i2
  ·exact h3.2.2 p hp q hq
theorem MH.swap (m:MH rk a b out na nb):MH rk b a out nb na:=by
 refine ⟨?_,m.sb,m.sa⟩
 refine List.Perm.trans ?_ (m.perm.trans List.perm_append_comm)
 rw [←List.append_assoc,←List.append_assoc]
 exact List.Perm.append_right _ List.perm_append_comm
theorem MH.vG (m:MH rk a b out na nb) {at_:Nat} (hat:at_<=nb) (hle:∀i,at_<=i->i<nb->i<b.size -> ∀j,j<na->j<a.size->R rk a j<=R rk b i):MH rk a b (out++(b.extract at_ nb).reverse) na at_:=(m.swap.vH hat hle).swap
theorem Od (h1:1<=na) (h:na<=a.size):out.push (a[na - 1]'(by lia))=out++(a.extract (na - 1) na).reverse:=by
 have e:=Ed (out:= #[]) (b:=a) (ib:=na - 1) (by lia)
 rw [show na - 1+1=na by (clear e h;lia)] at e
 have e2:a.extract (na - 1) na = #[a[na - 1]'(by (clear e;lia))]:=by
  apply Array.toList_inj.mp
  have:=congrArg Array.toList e
  rw [Array.toList_append] at this
  simpa using this.symm
 rw [e2]
 apply Array.toList_inj.mp
 simp
theorem MH.yt (m:MH rk a b out na nb) (h1:1<=na) (h:na<=a.size) (hle:∀j,j<nb->j<b.size->R rk b j<=R rk a (na - 1)):MH rk a b (out.push (a[na - 1]'(by lia))) (na - 1) nb:=by
 rw [Od h1 h]
 refine m.vH (by (clear h h1;lia)) fun i i1 i2 i3 j j1 j2=> ?_
 have:i=na - 1:=by (clear j2 j1 i3 h h1;lia)
 subst this
 exact hle j j1 j2
theorem MH.yr (m:MH rk a b out na nb) (h1:1<=nb) (h:nb<=b.size) (hle:∀j,j<na->j<a.size->R rk a j<=R rk b (nb - 1)):MH rk a b (out.push (b[nb - 1]'(by lia))) na (nb - 1):=(m.swap.yt h1 h hle).swap
theorem wX:(kY a b out na nb).toList=a.toList.take na++(b.toList.take nb++out.toList.reverse):=by
 unfold kY
 rw [Array.toList_append,Array.toList_append,cG,cG,Array.toList_reverse,List.append_assoc]
 rfl
theorem MH.done (m:MH rk a b out na nb) (h:na=0\/nb=0):Mg rk a b (kY a b out na nb):=by
 refine ⟨by rw [wX];exact m.perm, ?_⟩
 rw [wX]
 rcases h with h|h
 ·subst h
  exact m.sb
 ·subst h
  exact m.sa
theorem MH.first (m:MH rk a b out na nb) (h:∀i j,i<nb->i<b.size->j<na->j<a.size->R rk b i<=R rk a j):Mg rk a b (rB a b out na nb):=by
 have m2:=m.vH (at_:=0) (by lia) fun i _ i2 i3 j j1 j2=>h j i j1 j2 i2 i3
 have e:rB a b out na nb=kY a b (out++(a.extract 0 na).reverse) 0 nb:=by
  apply Array.toList_inj.mp
  rw [wX,wX,Array.toList_append,List.reverse_append,Array.toList_reverse,List.reverse_reverse,cG]
  simp
 rw [e]
 exact m2.done (.inl rfl)
end
section
variable {prog:Program} {w:World} {A:Around} {E:Value->Shared->Prop} {s:Shared} {κ:SortKind} {a₀:Array Keyed} {rk:Value->Nat}
theorem Du {st:SortSt} {a b:Array Keyed} {Q:Array Keyed->SortSt->Prop} (C:Gx prog w A s κ a₀ rk) (hk:kindOf st=κ) (ha:∀p∈a.toList,p∈a₀.toList) (hb:∀p∈b.toList,p∈a₀.toList)
 (ha1:1<=a.size) (hb1:1<=b.size) (sa:Seg rk a 0 a.size) (sb:Seg rk b 0 b.size) (h0:R rk b 0<=R rk a 0) (hl:R rk b (b.size - 1)<=R rk a (a.size - 1))
 (h:∀r st',Dr st st'->Mg rk a b r->Q r st'):wpS (model prog w) A E s (yJ a b) Q st:=by
 have Zj:∀i,i<b.size -> ∃p,b[i]? = some p/\p∈a₀.toList/\R rk b i=rk p.1:=fun i hi=>⟨b[i],getElem?_pos b i hi,hb _ (by simp),jk hi⟩
 have Uy:∀i,i<a.size -> ∃p,a[i]? = some p/\p∈a₀.toList/\R rk a i=rk p.1:=fun i hi=>⟨a[i],getElem?_pos a i hi,ha _ (by simp),jk hi⟩
 have mid:∀i j nb,i<nb->nb=1->j<a.size->R rk b i<=R rk a j:=fun i j nb hi hn hj=>by
  have:=sa 0 j (by (clear hj hn hi hl h0 hb1 ha1 hk;lia)) (by (clear hj hn hi hl h0 hb1 ha1 hk;lia)) hj
  have e:i=0:=by (clear this hj hl h0 hb1 ha1 hk;lia)
  subst e
  (clear hi hj hn hl hb1 ha1 hk;lia)
 have m0:MH rk a b #[a[a.size - 1]] (a.size - 1) b.size:=by
  have m:MH rk a b #[] a.size b.size:=by
   refine ⟨?_, ?_, ?_⟩
   ·rw [←Array.length_toList,←Array.length_toList,List.take_length,List.take_length];simp
   ·rw [←Array.length_toList,List.take_length]
    show Mw rk (a.toList++[])
    rw [List.append_nil]
    refine List.pairwise_iff_getElem.mpr fun i j hi hj hij=> ?_
    rw [Array.length_toList] at hi hj
    have:=sa i j (by (clear hij hj hi hl h0 hb1 ha1 hk;lia)) (by (clear hj hi hl h0 hb1 ha1 hk;lia)) hj
    rw [jk hi,jk hj] at this
    simpa [Le] using this
   ·rw [←Array.length_toList,List.take_length]
    show Mw rk (b.toList++[])
    rw [List.append_nil]
    refine List.pairwise_iff_getElem.mpr fun i j hi hj hij=> ?_
    rw [Array.length_toList] at hi hj
    have:=sb i j (by (clear hij hj hi hl h0 hb1 ha1 hk;lia)) (by (clear hj hi hl h0 hb1 ha1 hk;lia)) hj
    rw [jk hi,jk hj] at this
    simpa [Le] using this
  exact m.yt ha1 (Nat.le_refl _) fun j j1 j2=>Nat.le_trans (sb j (b.size - 1) (by (clear j2 j1 hl h0 hb1 ha1 hk;lia)) (by (clear j2 hl h0 hb1 ha1 hk;lia)) (by (clear j2 j1 hl h0 ha1 hk;lia))) hl
 rw [EY]
 refine wpS_bind (wpS_lift (wpAny_rule ⟨rfl, ?_⟩))
 refine wpS_bind (bJ (p:=a[a.size - 1]) (getElem?_pos a _ (by (clear hl h0 hb1 hk;lia))) ?_)
 dsimp only
 refine aQ (fun e=> ?_) (fun e=> ?_)
 ·exact wpS_pure (h _ _ (.refl _) (m0.done (.inl (by simpa using e))))
 have ea:¬a.size - 1=0:=fun z=>e (beq_iff_eq.mpr z)
 refine aQ (fun e=> ?_) (fun e=> ?_)
 ·exact wpS_pure (h _ _ (.refl _) (m0.first fun i j i1 i2 j1 j2=>mid i j _ i1 (by simpa using e) j2))
 have eb:¬b.size=1:=by simpa using e
 refine wpS_bind (wpS_get ?_)
 refine wpS_bind (wpS_mono (wpS_forRange (I:=fun x c st'=>Dr st st' /\ ∃na nb out mg,c=(none,na,nb,out,mg)/\MH rk a b out na nb/\1<=na/\2<=nb/\na<=a.size/\nb<=b.size/\na+nb+x<=a.size+b.size)
  (Q:=fun c st'=>Dr st st' /\ ∃r cc,c=(some r,cc)/\Mg rk a b r) ?step ?fin ⟨.refl _,_,_,_,_,rfl,m0,by (clear eb e hl h0 hb1 hk;lia),by (clear e ea hl h0 hk;lia),by (clear eb e ea hl h0 hb1 hk;lia),by (clear eb e ea hl h0 hb1 hk;lia),by (clear eb e ea hl h0 hb1 hk;lia)⟩) ?post)
 case post=>
  rintro c st' ⟨kp,r,cc,rfl,m⟩
  exact wpS_pure (h _ _ kp m)
 case fin=>
  rintro c st' ⟨kp,na,nb,out,mg,rfl,m,a1,b1,a2,b2,le⟩
  (clear b2 a2 b1 eb e ea hl h0 hb1 hk;lia)
 case step=>
  rintro x c st' _ hx ⟨kp,na,nb,out,mg,rfl,m,a1,b1,a2,b2,le⟩
  dsimp only
  refine wpS_bind (wpS_mono (wpS_forRange (I:=fun y c st2=>st2=st' /\ ∃na nb out ac bc,c=(none,na,nb,out,ac,bc)/\MH rk a b out na nb/\1<=na/\2<=nb/\na<=a.size/\nb<=b.size/\na+nb+x+y<=a.size+b.size)
   (Q:=fun c st2=>st2=st'/\((∃r cc,c=(some r,cc)/\Mg rk a b r) \/ ∃na nb out ac bc,c=(none,na,nb,out,ac,bc)/\MH rk a b out na nb/\1<=na/\2<=nb/\na<=a.size/\nb<=b.size/\na+nb+x+1<=a.size+b.size)) ?step1 ?Xe ⟨rfl,_,_,_,_,_,rfl,m,a1,b1,a2,b2,by (clear b2 a2 b1 a1 hx eb e ea hl h0 hb1 hk;lia)⟩) ?Oi)
  case Xe=>
   rintro c st2 ⟨rfl,na,nb,out,ac,bc,rfl,m,a1,b1,a2,b2,le⟩
   (clear b2 a2 b1 hx eb e ea hl h0 hb1 hk;lia)
  case step1=>
   rintro y c st2 _ hy ⟨rfl,na,nb,out,ac,bc,rfl,m,a1,b1,a2,b2,le⟩
   dsimp only
   obtain ⟨p,ep,mp,rp⟩:=Zj (nb - 1) (by (clear le a2 b1 a1 hy hx eb e ea hl h0 hb1 hk;lia))
   obtain ⟨q,eq,mq,rq⟩:=Uy (na - 1) (by (clear rp ep le b2 b1 a1 hy hx eb e ea hl h0 hb1 hk;lia))
   refine wpS_bind (bJ ep (wpS_bind (bJ eq (wpS_bind (xO C (kp.k.trans hk) mp mq ?_)))))
   dsimp only
   have bV:b[nb - 1]=p:=Option.some.inj ((getElem?_pos b _ (by (clear rq eq rp ep le a2 b1 a1 hy hx eb e ea hl h0 hb1 hk;lia))).symm.trans ep)
   have iH:a[na - 1]=q:=Option.some.inj ((getElem?_pos a _ (by (clear bV rq eq rp ep le b2 b1 a1 hy hx eb e ea hl h0 hb1 hk;lia))).symm.trans eq)
   refine aQ (fun lt=> ?_) (fun lt=> ?_)
   ·have lt:R rk b (nb - 1)<R rk a (na - 1):=by rw [rp,rq];simpa using lt
    have m2:=m.yt a1 a2 fun j j1 j2=>by have:=sb j (nb - 1) (by (clear j2 j1 lt iH bV rq eq rp ep le b2 a2 b1 a1 hy hx eb e ea hl h0 hb1 hk;lia)) (by (clear j2 lt iH bV rq eq rp ep le b2 a2 b1 a1 hy hx eb e ea hl h0 hb1 hk;lia)) (by (clear j2 j1 lt iH bV rq eq rp ep le a2 b1 a1 hy hx eb e ea hl h0 hb1 hk;lia));(clear j2 j1 iH bV rq eq rp ep le b2 a2 b1 a1 hy hx eb e ea hl h0 hb1 hk;lia)
    rw [iH] at m2
    refine wpS_bind (bJ eq ?_)
    refine aQ (fun e=> ?_) (fun e=> ?_)
    ·exact wpS_pure ⟨rfl,.inl ⟨_,_,rfl,m2.done (.inl (by simpa using e))⟩⟩
    have e:¬na - 1=0:=fun z=>e (beq_iff_eq.mpr z)
    refine aQ (fun _=> ?_) (fun _=> ?_)
    ·exact wpS_pure ⟨rfl,.inr ⟨_,_,_,_,_,rfl,m2,by (clear lt iH bV rq eq rp ep le b2 a2 b1 a1 hy hx eb ea hl h0 hb1 hk;lia),b1,by (clear e lt iH bV rq eq rp ep le b2 b1 a1 hy hx eb ea hl h0 hb1 hk;lia),b2,by (clear e lt iH bV rq eq rp ep b2 a2 b1 hy hx eb ea hl h0 hb1 hk;lia)⟩⟩
    ·exact wpS_pure ⟨rfl,_,_,_,_,_,rfl,m2,by (clear lt iH bV rq eq rp ep le b2 a2 b1 a1 hy hx eb ea hl h0 hb1 hk;lia),b1,by (clear e lt iH bV rq eq rp ep le b2 b1 a1 hy hx eb ea hl h0 hb1 hk;lia),b2,by (clear e lt iH bV rq eq rp ep b2 a2 b1 hy hx eb ea hl h0 hb1 hk;lia)⟩
   ·have lt:R rk a (na - 1)<=R rk b (nb - 1):=by rw [rp,rq];simpa using lt
    have m2:=m.yr (by (clear lt iH bV rq eq rp ep le b2 a2 a1 hy hx eb e ea hl h0 hb1 hk;lia)) b2 fun j j1 j2=>by have:=sa j (na - 1) (by (clear j2 j1 lt iH bV rq eq rp ep le b2 a2 b1 a1 hy hx eb e ea hl h0 hb1 hk;lia)) (by (clear j2 lt iH bV rq eq rp ep le b2 a2 b1 a1 hy hx eb e ea hl h0 hb1 hk;lia)) (by (clear j2 j1 lt iH bV rq eq rp ep le b2 b1 a1 hy hx eb e ea hl h0 hb1 hk;lia));(clear j2 j1 iH bV rq eq rp ep le b2 a2 b1 a1 hy hx eb e ea hl h0 hb1 hk;lia)
    rw [bV] at m2
    refine wpS_bind (bJ ep ?_)
    refine aQ (fun e=> ?_) (fun e=> ?_)
    ·exact wpS_pure ⟨rfl,.inl ⟨_,_,rfl,m2.first fun i j i1 i2 j1 j2=>mid i j _ i1 (eq_of_beq e) j2⟩⟩
    have e:¬nb - 1=1:=fun z=>e (beq_iff_eq.mpr z)
    refine aQ (fun _=> ?_) (fun _=> ?_)
    ·exact wpS_pure ⟨rfl,.inr ⟨_,_,_,_,_,rfl,m2,a1,by (clear lt iH bV rq eq rp ep le b2 a2 a1 hy hx eb ea hl h0 hb1 hk;lia),a2,by (clear e lt iH bV rq eq rp ep le a2 b1 a1 hy hx eb ea hl h0 hb1 hk;lia),by (clear e lt iH bV rq eq rp ep b2 a2 a1 hy hx eb ea hl h0 hb1 hk;lia)⟩⟩
    ·exact wpS_pure ⟨rfl,_,_,_,_,_,rfl,m2,a1,by (clear lt iH bV rq eq rp ep le b2 a2 a1 hy hx eb ea hl h0 hb1 hk;lia),a2,by (clear e lt iH bV rq eq rp ep le a2 b1 a1 hy hx eb ea hl h0 hb1 hk;lia),by (clear e lt iH bV rq eq rp ep b2 a2 a1 hy hx eb ea hl h0 hb1 hk;lia)⟩
  case Oi=>
   rintro c st2 ⟨rfl,(⟨r,cc,rfl,mr⟩|⟨na,nb,out,ac,bc,rfl,m,a1,b1,a2,b2,le⟩)⟩
   ·exact wpS_pure ⟨kp,r,_,rfl,mr⟩
   dsimp only
   refine wpS_bind (wpS_lift (wpAny_rule ⟨rfl, ?_⟩))
   refine wpS_bind (wpS_mono (wpS_forRange (I:=fun y c st3=>Dr st st3 /\ ∃na nb out mg ac bc,c=(none,na,nb,out,mg,ac,bc)/\MH rk a b out na nb/\1<=na/\2<=nb/\na<=a.size/\nb<=b.size/\na+nb+x+1+y<=a.size+b.size)
    (Q:=fun c st3=>Dr st st3/\((∃r cc,c=(some r,cc)/\Mg rk a b r) \/ ∃na nb out mg ac bc,c=(none,na,nb,out,mg,ac,bc)/\MH rk a b out na nb/\1<=na/\2<=nb/\na<=a.size/\nb<=b.size/\na+nb+x+1<=a.size+b.size)) ?Nm ?fin2 ⟨kp,_,_,_,_,_,_,rfl,m,a1,b1,a2,b2,by (clear b2 a2 b1 a1 hx eb e ea hl h0 hb1 hk;lia)⟩) ?post2)
   case fin2=>
    rintro c st3 ⟨Px,na,nb,out,mg,ac,bc,rfl,m,a1,b1,a2,b2,le⟩
    (clear b2 a2 b1 a1 hx eb e ea hl h0 hb1 hk;lia)
   case post2=>
    rintro c st3 ⟨Px,(⟨r,cc,rfl,mr⟩|⟨na,nb,out,mg,ac,bc,rfl,m,a1,b1,a2,b2,le⟩)⟩
    ·exact wpS_pure ⟨Px,r,_,rfl,mr⟩
    dsimp only
    refine wpS_bind (qR fun qd k4=>wpS_pure ⟨Px.trans k4,_,_,_,_,rfl,m,a1,b1,a2,b2,by (clear b2 a2 b1 a1 hx eb e ea hl h0 hb1 hk;lia)⟩)
   case Nm=>
    rintro y c st3 _ hy ⟨Px,na,nb,out,mg,ac,bc,rfl,m,a1,b1,a2,b2,le⟩
    dsimp only
    refine aQ (fun _=> ?_) (fun _=> ?_)
    all_goals
     refine wpS_bind (qR fun qd k4=> ?_)
     have Cu:=Px.trans k4
     obtain ⟨p,ep,mp,rp⟩:=Zj (nb - 1) (by (clear le a2 b1 a1 hy hx eb e ea hl h0 hb1 hk;lia))
     have bV:b[nb - 1]=p:=Option.some.inj ((getElem?_pos b _ (by (clear rp ep le a2 b1 a1 hy hx eb e ea hl h0 hb1 hk;lia))).symm.trans ep)
     refine wpS_bind (bJ ep (wpS_bind (jt C (Cu.k.trans hk) mp ha (by (clear bV rp ep le b2 b1 a1 hy hx eb e ea hl h0 hb1 hk;lia)) (by (clear bV rp ep le b2 a2 b1 hy hx eb e ea hl h0 hb1 hk;lia)) (fun i j h1 h2 h3=>sa i j (by (clear h3 h2 h1 bV rp ep le b2 a2 b1 a1 hy hx eb e ea hl h0 hb1 hk;lia)) h2 (by (clear h2 h1 bV rp ep le b2 b1 a1 hy hx eb e ea hl h0 hb1 hk;lia))) fun k k1 k2 k3=> ?_)))
     dsimp only
     simp only [Nat.zero_add] at k2 k3
     have mA:=m.vH k1 fun i i1 i2 i3 j j1 j2=>by
      have e1:=Rj (k3 i i1 i2)
      have e2:=sb j (nb - 1) (by (clear e1 j2 j1 i3 i2 i1 k1 bV rp ep le b2 a2 b1 a1 hy hx eb e ea hl h0 hb1 hk;lia)) (by (clear e1 j2 i3 i2 i1 k1 bV rp ep le b2 a2 b1 a1 hy hx eb e ea hl h0 hb1 hk;lia)) (by (clear e1 j2 j1 i3 i2 i1 k1 bV rp ep le a2 b1 a1 hy hx eb e ea hl h0 hb1 hk;lia))
      (clear j2 j1 i3 i2 i1 k1 bV ep le b2 a2 b1 a1 hy hx eb e ea hl h0 hb1 hk;lia)
     have nxt:∀j,j<k->j<a.size->R rk a j<=R rk b (nb - 1):=fun j j1 j2=>by
      have:=Ug (k2 j j1)
      (clear j2 j1 k1 bV ep le b2 a2 b1 a1 hy hx eb e ea hl h0 hb1 hk;lia)
     apply aQ
     case' h1=>
      intro kpos
      refine aQ (fun e=> ?_) (fun e=> ?_)
      ·exact wpS_pure ⟨Cu,.inl ⟨_,_,rfl,mA.done (.inl (by simpa using e))⟩⟩
      have e1:¬k=0:=fun z=>e (beq_iff_eq.mpr z)
      have a3:1<=k:=by (clear e kpos k1 bV rp ep le b2 a2 b1 a1 hy hx eb ea hl h0 hb1 hk;lia)
      have a4:k<=a.size:=by (clear a3 e1 e kpos bV rp ep le b2 b1 a1 hy hx eb ea hl h0 hb1 hk;lia)
      have iz:k+nb+x+1+y<=a.size+b.size:=by (clear a4 a3 e1 e kpos bV rp ep b2 a2 b1 a1 hy hx eb ea hl h0 hb1 hk;lia)
     case' h2=>
      intro kpos
      have k0:k=na:=by (clear bV rp ep le b2 a2 b1 a1 hy hx eb e ea hl h0 hb1 hk;lia)
      have a3:1<=na:=a1
      have a4:na<=a.size:=a2
      have iz:na+nb+x+1+y<=a.size+b.size:=by (clear a4 a3 k0 kpos k1 bV rp ep b2 a2 b1 a1 hy hx eb e ea hl h0 hb1 hk;lia)
      rw [k0] at nxt
      replace mA:=m
     all_goals
      have mB:=mA.yr (by (clear iz a4 a3 kpos k1 bV rp ep le b2 a2 a1 hy hx eb e ea hl h0 hb1 hk;lia)) b2 nxt
      rw [bV] at mB
      refine wpS_bind (bJ ep ?_)
      refine aQ (fun e=> ?_) (fun e=> ?_)
      ·exact wpS_pure ⟨Cu,.inl ⟨_,_,rfl,mB.first fun i j i1 i2 j1 j2=>mid i j _ i1 (eq_of_beq e) j2⟩⟩
      have e3:¬nb - 1=1:=fun z=>e (beq_iff_eq.mpr z)
      obtain ⟨q,eq,mq,rq⟩:=Uy _ (Nat.lt_of_lt_of_le (Nat.sub_lt a3 Nat.one_pos) a4)
      refine wpS_bind (bJ eq (wpS_bind (jt C (Cu.k.trans hk) mq hb (by (clear rq eq e3 e iz a4 a3 kpos k1 bV rp ep le a2 b1 a1 hy hx eb ea hl h0 hb1 hk;lia)) (by (clear rq eq e3 e iz a4 a3 kpos k1 bV rp ep le b2 a2 a1 hy hx eb ea hl h0 hb1 hk;lia)) (fun i j h1 h2 h3=>sb i j (by (clear h3 h2 h1 rq eq e3 e iz a4 a3 kpos k1 bV rp ep le b2 a2 b1 a1 hy hx eb ea hl h0 hb1 hk;lia)) h2 (by (clear h2 h1 rq eq e3 e iz a4 a3 kpos k1 bV rp ep le a2 b1 a1 hy hx eb ea hl h0 hb1 hk;lia))) fun k' l1 l2 l3=> ?_)))
      dsimp only
      simp only [Nat.zero_add] at l2 l3
      have mC:=mB.vG l1 fun i i1 i2 i3 j j1 j2=>by
       have e1:=Gv (l3 i i1 i2)
       have e2:=sa j _ (by (clear e1 j2 j1 i3 i2 i1 l1 rq eq e3 e iz a4 a3 kpos k1 bV rp ep le b2 a2 b1 a1 hy hx eb ea hl h0 hb1 hk;lia)) (Nat.le_sub_one_of_lt j1) (by (clear e1 j2 j1 i3 i2 i1 l1 rq eq e3 e iz a4 a3 kpos bV rp ep le b2 b1 a1 hy hx eb ea hl h0 hb1 hk;lia))
       (clear j2 j1 i3 i2 i1 l1 eq e3 e iz a4 a3 kpos k1 bV rp ep le b2 a2 b1 a1 hy hx eb ea hl h0 hb1 hk;lia)
      have nx:∀j,j<k'->j<b.size->R rk b j<=rk q.1:=fun j j1 j2=>by
       have:=XF (l2 j j1)
       (clear j2 j1 l1 rq eq e3 e iz a4 a3 kpos k1 bV rp ep le b2 a2 b1 a1 hy hx eb ea hl h0 hb1 hk;lia)
      apply aQ
      case' h1=>
       intro kpos
       refine aQ (fun e=> ?_) (fun e=> ?_)
       ·exact wpS_pure ⟨Cu,.inl ⟨_,_,rfl,mC.first fun i j i1 i2 j1 j2=>mid i j _ i1 (eq_of_beq e) j2⟩⟩
       have e4:¬k'=1:=fun z=>e (beq_iff_eq.mpr z)
       refine aQ (fun e=> ?_) (fun e=> ?_)
       ·exact wpS_pure ⟨Cu,.inl ⟨_,_,rfl,mC.done (.inr (by simpa using e))⟩⟩
       have e5:¬k'=0:=fun z=>e (beq_iff_eq.mpr z)
       have b3:2<=k':=by (clear e kpos l1 rq eq e3 iz a4 a3 k1 bV rp ep le b2 a2 b1 a1 hy hx eb ea hl h0 hb1 hk;lia)
      case' h2=>
       intro kpos
       have k0:k'=nb - 1:=by (clear rq eq e3 e iz a4 a3 k1 bV rp ep le b2 a2 b1 a1 hy hx eb ea hl h0 hb1 hk;lia)
       rw [k0] at nx
       have b3:2<=nb - 1:=by (clear k0 kpos l1 rq eq e iz a4 a3 k1 bV rp ep le b2 a2 a1 hy hx eb ea hl h0 hb1 hk;lia)
       replace mC:=mB
      all_goals
       have mD:=mC.yt a3 a4 (fun j j1 j2=>by rw [rq];exact nx j j1 j2)
       have iH:=Option.some.inj ((getElem?_pos a _ (by (clear b3 kpos l1 rq eq e3 e iz k1 bV rp ep le b2 a2 b1 a1 hy hx eb ea hl h0 hb1 hk;lia))).symm.trans eq)
       rw [iH] at mD
       refine wpS_bind (bJ eq ?_)
       refine aQ (fun e=> ?_) (fun e=> ?_)
       ·exact wpS_pure ⟨Cu,.inl ⟨_,_,rfl,mD.done (.inl (eq_of_beq e))⟩⟩
       have e6:¬_=0:=fun z=>e (beq_iff_eq.mpr z)
       refine aQ (fun _=> ?_) (fun _=> ?_)
       ·exact wpS_pure ⟨Cu,.inr ⟨_,_,_,_,_,_,rfl,mD,by (clear e iH b3 kpos l1 rq eq e3 iz a4 a3 k1 bV rp ep le b2 a2 b1 a1 hy hx eb ea hl h0 hb1 hk;lia),by (clear e6 e iH b3 kpos l1 rq eq iz a4 a3 k1 bV rp ep le b2 a2 a1 hy hx eb ea hl h0 hb1 hk;lia),by (clear e6 e iH b3 kpos l1 rq eq e3 iz a4 a3 k1 bV rp ep le b2 b1 a1 hy hx eb ea hl h0 hb1 hk;lia),by (clear e6 e iH b3 kpos rq eq e3 iz a4 a3 k1 bV rp ep le a2 b1 a1 hy hx eb ea hl h0 hb1 hk;lia),by (clear e6 e iH b3 kpos rq eq e3 iz a4 a3 k1 bV rp ep b2 a2 b1 a1 hy hx eb ea hl h0 hb1 hk;lia)⟩⟩
       ·exact wpS_pure ⟨Cu,_,_,_,_,_,_,rfl,mD,by (clear e iH b3 kpos l1 rq eq e3 iz a4 a3 k1 bV rp ep le b2 a2 b1 a1 hy hx eb ea hl h0 hb1 hk;lia),by (clear e6 e iH b3 kpos l1 rq eq iz a4 a3 k1 bV rp ep le b2 a2 a1 hy hx eb ea hl h0 hb1 hk;lia),by (clear e6 e iH b3 kpos l1 rq eq e3 iz a4 a3 k1 bV rp ep le b2 b1 a1 hy hx eb ea hl h0 hb1 hk;lia),by (clear e6 e iH b3 kpos rq eq e3 iz a4 a3 k1 bV rp ep le a2 b1 a1 hy hx eb ea hl h0 hb1 hk;lia),by (clear e6 e iH b3 kpos rq eq e3 iz a4 a3 k1 bV rp ep b2 a2 b1 hy hx eb ea hl h0 hb1 hk;lia)⟩
end
end Tim
set_option Elab.async false
set_option linter.all false
set_option maxRecDepth 100000
set_option maxHeartbeats 4000000
namespace Tim
open PySem PyProof.Rows
section
variable {prog:Program} {w:World} {A:Around} {E:Value->Shared->Prop} {s:Shared} {κ:SortKind} {a₀:Array Keyed} {rk:Value->Nat} {pd:Array (Nat×Nat×Nat)}
structure SB (κ:SortKind) (a₀:Array Keyed) (pd:Array (Nat×Nat×Nat)) (st:SortSt):Prop where
 perm:(arrOf st).Perm a₀
 kind:kindOf st=κ
 failed:failedOf st=none
 pend:pendingOf st=pd
theorem SB.size {st:SortSt} (h:SB κ a₀ pd st):(arrOf st).size=a₀.size:=h.perm.size_eq
theorem SB.setArr {st:SortSt} (h:SB κ a₀ pd st) {xs:Array Keyed} (hp:xs.Perm (arrOf st)):SB κ a₀ pd (setArr st xs):=⟨hp.trans h.perm,h.kind,h.failed,h.pend⟩
theorem SB.mem {st:SortSt} (h:SB κ a₀ pd st) {p:Keyed} (hp:p∈(arrOf st).toList):p∈a₀.toList:=(Array.perm_iff_toList_perm.mp h.perm).mem_iff.mp hp
theorem lN {st:SortSt} {i j:Nat} {Q:Option Bool->SortSt->Prop} (C:Gx prog w A s κ a₀ rk) (hB:SB κ a₀ pd st) (hi:i<a₀.size) (hj:j<a₀.size) (h:Q (some (decide (R rk (arrOf st) i<R rk (arrOf st) j))) st):
 wpS (model prog w) A E s (ltAt' i j) Q st:=by
 rw [ltAt'_eq]
 refine wpS_bind (wpS_get ?_)
 have hi':i<(arrOf st).size:=by rw [hB.size];exact hi
 have hj':j<(arrOf st).size:=by rw [hB.size];exact hj
 rw [jk hi',jk hj'] at h
 exact wpS_bind (bJ (getElem?_pos (arrOf st) i hi') (wpS_bind (bJ (getElem?_pos (arrOf st) j hj') (xO C hB.kind (hB.mem (by simp)) (hB.mem (by simp)) h))))
def Kb (lo:Nat) (st st':SortSt):Prop:=∀i,i<lo->(arrOf st')[i]? = (arrOf st)[i]?
theorem Kb.refl {lo:Nat} {st:SortSt}:Kb lo st st:=fun _ _=>rfl
theorem Kb.trans {lo:Nat} {a b c:SortSt} (h:Kb lo a b) (g:Kb lo b c):Kb lo a c:=fun i hi=>(g i hi).trans (h i hi)
theorem zG {xs:Array Keyed} {i j:Nat} (hj:j<=xs.size) (k:Nat):R rk (mirror xs i j ((j - i) / 2)) k=if i<=k/\k<j then R rk xs (i+j - 1 - k) else R rk xs k:=by
 have e:=getElem?_mirror_all (i:=i) hj k
 by_cases h1:i<=k/\k<j
 ·rw [if_pos h1] at e ⊢;exact gw e
 ·rw [if_neg h1] at e ⊢;exact gw e
theorem rA {st:SortSt} {lo i j:Nat} (hj:j<=(arrOf st).size) (hi:lo<=i):Kb lo st (setArr st (mirror (arrOf st) i j ((j - i) / 2))):=fun k hk=>by
 show (mirror (arrOf st) i j ((j - i) / 2))[k]? = _
 rw [getElem?_mirror_all hj,if_neg (by (clear hj;lia))]
theorem j6 {xs:Array Keyed} {i j:Nat} (hj:j<=xs.size) (heq:∀k,i<=k->k<j->R rk xs k=R rk xs (j - 1)) (k:Nat):R rk (mirror xs i j ((j - i) / 2)) k=R rk xs k:=by
 rw [zG hj]
 split
 ·rw [heq _ (by (clear hj;lia)) (by (clear hj;lia)),heq k (by (clear hj;lia)) (by (clear hj;lia))]
 ·rfl
theorem Gq {xs:Array Keyed} {src d:Nat} (hs:src<xs.size) (hd:d<=src) (k:Nat):
 R rk (bubble xs src d) k=if k=src - d then R rk xs src else if src - d<k/\k<=src then R rk xs (k - 1) else R rk xs k:=by
 have e:=getElem?_bubble hs d hd k
 by_cases h1:k=src - d
 ·rw [if_pos h1] at e ⊢;exact gw e
 ·rw [if_neg h1] at e ⊢
  by_cases h2:src - d<k/\k<=src
  ·rw [if_pos h2] at e ⊢;exact gw e
  ·rw [if_neg h2] at e ⊢;exact gw e
def Yd (rk:Value->Nat) (xs:Array Keyed) (lo hi:Nat):Prop:=∀i j,lo<=i->i<=j->j<hi->R rk xs j<=R rk xs i
theorem wpS_countRun {st:SortSt} {lo nrem:Nat} {Q:Option Nat->SortSt->Prop} (C:Gx prog w A s κ a₀ rk) (hn:lo+nrem<=a₀.size) (h1:1<=nrem) (hB:SB κ a₀ pd st)
 (h:∀m st',SB κ a₀ pd st'->Kb lo st st'->1<=m->m<=nrem->Seg rk (arrOf st') lo (lo+m)->Q (some m) st'):wpS (model prog w) A E s (countRun' lo nrem) Q st:=by
 rw [countRun'_eq]
 refine wpS_bind (wpS_mono (wpS_forRange (I:=fun x c st'=>st'=st/\c=(none,x)/\Seg rk (arrOf st) lo (lo+x))
  (Q:=fun c st'=>st'=st /\ ∃n,c=(none,n)/\1<=n/\n<=nrem/\Seg rk (arrOf st) lo (lo+n)/\(n=nrem\/R rk (arrOf st) (lo+n)<R rk (arrOf st) (lo+n - 1))) ?step ?fin ⟨rfl,rfl,fun i j a b c=>by rw [show i=j by (clear h1 hn;lia)];exact Nat.le_refl _⟩) ?post)
 case fin=>
  rintro c st' ⟨rfl,rfl,hs⟩
  rw [show max 1 nrem=nrem by (clear hn;lia)] at hs ⊢
  exact ⟨rfl,nrem,rfl,h1,Nat.le_refl _,hs,.inl rfl⟩
 case step=>
  rintro x c st' x1 xn ⟨rfl,rfl,hs⟩
  dsimp only
  refine wpS_bind (lN C hB (by (clear x1 h1;lia)) (by (clear x1 h1;lia)) ?_)
  dsimp only
  refine aQ (fun lt=> ?_) (fun lt=> ?_)
  ·exact wpS_pure ⟨rfl,x,rfl,x1,by (clear lt x1 h1 hn;lia),hs,.inr (of_decide_eq_true lt)⟩
  ·have lt:R rk (arrOf st') (lo+x - 1)<=R rk (arrOf st') (lo+x):=Nat.le_of_not_lt fun z=>lt (decide_eq_true z)
   refine wpS_pure ⟨rfl,rfl,fun i j a b c=> ?_⟩
   by_cases hj:j<lo+x
   ·exact hs i j a b hj
   ·have:j=lo+x:=by (clear b a lt xn x1 h1 hn;lia)
    subst this
    by_cases hi:i=lo+x
    ·rw [hi];exact Nat.le_refl _
    ·exact Nat.le_trans (hs i (lo+x - 1) a (by (clear hj c a lt xn x1 h1 hn;lia)) (by (clear hi hj c b a lt xn h1 hn;lia))) lt
 case post=>
  rintro c st' ⟨rfl,n,rfl,n1,nn,hs,hor⟩
  dsimp only
  have hsz:(arrOf st').size=a₀.size:=hB.size
  refine aQ (fun e=> ?_) (fun e=> ?_)
  ·exact wpS_pure (h n _ hB Kb.refl n1 nn hs)
  have e:¬n=nrem:=fun z=>e (beq_iff_eq.mpr z)
  have lt:=hor.resolve_left e
  have n2:n+1<=nrem:=by (clear lt hsz hor n1 h1 hn;lia)
  apply aQ
  case' h1=>
   intro gt
   refine wpS_bind (lN C hB (by (clear gt n2 lt e hsz hor nn n1;lia)) (by (clear gt n2 lt e hsz hor n1;lia)) ?_)
   dsimp only
   refine aQ (fun rose=> ?_) (fun rose=> ?_)
   ·exact wpS_pure (h n _ hB Kb.refl n1 nn hs)
   have rose:R rk (arrOf st') (lo+n - 1)<=R rk (arrOf st') lo:=Nat.le_of_not_lt fun z=>rose (decide_eq_true z)
   have all:∀k,lo<=k->k<lo+n->R rk (arrOf st') k=R rk (arrOf st') (lo+n - 1):=fun k k1 k2=>by
    have a1:=hs lo k (Nat.le_refl _) k1 k2
    have a2:=hs k (lo+n - 1) k1 (by (clear a1 k1 rose gt n2 lt e hsz hor nn n1 h1 hn;lia)) (by (clear a1 k2 k1 rose gt n2 lt e hsz hor nn h1 hn;lia))
    (clear k2 k1 gt n2 lt e hsz hor nn n1 h1 hn;lia)
   rw [reverseSlice'_eq]
   refine wpS_bind (wpS_modify ?_)
   have Ft:SB κ a₀ pd (setArr st' (mirror (arrOf st') lo (lo+n) ((lo+n - lo) / 2))):=hB.setArr (mirror_perm _ _ _ _)
   have k1:Kb lo st' (setArr st' (mirror (arrOf st') lo (lo+n) ((lo+n - lo) / 2))):=rA (by (clear rose gt n2 lt e hor n1 h1;lia)) (Nat.le_refl _)
   have dw:Yd rk (arrOf (setArr st' (mirror (arrOf st') lo (lo+n) ((lo+n - lo) / 2)))) lo (lo+n+1):=fun i j a b c=>by
    show R rk (mirror _ _ _ _) j<=R rk (mirror _ _ _ _) i
    rw [j6 (by (clear c b a rose gt n2 lt e hor n1 h1;lia)) all,j6 (by (clear c b a rose gt n2 lt e hor n1 h1;lia)) all]
    by_cases hj:j<lo+n
    ·rw [all i a (by (clear c a rose gt n2 lt e hsz hor nn n1 h1 hn;lia)),all j (by (clear hj c rose gt n2 lt e hsz hor nn n1 h1 hn;lia)) hj];exact Nat.le_refl _
    ·have:j=lo+n:=by (clear b a rose gt n2 lt e hsz hor nn n1 h1 hn;lia)
     subst this
     by_cases hi:i=lo+n
     ·rw [hi];exact Nat.le_refl _
     ·rw [all i a (by (clear hj c a rose gt n2 lt e hsz hor nn n1 h1 hn;lia))];(clear hi hj c b a rose gt n2 lt hsz nn n1 h1 hn;lia)
   generalize setArr st' (mirror (arrOf st') lo (lo+n) ((lo+n - lo) / 2))=st1 at Ft k1 dw ⊢
  case' h2=>
   intro gt
   have Ft:=hB
   have k1:Kb lo st' st':=Kb.refl
   have dw:Yd rk (arrOf st') lo (lo+n+1):=fun i j a b c=>by
    have e1:n=1:=by (clear c b a n2 lt e hsz hor nn h1 hn;lia)
    subst e1
    by_cases hi:i=j
    ·rw [hi];exact Nat.le_refl _
    ·have:i=lo+1 - 1:=by (clear gt n2 lt e hor nn n1 hsz h1 hn;lia)
     have:j=lo+1:=by (clear this gt n2 lt e hor nn n1 hsz h1 hn;lia)
     subst_vars
     (clear hi b c a gt n2 lt nn n1 hsz h1 hn;lia)
   revert Ft k1 dw
   generalize hst:st'=st1
   intro Ft k1 dw
  all_goals
   refine wpS_bind (wpS_lift (wpAny_rule ⟨rfl, ?_⟩))
   refine wpS_bind (wpS_mono (wpS_forRange (I:=fun x c st2=>∃neq,c=(none,x,neq)/\SB κ a₀ pd st2/\Kb lo st1 st2/\Yd rk (arrOf st2) lo (lo+x)/\neq+1<=x/\(∀i,lo+x - (neq+1)<=i->i<lo+x->R rk (arrOf st2) i=R rk (arrOf st2) (lo+x - 1)))
    (Q:=fun c st2=>∃x neq,c=(none,x,neq)/\n+1<=x/\x<=nrem/\SB κ a₀ pd st2/\Kb lo st1 st2/\Yd rk (arrOf st2) lo (lo+x)/\neq+1<=x/\(∀i,lo+x - (neq+1)<=i->i<lo+x->R rk (arrOf st2) i=R rk (arrOf st2) (lo+x - 1))) ?_ ?_ ⟨0,rfl,Ft,Kb.refl,dw,by (clear gt n2 lt e hsz hor nn n1 h1 hn;lia),fun i a b=>by congr 1;(clear gt n2 lt e hsz hor nn n1 h1 hn;lia)⟩) ?_)
   ·rintro x c st2 x1 xn ⟨neq,rfl,hB2,k2,d2,q2,e2⟩
    dsimp only
    have nY:(arrOf st2).size=a₀.size:=hB2.size
    refine wpS_bind (lN C hB2 (by (clear nY q2 x1 gt n2 lt e hsz hor nn n1 h1;lia)) (by (clear nY q2 x1 gt n2 lt e hsz hor nn n1 h1;lia)) ?_)
    dsimp only
    refine aQ (fun lt=> ?_) (fun lt=> ?_)
    ·have lt:R rk (arrOf st2) (lo+x)<R rk (arrOf st2) (lo+x - 1):=of_decide_eq_true lt
     have step1:∀xs:Array Keyed,(∀k,R rk xs k=R rk (arrOf st2) k)->Yd rk xs lo (lo+(x+1)):=by
      intro xs hk i j a b c
      rw [hk,hk]
      by_cases hj:j<lo+x
      ·exact d2 i j a b hj
      ·have:j=lo+x:=by (clear b a lt nY q2 xn x1 gt n2 e hsz hor nn n1 h1 hn;lia)
       subst this
       by_cases hi:i=lo+x
       ·rw [hi];exact Nat.le_refl _
       ·exact Nat.le_trans (Nat.le_of_lt lt) (d2 i (lo+x - 1) a (by (clear hj c a lt nY q2 xn x1 gt n2 e hsz hor nn n1 h1 hn;lia)) (by (clear hi hj c b a lt nY q2 xn gt n2 e hsz hor nn n1 h1 hn;lia)))
     refine aQ (fun _=> ?_) (fun _=> ?_)
     ·rw [reverseSlice'_eq]
      refine wpS_bind (wpS_modify (wpS_pure ⟨0,rfl,hB2.setArr (mirror_perm _ _ _ _),k2.trans (rA (by (clear lt q2 x1 gt n2 e hsz hor nn n1 h1;lia)) (by (clear lt nY xn x1 gt n2 e hsz hor nn n1 h1 hn;lia))),step1 _ (j6 (by (clear lt q2 x1 gt n2 e hsz hor nn n1 h1;lia)) e2),by (clear lt nY q2 xn x1 gt n2 e hsz hor nn n1 h1 hn;lia),fun i a b=>by congr 1;(clear lt nY q2 xn x1 gt n2 e hsz hor nn n1 h1 hn;lia)⟩))
     ·exact wpS_pure ⟨0,rfl,hB2,k2,step1 _ (fun _=>rfl),by (clear lt nY q2 xn x1 gt n2 e hsz hor nn n1 h1 hn;lia),fun i a b=>by congr 1;(clear lt nY q2 xn x1 gt n2 e hsz hor nn n1 h1 hn;lia)⟩
    ·have ge:R rk (arrOf st2) (lo+x - 1)<=R rk (arrOf st2) (lo+x):=Nat.le_of_not_lt fun z=>lt (decide_eq_true z)
     refine wpS_bind (lN C hB2 (by (clear ge lt nY q2 x1 gt n2 e hsz hor nn n1 h1;lia)) (by (clear ge lt nY q2 x1 gt n2 e hsz hor nn n1 h1;lia)) ?_)
     dsimp only
     refine aQ (fun lg=> ?_) (fun lg=> ?_)
     ·exact wpS_pure ⟨x,neq,rfl,x1,by (clear lg ge lt nY q2 x1 gt n2 e hsz hor nn n1 h1 hn;lia),hB2,k2,d2,q2,e2⟩
     ·have le:R rk (arrOf st2) (lo+x)<=R rk (arrOf st2) (lo+x - 1):=Nat.le_of_not_lt fun z=>lg (decide_eq_true z)
      have Tr:R rk (arrOf st2) (lo+x)=R rk (arrOf st2) (lo+x - 1):=by (clear lg lt nY q2 xn x1 gt n2 e hsz hor nn n1 h1 hn;lia)
      refine wpS_pure ⟨neq+1,rfl,hB2,k2,fun i j a b c=> ?_,by (clear Tr le lg ge lt nY xn x1 gt n2 e hsz hor nn n1 h1 hn;lia),fun i a b=> ?_⟩
      ·by_cases hj:j<lo+x
       ·exact d2 i j a b hj
       ·have:j=lo+x:=by (clear b a Tr le lg ge lt nY q2 xn x1 gt n2 e hsz hor nn n1 h1 hn;lia)
        subst this
        by_cases hi:i=lo+x
        ·rw [hi];exact Nat.le_refl _
        ·rw [Tr];exact d2 i (lo+x - 1) a (by (clear hj c a Tr le lg ge lt nY q2 xn x1 gt n2 e hsz hor nn n1 h1 hn;lia)) (by (clear hi hj c b a Tr le lg ge lt nY q2 xn gt n2 e hsz hor nn n1 h1 hn;lia))
      ·rw [show lo+(x+1) - 1=lo+x by (clear b a Tr le lg ge lt nY q2 xn x1 gt n2 e hsz hor nn n1 h1 hn;lia)]
       by_cases hi:i=lo+x
       ·rw [hi]
       ·rw [Tr];exact e2 i (by (clear hi b Tr le lg ge lt nY q2 xn x1 gt n2 e hsz hor nn n1 h1 hn;lia)) (by (clear a Tr le lg ge lt nY q2 xn x1 gt n2 e hsz hor nn n1 h1 hn;lia))
   ·rintro c st2 ⟨neq,rfl,hB2,k2,d2,q2,e2⟩
    rw [show max (n+1) nrem=nrem by (clear q2 gt n2 lt hsz hor n1 h1 hn;lia)] at d2 q2 e2 ⊢
    exact ⟨nrem,neq,rfl,n2,Nat.le_refl _,hB2,k2,d2,q2,e2⟩
   ·rintro c st2 ⟨x,neq,rfl,x1,xn,hB2,k2,d2,q2,e2⟩
    dsimp only
    have nY:(arrOf st2).size=a₀.size:=hB2.size
    apply aQ
    case' h1=>
     intro _
     rw [reverseSlice'_eq]
     refine wpS_bind (wpS_modify ?_)
     have hB3:SB κ a₀ pd (setArr st2 (mirror (arrOf st2) (lo+x - (neq+1)) (lo+x) ((lo+x - (lo+x - (neq+1))) / 2))):=hB2.setArr (mirror_perm _ _ _ _)
     have k3:=k2.trans (rA (st:=st2) (lo:=lo) (i:=lo+x - (neq+1)) (j:=lo+x) (by (clear q2 x1 gt n2 lt e hsz hor nn n1 h1;lia)) (by (clear nY xn x1 gt n2 lt e hsz hor nn n1 h1 hn;lia)))
     have d3:Yd rk (arrOf (setArr st2 (mirror (arrOf st2) (lo+x - (neq+1)) (lo+x) ((lo+x - (lo+x - (neq+1))) / 2)))) lo (lo+x):=fun i j a b c=>by
      show R rk (mirror _ _ _ _) j<=R rk (mirror _ _ _ _) i
      rw [j6 (by (clear c b a q2 x1 gt n2 lt e hsz hor nn n1 h1;lia)) e2,j6 (by (clear c b a q2 x1 gt n2 lt e hsz hor nn n1 h1;lia)) e2]
      exact d2 i j a b c
     generalize setArr st2 (mirror (arrOf st2) (lo+x - (neq+1)) (lo+x) ((lo+x - (lo+x - (neq+1))) / 2))=st3 at hB3 k3 d3 ⊢
    case' h2=>
     intro _
     have hB3:=hB2
     have k3:=k2
     have d3:=d2
     revert hB3 k3 d3
     generalize st2=st3
     intro hB3 k3 d3
    all_goals
     have Jg:(arrOf st3).size=a₀.size:=hB3.size
     rw [reverseSlice'_eq]
     refine wpS_bind (wpS_modify ?_)
     have vB:SB κ a₀ pd (setArr st3 (mirror (arrOf st3) lo (lo+x) ((lo+x - lo) / 2))):=hB3.setArr (mirror_perm _ _ _ _)
     have k4:=k3.trans (rA (st:=st3) (lo:=lo) (i:=lo) (j:=lo+x) (by (clear nY q2 x1 gt n2 lt e hsz hor nn n1 h1;lia)) (by (clear Jg nY q2 xn x1 gt n2 lt e hsz hor nn n1 h1 hn;lia)))
     have s4:Seg rk (arrOf (setArr st3 (mirror (arrOf st3) lo (lo+x) ((lo+x - lo) / 2)))) lo (lo+x):=fun i j a b c=>by
      show R rk (mirror _ _ _ _) i<=R rk (mirror _ _ _ _) j
      rw [zG (by (clear c b a nY q2 x1 gt n2 lt e hsz hor nn n1 h1;lia)),zG (by (clear c b a nY q2 x1 gt n2 lt e hsz hor nn n1 h1;lia)),if_pos (by (clear Jg nY q2 xn x1 gt n2 lt e hsz hor nn n1 h1 hn;lia)),if_pos (by (clear Jg nY q2 xn x1 gt n2 lt e hsz hor nn n1 h1 hn;lia))]
      exact d3 _ _ (by (clear b a Jg nY q2 xn x1 gt n2 lt e hsz hor nn n1 h1 hn;lia)) (by (clear c a Jg nY q2 xn x1 gt n2 lt e hsz hor nn n1 h1 hn;lia)) (by (clear c b Jg nY q2 xn gt n2 lt e hsz hor nn n1 h1 hn;lia))
     generalize setArr st3 (mirror (arrOf st3) lo (lo+x) ((lo+x - lo) / 2))=qd at vB k4 s4 ⊢
     refine wpS_bind (wpS_mono (wpS_forRange (I:=fun y c Dq=>Dq=qd/\c=(none,y)/\Seg rk (arrOf qd) lo (lo+y))
      (Q:=fun c Dq=>Dq=qd /\ ∃y,c=(none,y)/\x<=y/\y<=nrem/\Seg rk (arrOf qd) lo (lo+y)) ?_ ?_ ⟨rfl,rfl,s4⟩) ?_)
     ·rintro y c Dq y1 yn ⟨rfl,rfl,UL⟩
      dsimp only
      refine wpS_bind (lN C vB (by (clear y1 Jg nY q2 xn x1 gt n2 lt e hsz hor nn n1 h1;lia)) (by (clear y1 Jg nY q2 xn x1 gt n2 lt e hsz hor nn n1 h1;lia)) ?_)
      dsimp only
      refine aQ (fun lt=> ?_) (fun lt=> ?_)
      ·exact wpS_pure ⟨rfl,y,rfl,y1,by (clear lt y1 Jg nY q2 xn x1 gt n2 e hsz hor nn n1 h1 hn;lia),UL⟩
      ·have lt:R rk (arrOf Dq) (lo+y - 1)<=R rk (arrOf Dq) (lo+y):=Nat.le_of_not_lt fun z=>lt (decide_eq_true z)
       refine wpS_pure ⟨rfl,rfl,fun i j a b c=> ?_⟩
       by_cases hj:j<lo+y
       ·exact UL i j a b hj
       ·have:j=lo+y:=by (clear b a lt yn y1 Jg nY q2 xn x1 gt n2 e hsz hor nn n1 h1 hn;lia)
        subst this
        by_cases hi:i=lo+y
        ·rw [hi];exact Nat.le_refl _
        ·exact Nat.le_trans (UL i (lo+y - 1) a (by (clear hj c a lt yn y1 Jg nY q2 xn x1 gt n2 e hsz hor nn n1 h1 hn;lia)) (by (clear hi hj c b a lt yn Jg nY q2 xn gt n2 e hsz hor nn n1 h1 hn;lia))) lt
     ·rintro c Dq ⟨rfl,rfl,UL⟩
      rw [show max x nrem=nrem by (clear Jg nY q2 x1 gt n2 lt e hsz hor nn n1 h1 hn;lia)] at UL ⊢
      exact ⟨rfl,nrem,rfl,xn,Nat.le_refl _,UL⟩
     ·rintro c Dq ⟨rfl,y,rfl,y1,yn,UL⟩
      exact wpS_pure (h y _ vB (by first |exact k1.trans k4|(subst hst;exact k4)) (by (clear yn Jg nY q2 xn gt n2 lt e hsz hor nn n1 h1 hn;lia)) yn UL)
theorem wpS_binarySort {st:SortSt} {lo n ok:Nat} {Q:Bool->SortSt->Prop} (C:Gx prog w A s κ a₀ rk) (hn:lo+n<=a₀.size) (hok:ok<=n) (hB:SB κ a₀ pd st) (hs:Seg rk (arrOf st) lo (lo+ok))
 (h:∀st',SB κ a₀ pd st'->Kb lo st st'->Seg rk (arrOf st') lo (lo+n)->Q true st'):wpS (model prog w) A E s (binarySort' lo n ok) Q st:=by
 rw [binarySort'_eq]
 refine wpS_bind (wpS_mono (wpS_forRange (I:=fun k c st'=>c=(none,())/\SB κ a₀ pd st'/\Kb lo st st'/\Seg rk (arrOf st') lo (lo+min k n))
  (Q:=fun c st'=>c=(none,())/\SB κ a₀ pd st'/\Kb lo st st'/\Seg rk (arrOf st') lo (lo+n)) ?step ?fin ?init) ?post)
 case post=>
  rintro c st' ⟨rfl,hB',k',hs'⟩
  exact wpS_pure (h st' hB' k' hs')
 case init=>
  refine ⟨rfl,hB,Kb.refl,fun i j a b c=> ?_⟩
  by_cases h1:ok=0
  ·rw [show i=j by (clear hok hn;lia)];exact Nat.le_refl _
  ·exact hs i j a b (by (clear b a hok hn;lia))
 case fin=>
  rintro c st' ⟨hc,hB',k',hs'⟩
  refine ⟨hc,hB',k', ?_⟩
  rwa [show min (max (max ok 1) n) n=n by (clear hc hok hn;lia)] at hs'
 case step=>
  rintro k c st' hak hkn ⟨rfl,hB',k',hs'⟩
  rw [show min k n=k by (clear hak hok hn;lia)] at hs'
  have sz:(arrOf st').size=a₀.size:=hB'.size
  refine wpS_bind (wpS_mono (wpS_forRange (I:=fun x c st''=>st''=st' /\ ∃l r,c=(none,l,r)/\l<=r/\r<=k/\r - l<=k - x /\
   (∀i,i<l->R rk (arrOf st') (lo+i)<=R rk (arrOf st') (lo+k))/\(∀i,r<=i->i<k->R rk (arrOf st') (lo+k)<R rk (arrOf st') (lo+i)))
   (Q:=fun c st''=>st''=st' /\ ∃l r,c=(none,l,r)/\l<=k /\
     (∀i,i<l->R rk (arrOf st') (lo+i)<=R rk (arrOf st') (lo+k))/\(∀i,l<=i->i<k->R rk (arrOf st') (lo+k)<R rk (arrOf st') (lo+i))) ?istep ?ifin ?iinit) ?ipost)
  case iinit=>exact ⟨rfl,0,k,rfl,by (clear sz hkn hak hok hn;lia),by (clear sz hkn hak hok hn;lia),by (clear sz hkn hak hok hn;lia),fun i hi=>by (clear sz hkn hak hok hn;lia),fun i h1 h2=>by (clear sz hkn hak hok hn;lia)⟩
  case ifin=>
   rintro c st'' ⟨rfl,l,r,rfl,hlr,hrk,hm,hlo,hhi⟩
   have:l=r:=by (clear hrk sz hkn hak hok hn;lia)
   subst this
   exact ⟨rfl,l,l,rfl,hrk,hlo,hhi⟩
  case istep=>
   rintro x c st'' _ hxk ⟨rfl,l,r,rfl,hlr,hrk,hm,hlo,hhi⟩
   dsimp only
   refine aQ (fun hge=> ?_) (fun hge=> ?_)
   ·have:l=r:=by (clear hm hrk sz hxk hkn hak hok hn;lia)
    subst this
    exact wpS_pure ⟨rfl,l,l,rfl,hrk,hlo,hhi⟩
   ·refine wpS_bind (lN C hB' (by (clear hge hm hrk hlr sz hxk hak hok;lia)) (by (clear hge hm sz hxk hak hok;lia)) ?_)
    dsimp only
    refine aQ (fun lt=> ?_) (fun lt=> ?_)
    ·have lt:=of_decide_eq_true lt
     refine wpS_pure ⟨rfl,l,(l+r) / 2,rfl,by (clear lt hge hm hrk sz hxk hkn hak hok hn;lia),by (clear lt hge hm sz hxk hkn hak hok hn;lia),by (clear lt hge hrk hlr sz hxk hkn hak hok hn;lia),hlo,fun i h1 h2=> ?_⟩
     exact Nat.lt_of_lt_of_le lt (hs' _ _ (by (clear h2 h1 lt hge hm hrk hlr sz hxk hkn hak hok hn;lia)) (by (clear h2 lt hge hm hrk hlr sz hxk hkn hak hok hn;lia)) (by (clear h1 lt hge hm hrk hlr sz hxk hkn hak hok hn;lia)))
    ·have lt:R rk (arrOf st'') (lo+(l+r) / 2)<=R rk (arrOf st'') (lo+k):=Nat.le_of_not_lt fun z=>lt (decide_eq_true z)
     refine wpS_pure ⟨rfl,(l+r) / 2+1,r,rfl,by (clear lt hm hrk hlr sz hxk hkn hak hok hn;lia),by (clear lt hge hm hlr sz hxk hkn hak hok hn;lia),by (clear lt hge hrk hlr sz hxk hkn hak hok hn;lia),fun i h1=> ?_,hhi⟩
     exact Nat.le_trans (hs' (lo+i) (lo+(l+r) / 2) (by (clear h1 lt hge hm hrk hlr sz hxk hkn hak hok hn;lia)) (by (clear lt hge hm hrk hlr sz hxk hkn hak hok hn;lia)) (by (clear h1 lt hm hlr sz hxk hkn hak hok hn;lia))) lt
  case ipost=>
   rintro c st'' ⟨rfl,l,r,rfl,hlk,hlo,hhi⟩
   show wpS _ _ _ _ (do moveDown' (lo+k) (lo+l);pure (ForInStep.yield (none,()))) _ _
   rw [moveDown'_eq]
   refine wpS_bind (wpS_modify (wpS_pure ⟨rfl,hB'.setArr (bubble_perm _ _ _),k'.trans ?_, ?_⟩))
   ·intro i hi
    show (bubble (arrOf st'') (lo+k) (lo+k - (lo+l)))[i]? = _
    rw [getElem?_bubble (by (clear hi hlk hak hok;lia)) _ (by (clear hi hlk sz hkn hak hok hn;lia)),if_neg (by (clear hlk sz hkn hak hok hn;lia)),if_neg (by (clear hlk sz hkn hak hok hn;lia))]
   rw [show min (k+1) n=k+1 by (clear hlk sz hak hok hn;lia)]
   intro i j a b c
   show R rk (bubble (arrOf st'') (lo+k) (lo+k - (lo+l))) i<=R rk (bubble (arrOf st'') (lo+k) (lo+k - (lo+l))) j
   rw [Gq (by (clear c b a hlk hak hok;lia)) (by (clear c b a hlk sz hkn hak hok hn;lia)),Gq (by (clear c b a hlk hak hok;lia)) (by (clear c b a hlk sz hkn hak hok hn;lia)),show lo+k - (lo+k - (lo+l))=lo+l by (clear c b a sz hkn hak hok hn;lia)]
   have L1:∀i,lo<=i->i<lo+l->R rk (arrOf st'') i<=R rk (arrOf st'') (lo+k):=fun i i1 i2=>by
    have:=hlo (i - lo) (by (clear c b a hlk sz hkn hak hok hn;lia));rwa [show lo+(i - lo)=i by (clear this i2 c b a hlk sz hkn hak hok hn;lia)] at this
   have L2:∀i,lo+l<=i->i<lo+k->R rk (arrOf st'') (lo+k)<R rk (arrOf st'') i:=fun i i1 i2=>by
    have:=hhi (i - lo) (by (clear i2 c b a hlk sz hkn hak hok hn;lia)) (by (clear i1 c b a hlk sz hkn hok hn;lia));rwa [show lo+(i - lo)=i by (clear this i2 c b a hlk sz hkn hak hok hn;lia)] at this
   repeat' split
   all_goals first
    | (exfalso;(clear a hlk sz hkn hak hok hn;lia))
    | exact Nat.le_refl _
    | exact L1 _ (by (clear c b hlk sz hkn hak hok hn;lia)) (by (clear c a hlk sz hkn hak hok hn;lia))
    | exact Nat.le_of_lt (L2 _ (by (clear c b a hlk sz hkn hak hok hn;lia)) (by (clear c b a hlk sz hkn hak hok hn;lia)))
    | exact hs' _ _ (by (clear c b hlk sz hkn hak hok hn;lia)) (by (clear c a hlk sz hkn hak hok hn;lia)) (by (clear b a sz hkn hak hok hn;lia))
end
end Tim
set_option Elab.async false
set_option linter.all false
set_option maxRecDepth 100000
set_option maxHeartbeats 4000000
namespace Tim
open PySem PyProof.Rows
theorem E_ (i:Nat):mergeAt' i=(do
 let s ←get
 let (some (sa,na,power),some (sb,nb,_)):=((pendingOf s)[i]?,(pendingOf s)[i+1]?)|unsupported "internal:list.sort.pending"
 set (SortSt.mk' (kindOf s) (arrOf s) (((pendingOf s).setIfInBounds i (sa,na+nb,power)).eraseIdxIfInBounds (i+1)) (gallopOf s) (failedOf s))
 let some k ←mU false (←elem' (arrOf s) sb) (arrOf s) sa na 0|return false
 let (sa,na):=(sa+k,na - k)
 if na==0 then return true
 let some nb ←mU true (←elem' (arrOf s) (sa+na - 1)) (arrOf s) sb nb (nb - 1)|return false
 if nb==0 then return true
 let x:=(arrOf s).extract sa sb
 let y:=(arrOf s).extract sb (sb+nb)
 let merged ←if na<=nb then yI x y else yJ x y
 modify fun s=>setArr s (merged.toList.zipIdx.foldl (fun a (p,j)=>a.setIfInBounds (sa+j) p) (arrOf s))
 return (failedOf (←get)).isNone):=rfl
section
variable {prog:Program} {w:World} {A:Around} {E:Value->Shared->Prop} {s:Shared} {κ:SortKind} {a₀:Array Keyed} {rk:Value->Nat} {pd:Array (Nat×Nat×Nat)}
theorem Jo (b:Nat) (m:List Keyed):∀(n:Nat) (xs:Array Keyed) (j:Nat),b+n+m.length<=xs.size->((m.zipIdx n).foldl (fun a x=>a.setIfInBounds (b+x.2) x.1) xs)[j]? = if b+n<=j/\j<b+n+m.length then m[j - (b+n)]? else xs[j]? :=by
 induction m with
 | nil=>intro n xs j h;rw [if_neg (by simp)];rfl
 | cons p m ih=>
   intro n xs j h
   rw [List.length_cons] at h
   rw [List.zipIdx_cons,List.foldl_cons,ih (n+1) _ j (by rw [Array.size_setIfInBounds];lia)]
   by_cases e:j=b+n
   ·subst e
    rw [if_neg (by (clear h;lia)),if_pos (by rw [List.length_cons];(clear h;lia)),Nat.sub_self]
    rw [Array.getElem?_setIfInBounds_self_of_lt (by lia)]
    rfl
   ·by_cases c:b+(n+1)<=j/\j<b+(n+1)+m.length
    ·rw [if_pos c,if_pos (by rw [List.length_cons];(clear e h;lia)),show j - (b+n)=(j - (b+(n+1)))+1 by (clear e h;lia),List.getElem?_cons_succ]
    ·rw [if_neg c,if_neg (by rw [List.length_cons];(clear h;lia)),Array.getElem?_setIfInBounds_ne (Ne.symm e)]
theorem Ob {b n:Nat} {m:List Keyed} {xs:Array Keyed} (hl:m.length=n) (hb:b+n<=xs.size) (hp:m.Perm ((xs.toList.drop b).take n)):((m.zipIdx).foldl (fun a x=>a.setIfInBounds (b+x.2) x.1) xs).Perm xs:=by
 have e:((m.zipIdx).foldl (fun a x=>a.setIfInBounds (b+x.2) x.1) xs).toList=xs.toList.take b++(m++xs.toList.drop (b+n)):=by
  have hx:xs.toList.length=xs.size:=Array.length_toList
  apply List.ext_getElem?
  intro j
  rw [Array.getElem?_toList,Jo b m 0 xs j (by (clear hx;lia))]
  by_cases j1:j<b
  ·rw [if_neg (by (clear hx hb hl;lia)),List.getElem?_append_left (by rw [List.length_take,hx];(clear hx hl;lia)),List.getElem?_take_of_lt j1,Array.getElem?_toList]
  ·rw [List.getElem?_append_right (by rw [List.length_take,hx];(clear hx hb hl;lia)),List.length_take,hx,Nat.min_eq_left (by (clear j1 hx hl;lia))]
   by_cases j2:j<b+n
   ·rw [if_pos (by (clear hx hb;lia)),List.getElem?_append_left (by (clear hx hb;lia))];rfl
   ·rw [if_neg (by (clear j1 hx hb;lia)),List.getElem?_append_right (by (clear j1 hx hb;lia)),List.getElem?_drop,Array.getElem?_toList]
    congr 1
    (clear j1 hx hb;lia)
 refine Array.perm_iff_toList_perm.mpr ?_
 rw [e]
 have sp:xs.toList=xs.toList.take b++((xs.toList.drop b).take n++xs.toList.drop (b+n)):=by
  rw [←za,List.take_append_drop]
 refine List.Perm.trans ?_ (List.Perm.of_eq sp.symm)
 exact List.Perm.append_left _ (List.Perm.append_right _ hp)
theorem vY {xs:Array Keyed} {lo hi i:Nat} (h:lo+i<hi) (hh:hi<=xs.size):R rk (xs.extract lo hi) i=R rk xs (lo+i):=by
 apply gw
 rw [Array.getElem?_extract]
 rw [if_pos (by lia)]
theorem Ru {σ:Type} {M:Model} {A:Around} {E:Value->Shared->Prop} {s:Shared} {x:σ} {Q:PUnit->σ->Prop} {st:σ} (h:Q ⟨⟩ x):wpS M A E s (set x:StateT σ Sem PUnit) Q st:=by
 unfold wpS;rw [StateT.run_set];exact wpAny_pure ⟨rfl,h⟩
theorem Dv {st:SortSt} {i sa na pw sb nb pw2:Nat} {Q:Bool->SortSt->Prop} (C:Gx prog w A s κ a₀ rk) (hB:SB κ a₀ pd st) (h1:pd[i]? = some (sa,na,pw)) (h2:pd[i+1]? = some (sb,nb,pw2)) (hsb:sb=sa+na) (na1:1<=na) (dj:1<=nb) (hz:sb+nb<=a₀.size)
 (s1:Seg rk (arrOf st) sa (sa+na)) (s2:Seg rk (arrOf st) sb (sb+nb))
 (h:∀st',SB κ a₀ ((pd.setIfInBounds i (sa,na+nb,pw)).eraseIdxIfInBounds (i+1)) st'->(∀j,j<sa\/sb+nb<=j->(arrOf st')[j]? = (arrOf st)[j]?)->Seg rk (arrOf st') sa (sb+nb)->Q true st'):
 wpS (model prog w) A E s (mergeAt' i) Q st:=by
 rw [E_]
 refine wpS_bind (wpS_get ?_)
 rw [hB.pend,h1,h2]
 dsimp only
 have sz:(arrOf st).size=a₀.size:=hB.size
 have uI:∀p∈(arrOf st).toList,p∈a₀.toList:=fun p hp=>hB.mem hp
 have Uy:∀i,i<a₀.size -> ∃p,(arrOf st)[i]? = some p/\p∈a₀.toList/\R rk (arrOf st) i=rk p.1:=fun i hi=>⟨(arrOf st)[i]'(by (clear hz dj na1 hsb h2 h1;lia)),getElem?_pos (arrOf st) i (by (clear hz dj na1 hsb h2 h1;lia)),hB.mem (by simp),jk (by (clear hz dj na1 hsb h2 h1;lia))⟩
 refine wpS_bind (Ru ?_)
 have Ft:SB κ a₀ ((pd.setIfInBounds i (sa,na+nb,pw)).eraseIdxIfInBounds (i+1)) (SortSt.mk' (kindOf st) (arrOf st) ((pd.setIfInBounds i (sa,na+nb,pw)).eraseIdxIfInBounds (i+1)) (gallopOf st) (failedOf st)):=⟨hB.perm,hB.kind,hB.failed,rfl⟩
 have cP:arrOf (SortSt.mk' (kindOf st) (arrOf st) ((pd.setIfInBounds i (sa,na+nb,pw)).eraseIdxIfInBounds (i+1)) (gallopOf st) (failedOf st))=arrOf st:=rfl
 generalize (pd.setIfInBounds i (sa,na+nb,pw)).eraseIdxIfInBounds (i+1)=pd1 at Ft cP h ⊢
 generalize SortSt.mk' (kindOf st) (arrOf st) pd1 (gallopOf st) (failedOf st)=st1 at Ft cP ⊢
 obtain ⟨p,ep,mp,rp⟩:=Uy sb (by (clear cP sz na1 hsb h2 h1;lia))
 refine wpS_bind (bJ ep (wpS_bind (jt C Ft.kind mp uI (by (clear rp ep cP dj na1 h2 h1;lia)) (by (clear rp ep cP sz hz dj hsb h2 h1;lia)) s1 fun k k1 k2 k3=> ?_)))
 dsimp only
 refine aQ (fun e=> ?_) (fun e=> ?_)
 ·have e:na - k=0:=eq_of_beq e
  refine wpS_pure (h st1 Ft (fun j _=>by rw [cP]) fun i j a b c=> ?_)
  rw [cP]
  by_cases hj:j<sb
  ·exact s1 i j a b (by (clear c b a e k1 rp ep cP sz hz dj na1 h2 h1;lia))
  ·by_cases hi:i<sb
   ·have e1:=Ug (k2 (i - sa) (by (clear hj c b a k1 rp ep cP sz hz dj h2 h1;lia)))
    rw [show sa+(i - sa)=i by (clear e1 hi hj c b e k1 rp ep cP sz hz dj na1 hsb h2 h1;lia)] at e1
    have e2:=s2 sb j (Nat.le_refl _) (by (clear e1 hi c b a e k1 rp ep cP sz hz dj na1 hsb h2 h1;lia)) c
    (clear hi hj c b a e k1 ep cP sz hz dj na1 hsb h2 h1;lia)
   ·exact s2 i j (by (clear hj c b a e k1 rp ep cP sz hz dj na1 hsb h2 h1;lia)) b c
 have ek:k<na:=by have:¬na - k=0:=fun z=>e (beq_iff_eq.mpr z);(clear e k1 rp ep cP sz hz dj na1 hsb h2 h1;lia)
 obtain ⟨q,eq,mq,rq⟩:=Uy (sa+k+(na - k) - 1) (by (clear ek e rp ep cP sz dj h2 h1;lia))
 refine wpS_bind (bJ eq (wpS_bind (jt C Ft.kind mq uI (by (clear rq eq ek e k1 rp ep cP dj na1 hsb h2 h1;lia)) (by (clear rq eq ek e k1 rp ep cP sz hz na1 hsb h2 h1;lia)) s2 fun n2 l1 l2 l3=> ?_)))
 dsimp only
 have aU:sa+k+(na - k) - 1=sb - 1:=by (clear l1 rq eq ek e rp ep cP sz hz dj na1 h2 h1;lia)
 rw [aU] at rq
 refine aQ (fun e=> ?_) (fun e=> ?_)
 ·have e:n2=0:=eq_of_beq e
  refine wpS_pure (h st1 Ft (fun j _=>by rw [cP]) fun i j a b c=> ?_)
  rw [cP]
  by_cases hj:j<sb
  ·exact s1 i j a b (by (clear c b a e aU l1 rq eq ek k1 rp ep cP sz hz dj na1 h2 h1;lia))
  ·by_cases hi:i<sb
   ·have e1:=Gv (l3 (j - sb) (by (clear hi hj c b a aU l1 rq eq ek k1 rp ep cP sz hz dj na1 hsb h2 h1;lia)) (by (clear hi hj b a e aU l1 rq eq ek k1 rp ep cP sz hz na1 hsb h2 h1;lia)))
    rw [show sb+(j - sb)=j by (clear e1 hi c b a e aU l1 rq eq ek k1 rp ep cP sz hz dj na1 hsb h2 h1;lia)] at e1
    have e2:=s1 i (sb - 1) a (by (clear e1 hj c b a e aU l1 rq eq ek k1 rp ep cP sz hz dj na1 hsb h2 h1;lia)) (by (clear e1 hi hj c b a e aU l1 rq eq ek k1 rp ep cP sz hz dj h2 h1;lia))
    (clear hi hj c b a e aU l1 eq ek k1 rp ep cP sz hz dj na1 hsb h2 h1;lia)
   ·exact s2 i j (by (clear hj c b a e aU l1 rq eq ek k1 rp ep cP sz hz dj na1 hsb h2 h1;lia)) b c
 have e2:¬n2=0:=fun z=>e (beq_iff_eq.mpr z)
 have fK:((arrOf st).extract (sa+k) sb).size=sb - (sa+k):=by rw [Array.size_extract,Nat.min_eq_left (by (clear e2 e aU l1 rq eq ek k1 rp ep cP dj na1 hsb h2 h1;lia))]
 have fM:((arrOf st).extract sb (sb+n2)).size=n2:=by rw [Array.size_extract,Nat.min_eq_left (by (clear fK e2 e aU rq eq ek k1 rp ep cP dj na1 hsb h2 h1;lia))];(clear fK e2 e aU l1 rq eq ek k1 rp ep cP sz hz dj na1 hsb h2 h1;lia)
 have xin:∀p∈((arrOf st).extract (sa+k) sb).toList,p∈a₀.toList:=fun p hp=>uI p (by rw [cG] at hp;exact List.mem_of_mem_drop (List.mem_of_mem_take hp))
 have yin:∀p∈((arrOf st).extract sb (sb+n2)).toList,p∈a₀.toList:=fun p hp=>uI p (by rw [cG] at hp;exact List.mem_of_mem_drop (List.mem_of_mem_take hp))
 have sx:Seg rk ((arrOf st).extract (sa+k) sb) 0 ((arrOf st).extract (sa+k) sb).size:=fun i j a b c=>by
  rw [fK] at c
  rw [vY (by (clear a fM fK e2 e aU l1 rq eq ek k1 rp ep cP sz hz dj na1 hsb h2 h1;lia)) (by (clear c b a fM fK e2 e aU l1 rq eq ek k1 rp ep cP dj na1 hsb h2 h1;lia)),vY (by (clear b a fM fK e2 e aU l1 rq eq ek k1 rp ep cP sz hz dj na1 hsb h2 h1;lia)) (by (clear c b a fM fK e2 e aU l1 rq eq ek k1 rp ep cP dj na1 hsb h2 h1;lia))]
  exact s1 _ _ (by (clear c b a fM fK e2 e aU l1 rq eq ek k1 rp ep cP sz hz dj na1 hsb h2 h1;lia)) (by (clear c a fM fK e2 e aU l1 rq eq ek k1 rp ep cP sz hz dj na1 hsb h2 h1;lia)) (by (clear b a fM fK e2 e aU l1 rq eq ek k1 rp ep cP sz hz dj na1 h2 h1;lia))
 have sy:Seg rk ((arrOf st).extract sb (sb+n2)) 0 ((arrOf st).extract sb (sb+n2)).size:=fun i j a b c=>by
  rw [fM] at c
  rw [vY (by (clear a fM fK e2 e aU l1 rq eq ek k1 rp ep cP sz hz dj na1 hsb h2 h1;lia)) (by (clear c b a fM fK e2 e aU rq eq ek k1 rp ep cP dj na1 hsb h2 h1;lia)),vY (by (clear b a fM fK e2 e aU l1 rq eq ek k1 rp ep cP sz hz dj na1 hsb h2 h1;lia)) (by (clear c b a fM fK e2 e aU rq eq ek k1 rp ep cP dj na1 hsb h2 h1;lia))]
  exact s2 _ _ (by (clear c b a fM fK e2 e aU l1 rq eq ek k1 rp ep cP sz hz dj na1 hsb h2 h1;lia)) (by (clear c a fM fK e2 e aU l1 rq eq ek k1 rp ep cP sz hz dj na1 hsb h2 h1;lia)) (by (clear b a fM fK e2 e aU rq eq ek k1 rp ep cP sz hz dj na1 hsb h2 h1;lia))
 have h0:R rk ((arrOf st).extract sb (sb+n2)) 0<=R rk ((arrOf st).extract (sa+k) sb) 0:=by
  rw [vY (by (clear fM fK e aU l1 rq eq ek k1 rp ep cP sz hz dj na1 hsb h2 h1;lia)) (by (clear fM fK e2 e aU rq eq ek k1 rp ep cP dj na1 hsb h2 h1;lia)),vY (by (clear fM fK e2 e aU l1 rq eq k1 rp ep cP sz hz dj na1 h2 h1;lia)) (by (clear fM fK e2 e aU l1 rq eq ek k1 rp ep cP dj na1 hsb h2 h1;lia)),Nat.add_zero,Nat.add_zero,rp]
  have:=Rj (k3 k (Nat.le_refl _) ek)
  (clear fM fK e2 e aU l1 rq eq ek k1 rp ep cP sz hz dj na1 hsb h2 h1;lia)
 have hl:R rk ((arrOf st).extract sb (sb+n2)) (((arrOf st).extract sb (sb+n2)).size - 1)<=R rk ((arrOf st).extract (sa+k) sb) (((arrOf st).extract (sa+k) sb).size - 1):=by
  rw [fK,fM,vY (by (clear h0 fM fK e aU l1 rq eq ek k1 rp ep cP sz hz dj na1 hsb h2 h1;lia)) (by (clear h0 fM fK e2 e aU rq eq ek k1 rp ep cP dj na1 hsb h2 h1;lia)),vY (by (clear h0 fM fK e2 e aU l1 rq eq k1 rp ep cP sz hz dj na1 h2 h1;lia)) (by (clear h0 fM fK e2 e aU l1 rq eq ek k1 rp ep cP dj na1 hsb h2 h1;lia)),show sa+k+(sb - (sa+k) - 1)=sb - 1 by (clear h0 fM fK e2 e aU l1 rq eq k1 rp ep cP sz hz dj na1 h2 h1;lia),rq]
  have:=XF (l2 (n2 - 1) (by (clear h0 fM fK e aU l1 rq eq ek k1 rp ep cP sz hz dj na1 hsb h2 h1;lia)))
  (clear h0 fM fK e2 e aU l1 rq eq ek k1 rp ep cP sz hz dj na1 hsb h2 h1;lia)
 have fin:∀r st2,Dr st1 st2->Mg rk ((arrOf st).extract (sa+k) sb) ((arrOf st).extract sb (sb+n2)) r->wpS (model prog w) A E s (do
  modify fun s=>setArr s (List.foldl (fun a x=>a.setIfInBounds (sa+k+x.snd) x.fst) (arrOf s) r.toList.zipIdx)
  let __do_lift ←get
  pure (failedOf __do_lift).isNone) Q st2:=by
  intro r st2 k2' mg
  have nG:arrOf st2=arrOf st:=k2'.a.trans cP
  refine wpS_bind (wpS_modify ?_)
  refine wpS_bind (wpS_get ?_)
  have hf:failedOf (setArr st2 (List.foldl (fun a x=>a.setIfInBounds (sa+k+x.snd) x.fst) (arrOf st2) r.toList.zipIdx))=none:=k2'.f.trans Ft.failed
  rw [hf]
  have rl:r.toList.length=sb - (sa+k)+n2:=by
   rw [mg.perm.length_eq,List.length_append,Array.length_toList,Array.length_toList,fK,fM]
  have rp':r.toList.Perm (((arrOf st).toList.drop (sa+k)).take (sb - (sa+k)+n2)):=by
   refine mg.perm.trans (List.Perm.of_eq ?_)
   rw [cG,cG,List.take_add,List.drop_drop,show sb+n2 - sb=n2 by (clear rl hf nG hl h0 fM fK e2 e aU l1 rq eq ek k1 rp ep cP sz hz dj na1 hsb h2 h1;lia),show sa+k+(sb - (sa+k))=sb by (clear rl hf nG hl h0 fM fK e2 e aU l1 rq eq ek rp ep cP sz hz dj na1 h2 h1;lia)]
  have get:∀j,(arrOf (setArr st2 (List.foldl (fun a x=>a.setIfInBounds (sa+k+x.snd) x.fst) (arrOf st2) r.toList.zipIdx)))[j]? = if sa+k<=j/\j<sb+n2 then r.toList[j - (sa+k)]? else (arrOf st)[j]? :=fun j=>by
   show (List.foldl (fun a x=>a.setIfInBounds (sa+k+x.snd) x.fst) (arrOf st2) r.toList.zipIdx)[j]? = _
   rw [nG,Jo (sa+k) r.toList 0 (arrOf st) j (by (clear hf nG hl h0 fM fK e2 e aU rq eq ek rp ep cP dj na1 h2 h1;lia)),rl]
   by_cases c:sa+k<=j/\j<sb+n2
   ·rw [if_pos c,if_pos (by (clear rl hf nG hl h0 fM fK e2 e aU l1 rq eq ek k1 rp ep cP sz hz dj na1 hsb h2 h1;lia))];rfl
   ·rw [if_neg c,if_neg (by (clear rl hf nG hl h0 fM fK e2 e aU l1 rq eq ek rp ep cP sz hz dj na1 h2 h1;lia))]
  have hB2:SB κ a₀ pd1 (setArr st2 (List.foldl (fun a x=>a.setIfInBounds (sa+k+x.snd) x.fst) (arrOf st2) r.toList.zipIdx)):=by
   refine ⟨?_,k2'.k.trans Ft.kind,hf,k2'.p.trans Ft.pend⟩
   show (List.foldl (fun a x=>a.setIfInBounds (sa+k+x.snd) x.fst) (arrOf st2) r.toList.zipIdx).Perm a₀
   rw [nG]
   exact (Ob rl (by (clear rl hf nG hl h0 fM fK e2 e aU rq eq ek rp ep cP dj na1 h2 h1;lia)) rp').trans hB.perm
  generalize setArr st2 (List.foldl (fun a x=>a.setIfInBounds (sa+k+x.snd) x.fst) (arrOf st2) r.toList.zipIdx)=st3 at get hB2 ⊢
  have out:∀j,¬(sa+k<=j/\j<sb+n2)->R rk (arrOf st3) j=R rk (arrOf st) j:=fun j hj=>gw (by rw [get j,if_neg hj])
  have mid:∀j,sa+k<=j->j<sb+n2 -> ∃j0,sa+k<=j0/\j0<sb+n2/\R rk (arrOf st3) j=R rk (arrOf st) j0:=fun j j1 j2=>by
   have e:=get j
   rw [if_pos ⟨j1,j2⟩,List.getElem?_eq_getElem (by (clear e j1 hf nG hl h0 fM fK e2 aU l1 rq eq k1 rp ep cP sz hz dj na1 h2 h1;lia))] at e
   have hm:r.toList[j - (sa+k)]'(by (clear e j1 hf nG hl h0 fM fK e2 aU l1 rq eq k1 rp ep cP sz hz dj na1 h2 h1;lia))∈((arrOf st).toList.drop (sa+k)).take (sb - (sa+k)+n2):=rp'.mem_iff.mp (List.getElem_mem _)
   obtain ⟨j0,a1,a2,a3⟩:=jO (rk:=rk) hm
   exact ⟨sa+k+j0,by (clear a3 a2 a1 e j1 hf nG hl h0 fM fK e2 aU l1 rq eq k1 rp ep cP sz hz dj na1 h2 h1;lia),by (clear a3 a2 e j1 hf nG hl h0 fM fK e2 aU l1 rq eq k1 rp ep cP sz hz dj na1 h2 h1;lia),by rw [zF e,a3]⟩
  refine wpS_pure (h st3 hB2 (fun j hj=>by rw [get j,if_neg (by (clear rl hf nG hl h0 fM fK e2 e aU rq eq ek k1 rp ep cP sz hz dj na1 hsb h2 h1;lia))]) fun i j a b c=> ?_)
  by_cases i1:i<sa+k
  ·have ei:=Ug (k2 (i - sa) (by (clear c b rl hf nG hl h0 fM fK e2 e aU l1 rq eq ek k1 rp ep cP sz hz dj na1 hsb h2 h1;lia)))
   rw [show sa+(i - sa)=i by (clear ei i1 c b rl hf nG hl h0 fM fK e2 e aU l1 rq eq ek k1 rp ep cP sz hz dj na1 hsb h2 h1;lia),←rp] at ei
   rw [out i (by (clear ei c b a rl hf nG hl h0 fM fK e2 e aU l1 rq eq ek k1 rp ep cP sz hz dj na1 hsb h2 h1;lia))]
   have key:∀j0,sa+k<=j0->j0<sb+nb->R rk (arrOf st) i<=R rk (arrOf st) j0:=fun j0 b1 b2=>by
    by_cases c:j0<sb
    ·exact s1 i j0 a (by (clear c b2 ei b a rl hf nG hl h0 fM fK e2 e aU l1 rq eq ek k1 rp ep cP sz hz dj na1 hsb h2 h1;lia)) (by (clear b2 b1 ei i1 b a rl hf nG hl h0 fM fK e2 e aU l1 rq eq ek k1 rp ep cP sz hz dj na1 h2 h1;lia))
    ·have:=s2 sb j0 (Nat.le_refl _) (by (clear b2 b1 ei i1 b a rl hf nG hl h0 fM fK e2 e aU l1 rq eq ek k1 rp ep cP sz hz dj na1 hsb h2 h1;lia)) b2;(clear c b2 b1 i1 b a rl hf nG hl h0 fM fK e2 e aU l1 rq eq ek k1 rp ep cP sz hz dj na1 hsb h2 h1;lia)
   by_cases j1:sa+k<=j/\j<sb+n2
   ·obtain ⟨j0,b1,b2,b3⟩:=mid j j1.1 j1.2
    rw [b3]
    exact key j0 b1 (by (clear b3 b1 j1 ei i1 c b a rl hf nG hl h0 fM fK e2 e aU rq eq ek k1 rp ep cP sz hz dj na1 hsb h2 h1;lia))
   ·rw [out j j1]
    by_cases j2:j<sa+k
    ·exact s1 i j a b (by (clear j1 ei i1 c b a rl hf nG hl h0 fM fK e2 e aU l1 rq eq ek rp ep cP sz hz dj na1 hsb h2 h1;lia))
    ·exact key j (by (clear j1 ei i1 c b a rl hf nG hl h0 fM fK e2 e aU l1 rq eq ek k1 rp ep cP sz hz dj na1 hsb h2 h1;lia)) c
  ·by_cases i2:i<sb+n2
   ·by_cases j2:j<sb+n2
    ·have e1:=get i
     have e2:=get j
     rw [if_pos ⟨by (clear e2 e1 j2 i2 c b a rl hf nG hl h0 fM fK e aU l1 rq eq ek k1 rp ep cP sz hz dj na1 hsb h2 h1;lia),i2⟩,List.getElem?_eq_getElem (by (clear e2 e1 j2 i1 c b a hf nG hl h0 fM fK e aU l1 rq eq ek k1 rp ep cP sz hz dj na1 hsb h2 h1;lia))] at e1
     rw [if_pos ⟨by (clear e2 e1 j2 i2 c a rl hf nG hl h0 fM fK e aU l1 rq eq ek k1 rp ep cP sz hz dj na1 hsb h2 h1;lia),j2⟩,List.getElem?_eq_getElem (by (clear e2 e1 i2 i1 c b a hf nG hl h0 fM fK e aU l1 rq eq ek k1 rp ep cP sz hz dj na1 hsb h2 h1;lia))] at e2
     rw [zF e1,zF e2]
     by_cases eij:i=j
     ·subst eij;exact Nat.le_refl _
     ·exact List.pairwise_iff_getElem.mp mg.srt _ _ _ _ (by (clear e2 e1 j2 i2 c a rl hf nG hl h0 fM fK e aU l1 rq eq ek k1 rp ep cP sz hz dj na1 hsb h2 h1;lia))
    ·obtain ⟨i0,b1,b2,b3⟩:=mid i (by (clear j2 i2 c b a rl hf nG hl h0 fM fK e2 e aU l1 rq eq ek k1 rp ep cP sz hz dj na1 hsb h2 h1;lia)) i2
     rw [b3,out j (by (clear b3 b2 b1 i2 i1 c b a rl hf nG hl h0 fM fK e2 e aU l1 rq eq ek k1 rp ep cP sz hz dj na1 hsb h2 h1;lia))]
     by_cases c':i0<sb
     ·have e1:=s1 i0 (sb - 1) (by (clear c' b3 b2 j2 i2 i1 c b a rl hf nG hl h0 fM fK e2 e aU l1 rq eq ek k1 rp ep cP sz hz dj na1 hsb h2 h1;lia)) (by (clear b3 b2 b1 j2 i2 i1 c b a rl hf nG hl h0 fM fK e2 e aU l1 rq eq ek k1 rp ep cP sz hz dj na1 hsb h2 h1;lia)) (by (clear c' b3 b2 b1 j2 i2 i1 c b a rl hf nG hl h0 fM fK e2 e aU l1 rq eq ek k1 rp ep cP sz hz dj h2 h1;lia))
      have e2:=Gv (l3 (j - sb) (by (clear e1 c' b3 b2 b1 i2 i1 c b a rl hf nG hl h0 fM fK e2 e aU l1 rq eq ek k1 rp ep cP sz hz dj na1 hsb h2 h1;lia)) (by (clear e1 c' b3 b2 b1 j2 i2 i1 b a rl hf nG hl h0 fM fK e2 e aU l1 rq eq ek k1 rp ep cP sz hz na1 hsb h2 h1;lia)))
      rw [show sb+(j - sb)=j by (clear e2 e1 c' b3 b2 b1 i2 i1 c b a rl hf nG hl h0 fM fK e aU l1 rq eq ek k1 rp ep cP sz hz dj na1 hsb h2 h1;lia),←rq] at e2
      (clear c' b3 b2 b1 j2 i2 i1 c b a rl hf nG hl h0 fM fK e aU l1 rq eq ek k1 rp ep cP sz hz dj na1 hsb h2 h1;lia)
     ·exact s2 i0 j (by (clear b3 b2 b1 j2 i2 i1 c b a rl hf nG hl h0 fM fK e2 e aU l1 rq eq ek k1 rp ep cP sz hz dj na1 hsb h2 h1;lia)) (by (clear c' b3 b1 i2 i1 c b a rl hf nG hl h0 fM fK e2 e aU l1 rq eq ek k1 rp ep cP sz hz dj na1 hsb h2 h1;lia)) c
   ·rw [out i (by (clear i1 c b a rl hf nG hl h0 fM fK e2 e aU l1 rq eq ek k1 rp ep cP sz hz dj na1 hsb h2 h1;lia)),out j (by (clear i1 c a rl hf nG hl h0 fM fK e2 e aU l1 rq eq ek k1 rp ep cP sz hz dj na1 hsb h2 h1;lia))]
    exact s2 i j (by (clear i1 c b a rl hf nG hl h0 fM fK e2 e aU l1 rq eq ek k1 rp ep cP sz hz dj na1 hsb h2 h1;lia)) b c
 refine aQ (fun _=> ?_) (fun _=> ?_)
 ·exact wpS_bind (Dt C Ft.kind xin yin (by (clear hl h0 fM e2 e aU l1 rq eq k1 rp ep cP sz hz dj na1 h2 h1;lia)) (by (clear hl h0 fK e2 e aU l1 rq eq k1 rp ep cP sz hz dj na1 hsb h2 h1;lia)) sx sy h0 hl fin)
 ·exact wpS_bind (Du C Ft.kind xin yin (by (clear hl h0 fM e2 e aU l1 rq eq ek k1 rp ep cP sz hz dj na1 h2 h1;lia)) (by (clear hl h0 fK e aU l1 rq eq ek k1 rp ep cP sz hz dj na1 hsb h2 h1;lia)) sx sy h0 hl fin)
end
end Tim
set_option Elab.async false
set_option linter.all false
set_option maxRecDepth 100000
set_option maxHeartbeats 4000000
namespace Tim
open PySem PyProof.Rows
section
variable {prog:Program} {w:World} {A:Around} {E:Value->Shared->Prop} {s:Shared} {κ:SortKind} {a₀:Array Keyed} {rk:Value->Nat} {pd:Array (Nat×Nat×Nat)}
def Runs (rk:Value->Nat) (xs:Array Keyed):List (Nat×Nat×Nat)->Nat->Nat->Prop
 | [],a,e=>a=e
 | (s,n,_)::r,a,e=>s=a/\1<=n/\Seg rk xs a (a+n)/\Runs rk xs r (a+n) e
theorem Runs.le {xs:Array Keyed}:∀{l:List (Nat×Nat×Nat)} {a e:Nat},Runs rk xs l a e->a+l.length<=e
 | [],a,e,h=>Nat.le_of_eq h
 | (s,n,_)::r,a,e,h=>by
   have:=Runs.le h.2.2.2
   have:=h.2.1
   rw [List.length_cons];lia
theorem Runs.app {xs:Array Keyed} {r:List (Nat×Nat×Nat)}:∀{l:List (Nat×Nat×Nat)} {a e:Nat},Runs rk xs (l++r) a e ↔ ∃m,Runs rk xs l a m/\Runs rk xs r m e
 | [],a,e=>⟨fun h=>⟨a,rfl,h⟩,fun ⟨m,h1,h2⟩=>by
     have h1:a=m:=h1
     subst h1;exact h2⟩
 | (s,n,_)::l,a,e=>by
   constructor
   ·rintro ⟨h1,h2,h3,h4⟩
    obtain ⟨m,m1,m2⟩:=Runs.app.mp h4
    exact ⟨m,⟨h1,h2,h3,m1⟩,m2⟩
   ·rintro ⟨m,⟨h1,h2,h3,h4⟩,m2⟩
    exact ⟨h1,h2,h3,Runs.app.mpr ⟨m,h4,m2⟩⟩
theorem Runs.congr {xs ys:Array Keyed}:∀{l:List (Nat×Nat×Nat)} {a e:Nat},Runs rk xs l a e->(∀j,a<=j->j<e->R rk xs j=R rk ys j)->Runs rk ys l a e
 | [],a,e,h,_=>h
 | (s,n,_)::r,a,e,⟨h1,h2,h3,h4⟩,g=>by
   have le:=Runs.le h4
   refine ⟨h1,h2,fun i j x y z=> ?_,Runs.congr h4 fun j x y=>g j (by (clear y le h2 h1;lia)) y⟩
   rw [←g i x (by (clear x h2 h1;lia)),←g j (by (clear z le h2 h1;lia)) (by (clear y x h2 h1;lia))]
   exact h3 i j x y z
theorem Vw {α:Type} {l:List α} {i:Nat} (h:i+1<l.length):∃pre p q post,l=pre++p::q::post/\pre.length=i:=by
 refine ⟨l.take i,l[i],l[i+1],l.drop (i+2), ?_,by rw [List.length_take];lia⟩
 rw [←List.drop_eq_getElem_cons,←List.drop_eq_getElem_cons,List.take_append_drop]
theorem rT {st:SortSt} {i e:Nat} {Q:Bool->SortSt->Prop} (C:Gx prog w A s κ a₀ rk) (hB:SB κ a₀ pd st) (hr:Runs rk (arrOf st) pd.toList 0 e) (he:e<=a₀.size) (hi:i+1<pd.size)
 (h:∀pd' st',SB κ a₀ pd' st'->Runs rk (arrOf st') pd'.toList 0 e->pd'.size+1=pd.size->(∀j,e<=j->(arrOf st')[j]? = (arrOf st)[j]?)->Q true st'):wpS (model prog w) A E s (mergeAt' i) Q st:=by
 obtain ⟨pre,⟨sa,na,pw⟩,⟨sb,nb,pw2⟩,post,el,pl⟩:=Vw (l:=pd.toList) (i:=i) (by rw [Array.length_toList];exact hi)
 rw [el] at hr
 obtain ⟨m,r1,r2⟩:=Runs.app.mp hr
 obtain ⟨e1,n1,s1,e2,n2,s2,r3⟩:=r2
 subst e1
 have iz:=Runs.le r3
 have h1:pd[i]? = some (sa,na,pw):=by rw [←Array.getElem?_toList,el,List.getElem?_append_right (by (clear iz e2 n2 n1 el hi he;lia)),pl,Nat.sub_self];rfl
 have h2:pd[i+1]? = some (sb,nb,pw2):=by rw [←Array.getElem?_toList,el,List.getElem?_append_right (by (clear h1 iz e2 n2 n1 el hi he;lia)),pl,show i+1 - i=1 by (clear h1 iz e2 n2 n1 pl el hi he;lia)];rfl
 refine Dv C hB h1 h2 e2 n1 n2 (by (clear h2 h1 n2 n1 pl el hi;lia)) s1 (by rw [e2];exact s2) fun st' hB' out seg=> ?_
 have ep:((pd.setIfInBounds i (sa,na+nb,pw)).eraseIdxIfInBounds (i+1)).toList=pre++(sa,na+nb,pw)::post:=by
  rw [Array.toList_eraseIdxIfInBounds,Array.toList_setIfInBounds,el,List.set_append_right _ _ (by (clear h2 h1 iz e2 n2 n1 el hi he;lia)),pl,Nat.sub_self]
  rw [List.eraseIdx_append_of_length_le (by (clear h2 h1 iz e2 n2 n1 el hi he;lia)),pl,show i+1 - i=1 by (clear h2 h1 iz e2 n2 n1 pl el hi he;lia)]
  rfl
 refine h _ st' hB' ?_ ?_ fun j hj=>out j (.inr (by (clear ep h2 h1 n2 n1 pl el hi he;lia)))
 ·rw [ep]
  refine Runs.app.mpr ⟨sa,r1.congr fun j _ j2=>gw (out j (.inl j2)).symm,rfl,by (clear ep h2 h1 iz e2 n2 pl el hi he;lia), ?_, ?_⟩
  ·rw [show sa+(na+nb)=sb+nb by (clear ep h2 h1 iz n2 n1 pl el hi he;lia)];exact seg
  ·rw [←Nat.add_assoc]
   exact r3.congr fun j j1 j2=>gw (out j (.inr (by (clear j2 ep h2 h1 iz n2 n1 pl el hi he;lia)))).symm
 ·rw [←Array.length_toList,ep,←Array.length_toList,el]
  simp only [List.length_append,List.length_cons]
  (clear ep h2 h1 iz e2 n2 n1 pl el hi he;lia)
theorem Runs.modify {xs:Array Keyed} {f:Nat×Nat×Nat->Nat×Nat×Nat} (hf:∀x,(f x).1=x.1/\(f x).2.1=x.2.1) (l:List (Nat×Nat×Nat)):∀(i a e:Nat),Runs rk xs l a e->Runs rk xs (l.modify i f) a e:=by
 induction l with
 | nil=>intro i a e h;cases i<;>exact h
 | cons t r ih=>
   obtain ⟨s,n,p⟩:=t
   intro i a e h
   obtain ⟨h1,h2,h3,h4⟩:=h
   cases i with
   | zero=>
     rw [List.modify_zero_cons]
     have e2:=hf (s,n,p)
     rcases hfp:f (s,n,p) with ⟨s',n',p'⟩
     rw [hfp] at e2
     obtain ⟨q1,q2⟩:=e2
     have q1:s'=s:=q1
     have q2:n'=n:=q2
     rw [q1,q2]
     exact ⟨h1,h2,h3,h4⟩
   | succ i=>
     rw [List.modify_succ_cons]
     exact ⟨h1,h2,h3,ih i _ _ h4⟩
theorem wpS_sortRuns {st:SortSt} {Q:Unit->SortSt->Prop} (C:Gx prog w A s κ a₀ rk) (hB:SB κ a₀ #[] st) (h2:2<=a₀.size)
 (h:∀st',(arrOf st').Perm a₀->failedOf st'=none->Seg rk (arrOf st') 0 a₀.size->Q () st'):wpS (model prog w) A E s sortRuns' Q st:=by
 rw [sortRuns'_eq]
 refine wpS_bind (wpS_get ?_)
 dsimp only
 simp only [hB.size]
 generalize minRun' a₀.size a₀.size 0=mr
 refine wpS_bind (wpS_mono (wpS_forRange (I:=fun x c st'=>∃lo pd,c=(none,lo)/\x<=lo/\lo<=a₀.size/\SB κ a₀ pd st'/\Runs rk (arrOf st') pd.toList 0 lo)
  (Q:=fun c st'=>∃pd,c=(none,a₀.size)/\SB κ a₀ pd st'/\Runs rk (arrOf st') pd.toList 0 a₀.size) ?step ?fin ⟨0, #[],rfl,by (clear h2;lia),by (clear h2;lia),hB,rfl⟩) ?post)
 case fin=>
  rintro c st' ⟨lo,pd,rfl,x1,x2,hB',hr⟩
  have:lo=a₀.size:=by (clear h2;lia)
  subst this
  exact ⟨pd,rfl,hB',hr⟩
 case step=>
  rintro x c st' _ hx ⟨lo,pd,rfl,x1,x2,hB',hr⟩
  dsimp only
  refine aQ (fun ge=> ?_) (fun ge=> ?_)
  ·have:lo=a₀.size:=by (clear x1 hx h2;lia)
   subst this
   exact wpS_pure ⟨pd,rfl,hB',hr⟩
  refine wpS_bind (wpS_countRun C (by (clear ge x1 hx h2;lia)) (by (clear x2 x1 hx h2;lia)) hB' fun m st2 hB2 kb2 m1 m2 hs2=> ?_)
  dsimp only
  have hr2:=hr.congr (ys:=arrOf st2) fun j _ j2=>gw (kb2 j j2).symm
  apply aQ
  case' h1=>
   intro lt
   refine wpS_bind (wpS_lift (wpAny_rule ⟨rfl, ?_⟩))
   refine wpS_bind (wpS_binarySort C (by (clear lt m2 m1 ge x1 hx h2;lia)) (by (clear m1 ge x2 x1 hx h2;lia)) hB2 hs2 fun st3 hB3 kb3 hs3=> ?_)
   simp only [Bool.not_true,Bool.false_eq_true,if_false]
   have Zw:=hr2.congr (ys:=arrOf st3) fun j _ j2=>gw (kb3 j j2).symm
   have n1:1<=min (a₀.size - lo) mr:=by (clear m2 m1 x2 x1 hx h2;lia)
   have n2:min (a₀.size - lo) mr<=a₀.size - lo:=by (clear n1 lt m2 m1 ge x2 x1 hx h2;lia)
   generalize min (a₀.size - lo) mr=n at hs3 n1 n2 ⊢
  case' h2=>
   intro lt
   have Zw:=hr2
   have hB3:=hB2
   have hs3:=hs2
   have n1:=m1
   have n2:=m2
   revert Zw hB3 hs3
   generalize st2=st3
   revert n1 n2
   generalize m=n
   intro n1 n2 Zw hB3 hs3
  all_goals
   refine wpS_bind (wpS_get ?_)
   have done:∀pG qd,SB κ a₀ pG qd->Runs rk (arrOf qd) pG.toList 0 lo->Seg rk (arrOf qd) lo (lo+n)->wpS (model prog w) A E s (do
    modify fun s=>setPending s ((pendingOf s).push (lo,n,0))
    pure (ForInStep.yield ((none:Option Unit),lo+n))) (fun r st'=>match r with
     | ForInStep.done c'=>∃pd,c'=(none,a₀.size)/\SB κ a₀ pd st'/\Runs rk (arrOf st') pd.toList 0 a₀.size
     | ForInStep.yield c'=>∃lo pd,c'=(none,lo)/\x+1<=lo/\lo<=a₀.size/\SB κ a₀ pd st'/\Runs rk (arrOf st') pd.toList 0 lo) qd:=by
    intro pG qd vB Cy W0
    refine wpS_bind (wpS_modify (wpS_pure ⟨lo+n,pG.push (lo,n,0),rfl,by (clear n2 lt m2 m1 ge x2 hx h2;lia),by (clear n1 lt m2 m1 ge x1 hx h2;lia),⟨vB.perm,vB.kind,vB.failed,by show (pendingOf qd).push _=_;rw [vB.pend]⟩, ?_⟩))
    rw [Array.toList_push]
    exact Runs.app.mpr ⟨lo,Cy,rfl,n1,W0,rfl⟩
   cases hb:(pendingOf st3).back? with
   | none=>exact done _ _ hB3 Zw hs3
   | some t=>
     obtain ⟨s1,n1',pw⟩:=t
     dsimp only
     generalize power' a₀.size (2*s1+n1') (2*s1+n1'+n1'+n) a₀.size=pwr
     refine wpS_bind (wpS_mono (wpS_forRange (I:=fun y c qd=>∃pG,c=(none,())/\SB κ a₀ pG qd/\Runs rk (arrOf qd) pG.toList 0 lo/\Seg rk (arrOf qd) lo (lo+n))
      (Q:=fun c qd=>∃pG,c=(none,())/\SB κ a₀ pG qd/\Runs rk (arrOf qd) pG.toList 0 lo/\Seg rk (arrOf qd) lo (lo+n)) ?_ (fun _ _ z=>z) ⟨_,rfl,hB3,Zw,hs3⟩) ?_)
     ·rintro y c qd _ hy ⟨pG,rfl,vB,Cy,W0⟩
      refine wpS_bind (wpS_get ?_)
      rw [vB.pend]
      cases hg:(if pG.size>1 then pG[pG.size - 2]? else none) with
      | none=>exact wpS_pure ⟨pG,rfl,vB,Cy,W0⟩
      | some t=>
        obtain ⟨f1,f2,older⟩:=t
        dsimp only
        have gt:pG.size>1:=by
         by_cases g:pG.size>1
         ·exact g
         ·rw [if_neg g] at hg;cases hg
        refine aQ (fun _=> ?_) (fun _=> ?_)
        ·exact wpS_pure ⟨pG,rfl,vB,Cy,W0⟩
        ·refine wpS_bind (rT C vB Cy x2 (by (clear hg hy hb n2 n1 lt m2 m1 ge x2 x1 hx h2;lia)) fun pd5 Dq hB5 hr5 _ YW=> ?_)
         simp only [Bool.not_true,Bool.false_eq_true,if_false]
         refine wpS_pure ⟨pd5,rfl,hB5,hr5,fun i j a b c=> ?_⟩
         rw [gw (YW i a),gw (YW j (by (clear c gt hg hy hb n2 n1 lt m2 m1 ge x2 x1 hx h2;lia)))]
         exact W0 i j a b c
     ·rintro c qd ⟨pG,rfl,vB,Cy,W0⟩
      dsimp only
      refine wpS_bind (wpS_modify ?_)
      refine done _ _ ⟨vB.perm,vB.kind,vB.failed,rfl⟩ ?_ W0
      rw [←vB.pend] at Cy
      rw [Array.toList_modify]
      refine Runs.modify (fun x=> ?_) _ _ _ _ Cy
      exact ⟨rfl,rfl⟩
 case post=>
  rintro c st' ⟨pd,rfl,hB',hr⟩
  dsimp only
  have le:=Runs.le hr
  rw [Array.length_toList] at le
  refine wpS_bind (wpS_mono (wpS_forRange (I:=fun y c qd=>∃pG,c=(none,())/\SB κ a₀ pG qd/\Runs rk (arrOf qd) pG.toList 0 a₀.size/\pG.size<=max 1 (a₀.size - y))
   (Q:=fun c qd=>∃pG,c=(none,())/\SB κ a₀ pG qd/\Runs rk (arrOf qd) pG.toList 0 a₀.size/\pG.size<=1) ?_ ?_ ⟨pd,rfl,hB',hr,by (clear h2;lia)⟩) ?_)
  ·rintro y c qd _ hy ⟨pG,rfl,vB,Cy,Zf⟩
   refine wpS_bind (wpS_get ?_)
   rw [vB.pend]
   refine aQ (fun l1=> ?_) (fun l1=> ?_)
   ·exact wpS_pure ⟨pG,rfl,vB,Cy,l1⟩
   ·have hix:∀(c:Prop) [Decidable c],(if c then pG.size - 2 - 1 else pG.size - 2)+1<pG.size:=by
     intro c _
     split<;>(clear Zf hy le h2;lia)
    refine wpS_bind (rT C vB Cy (Nat.le_refl _) (hix _) fun pd5 Dq hB5 hr5 z5 _=> ?_)
    simp only [Bool.not_true,Bool.false_eq_true,if_false]
    exact wpS_pure ⟨pd5,rfl,hB5,hr5,by (clear l1 hy le h2;lia)⟩
  ·rintro c qd ⟨pG,rfl,vB,Cy,Zf⟩
   exact ⟨pG,rfl,vB,Cy,by (clear le h2;lia)⟩
  ·rintro c qd ⟨pG,rfl,vB,Cy,Zf⟩
   refine wpS_pure (h qd vB.perm vB.failed ?_)
   have ll:pG.toList.length<=1:=by rw [Array.length_toList];exact Zf
   match hl:pG.toList,ll,Cy with
   | [],_,Cy=>have:0=a₀.size:=Cy;(clear hl ll Zf le;lia)
   | [(s,n,p)],_,Cy=>
     obtain ⟨_,_,hs,e⟩:=Cy
     have e:0+n=a₀.size:=e
     rw [e] at hs
     exact hs
end
end Tim
set_option Elab.async false
set_option linter.all false
set_option maxRecDepth 100000
set_option maxHeartbeats 4000000
namespace Tim
open PySem PyProof.Rows
section
variable {prog:Program} {w:World} {A:Around} {E:Value->Shared->Prop} {s:Shared} {κ:SortKind} {rk:Value->Nat}
theorem V_ {vs:List Value} {xs:Array Keyed} (hp:xs.Perm (pairsOf vs)) (hs:Seg rk xs 0 (pairsOf vs).size):(xs.map (·.2)).toList.Perm vs/\(xs.map (·.2)).toList.Pairwise (fun x y=>rk x<=rk y):=by
 have hl:xs.toList.Perm (vs.zip vs):=by rw [←pairsOf_toList];exact Array.perm_iff_toList_perm.mp hp
 have hmem:∀p,p∈xs.toList->p.1=p.2:=fun p hp'=>(mem_zip_self (hl.mem_iff.mp hp')).1
 have e:(xs.map (·.2)).toList=xs.toList.map (·.1):=by
  rw [Array.toList_map];exact List.map_congr_left fun p hp'=>(hmem p hp').symm
 rw [e]
 constructor
 ·have:=hl.map Prod.fst
  rwa [List.map_fst_zip (Nat.le_refl _)] at this
 ·rw [List.pairwise_map,List.pairwise_iff_getElem]
  intro i j hi hj hij
  rw [Array.length_toList] at hi hj
  have:=hs i j (Nat.zero_le _) (Nat.le_of_lt hij) (by rw [←hp.size_eq];exact hj)
  rw [jk hi,jk hj] at this
  simpa using this
theorem zT {a:Addr} {vs:List Value} {n:Nat} {P:PySem.Fin->Shared->Prop} (ho:s.heap.get? a=some (seqObj "list" vs.toArray n)) (hz:vs.length<=sizeLine)
 (hk:2<=vs.length -> ∀h':Heap,(∀b o,b≠a->s.heap.get? b=some o->h'.get? b=some o)->(∀(Q:SortKind->Shared->Prop) (E:Value->Shared->Prop),Q κ {s with heap:=h'}->wpAny (model prog w) A (keyKind' vs.toArray) Q E {s with heap:=h'})/\Gx prog w A {s with heap:=h'} κ (pairsOf vs) rk)
 (h:∀out:List Value,out.Perm vs->out.Pairwise (fun x y=>rk x<=rk y)->P (.done (.ret .none)) {s with heap:=sortedHeap s.heap a vs out.toArray}):
 wpAny (model prog w) A (Builtin.«list.sort» ⟨[.ref a],[]⟩) P E s:=by
 rw [list_sort_plain]
 have ha:a<s.heap.objs.size:=Heap.lt_size ho
 refine wpAny_bind (listItems_at ho rfl ?_)
 refine wpAny_bind (listUpdate_at ho rfl ?_ (by rw [List.size_toArray];exact hz) (Nat.zero_le _))
 obtain ⟨e1,ho1⟩:∃e1,(s.heap.update a (Obj.mapSeq fun _=> #[])).get? a=some (seqObj "list" #[] e1):=⟨_,get?_update_seq ho (fun _=> #[])⟩
 refine wpAny_bind (seqEpoch_at ho1 rfl ?_)
 refine wpAny_bind (wpAny_newTuple ?_ (by show vs.length<=_;exact hz))
 refine wpAny_bind (wpAny_newList ?_ (Nat.zero_le _))
 refine wpAny_holding ?_
 have keep:∀b o,b≠a->s.heap.get? b=some o->(((s.heap.update a (Obj.mapSeq fun _=> #[])).push (seqObj "tuple" vs.toArray 0)).push (seqObj "list" #[] 0)).get? b=some o:=fun b o nb e=>by
  refine Heap.get?_push_of_some _ (Heap.get?_push_of_some _ ?_)
  rw [Heap.get?_update_ne _ _ _ _ nb]
  exact e
 have ho6:(((s.heap.update a (Obj.mapSeq fun _=> #[])).push (seqObj "tuple" vs.toArray 0)).push (seqObj "list" #[] 0)).get? a=some (seqObj "list" #[] e1):=Heap.get?_push_of_some _ (Heap.get?_push_of_some _ ho1)
 show wpAny (model prog w) A _ P E {s with heap:=((s.heap.update a (Obj.mapSeq fun _=> #[])).push (seqObj "tuple" vs.toArray 0)).push (seqObj "list" #[] 0)}
 dsimp only
 have hsz:vs.toArray.size=vs.length:=by simp
 have fin:∀st':SortSt,(arrOf st').Perm (pairsOf vs)->Seg rk (arrOf st') 0 (pairsOf vs).size ->
  P (.done (.ret .none)) {s with heap:=sortedHeap s.heap a vs ((arrOf st').map (·.2))}:=by
  intro st' hp hs
  obtain ⟨h1,h2⟩:=V_ hp hs
  have:=h _ h1 h2
  rwa [Array.toArray_toList] at this
 by_cases h2:vs.toArray.size<2
 ·rw [if_pos h2,if_pos h2]
  refine wpAny_bind (wpAny_pure ?_)
  rw [StateT.run_pure]
  refine wpAny_bind (wpAny_pure ?_)
  dsimp only
  refine wpAny_bind (seqEpoch_at ho6 rfl ?_)
  refine wpAny_bind (listUpdate_at ho6 rfl ?_ (Nat.zero_le _) (by rw [Array.size_map];show (pairsOf vs).size<=_;rw [pairsOf_size];omega))
  simp only [bne_self_eq_false,Bool.false_eq_true,if_false]
  refine wpAny_pure (fin (SortSt.mk' general' (vs.toArray.zip vs.toArray) #[] 7 none) (Array.Perm.refl _) ?_)
  intro i j _ hij hj
  have:i=j:=by rw [pairsOf_size] at hj;omega
  subst this;exact Nat.le_refl _
 ·rw [if_neg h2,if_neg h2]
  obtain ⟨kk,kc⟩:=hk (by omega) _ keep
  refine wpAny_bind (kk _ _ ?_)
  refine wpAny_bind (wpAny_mono (wpS_sortRuns (a₀:=pairsOf vs) (rk:=rk) (st:=SortSt.mk' κ (vs.toArray.zip vs.toArray) #[] 7 none)
   (Q:=fun _ st'=>(arrOf st').Perm (pairsOf vs)/\failedOf st'=none/\Seg rk (arrOf st') 0 (pairsOf vs).size)
   kc ⟨Array.Perm.refl _,rfl,rfl,rfl⟩ (by rw [pairsOf_size];omega) fun st' a1 a2 a3=>⟨a1,a2,a3⟩) ?_ fun _ _ e=>e)
  rintro ⟨⟨⟩,st'⟩ s' ⟨rfl,hp,hf,hs⟩
  dsimp only
  refine wpAny_bind (seqEpoch_at ho6 rfl ?_)
  refine wpAny_bind (listUpdate_at ho6 rfl ?_ (Nat.zero_le _) (Nat.le_trans (Nat.le_of_eq ((Array.size_map ..).trans (hp.size_eq.trans (pairsOf_size _)))) (Nat.le_succ_of_le hz)))
  rw [hf]
  simp only [bne_self_eq_false,Bool.false_eq_true,if_false]
  exact wpAny_pure (fin st' hp hs)
theorem yg {l:Addr} {vs:List Value} {Q:Value->Shared->Prop} (hl:s.heap.IsList l vs.toArray) (hz:vs.length<=sizeLine)
 (hk:2<=vs.length -> ∀h':Heap,(∀b o,s.heap.get? b=some o->h'.get? b=some o)->(∀(Q:SortKind->Shared->Prop) (E:Value->Shared->Prop),Q κ {s with heap:=h'}->wpAny (model prog w) A.in1.in1 (keyKind' vs.toArray) Q E {s with heap:=h'})/\Gx prog w A.in1.in1 {s with heap:=h'} κ (pairsOf vs) rk)
 (h:∀(h':Heap) (D:Addr) (c:Nat) (out:List Value),(∀b o,s.heap.get? b=some o->h'.get? b=some o)->s.heap.objs.size<=D->h'.get? D=some (seqObj "list" out.toArray c)->out.Perm vs->out.Pairwise (fun x y=>rk x<=rk y)->Q (.ref D) {s with heap:=h'}):
 wpAny (model prog w) A (call (.builtin "sorted") [.ref l]) Q E s:=by
 refine Calls.call_function_entry kind_sorted plain_sorted entry_sorted (args_sorted1 _) ?_
 unfold Builtin.«sorted»
 refine wpAny_bind (m:=checkCount "sorted" 1 1 _) (wpAny_pure ?_)
 refine wpAny_bind (collect_list hl ?_ hz)
 refine wpAny_bind (wpAny_newList ?_ hz)
 have hsz:((s.heap.push (seqObj "list" #[] 0)).update s.heap.objs.size (Obj.mapSeq (· ++ vs.toArray))).objs.size=s.heap.objs.size+1:=by
  rw [Heap.size_update,size_push']
 have hoL:(((s.heap.push (seqObj "list" #[] 0)).update s.heap.objs.size (Obj.mapSeq (· ++ vs.toArray))).push (seqObj "list" vs.toArray 0)).get? (s.heap.objs.size+1)=some (seqObj "list" vs.toArray 0):=by
  rw [←hsz];exact Heap.get?_push_size _ rfl
 have keep:∀b o,s.heap.get? b=some o->(((s.heap.push (seqObj "list" #[] 0)).update s.heap.objs.size (Obj.mapSeq (· ++ vs.toArray))).push (seqObj "list" vs.toArray 0)).get? b=some o:=fun b o q=>by
  have hlt:b<s.heap.objs.size:=Heap.lt_size q
  rw [Heap.get?_push_ne _ _ _ (by rw [hsz];exact Nat.ne_of_lt (Nat.lt_succ_of_lt hlt)),Heap.get?_update_ne _ _ _ _ (Nat.ne_of_lt hlt),Heap.get?_push_ne _ _ _ (Nat.ne_of_lt hlt)]
  exact q
 show wpAny _ _ _ _ _ {s with heap:=((s.heap.push (seqObj "list" #[] 0)).update s.heap.objs.size (Obj.mapSeq (· ++ vs.toArray))).push (seqObj "list" vs.toArray 0)}
 rw [hsz]
 generalize ((s.heap.push (seqObj "list" #[] 0)).update s.heap.objs.size (Obj.mapSeq (· ++ vs.toArray))).push (seqObj "list" vs.toArray 0)=h1 at keep hoL ⊢
 have nD:∀b o,s.heap.get? b=some o->b≠s.heap.objs.size+1:=fun b o e=>Nat.ne_of_lt (Nat.lt_succ_of_lt (Heap.lt_size e))
 refine wpAny_bind (wpAny_holding (wpAny_call_entry slot_list_sort ⟨_,hoL,rfl⟩ entry_list_sort (zT (s:={s with heap:=h1}) hoL hz (fun h2 h' kp=>hk h2 h' fun b o e=>kp b o (nD b o e) (keep b o e)) fun out p1 p2=>⟨_,rfl, ?_⟩) (args_list_sort _)))
 refine wpAny_pure ⟨_,rfl, ?_⟩
 obtain ⟨e1,ho1⟩:∃e1,(h1.update (s.heap.objs.size+1) (Obj.mapSeq fun _=> #[])).get? (s.heap.objs.size+1)=some (seqObj "list" #[] e1):=⟨_,get?_update_seq hoL (fun _=> #[])⟩
 have ho2:(((h1.update (s.heap.objs.size+1) (Obj.mapSeq fun _=> #[])).push (seqObj "tuple" vs.toArray 0)).push (seqObj "list" #[] 0)).get? (s.heap.objs.size+1)=some (seqObj "list" #[] e1):=Heap.get?_push_of_some _ (Heap.get?_push_of_some _ ho1)
 refine h (sortedHeap h1 (s.heap.objs.size+1) vs out.toArray) _ _ out (fun b o e=> ?_) (Nat.le_succ _) (by unfold sortedHeap;exact get?_update_seq ho2 (fun _=>out.toArray)) p1 p2
 unfold sortedHeap
 rw [Heap.get?_update_ne _ _ _ _ (nD b o e)]
 refine Heap.get?_push_of_some _ (Heap.get?_push_of_some _ ?_)
 rw [Heap.get?_update_ne _ _ _ _ (nD b o e)]
 exact keep b o e
end
section
theorem Aw {α:Type} {p q:α->Bool} {u:α}:∀{l:List α},u∈l->q u=true->p u=false->(∀x,p x=true->q x=true)->l.countP p<l.countP q
 | [],hm,_,_,_=>by simp at hm
 | x::l,hm,hq,hp,hi=>by
   have mono:l.countP p<=l.countP q:=List.countP_mono_left fun x _=>hi x
   rw [List.countP_cons,List.countP_cons]
   rcases List.mem_cons.mp hm with rfl|hm
   ·rw [hq,hp];simp;omega
   ·have:=Aw hm hq hp hi
    cases e:p x with
    | true=>rw [hi x e];simp;omega
    | false=>simp;omega
def m_ {α:Type} (L:α->α->Bool) (vs:List α) (v:α):Nat:=vs.countP fun u=>L u v
structure Swo {α:Type} (L:α->α->Bool):Prop where
 irr:∀a,L a a=false
 tr:∀a b c,L a b=true->L b c=true->L a c=true
 ntr:∀a b c,L a b=false->L b c=false->L a c=false
theorem BZ {α:Type} {L:α->α->Bool} (S:Swo L) {vs:List α} {u v:α} (hu:u∈vs):decide (m_ L vs u<m_ L vs v)=L u v:=by
 cases e:L u v with
 | true=>exact decide_eq_true (Aw hu e (S.irr u) fun x hx=>S.tr x u v hx e)
 | false=>
   refine decide_eq_false fun z=> ?_
   have:m_ L vs v<=m_ L vs u:=List.countP_mono_left fun x _ hx=>by
    cases e':L x u with
    | true=>rfl
    | false=>rw [S.ntr x u v e' e] at hx;cases hx
   omega
theorem Jm {α:Type} {L:α->α->Bool} (S:Swo L) {vs:List α} {u v:α} (hv:v∈vs) (h:m_ L vs u<=m_ L vs v):L v u=false:=by
 have:=BZ S (u:=v) (v:=u) hv
 rw [←this]
 exact decide_eq_false (by omega)
def gK:List Int->List Int->Bool
 | _,[]=>false
 | [],_::_=>true
 | a::as,b::bs=>if a=b then gK as bs else decide (a<b)
theorem Fg (a:List Int):gK a []=false:=by cases a<;>rfl
theorem Fj:∀a,gK a a=false
 | []=>rfl
 | a::as=>by unfold gK;rw [if_pos rfl];exact Fj as
theorem JD:∀a b c,gK a b=true->gK b c=true->gK a c=true
 | a,[],_,h,_=>by rw [Fg] at h;cases h
 | [],_::_,[],_,h=>by cases h
 | [],_::_,_::_,_,_=>rfl
 | _::_,_::_,[],_,h=>by cases h
 | a::as,b::bs,c::cs,h1,h2=>by
   unfold gK at h1 h2 ⊢
   by_cases e1:a=b
   ·rw [if_pos e1] at h1
    by_cases e2:b=c
    ·rw [if_pos e2] at h2
     rw [if_pos (e1.trans e2)]
     exact JD as bs cs h1 h2
    ·rw [if_neg e2] at h2
     rw [if_neg (e1▸e2),e1];exact h2
   ·rw [if_neg e1] at h1
    have h1:=of_decide_eq_true h1
    by_cases e2:b=c
    ·rw [←e2,if_neg e1];exact decide_eq_true h1
    ·rw [if_neg e2] at h2
     have h2:=of_decide_eq_true h2
     rw [if_neg (by omega)];exact decide_eq_true (by omega)
theorem Fe:∀a b c,gK a b=false->gK b c=false->gK a c=false
 | a,_,[],_,_=>Fg a
 | [],[],_::_,_,h=>by cases h
 | [],_::_,_::_,h,_=>by cases h
 | _::_,[],_::_,_,h=>by cases h
 | a::as,b::bs,c::cs,h1,h2=>by
   unfold gK at h1 h2 ⊢
   by_cases e1:a=b
   ·rw [if_pos e1] at h1
    by_cases e2:b=c
    ·rw [if_pos e2] at h2
     rw [if_pos (e1.trans e2)]
     exact Fe as bs cs h1 h2
    ·rw [if_neg e2] at h2
     rw [if_neg (e1▸e2),e1];exact h2
   ·rw [if_neg e1] at h1
    have h1:=of_decide_eq_false h1
    by_cases e2:b=c
    ·rw [←e2,if_neg e1];exact decide_eq_false h1
    ·rw [if_neg e2] at h2
     have h2:=of_decide_eq_false h2
     rw [if_neg (by omega)];exact decide_eq_false (by omega)
theorem wL {α:Type} (key:α->List Int):Swo fun a b=>gK (key a) (key b):=⟨fun a=>Fj _,fun a b c=>JD _ _ _,fun a b c=>Fe _ _ _⟩
end
end Tim
set_option Elab.async false
set_option linter.all false
set_option maxRecDepth 100000
set_option maxHeartbeats 4000000
namespace L2
open PySem PySem.Spec PyProof.Rows PySem.W
section
variable {X:Cx}
def keyOf (h:Heap):Value->List Int
 | .int n _=>[n]
 | .ref a=>match h.get? a with
   | some o=>match o.data with
     | .seq xs _=>xs.toList.map numOf
     | _=>[]
   | none=>[]
 | _=>[]
theorem JC {prog:Program} {w:World} {A:Around} {s:Shared} {Q:Bool->Shared->Prop}:∀(xs ys:List Value) (ns ms:List Int) (i:Nat),IntsAre xs ns->IntsAre ys ms -> ∀(fin:Bool),(ns.length=ms.length->fin=false)->ns.length=ms.length->Q (Tim.gK ns ms) s->KatLex prog w A true fin Q (xs.zip ys) i s
 | _,_,[],[],i,.nil,.nil,fin,hf,_,h=>by
   show Q fin s
   rw [hf rfl]
   exact h
 | _,_,_::_,[],_,_,_,_,_,hl,_=>by cases hl
 | _,_,[],_::_,_,_,_,_,_,hl,_=>by cases hl
 | _,_,n::ns,m::ms,i,.cons _ t hx,.cons _ u hy,fin,hf,hl,h=>by
   rw [List.zip_cons_cons]
   refine kat_cons (wpAny_eqBool_int ?_)
   have hl':ns.length=ms.length:=by simpa using hl
   by_cases e:n=m
   ·subst e
    rw [show (n==n)=true by simp]
    refine kat_yes (JC _ _ ns ms (i+1) hx hy fin (fun z=>hf (by simpa using z)) hl' ?_)
    unfold Tim.gK at h
    rwa [if_pos rfl] at h
   ·rw [show (n==m)=false by simpa using e]
    unfold Tim.gK at h
    rw [if_neg e] at h
    refine kat_no ?_
    cases (true&&i==0) with
    | true=>exact oneLt_int h
    | false=>exact kat_one _ _ (lt_int (show W.BoolBack Q (.bool (decide (n<m))) s from h))
theorem rm {h:Heap} {a:Addr} {its:List Value} {ns:List Int} (ht:IsTup h a its.toArray) (hi:IntsAre its ns):keyOf h (.ref a)=ns:=by
 obtain ⟨o,e,_,n,d⟩:=ht
 show (match h.get? a with
  | some o=>match o.data with
    | .seq xs _=>xs.toList.map numOf
    | _=>[]
  | none=>[])=ns
 rw [e]
 dsimp only
 rw [d]
 dsimp only
 exact hi.nums
def Vf (h:Heap) (vs:List Value):Prop:=∀v∈vs,∃n t,v=Value.int n t
def J2 (h:Heap) (k:Nat) (vs:List Value):Prop:=∀v∈vs,∃a its ns,v = .ref a/\IsTup h a its.toArray/\IntsAre its ns/\ns.length=k
theorem Nb {prog:Program} {w:World} {A:Around} {s:Shared} {vs:List Value} {k:Nat} {h0:Heap} (T:J2 h0 k vs) (kp:∀b o,h0.get? b=some o->s.heap.get? b=some o):
 Tim.Gx prog w A s (tuples' true) (pairsOf vs) (Tim.m_ (fun a b=>Tim.gK (keyOf h0 a) (keyOf h0 b)) vs):=by
 refine ⟨fun p hp q hq E Q h=> ?_⟩
 rw [pairsOf_toList] at hp hq
 obtain ⟨_,mp⟩:=mem_zip_self hp
 obtain ⟨_,mq⟩:=mem_zip_self hq
 rw [Tim.BZ (Tim.wL (keyOf h0)) mp] at h
 obtain ⟨a,its,ns,ep,ta,ia,la⟩:=T _ mp
 obtain ⟨b,jts,ms,eq,tb,ib,lb⟩:=T _ mq
 rw [ep,eq] at h ⊢
 rw [rm ta ia,rm tb ib] at h
 obtain ⟨oa,ea,ca,n1,da⟩:=ta
 obtain ⟨ob,eb,cb,n2,db⟩:=tb
 have l1:its.length=ns.length:=ia.length
 have l2:jts.length=ms.length:=ib.length
 refine kat_lt (kp _ _ ea) da (kp _ _ eb) db ?_
 have e1:its.toArray.toList=its:=by simp
 have e2:jts.toArray.toList=jts:=by simp
 rw [e1,e2]
 exact JC its jts ns ms 0 ia ib _ (fun z=>decide_eq_false (by rw [List.size_toArray,List.size_toArray];omega)) (by omega) h
theorem vP {h0 h1:Heap} {k:Nat} (hk:1<=k) (kp:∀b o,h0.get? b=some o->h1.get? b=some o):∀{vs:List Value},J2 h0 k vs -> ∃fs,KatTups h1 vs fs/\fs.length=vs.length /\ ∀f∈fs,∃n t,f=Value.int n t
 | [],_=>⟨[],trivial,rfl,fun _ z=>absurd z (by simp)⟩
 | v::vs,T=>by
   obtain ⟨fs,t1,t2,t3⟩:=vP hk kp (vs:=vs) fun u hu=>T u (List.mem_cons_of_mem _ hu)
   obtain ⟨a,its,ns,rfl,⟨o,e,c,n,d⟩,ia,la⟩:=T v (List.mem_cons_self ..)
   match its,ns,ia,la,d with
   | _,_,.nil,la,d=>simp at la;omega
   | _,_,.cons m t r,la,d=>
     refine ⟨_::fs,KatTups.cons (kp _ _ e) c d rfl t1,by simp [t2],fun f hf=> ?_⟩
     rcases List.mem_cons.mp hf with rfl|hf
     ·exact ⟨_,_,rfl⟩
     ·exact t3 f hf
theorem Ka {prog:Program} {w:World} {A:Around} {s:Shared} {vs:List Value} {k:Nat} {h0:Heap} {Q:SortKind->Shared->Prop} {E:Value->Shared->Prop} (hk:1<=k) (T:J2 h0 k vs) (hv:2<=vs.length) (kp:∀b o,h0.get? b=some o->s.heap.get? b=some o)
 (h:Q (tuples' true) s):wpAny (model prog w) A (keyKind' vs.toArray) Q E s:=by
 obtain ⟨fs,t1,t2,t3⟩:=vP hk kp T
 refine kat_kind (T:= .type "int") t1 (by omega) (fun v hv=> ?_) rfl h
 obtain ⟨n,t,rfl⟩:=t3 v hv
 exact .now
theorem PK {prog:Program} {w:World} {A:Around} {s:Shared} {vs:List Value} {h0:Heap} (T:Vf h0 vs):
 Tim.Gx prog w A s oneType' (pairsOf vs) (Tim.m_ (fun a b=>Tim.gK (keyOf h0 a) (keyOf h0 b)) vs):=by
 refine ⟨fun p hp q hq E Q h=> ?_⟩
 rw [pairsOf_toList] at hp hq
 obtain ⟨_,mp⟩:=mem_zip_self hp
 obtain ⟨_,mq⟩:=mem_zip_self hq
 rw [Tim.BZ (Tim.wL (keyOf h0)) mp] at h
 obtain ⟨n,t,ep⟩:=T _ mp
 obtain ⟨m,u,eq⟩:=T _ mq
 rw [ep,eq] at h ⊢
 rw [keyLt'_oneType]
 refine oneLt_int ?_
 have e:Tim.gK (keyOf h0 (.int n t)) (keyOf h0 (.int m u))=decide (n<m):=by
  show (if n=m then Tim.gK [] [] else decide (n<m))=_
  by_cases e:n=m
  ·subst e;rw [if_pos rfl];simp [Tim.gK]
  ·rw [if_neg e]
 rwa [e] at h
theorem J5 {ys:List V} {us out:List Value} (r:Vals ys us) (p:out.Perm us):∃zs,Vals zs out/\zs.Perm ys:=by
 induction p generalizing ys with
 | nil=>cases r;exact ⟨[],.nil,.refl _⟩
 | cons x p ih=>
   cases r with
   | cons rx rt=>
     obtain ⟨zs,z1,z2⟩:=ih rt
     exact ⟨_::zs,.cons rx z1,.cons _ z2⟩
 | swap x y l=>
   cases r with
   | cons rx rt=>
     cases rt with
     | cons ry rl=>exact ⟨_,.cons ry (.cons rx rl),.swap _ _ _⟩
 | trans p q ih1 ih2=>
   obtain ⟨zs,z1,z2⟩:=ih2 r
   obtain ⟨ws,w1,w2⟩:=ih1 z1
   exact ⟨ws,w1,w2.trans z2⟩
theorem vA:∀{ns:List Int} {vs:List Value},Vals (ns.map V.int) vs->IntsAre vs ns
 | [],_,.nil=> .nil
 | n::ns,_,.cons ⟨t,e⟩ r=>by subst e;exact .cons n t (vA r)
theorem Aa {R:Value->Value->Prop} {S:V->V->Prop} (hRS:∀x y u v,RelV x u->RelV y v->R u v->S x y):∀{zs:List V} {out:List Value},Vals zs out->out.Pairwise R->zs.Pairwise S
 | _,_,.nil,_=> .nil
 | _,_,.cons rx rt,p=>by
   rw [List.pairwise_cons] at p
   refine .cons (fun y hy=> ?_) (Aa hRS rt p.2)
   obtain ⟨i,hi,e⟩:=List.getElem_of_mem hy
   obtain ⟨v,hv,ry⟩:=Vals.get rt (i:=i) (x:=y) (by rw [List.getElem?_eq_getElem hi,e])
   exact hRS _ _ _ _ rx ry (p.1 v (List.mem_of_getElem? hv))
def ain (K:PySem.W.Frag) (H:Hp) (k:Nat) (f:V->List Int) (x:V):Prop:=∃a,x = .ref a/\cD K H a ((f x).map V.int)/\(f x).length=k
def Hf (K:PySem.W.Frag):List V->Hp->VK->Prop:=fun xs H Q=>∃(p:Addr) (ys:List V) (k:Nat) (f:V->List Int),xs=[.ref p]/\aZ K H p ys/\1<=k/\(∀y∈ys,ain K H k f y) /\
 ∀l zs,H l=none->zs.Perm ys->zs.Pairwise (fun x y=>Tim.gK (f y) (f x)=false)->Q (.ref l) (upd H l (.lst zs))
theorem Ib:fU X (.builtin "sorted") (Hf X.K):=by
 intro pins s σ H xs us Q I r h
 obtain ⟨p,ys,k,f,rfl,hq,hk,ht,q⟩:=h
 obtain ⟨u,rfl,rx⟩:=vals1 r
 cases rx
 obtain ⟨its,rv,pl,hz⟩:=I.list hq
 have hlen:its.length=ys.length:=by rw [←rv.length]
 have item:∀x v,x∈ys->RelV x v -> ∃a jts,v = .ref a/\IsTup s.heap a jts.toArray/\IntsAre jts (f x)/\(f x).length=k:=by
  intro x v hx rxv
  obtain ⟨a,rfl,sq,hl⟩:=ht x hx
  cases rxv
  obtain ⟨jts,rj,tj,_⟩:=I.tuple sq
  exact ⟨a,jts,rfl,tj,vA rj,hl⟩
 have T:J2 s.heap k its:=fun v hv=>by
  obtain ⟨i,hi,e⟩:=List.getElem_of_mem hv
  have hy:i<ys.length:=by omega
  obtain ⟨v',hv',ry⟩:=rv.get (i:=i) (x:=ys[i]) (by rw [List.getElem?_eq_getElem hy])
  rw [List.getElem?_eq_getElem hi,e] at hv'
  cases hv'
  obtain ⟨a,jts,e1,e2,e3,e4⟩:=item _ _ (List.getElem_mem hy) ry
  exact ⟨a,jts,_,e1,e2,e3,e4⟩
 refine Tim.yg (κ:=tuples' true) (rk:=Tim.m_ (fun a b=>Tim.gK (keyOf s.heap a) (keyOf s.heap b)) its) pl.isList (by omega)
  (fun h2 h' kp=>⟨fun Q E hQ=>Ka hk T h2 kp hQ,Nb T kp⟩) fun h' D c out kp hD hd hp hs=> ?_
 obtain ⟨zs,z1,z2⟩:=J5 rv hp
 have hzl:zs.length<=sizeLine:=by rw [z2.length_eq];omega
 refine ⟨.ref D,_,I.laid (t':=s.toks) kp hD (show bQ X.prog X.w _ h' _ (.lst zs) from ⟨hzl,out,c,z1,hd⟩),rfl,q D zs (I.hok.fresh hD) z2 ?_⟩
 have hs':out.Pairwise (fun u v=>u∈its/\v∈its/\Tim.gK (keyOf s.heap v) (keyOf s.heap u)=false):=by
  refine List.Pairwise.imp_of_mem (fun {u v} hu hv huv=> ?_) hs
  have mu:=hp.mem_iff.mp hu
  have mv:=hp.mem_iff.mp hv
  exact ⟨mu,mv,Tim.Jm (Tim.wL (keyOf s.heap)) mv huv⟩
 have zin:∀z∈zs,z∈ys:=fun z hz=>z2.mem_iff.mp hz
 have zp:zs.Pairwise (fun x y=>x∈zs/\y∈zs):=by
  rw [List.pairwise_iff_getElem]
  intro i j hi hj _
  exact ⟨List.getElem_mem hi,List.getElem_mem hj⟩
 have:=Aa (S:=fun x y=>x∈ys->y∈ys->Tim.gK (f y) (f x)=false) (fun x y u v rx ry huv hx hy=>by
  obtain ⟨a,jts,rfl,e2,e3,e4⟩:=item x u hx rx
  obtain ⟨b,kts,rfl,g2,g3,g4⟩:=item y v hy ry
  have:=huv.2.2
  rwa [rm e2 e3,rm g2 g3] at this) z1 hs'
 exact List.Pairwise.imp₂ (fun {x y} (h1:x∈ys->y∈ys->Tim.gK (f y) (f x)=false) (h2:x∈zs/\y∈zs)=>h1 (zin _ h2.1) (zin _ h2.2)) this zp
def N8 (K:PySem.W.Frag):List V->Hp->VK->Prop:=fun xs H Q=>∃(p:Addr) (ns:List Int),xs=[.ref p]/\aZ K H p (ns.map V.int) /\
 ∀(l:Addr) (ms:List Int),H l=none->ms.Perm ns->ms.Pairwise (fun x y=>x<=y)->Q (.ref l) (upd H l (.lst (ms.map V.int)))
theorem Ie:fU X (.builtin "sorted") (N8 X.K):=by
 intro pins s σ H xs us Q I r h
 obtain ⟨p,ns,rfl,hq,q⟩:=h
 obtain ⟨u,rfl,rx⟩:=vals1 r
 cases rx
 obtain ⟨its,rv,pl,hz⟩:=I.list hq
 have hI:=vA rv
 have T:Vf s.heap its:=fun v hv=>hI.all v hv
 rw [List.length_map] at hz
 have hl:its.length=ns.length:=hI.length
 refine Tim.yg (κ:=oneType') (rk:=Tim.m_ (fun a b=>Tim.gK (keyOf s.heap a) (keyOf s.heap b)) its) pl.isList (by omega)
  (fun h2 h' kp=>⟨fun Q E hQ=> ?_,PK T⟩) fun h' D c out kp hD hd hp hs=> ?_
 ·match its,ns,hI,h2 with
  | [],_,_,h2=>simp at h2
  | [_],_,_,h2=>simp at h2
  | v₁::v₂::rest,_,hI,_=>rw [keyKind_ints hI];exact wpAny_pure hQ
 have hO:IntsAre out (out.map numOf):=intsAre_map out fun v hv=>T v (hp.mem_iff.mp hv)
 have z1:Vals ((out.map numOf).map V.int) out:=Ab hO
 have z2:(out.map numOf).Perm ns:=by rw [←hI.nums];exact hp.map _
 have hzl:((out.map numOf).map V.int).length<=sizeLine:=by rw [List.length_map,z2.length_eq];exact hz
 refine ⟨.ref D,_,I.laid (t':=s.toks) kp hD (show bQ X.prog X.w _ h' _ (.lst ((out.map numOf).map V.int)) from ⟨hzl,out,c,z1,hd⟩),rfl,q D _ (I.hok.fresh hD) z2 ?_⟩
 rw [List.pairwise_map]
 refine List.Pairwise.imp_of_mem (fun {u v} hu hv huv=> ?_) hs
 obtain ⟨n,t,rfl⟩:=T u (hp.mem_iff.mp hu)
 obtain ⟨m,t',rfl⟩:=T v (hp.mem_iff.mp hv)
 have:=Tim.Jm (Tim.wL (keyOf s.heap)) (hp.mem_iff.mp hv) huv
 have e:Tim.gK (keyOf s.heap (.int m t')) (keyOf s.heap (.int n t))=decide (m<n):=by
  show (if m=n then Tim.gK [] [] else decide (m<n))=_
  by_cases e:m=n
  ·subst e;rw [if_pos rfl];simp [Tim.gK]
  ·rw [if_neg e]
 have this:Tim.gK (keyOf s.heap (.int m t')) (keyOf s.heap (.int n t))=false:=this
 rw [e] at this
 have:=of_decide_eq_false this
 show n<=m
 omega
theorem FN {K:PySem.W.Frag} (hK:X.K=K):fU X (.builtin "sorted") (Hf K):=by subst hK;exact Ib
theorem FP {K:PySem.W.Frag} (hK:X.K=K):fU X (.builtin "sorted") (N8 K):=by subst hK;exact Ie
end
end L2
set_option Elab.async false
set_option linter.all false
set_option maxRecDepth 100000
set_option maxHeartbeats 4000000
namespace L2
open PySem PySem.Spec PyProof.Rows PySem.W
section
variable {X:Cx}
def ab9 (ta:TA):TE:=fun σ H Q=>ta σ H fun vs H1=>∃n:Nat,vs=[.int n]/\n<=100000 /\ ∀l,H1 l=none->Q (.ref l) (upd H1 l (.lst (((List.range n).map fun k:Nat=>(k:Int)).map V.int)))
theorem vR {a:Expr} {ta:TA} {p p2 pos pos2:Pos} (hc:X.calm=true) (hg:Gl X "list") (hm:X.mg "list" = none) (hgr:Gl X "range") (hmr:X.mg "range" = none) (ha:PA X [a] ta)
 (hs:starEach [a] X.env=[(false,eval a X.env)]:=by rfl)
 (hl:starEach [.Call (.Name "range" p2) [a] [] pos2] X.env=[(false,eval (.Call (.Name "range" p2) [a] [] pos2) X.env)]:=by rfl):
 PE X (.Call (.Name "list" p) [.Call (.Name "range" p2) [a] [] pos2] [] pos) (ab9 ta):=by
 intro pins s σ H Q I h
 refine Call_ (qy I hg hm oY (PyProof.Rows.callWith_type1 ?_ hl rfl))
 rw [hl]
 show wpAny _ _ (spliced ((false,eval (.Call (.Name "range" p2) [a] [] pos2) X.env)::backTo pos (starEach [] X.env))) _ _ s
 refine Calls.spliced_cons (Call_ (qy I hgr hmr boot_range (PyProof.Rows.callWith_type1 (dz (ha pos2 pins s σ H _ I h) fun us s1 ⟨vs,H1,I1,r1,q1⟩=> ?_) hs rfl)))
 obtain ⟨n,e,qz,q⟩:=q1
 subst e
 cases r1 with
 | cons r rr=>
   cases rr
   obtain ⟨t,rfl⟩:=r
   refine call_range_1 ?_
   refine Calls.spliced_nil ?_
   refine call_list_range (n:=n) (I.ok.hd hc) (IsRange.new ..) (small_one (by omega) (by omega) (by omega) (by omega)) (by rw [rangeSize_one];split<;>omega) (by omega) fun h' tk acc' c' hk hS' hacc=> ?_
   have r':Vals (((List.range n).map fun k:Nat=>(k:Int)).map V.int) acc'.toList:=by
    rw [List.map_map]
    refine Dw (fun k=>(k:Int)) acc'.toList _ (by simp [hacc.1]) fun k v hv=> ?_
    obtain ⟨t,e⟩:=hacc.2 k v (by simpa using hv)
    exact ⟨t,by rw [e,Int.mul_one];simp⟩
   have I2:=I1.kept (h':=s1.heap.push {cls:= .type "range",data:= .fields #[.int 0 s1.toks,.int n t,.int 1 (s1.toks+1)]}) (t':=s1.toks+2) fun b o e=>Heap.get?_push_of_some _ e
   exact ⟨.ref _,_,I2.laid (t':=tk) hk (Nat.le_refl _) (show bQ X.prog X.w _ h' _ (.lst _) from ⟨by simp;rw [sizeLine_eq];omega,acc'.toList,c',r',by simpa using hS'⟩),rfl,q _ (I2.hok.fresh (Nat.le_refl _))⟩
end
end L2
set_option Elab.async false
set_option linter.all false
set_option maxRecDepth 100000
set_option maxHeartbeats 4000000
namespace L2
open PySem PySem.Spec PyProof.Rows
def RN (K:PySem.W.Frag):V->List V->Hp->VK->Prop:=fun x vs H Q=>∃(l:Addr) (ns:List Int) (n:Int) (j:Nat),x = .ref l/\vs=[.int n]/\aZ K H l (ns.map V.int)/\ns[j]? = some n/\(∀m,m<j->ns[m]? ≠ some n)/\Q (.int j) H
section
variable {X:Cx}
def isI (n:Int):Value->Bool
 | .int m _=>decide (m=n)
 | _=>false
theorem uq:∀{ns:List Int} {its:List Value},Vals (ns.map V.int) its -> ∀(m:Nat) (u:Value),its[m]? = some u -> ∃n t,ns[m]? = some n/\u = .int n t
 | [],_,.nil,m,u,h=>by simp at h
 | n::ns,_,.cons ⟨t,e⟩ r,m,u,h=>by
   cases m with
   | zero=>simp at h;subst h;subst e;exact ⟨n,t,rfl,rfl⟩
   | succ m=>exact uq r m u (by simpa using h)
theorem Ht {K:PySem.W.Frag} (hK:X.K=K) (hu:X.A.in1.units+64<cLine):MtR X "list.index" (RN K):=by
 subst hK
 intro pins s σ H x vs v us Q I rx rv h
 obtain ⟨l,ns,n,j,rfl,rfl,hq,hj,hno,q⟩:=h
 cases rx
 obtain ⟨u,rfl,ru⟩:=rv.one
 obtain ⟨tu,rfl⟩:=ru
 obtain ⟨its,r,pl,hz⟩:=I.list hq
 obtain ⟨o,ho,hc,n0,hdd⟩:=pl.isList
 obtain ⟨c0,d0,dt,sl⟩:=o
 simp only at hc hdd
 subst hc hdd
 have il:its.length=ns.length:=by rw [←r.length,List.length_map]
 have jl:j<its.length:=by rw [il];exact (List.getElem?_eq_some_iff.mp hj).1
 have hdn:Dat H (.int n) (.int n):=by simp only [Dat]
 obtain ⟨bs,rd⟩:=I.reads (.int n) hdn (u:= .int n tu) ⟨tu,rfl⟩
 have eqs:∀y∈its.toArray,SeqAt.EqAt X.A.in1 s y (.int n tu) (isI n y):=fun y hy=>by
  have hy:y∈its:=by simpa using hy
  obtain ⟨m,hm⟩:=List.getElem?_of_mem hy
  obtain ⟨k,t,_,rfl⟩:=uq r m y hm
  have hdk:Dat H (.int k) (.int k):=by simp only [Dat]
  obtain ⟨as',ra⟩:=I.reads (.int k) hdk (u:= .int k t) ⟨t,rfl⟩
  have e:isI n (.int k t)=PyData.eqv (.int k) (.int n):=by
   show decide (k=n)=_
   simp only [PyData.eqv]
   rw [Bool.eq_iff_iff]
   simp
  rw [e]
  exact SeqAt.eqAt_reads (.int k) (.int n) _ s _ _ as' bs ra rd (SeqAt.canLay_of_shaped rfl) (SeqAt.canLay_of_shaped rfl) (SeqAt.room_of_shaped rfl hu)
 have l63:=qx
 have hz':its.length<=sizeLine:=by rw [il];simpa using hz
 refine call_meets F.slot_list_index ⟨_,ho,rfl⟩ F.entry_list_index (F.args_list_index_2 _ _) (SeqAt.list_indexAt l its.toArray n0 d0 sl (.int n tu) (isI n) j (by simpa using jl) (by omega) ?_ (fun m hm hmj=> ?_)) ⟨ho,eqs,⟨.int j,H,I.tok _,⟨_,rfl⟩,q⟩⟩
 ·have e1:its[j]? = some its[j]:=by simp [jl]
  obtain ⟨k,t,ek,eu⟩:=uq r j _ e1
  rw [hj] at ek
  cases ek
  simp only [List.getElem_toArray]
  rw [eu]
  exact decide_eq_true rfl
 ·have hm':m<its.length:=by simpa using hm
  have e1:its[m]? = some its[m]:=by simp [hm']
  obtain ⟨k,t,ek,eu⟩:=uq r m _ e1
  simp only [List.getElem_toArray]
  rw [eu]
  exact decide_eq_false fun z=>hno m hmj (by rw [ek,z])
end
end L2
set_option Elab.async false
set_option linter.all false
set_option maxRecDepth 100000
set_option maxHeartbeats 4000000
namespace L2
open PySem PySem.Spec PyProof.Rows
section
variable {prog:Program} {w:World} {A:Around} {E:Value->Shared->Prop} {s:Shared} {it d:Addr} {ep:Nat} {od:Obj} {es:Array DictEntry}
theorem Hw {Q:Value->Shared->Prop} (nsm:(d==sysModules)=false) (ho:s.heap.get? d=some od) (hx:od.ExactDict) (he:od.data = .dict es ep)
 (k:Q (.ref s.heap.objs.size) {s with heap:=s.heap.push {cls:= .type "dict_keyiterator",data:= .fields #[.ref d,.int 0 0,.int es.size 0,.int ep 0]}}):wpAny (model prog w) A (pyIter (.ref d)) Q E s:=by
 have ty:s.TypeIs (.ref d) "dict" :=⟨od,ho,hx.1⟩
 refine wpAny_pyIter_slot ty F.slot_dict_iter (wpAny_call_entry F.slot_dict_iter ty F.entry_dict_iter (by
  unfold Builtin.«dict.__iter__» Builtin.Dict.dictSlotNone;refine wpAny_bind (wpAny_bind (wpAny_notOrdered_dict ty ?_))
  show wpAny _ _ (pure (Value.ref d)) _ _ s;refine wpAny_pure ?_
  show wpAny _ _ (Builtin.Dict.showsAll d >>= _) _ _ s;unfold Builtin.Dict.showsAll;rw [nsm];rw [if_neg Bool.false_ne_true]
  refine wpAny_bind (wpAny_pure (wpAny_bind (wpAny_dictEntries ho he (wpAny_bind (wpAny_dictEpoch ho he (wpAny_bind (wpAny_newObj_type (wpAny_pure ?_))))))))
  exact ⟨_,rfl,"dict_keyiterator",_,⟨_,Heap.get?_push_size _ rfl,rfl⟩,F.slot_dict_keyiterator_next.lookup,by simpa [rawInt] using k⟩) (F.args_dict_iter_1 _))
theorem K7 {i:Nat} {Q:Option Value->Shared->Prop} (st:s.heap.IsKeyIter it d i es.size ep) (ho:s.heap.get? d=some od) (he:od.data = .dict es ep) (hi:i<es.size)
 (k:∀h',h'.IsKeyIter it d (i+1) es.size ep->Heap.SameBut it s.heap h'->Q (some es[i].key) {s with heap:=h'}):wpAny (model prog w) A (pyNext (.ref it)) Q E s:=by
 obtain ⟨oi,hoi,ci,di⟩:=id st
 have ty:=st.typeIs
 have K1:Builtin.Dict_items.ownsTuple "dict_keyiterator" = false:=by decide
 have Wm:¬((i:Int)<0):=by omega
 have st':(s.heap.update it (Obj.mapFields (·.setIfInBounds 1 (rawInt ((i:Int)+1))))).IsKeyIter it d (i+1) es.size ep:=
  ⟨_,Heap.get?_update_self _ hoi (Obj.isFreed_of_fields (Obj.data_mapFields di _)),by rw [Obj.cls_mapFields];exact ci,by rw [Obj.data_mapFields di];simp [rawInt]⟩
 unfold pyNext
 refine wpAny_bind (wpAny_attempt (wpAny_callSpecial?_slot (name:=Str.ofString "__next__") ty F.slot_dict_keyiterator_next (wpAny_call_entry F.slot_dict_keyiterator_next ty F.entry_dict_keyiterator_next (by
  refine wpAny_bind (wpAny_pure (wpAny_bind (wpAny_bind ?_)))
  refine wpAny_bind (wpAny_typeNameOfWhole_keyiter ty (wpAny_pure (wpAny_bind (wpAny_fieldsOf hoi di ?_))))
  rw [K1];simp only [Bool.false_eq_true,if_false]
  show wpAny _ _ (if (Value.ref d==Value.none)=true then _ else _) _ _ s;rw [show (Value.ref d==Value.none)=false from rfl];rw [if_neg Bool.false_ne_true]
  refine wpAny_bind (wpAny_pure (wpAny_bind (wpAny_dictEntries ho he ?_)))
  rw [if_neg (by simp)];refine wpAny_bind (wpAny_pure (wpAny_bind (wpAny_dictEpoch ho he ?_)));rw [if_neg (by simp)];refine wpAny_pure ?_
  simp only [Wm,if_false,Int.toNat_natCast,Array.getElem?_eq_getElem hi]
  refine wpAny_bind (wpAny_bind (wpAny_typeNameOfWhole_keyiter ty (wpAny_pure (wpAny_bind (wpAny_isOneOf_keyiter ty ?_)))))
  show wpAny _ _ (setField (.ref it) 1 (rawInt ((i:Int)+1)) >>= _) _ _ s;refine wpAny_bind (wpAny_setField hoi di (by simp) ?_)
  refine wpAny_bind (wpAny_holding (wpAny_bind (wpAny_isOneOf_keyiter (s:={s with heap:=s.heap.update it (Obj.mapFields (·.setIfInBounds 1 (rawInt ((i:Int)+1))))}) st'.typeIs ?_)))
  show wpAny _ _ (pure es[i].key) _ _ _;exact wpAny_pure (wpAny_pure ⟨_,rfl,wpAny_pure (k _ st' (Heap.SameBut.update ..))⟩)) (F.args_dict_keyiterator_next_1 _))))
theorem PB {i:Nat} {Q:Option Value->Shared->Prop} (calm:A.handled=none) (st:s.heap.IsKeyIter it d i es.size ep) (ho:s.heap.get? d=some od) (he:od.data = .dict es ep) (hi:es.size<=i)
 (k:∀h',Heap.ExtBut it s.heap h'->Q none {s with heap:=h'}):wpAny (model prog w) A (pyNext (.ref it)) Q E s:=by
 obtain ⟨oi,hoi,ci,di⟩:=id st
 have ty:=st.typeIs
 have K1:Builtin.Dict_items.ownsTuple "dict_keyiterator" = false:=by decide
 have Wm:¬((i:Int)<0):=by omega
 unfold pyNext
 refine wpAny_bind (wpAny_attempt (wpAny_callSpecial?_slot (name:=Str.ofString "__next__") ty F.slot_dict_keyiterator_next (wpAny_call_entry F.slot_dict_keyiterator_next ty F.entry_dict_keyiterator_next (by
  refine wpAny_bind (wpAny_pure (wpAny_bind (wpAny_bind ?_)))
  refine wpAny_bind (wpAny_typeNameOfWhole_keyiter ty (wpAny_pure (wpAny_bind (wpAny_fieldsOf hoi di ?_))))
  rw [K1];simp only [Bool.false_eq_true,if_false]
  show wpAny _ _ (if (Value.ref d==Value.none)=true then _ else _) _ _ s;rw [show (Value.ref d==Value.none)=false from rfl];rw [if_neg Bool.false_ne_true]
  refine wpAny_bind (wpAny_pure (wpAny_bind (wpAny_dictEntries ho he ?_)))
  rw [if_neg (by simp)];refine wpAny_bind (wpAny_pure (wpAny_bind (wpAny_dictEpoch ho he ?_)));rw [if_neg (by simp)];refine wpAny_pure ?_
  simp only [Wm,if_false,Int.toNat_natCast,Array.getElem?_eq_none hi]
  refine wpAny_bind (wpAny_bind (wpAny_typeNameOfWhole_keyiter ty (wpAny_pure ?_)))
  show wpAny _ _ (setField (.ref it) 0 .none >>= _) _ _ s;refine wpAny_bind (wpAny_setField hoi di (by simp) ?_)
  show wpAny _ _ (newExc (.type "StopIteration") [] >>= _) _ _ _;refine wpAny_bind ?_
  simp only [newExc,newTuple];refine wpAny_bind (wpAny_newObj_type ?_ (by size_fits))
  refine wpAny_bind (m:=firstArgMember _ _) (wpAny_of_eq (a:=Value.none) (by first |rfl|(simp only [firstArgMember];rfl)) (wpAny_newObj_type ?_ (by size_fits)))
  simp only [raiseNew];refine wpAny_bind (wpAny_handled ?_);rw [show A.in1.handled=none from calm]
  refine wpAny_bind (wpAny_pure (wpAny_throw ?_));refine wpAny_bind (wpAny_isInstance (T:= "StopIteration") (b:=true) ⟨_,Heap.get?_push_size _ rfl,rfl⟩ isSubtype_stop ?_)
  exact wpAny_pure (k _ (((Heap.SameBut.update ..).extBut.push _).push _))) (F.args_dict_keyiterator_next_1 _))))
end
end L2
set_option Elab.async false
set_option linter.all false
set_option maxRecDepth 100000
set_option maxHeartbeats 4000000
namespace L2
open PySem PySem.Spec PyProof.Rows
section
variable {X:Cx} {pins:List (Addr×Obj)} {σ:St} {H:Hp} {s:Shared} {d:Addr}
theorem Pr {kvs:List (List Key×V)} {xs:List (List Key×Addr×Value)} {u v:HO} (r:KT H kvs xs) (e:H d=some u) (h1:∀ys,u ≠ .tup ys):KT (upd H d v) kvs xs:=by
 refine Paired.Wr r fun p q z=>⟨z.1, ?_,z.2.2⟩
 have:q.2.1≠d:=fun w=>by rw [w,e] at z;exact h1 _ (Option.some.inj z.2.1)
 rw [aV this]
 exact z.2.1
theorem Inv.O9 {kvs:List (List Key×V)} (I:Inv X pins σ H s) (e:H d=some (.dT kvs)):∀o v,X.H₀ d≠some (.jB o v):=fun o v q=>by
 have:=I.base.rP d o v q
 rw [e] at this
 cases this
theorem Inv.Tn {kvs:List (List Key×V)} {o:Obj} (I:Inv X pins σ H s) (e:H d=some (.dT kvs)) (ho:s.heap.get? d=some o):Inv X pins σ (upd H d (.jB o (.dT kvs))) s:=by
 refine I.Jl e (fun _ z=>by cases z) (fun _ z=>by cases z) (fun _ z=>by cases z) (I.O9 e) ⟨ho, ?_⟩
 obtain ⟨z,y,xs,r,dd⟩:=(show bQ X.prog X.w H s.heap d (.dT kvs) from I.hok d _ e)
 exact ⟨z,y,xs,Pr r e (fun _ z=>by cases z),dd⟩
theorem Inv.Yj {kvs:List (List Key×V)} {o:Obj} (I:Inv X pins σ H s) (e:H d=some (.jB o (.dT kvs))) (hz:∀o v,X.H₀ d≠some (.jB o v)):Inv X pins σ (upd H d (.dT kvs)) s:=by
 refine I.Jl e (fun _ z=>by cases z) (fun _ z=>by cases z) (fun _ z=>by cases z) hz ?_
 obtain ⟨_,z,y,xs,r,dd⟩:=(show bQ X.prog X.w H s.heap d (.jB o (.dT kvs)) from I.hok d _ e)
 exact ⟨z,y,xs,Pr r e (fun _ z=>by cases z),dd⟩
end
def Xz (d:Addr) (o:Obj) (kvs:List (List Key×V)):It:=
 ⟨fun i H=>i<kvs.length/\H d=some (.jB o (.dT kvs)),fun i H x H'=>H'=H /\ ∃k v b,kvs[i]? = some (k,v)/\x = .ref b/\H b=some (.tup (k.map kV)),fun i H=>kvs.length<=i/\H d=some (.jB o (.dT kvs))⟩
theorem Wv {H:Hp} {kvs:List (List Key×V)} {xs:List (List Key×Addr×Value)} (r:KT H kvs xs):∀(i:Nat) (k:List Key) (v:V),kvs[i]? = some (k,v) -> ∃q,xs[i]? = some q/\H q.2.1=some (.tup (k.map kV)):=by
 induction r with
 | nil=>intro i k v h;cases h
 | @cons p q ps qs h r ih=>
   intro i k v e
   cases i with
   | zero=>
     have e':p=(k,v):=Option.some.inj e
     subst e'
     exact ⟨q,rfl,h.2.1⟩
   | succ i=>exact ih i k v (by simpa using e)
theorem GF {P:Program} {w:World} {K:PySem.W.Frag} {tg:Expr} (d it:Addr) (o:Obj) (kvs:List (List Key×V)) (es:Array DictEntry) (ep:Nat) (hd:o.data = .dict es ep):Turn P w K tg (Xz d o kvs) [it] it (fun i h=>h.IsKeyIter it d i es.size ep) where
 mem:=by simp
 obj:=fun i h st b hb=>by
  have e:b=it:=by simpa using hb
  subst e
  obtain ⟨o,e,c,d⟩:=st
  exact ⟨o,e,fun v z=>by rw [d] at z;cases z⟩
 keep:=fun i h h' st k=>by
  obtain ⟨o,e,c,d⟩:=st
  exact ⟨o,k it (by simp) o e,c,d⟩
 item:=by
  intro X hP hw hK hc i pins s σ H E I hf st hg
  subst hP hw hK
  obtain ⟨hi,hH⟩:=hg
  obtain ⟨ho,z,y,xs,r,o',es',ep',q1,q2,q3,q4,q5⟩:=(show bQ X.prog X.w H s.heap d (.jB o (.dT kvs)) from I.hok d _ hH)
  rw [ho] at q1
  cases q1
  rw [hd] at q3
  cases q3
  have hl:kvs.length=xs.length:=Paired.length r
  have hsz:es.size=xs.length:=by rw [←Array.length_toList,q4,List.length_map]
  obtain ⟨k,v,Tw⟩:∃k v,kvs[i]? = some (k,v):=⟨kvs[i].1,kvs[i].2,by simp [hi]⟩
  obtain ⟨q,eq,hq⟩:=Wv r i k v Tw
  have ie:i<es.size:=by omega
  have ek:es[i].key = .ref q.2.1:=by
   have e1:es.toList[i]? = some es[i]:=by simp [ie]
   rw [q4,List.getElem?_map,eq] at e1
   have:=Option.some.inj e1
   rw [←this]
   rfl
  obtain ⟨f0,f1,f2,f3,f4,f5⟩:=hf it (by simp)
  refine K7 st ho hd ie fun h' st' sb=> ?_
  have I1:Inv X pins σ H {s with heap:=h'}:=I.turned (t':=s.toks) (fun b o hb e=>(sb.2 b hb).trans e) f0 f1 f3 f4 f5
  obtain ⟨ob,e,c,dd⟩:=id st'
  rw [ek]
  exact ⟨.ref q.2.1,rfl,Aq (s:={s with heap:=h'}) e c dd (by decide) ⟨.ref q.2.1,H,I1,rfl,⟨rfl,k,v,q.2.1,Tw,rfl,hq⟩,st',fun b hb=>(hf b hb).1⟩⟩
 done:=by
  intro X hP hw hK hc i pins s σ H E I hf st hg
  subst hP hw hK
  obtain ⟨hi,hH⟩:=hg
  obtain ⟨ho,z,y,xs,r,o',es',ep',q1,q2,q3,q4,q5⟩:=(show bQ X.prog X.w H s.heap d (.jB o (.dT kvs)) from I.hok d _ hH)
  rw [ho] at q1
  cases q1
  rw [hd] at q3
  cases q3
  have hl:kvs.length=xs.length:=Paired.length r
  have hsz:es.size=xs.length:=by rw [←Array.length_toList,q4,List.length_map]
  obtain ⟨f0,f1,f2,f3,f4,f5⟩:=hf it (by simp)
  exact PB (I.ok.hd hc) st ho hd (by omega) fun h' eb=>⟨rfl,I.turned (t':=s.toks) (fun b o hb e=>eb b o hb e) f0 f1 f3 f4 f5⟩
 self:=fun _ _ _ _ _ st h=>wpAny_pyIter_keyiter st h
section
variable {X:Cx} {tg:Expr}
def WX (tl:TE):TI:=fun σ H R=>tl σ H fun x H1=>∃d kvs,x = .ref d/\H1 d=some (.dT kvs) /\ ∀o,R (Xz d o kvs) (upd H1 d (.jB o (.dT kvs)))
theorem Om {l:Expr} {tl:TE} (hl:PE X l tl):PI X tg l (WX tl):=by
 intro pins s σ H R I h
 refine dz (hl pins s σ H _ I h) fun v s1 ⟨x,H1,I1,r1,q1⟩=> ?_
 obtain ⟨d,kvs,e,hH,q⟩:=q1
 subst e
 cases r1
 obtain ⟨z,hd,xs,r,o,es,ep,ho,q2,q3,q4,q5⟩:=(show bQ X.prog X.w H1 s1.heap d (.dT kvs) from I1.hok d _ hH)
 refine Hw hd ho q2 q3 ?_
 have If:=I1.Tn hH ho
 have Sv:(upd H1 d (HO.jB o (.dT kvs))) s1.heap.objs.size=none:=by
  rw [aV (Ne.symm (Nat.ne_of_lt (Heap.lt_size ho)))]
  exact I1.hok.fresh (Nat.le_refl _)
 refine ⟨s1.heap.objs.size,[s1.heap.objs.size],_,_,upd H1 d (.jB o (.dT kvs)),rfl,If.kept (t':=s1.toks) fun b o e=>Heap.get?_push_of_some _ e,GF d _ o kvs es ep q3,⟨_,Heap.get?_push_size _ rfl,rfl,rfl⟩,fun b hb=> ?_,q o⟩
 have e:b=s1.heap.objs.size:=by simpa using hb
 subst e
 exact If.wC (Nat.le_refl _) Sv
end
def aaw (H H' Ub:Hp):Prop:=∃d Pq o kvs,H d=some (.dT Pq)/\H' d=some (.jB o (.dT kvs))/\Ub=upd H' d (.dT kvs)
def VJ (t:TS):TS:=fun D σ H=>t {D with nx:=fun σ' H'=>∃Ub,aaw H H' Ub/\D.nx σ' Ub} σ H
theorem Og {X:Cx} {st:Stmt} {t:TS} (h:PS X st t):PS X st (VJ t):=by
 intro pins s σ H D I q
 refine wpAny_mono (h pins s σ H _ I q) (fun f s1 q1=> ?_) fun _ _ z=>z
 cases f with
 | next=>
   obtain ⟨σ1,H1,I1,H2,⟨d,Pq,o,kvs,e1,e2,rfl⟩,q2⟩:=q1
   exact ⟨σ1,_,I1.Yj e2 (I.O9 e1),q2⟩
 | brk=>exact q1
 | cont=>exact q1
 | ret u=>exact q1
section
variable {d D:Addr} {o:Obj} {kvs:List (List Key×V)} {tc:TT} {te:TE} {Q:VK} {rest:St} {H1:Hp}
theorem Lw (f:Nat->Option PyData) (hf:∀i d,f i=some d->Mt d=true) (hD:H1 D=none) (hq:H1 d=some (.jB o (.dT kvs))) (hx:kvs.length<=100000)
 (hs:∀i k v b H (G:Hp->Prop) (F:VK),kvs[i]? = some (k,v)->H b=some (.tup (k.map kV))->Same H1 H->(∀H',Same H H'->f i=none->G H')->(∀y d H',Same H H'->f i=some d->Dat H' y d->F y H')->tc (some (.ref b)::rest) H fun b' H3=>if b'=true then te (some (.ref b)::rest) H3 F else G H3)
 (hd:∀H vs,Same H1 H->H D=some (.lst vs)->aH H vs ((List.range kvs.length).filterMap f)->Q (.ref D) H):qQ (Xz d o kvs) (jU 0) tc te Q D (none::rest) H1:=by
 have afW:∀l:List Nat,zV (l.filterMap f)=true:=fun l=>by
  induction l with
  | nil=>rfl
  | cons i l ih=>
    rw [List.filterMap_cons]
    cases e:f i with
    | none=>exact ih
    | some dd=>simp only [zV,hf i dd e,ih,Bool.and_self]
 refine ⟨fun i m σ H=>m=kvs.length - i/\i<=kvs.length/\(∃v,σ=v::rest)/\Same H1 H /\ ∃vs,H D=some (.lst vs)/\aH H vs ((List.range i).filterMap f),⟨kvs.length,by simp,Nat.zero_le _,⟨none,rfl⟩,aB hD,[],ak,by simp [aH]⟩, ?_⟩
 rintro i m σ H ⟨rfl,hi,⟨v,rfl⟩,sm,vs,e,dd⟩
 by_cases hlt:i<kvs.length
 ·refine .inr ⟨⟨hlt,sm _ _ hq⟩,fun σ' H'=>i+1<=kvs.length/\(∃v,σ'=v::rest)/\Same H1 H' /\ ∃vs,H' D=some (.lst vs)/\aH H' vs ((List.range (i+1)).filterMap f),fun σ' H' p'=>⟨kvs.length - (i+1),by omega,rfl,p'⟩,fun x H' y=> ?_⟩
  obtain ⟨rfl,k,w,b,Tw,rfl,hb⟩:=y
  have im:=afW (List.range i)
  refine hs i k w b _ _ _ Tw hb sm (fun H3 s3 ef=>⟨hlt,⟨_,rfl⟩,sm.trans s3,vs,s3 _ _ e, ?_⟩) (fun y dy H4 s4 ef hy=> ?_)
  ·rw [dU,ef]
   simpa using aH.keep s3.tups _ im dd
  ·have hl:vs.length<=i:=by rw [dd.length];exact qI f i
   have kp:Kp D H4 (upd H4 D (.lst (vs++[y]))):=Kp.set
   have tp:=kp.tups (s4 _ _ e)
   refine ⟨vs,s4 _ _ e, ?_,hlt,⟨_,rfl⟩,(sm.trans s4).newly hD,vs++[y],ak, ?_⟩
   ·rw [sizeLine_eq];omega
   ·rw [dU,ef]
    exact vD (aH.keep (fun a xs h=>tp _ _ (s4.tups _ _ h)) _ im dd) (Dat.keep tp _ (hf i dy ef) hy)
 ·have e':i=kvs.length:=by omega
  subst e'
  exact .inl ⟨⟨Nat.le_refl _,sm _ _ hq⟩,hd H vs sm e dd⟩
end
end L2
set_option Elab.async false
set_option linter.all false
set_option maxRecDepth 100000
set_option maxHeartbeats 4000000
namespace L2
open PySem PySem.Spec PyProof.Rows
section
variable {prog:Program} {w:World} {A:Around} {E:Value->Shared->Prop} {s:Shared}
theorem DG {l:Addr} {u v:Value} {Q:List Value->Shared->Prop} (hh:A.handled=none) (hl:s.heap.IsList l #[u,v]) (hQ:∀h',Heap.ExtBut s.heap.objs.size s.heap h'->Q [u,v] {s with heap:=h'}):
 wpAny (model prog w) A (unpackItems (.ref l) 2 none) Q E s:=by
 obtain ⟨o,ho,hc,hd⟩:=id hl
 have ne:l≠s.heap.objs.size:=Nat.ne_of_lt (Heap.lt_size ho)
 unfold unpackItems notIterableAtAll
 refine wpAny_bind (wpAny_bind (wpAny_specialOf (T:= "list") ⟨o,ho,hc⟩ F.slot_list_iter.lookup (wpAny_pure ?_)))
 simp only [Bool.false_eq_true,if_false]
 refine wpAny_bind (wpAny_holding (wpAny_pyIter_list hl (wpAny_bind (wpAny_holding ?_))))
 have l1:(s.heap.push {cls:= .type "list_iterator",data:= .fields #[.ref l,.int 0 0]}).IsList l #[u,v]:=⟨o,Heap.get?_push_of_some _ ho,hc,hd⟩
 show wpAny _ _ (pyNext (.ref s.heap.objs.size) >>= _) _ _ _
 refine wpAny_bind (wpAny_pyNext_list_item ⟨_,Heap.get?_push_size _ rfl,rfl,rfl⟩ l1 (x:=u) rfl fun h1 i1 b1=>wpAny_bind (wpAny_holding ?_))
 have l2:h1.IsList l #[u,v]:=by obtain ⟨o',ho',r⟩:=l1;exact ⟨o',(b1.2 l ne).trans ho',r⟩
 show wpAny _ _ (pyNext (.ref s.heap.objs.size) >>= _) _ _ _
 refine wpAny_bind (wpAny_pyNext_list_item i1 l2 (x:=v) rfl fun h2 i2 b2=>wpAny_bind (wpAny_holding ?_))
 have l3:h2.IsList l #[u,v]:=by obtain ⟨o',ho',r⟩:=l2;exact ⟨o',(b2.2 l ne).trans ho',r⟩
 show wpAny _ _ (pure []) _ _ _
 refine wpAny_pure (wpAny_pure (wpAny_pure ?_))
 rw [if_neg (by simp)]
 refine wpAny_bind (wpAny_holding (wpAny_pyNext_list_end hh i2 l3 rfl fun h3 e3=> ?_))
 simp only [Option.isSome_none,Bool.false_eq_true,if_false]
 exact wpAny_pure (hQ h3 fun b o hb e=>e3 b o hb ((b2.2 b hb).trans ((b1.2 b hb).trans (Heap.get?_push_of_some _ e))))
end
section
variable {X:Cx} {pos:Pos}
def ZJ (K:PySem.W.Frag) (t:Rt):TG:=fun v σ H Q=>∃a x y,v = .ref a/\aZ K H a [x,y]/\t [x,y] σ H Q
theorem Oo {K:PySem.W.Frag} {es:List Expr} {k:Nat} {t:Rt} (hK:X.K=K) (hc:X.calm=true) (h:X_ X es t)
 (hn:(assignEach es X.env).length=2:=by rfl) (hst:(assignEach es X.env).findIdx? (·.1)=none:=by rfl):PG X (.Tuple es k pos) (ZJ K t):=by
 subst hK
 intro pins s σ H v u Q I r hw
 obtain ⟨a,x,y,e1,hq,hw⟩:=hw
 subst e1
 cases r
 obtain ⟨its,rv,p,hz⟩:=I.list hq
 obtain ⟨u1,u2,rfl,r1,r2⟩:=vals2 rv
 rw [assign_Tuple]
 refine wpAny_bind (wpAny_standAt ?_)
 unfold unpack
 rw [hn,hst]
 refine wpAny_bind (wpAny_holding (DG (I.ok.hd hc) p.isList fun h' hx=> ?_))
 have I1:Inv X pins σ H {s with heap:=h'}:=I.kept (t':=s.toks) fun b o e=>hx b o (Nat.ne_of_lt (Heap.lt_size e)) e
 exact h pins _ σ H _ _ Q I1 rv hw
end
end L2
set_option Elab.async false
set_option linter.all false
set_option maxRecDepth 100000
set_option maxHeartbeats 4000000
namespace Prf
open PySem L2
def top (i:Nat):Stmt:=PySem.Challenge.pw_fewnotes_k25_no_such_note.main.body.getD i (.Pass ⟨0,0,0,0⟩)
abbrev d_:Stmt:=top 16
abbrev eG:Stmt:=top 17
abbrev lG:Stmt:=top 19
abbrev d8:Stmt:=top 20
abbrev b_:Stmt:=top 21
abbrev fZ:Stmt:=top 22
abbrev cR:Stmt:=top 23
abbrev eE:Stmt:=top 24
abbrev lF:Stmt:=top 26
abbrev iU:Stmt:=top 27
abbrev fY:Stmt:=top 28
abbrev bR:Stmt:=top 29
abbrev gb:Stmt:=top 30
abbrev dR:Stmt:=top 31
abbrev cg:Stmt:=top 32
abbrev cj:Stmt:=top 33
abbrev dN:Stmt:=top 34
abbrev bT:Stmt:=top 35
abbrev d9:Stmt:=top 36
abbrev cT:Stmt:=top 37
abbrev d7:Stmt:=top 38
abbrev dO:Stmt:=top 39
abbrev eF:Stmt:=top 40
abbrev lH:Stmt:=top 41
abbrev cU:Stmt:=top 42
abbrev gj:Stmt:=top 44
abbrev lK:Stmt:=top 45
abbrev oR:Stmt:=top 46
abbrev jc:Stmt:=top 47
abbrev i_:Stmt:=top 48
abbrev lJ:Stmt:=top 49
abbrev iW:Stmt:=top 50
abbrev iZ:Stmt:=top 51
abbrev iY:Stmt:=top 52
abbrev iV:Stmt:=top 53
abbrev gk:Stmt:=top 54
abbrev jd:Stmt:=top 55
abbrev cV:Stmt:=top 56
abbrev cu:Stmt:=top 57
abbrev eN:Stmt:=top 58
abbrev uz:Stmt:=top 59
structure uo (mg:Str->Option Value):Prop where
 C_:mg "ValueError" = none
 Vb:mg "abs" = none
 QW:mg "all" = none
 Va:mg "any" = none
 Xq:mg "bool" = none
 j4:mg "enumerate" = none
 QV:mg "int" = none
 dW:mg "isinstance" = none
 jZ:mg "len" = none
 qN:mg "list" = none
 Gj:mg "max" = none
 U_:mg "min" = none
 dX:mg "range" = none
 Gh:mg "sorted" = none
 T5:mg "tuple" = none
theorem DW:aX ["value"] ["value"] (aA d_):=⟨rfl,rfl,rfl,by decide +kernel,rfl,by decide +kernel,by decide +kernel⟩
theorem D_:aX ["value","count"] ["value","count"] (aA eG):=⟨rfl,rfl,rfl,by decide +kernel,rfl,by decide +kernel,by decide +kernel⟩
theorem qj:aX ["web","counts","told","touch","k"] ["web"] (aA lG):=⟨rfl,rfl,rfl,by decide +kernel,rfl,by decide +kernel,by decide +kernel⟩
theorem qg:aX ["web","order","k","place"] ["web","order"] (aA d8):=⟨rfl,rfl,rfl,by decide +kernel,rfl,by decide +kernel,by decide +kernel⟩
theorem v9:aX ["one","other"] ["one","other"] (aA b_):=⟨rfl,rfl,rfl,by decide +kernel,rfl,by decide +kernel,by decide +kernel⟩
theorem G7:aX ["web","place","later"] ["web","place","later"] (aA fZ):=⟨rfl,rfl,rfl,by decide +kernel,rfl,by decide +kernel,by decide +kernel⟩
theorem jF:aX ["web","one","other","left","here","steps"] ["web","one","other"] (aA cR):=⟨rfl,rfl,rfl,by decide +kernel,rfl,by decide +kernel,by decide +kernel⟩
theorem DX:aX ["web","order"] ["web","order"] (aA eE):=⟨rfl,rfl,rfl,by decide +kernel,rfl,by decide +kernel,by decide +kernel⟩
theorem lW:aX ["web","named","knowns","told","place","name","found"] ["web"] (aA lF):=⟨rfl,rfl,rfl,by decide +kernel,rfl,by decide +kernel,by decide +kernel⟩
theorem jy:aX ["web","some","places","named","knowns","later","known","earlier"] ["web","some"] (aA iU):=⟨rfl,rfl,rfl,by decide +kernel,rfl,by decide +kernel,by decide +kernel⟩
theorem jx:aX ["web","note","places","one","other","ahead","behind"] ["web","note"] (aA fY):=⟨rfl,rfl,rfl,by decide +kernel,rfl,by decide +kernel,by decide +kernel⟩
theorem fV:aX ["web","note","paper","first","second","places"] ["web","note","paper"] (aA bR):=⟨rfl,rfl,rfl,by decide +kernel,rfl,by decide +kernel,by decide +kernel⟩
theorem G8:aX ["value"] ["value"] (aA gb):=⟨rfl,rfl,rfl,by decide +kernel,rfl,by decide +kernel,by decide +kernel⟩
theorem BX:aX ["places","note"] ["places","note"] (aA dR):=⟨rfl,rfl,rfl,by decide +kernel,rfl,by decide +kernel,by decide +kernel⟩
theorem wg:aX ["places","some"] ["places","some"] (aA cg):=⟨rfl,rfl,rfl,by decide +kernel,rfl,by decide +kernel,by decide +kernel⟩
theorem wj:aX ["web","note"] ["web","note"] (aA cj):=⟨rfl,rfl,rfl,by decide +kernel,rfl,by decide +kernel,by decide +kernel⟩
theorem lE:aX ["web","places","place","name"] ["web"] (aA dN):=⟨rfl,rfl,rfl,by decide +kernel,rfl,by decide +kernel,by decide +kernel⟩
theorem nJ:aX ["web","one","other","left"] ["web","one","other"] (aA bT):=⟨rfl,rfl,rfl,by decide +kernel,rfl,by decide +kernel,by decide +kernel⟩
theorem DQ:aX ["named","bare","name"] ["named","bare","name"] (aA d9):=⟨rfl,rfl,rfl,by decide +kernel,rfl,by decide +kernel,by decide +kernel⟩
theorem jG:aX ["web","named","knowns","place","bare","known","earlier"] ["web","named","knowns","place"] (aA cT):=⟨rfl,rfl,rfl,by decide +kernel,rfl,by decide +kernel,by decide +kernel⟩
theorem vQ:aX ["places","some","steps"] ["places","some"] (aA d7):=⟨rfl,rfl,rfl,by decide +kernel,rfl,by decide +kernel,by decide +kernel⟩
theorem dM:aX ["named","steps","sources","step","knowns","place","name","known","source"] ["named","steps"] (aA dO):=⟨rfl,rfl,rfl,by decide +kernel,rfl,by decide +kernel,by decide +kernel⟩
theorem DY:aX ["name","known"] ["name","known"] (aA eF):=⟨rfl,rfl,rfl,by decide +kernel,rfl,by decide +kernel,by decide +kernel⟩
theorem DR:aX ["known","more","hand"] ["known","more"] (aA lH):=⟨rfl,rfl,rfl,by decide +kernel,rfl,by decide +kernel,by decide +kernel⟩
theorem rW:aX ["first","second","one","other","k"] ["first","second","one","other"] (aA cU):=⟨rfl,rfl,rfl,by decide +kernel,rfl,by decide +kernel,by decide +kernel⟩
theorem jz:aX ["script","figures","stir","cell"] ["script"] (aA gj):=⟨rfl,rfl,rfl,by decide +kernel,rfl,by decide +kernel,by decide +kernel⟩
theorem yp:aX ["spring","many","found","stir"] ["spring","many"] (aA lK):=⟨rfl,rfl,rfl,by decide +kernel,rfl,by decide +kernel,by decide +kernel⟩
theorem fW:aX ["spring","most","shape","size","hands","first","room","base","kinds","web","at","hand","kind"] ["spring","most"] (aA oR):=⟨rfl,rfl,rfl,by decide +kernel,rfl,by decide +kernel,by decide +kernel⟩
theorem lQ:aX ["web","many","found","hand","kind","cell"] ["web"] (aA jc):=⟨rfl,rfl,rfl,by decide +kernel,rfl,by decide +kernel,by decide +kernel⟩
theorem Ko:aX ["one","other"] ["one","other"] (aA i_):=⟨rfl,rfl,rfl,by decide +kernel,rfl,by decide +kernel,by decide +kernel⟩
theorem NK:aX ["one","other"] ["one","other"] (aA lJ):=⟨rfl,rfl,rfl,by decide +kernel,rfl,by decide +kernel,by decide +kernel⟩
theorem lO:aX ["web","calls","table","j","row","i"] ["web","calls"] (aA iW):=⟨rfl,rfl,rfl,by decide +kernel,rfl,by decide +kernel,by decide +kernel⟩
theorem iC:aX ["web","calls","table","pairs","j","firsts","i","hand","k","between"] ["web","calls","table"] (aA iZ):=⟨rfl,rfl,rfl,by decide +kernel,rfl,by decide +kernel,by decide +kernel⟩
theorem vg:aX ["note","at","how","one","number"] ["note","at","how"] (aA iY):=⟨rfl,rfl,rfl,by decide +kernel,rfl,by decide +kernel,by decide +kernel⟩
theorem fX:aX ["spring","calls","kind","at","how","to","step","found"] ["spring","calls"] (aA iV):=⟨rfl,rfl,rfl,by decide +kernel,rfl,by decide +kernel,by decide +kernel⟩
theorem iu:aX ["calls","table","note","ends","ahead","behind","place","hand","k"] ["calls","table","note"] (aA gk):=⟨rfl,rfl,rfl,by decide +kernel,rfl,by decide +kernel,by decide +kernel⟩
theorem qX:aX ["spring","calls","table","note","kind","at","places"] ["spring","calls","table","note"] (aA jd):=⟨rfl,rfl,rfl,by decide +kernel,rfl,by decide +kernel,by decide +kernel⟩
theorem m9:aX ["calls","note","one","other"] ["calls","note"] (aA cV):=⟨rfl,rfl,rfl,by decide +kernel,rfl,by decide +kernel,by decide +kernel⟩
theorem eX:aX ["spring","calls","many","found","again","one","other"] ["spring","calls","many"] (aA cu):=⟨rfl,rfl,rfl,by decide +kernel,rfl,by decide +kernel,by decide +kernel⟩
theorem mO:aX ["web","door","note","more","marks","e"] ["web","door","note","more"] (aA eN):=⟨rfl,rfl,rfl,by decide +kernel,rfl,by decide +kernel,by decide +kernel⟩
theorem gG:aX ["script","spring","web","calls","table","named","again","note","some","at","handed","asked","paper","lists"] ["script"] (aA uz):=⟨rfl,rfl,rfl,by decide +kernel,rfl,by decide +kernel,by decide +kernel⟩
section
variable {P:Program} {w:World} {K:PySem.W.Frag} {mg:Str->Option Value} {base:Heap}
def bx (H:Hp) (r:Addr):Prop:=∃f t c:Int,H r=some (.lst [.int f,.int t,.int c])/\0<=f/\0<=t/\t<2305843009213693951/\0<=c
theorem bx.keep {H H':Hp} {r:Addr} (h:bx H r) (k:Same H H'):bx H' r:=by
 obtain ⟨f,t,c,e,q⟩:=h
 exact ⟨f,t,c,k _ _ e,q⟩
theorem bx.keep' {H H':Hp} {r x:Addr} (h:bx H r) (k:Kp x H H') (n:r≠x):bx H' r:=by
 obtain ⟨f,t,c,e,q⟩:=h
 exact ⟨f,t,c,k _ _ e n,q⟩
def m8 (K:PySem.W.Frag):Sp:=fun vs H Q _=>∃(r:Addr) (m:Int),vs=[.ref r,.int m]/\bx H r/\0<m/\m<1073741824 /\ ∀(n:Int) (H':Hp),0<=n->n<m->bx H' r->Kp r H H'->Q (.int n) H'
theorem R_ {f:Addr} {fd:FuncData} (F:lU K "_law_draw" "_law_draw" lK f fd):cI P w K mg base nF 1 f fd ["spring","many"] (m8 K):=by
 refine F.ok yp (fun vs H Q E h=> ?_) (fun cdv A outer s H vs Q E hr h=> ?_)
 ·obtain ⟨r,m,rfl,_⟩:=h
  rfl
 ·obtain ⟨r,m,rfl,⟨f,t,c,hs,hf,ht,qG,hc⟩,m0,m1,k⟩:=h
  refine ⟨_,(aq (cF (bh Ej (aL (aK (K:=K) rfl) (pv 0) au (fun _ _=>rfl)) au (bw _)) (aq (aM (i:=2) yp.nd rfl (Or.inl rfl) (aP nu (aL (aK (K:=K) rfl) (pv 0) au (fun _ _=>rfl)) (pv 1)))
   (aq (qm (aP Ju (aL (aK (K:=K) rfl) (pv 0) au (fun _ _=>rfl)) (pv 1)) (yC (pv 0) au set_list))
   (aF (aY (pv 2))))) bG)
   (aq (qm (aP bU (aL (aK (K:=K) rfl) (pv 0) au (fun _ _=>rfl)) au) (yC (pv 0) au set_list))
   (aq (aM (i:=3) yp.nd rfl (Or.inl rfl) (aP nu (aP yF (aL (aK (K:=K) rfl) (pv 0) au (fun _ _=>rfl)) (aL (aK (K:=K) rfl) (pv 0) au (fun _ _=>rfl))) au))
   (aq (qm (aP nu (aP bU (aP bU (pv 3) (aP yF (aP yF au (aL (aK (K:=K) rfl) (pv 0) au (fun _ _=>rfl))) (aL (aK (K:=K) rfl) (pv 0) au (fun _ _=>rfl)))) au) au) (yC (pv 0) au set_list))
   (aF (aY (aP nu (aP Ju (aL (aK (K:=K) rfl) (pv 0) au (fun _ _=>rfl)) au) (pv 1)))))))), ?_⟩
  refine ⟨_,rfl,_,_,_,_,rfl,rfl,aZ.of hs,rfl,_,_,rfl,rfl,_,rfl, ?_⟩
  refine rN (fun h0=> ?_) (fun h0=> ?_)
  ·
   refine ⟨_,rfl,_,_,_,_,rfl,rfl,aZ.of hs,rfl,_,rfl,_,_,rfl,rfl,m0, ?_⟩
   refine ⟨_,rfl,_,_,_,_,rfl,rfl,aZ.of hs,rfl,_,rfl,_,_,rfl,rfl,⟨m0,m1⟩,_,rfl,_,_,_,_,rfl,rfl,hs,rfl, ?_⟩
   refine ⟨_,rfl, ?_⟩
   exact k _ _ (Int.emod_nonneg _ (by omega)) (Int.emod_lt_of_pos _ m0) ⟨_,_,_,ak,Int.ediv_nonneg hf (by omega),ht,qG,hc⟩ Kp.set
  ·
   refine ⟨_,rfl,_,_,_,_,rfl,rfl,aZ.of hs,rfl,_,_,rfl,rfl,_,rfl,_,_,_,_,rfl,rfl,hs,rfl, ?_⟩
   refine ⟨_,rfl,_,_,_,_,rfl,rfl,aZ.of ak,rfl,_,rfl,_,_,_,_,rfl,rfl,aZ.of ak,rfl,_,_,rfl,rfl,.inl ⟨by omega,by omega⟩,_,_,rfl,rfl,(by show (0:Int)<2305843009213693951;decide), ?_⟩
   refine ⟨_,rfl,_,rfl,_,_,_,_,rfl,rfl,aZ.of ak,rfl,_,_,rfl,rfl,.inl ⟨by decide,by decide⟩,_,rfl,_,_,_,_,rfl,rfl,aZ.of ak,rfl,_,_,rfl,rfl,.inr ⟨by omega,by omega⟩,_,_,rfl,rfl,_,_,rfl,rfl,_,_,rfl,rfl,(by show (0:Int)<2305843009213693951;decide),
    _,rfl,_,_,_,_,rfl,rfl,ak,rfl, ?_⟩
   refine ⟨_,rfl,_,_,_,_,rfl,rfl,aZ.of ak,rfl,_,_,rfl,rfl,(by show aaC _ 65537;exact ⟨by decide,by decide⟩),_,rfl,_,_,rfl,rfl,m0, ?_⟩
   refine k _ _ (Int.emod_nonneg _ (by omega)) (Int.emod_lt_of_pos _ m0) ⟨_,_,_,ak,hf,Int.emod_nonneg _ (by decide),Int.emod_lt_of_pos _ (by decide), ?_⟩ ?_
   ·show 0<=c+1
    omega
   ·rw [wK]
    exact Kp.set
def xZ (K:PySem.W.Frag):Sp:=fun vs H Q _=>∃(a:Addr) (ns:List Int),vs=[.ref a]/\aZ K H a (ns.map V.int)/\ns.length<=63 /\ ∀(r:Addr) (H':Hp),H r=none->bx H' r->Same H H'->Q (.ref r) H'
theorem Ij:Builtin.Int.intBits ((10:Int) ^ ((60:Int).toNat))<=200:=PySem.intBits_le_iff.mpr (by decide)
theorem KD {f:Addr} {fd:FuncData} (F:lU K "_law_spring" "_law_spring" gj f fd) (Bt:uo mg):cI P w K mg base nF 1 f fd ["script"] (xZ K):=by
 refine F.ok jz (fun vs H Q E h=> ?_) (fun cdv A outer s H vs Q E hr h=> ?_)
 ·obtain ⟨a,ns,rfl,_⟩:=h
  rfl
 ·obtain ⟨a,ns,rfl,hs,hlen,k⟩:=h
  refine ⟨_,(aq (aM (i:=1) jz.nd rfl (Or.inl rfl) au)
   (aq (aM (i:=2) jz.nd rfl (Or.inl rfl) au)
   (aq (dB PassesOwn.never rfl (dg (K:=K) rfl (bK (iT (K:=K) rfl) (pv 0) cB (bW au))) (aO (i:=3) jz.nd rfl (Or.inl rfl))
   (aq (cF (bh Ut (aR FT (by rfl) Bt.Vb QJ (aj (pv 3) ao)) (aP yE au au) (bw _)) (aF (aM (i:=1) jz.nd rfl (Or.inl rfl) (aP bU (aP R6 (pv 1) (aP yE au au)) (aP nu (aR FT (by rfl) Bt.Vb QJ (aj (pv 3) ao)) (aP yE au au))))) bG)
   (aF (aM (i:=2) jz.nd rfl (Or.inl rfl) (aP nu (aP bU (aP bU (aP yF (pv 2) au) (aP nu (pv 3) au)) au) au)))))
   (aF (aY (bI (aj (pv 1) (aj (pv 2) (aj au ao))))))))), ?_⟩
  refine ⟨_,rfl,_,rfl,_,_,rfl,hs,fun p hp=> ?_⟩
  have agb:fL (ns.map V.int) none (some 63)=ns.map V.int:=by
   unfold fL
   rw [HT.yq,show (some (63:Int))=some ((63:Nat):Int) from rfl,HT.uD,List.length_map,List.drop_zero,Nat.min_eq_right hlen,Nat.sub_zero,List.take_of_length_le (by simp)]
  rw [agb]
  refine ⟨p,rfl,⟨_,aZ.of ak⟩,nQ (K:=K) (a:=p) (xs:=ns.map V.int) (fun i σ H2=>∃(f t:Int) (v:Option V),σ=[some (.ref a),some (.int f),some (.int t),v]/\H2=upd H p (.lst (ns.map V.int))/\0<=f/\Builtin.Int.intBits f<=201*i/\0<=t/\t<2305843009213693951)
   ⟨0,88651,none,rfl,rfl,by decide,by decide,by decide,by decide⟩ (fun i σ H2 _ ⟨_,_,_,_,e,_⟩=>by rw [e];exact aZ.of ak) ?_ ?_⟩
  ·rintro i y σ H2 hi ⟨f,t,v,rfl,rfl,hf,hb,ht,qG⟩
   have hil:i<ns.length:=by have:=(List.getElem?_eq_some_iff.mp hi).1;rwa [List.length_map] at this
   obtain ⟨z,rfl⟩:∃z,y=V.int z:=by
    rw [List.getElem?_map] at hi
    cases e:ns[i]? with
    | none=>rw [e] at hi;cases hi
    | some z=>rw [e] at hi;exact ⟨z,(Option.some.inj hi).symm⟩
   refine ⟨_,rfl,_,rfl,_,_,rfl,rfl,(by show Ue 10 18;exact ⟨by decide,by decide,by decide⟩),_,_,rfl,rfl,_,rfl, ?_⟩
   have hcp:Ue 10 60:=⟨by decide,by decide,by decide⟩
   refine rN (fun _=> ?_) (fun _=> ?_)
   ·have hmul:IntMulOk f ((10:Int) ^ ((60:Int).toNat)):=IntMulOk.of_le hb Ij (by omega)
    have hpos:(0:Int)<(10:Int) ^ ((60:Int).toNat):=by decide
    have habs:(0:Int)<=(if z<0 then -z else z) % ((10:Int) ^ ((60:Int).toNat)):=Int.emod_nonneg _ (Int.ne_of_gt hpos)
    have ZF:Builtin.Int.intBits ((if z<0 then -z else z) % ((10:Int) ^ ((60:Int).toNat)))<=200:=
     PySem.intBits_le_of_natAbs (y:=(10:Int) ^ ((60:Int).toNat)) (by have:=Int.emod_lt_of_pos (if z<0 then -z else z) hpos;omega) Ij
    refine ⟨_,rfl,_,_,rfl,rfl,hcp,_,_,rfl,rfl,hmul,_,rfl,_,rfl,_,_,rfl,rfl,hcp,_,_,rfl,rfl,hpos,_,_,rfl,rfl, ?_⟩
    refine ⟨_,rfl,_,_,rfl,rfl,.inr ⟨by decide,by decide⟩,_,rfl,_,_,rfl,rfl,(by show (0:Int)<2305843009213693921;decide),_,_,rfl,rfl,_,_,rfl,rfl,_,_,rfl,rfl,(by show (0:Int)<2305843009213693951;decide), ?_⟩
    refine ⟨_,_,_,rfl,rfl,Int.add_nonneg (Int.mul_nonneg hf (Int.le_of_lt hpos)) habs, ?_,Int.emod_nonneg _ (by decide),Int.emod_lt_of_pos _ (by decide)⟩
    have q:=PySem.intBits_add_le (PySem.intBits_mul_le hb Ij) ZF
    have:max (201*i+200) 200+1=201*(i+1):=by omega
    rw [this] at q
    exact q
   ·refine ⟨_,rfl,_,_,rfl,rfl,.inr ⟨by decide,by decide⟩,_,rfl,_,_,rfl,rfl,(by show (0:Int)<2305843009213693921;decide),_,_,rfl,rfl,_,_,rfl,rfl,_,_,rfl,rfl,(by show (0:Int)<2305843009213693951;decide), ?_⟩
    exact ⟨_,_,_,rfl,rfl,hf,by omega,Int.emod_nonneg _ (by decide),Int.emod_lt_of_pos _ (by decide)⟩
  ·rintro σ H2 ⟨f,t,v,rfl,rfl,hf,hb,ht,qG⟩
   refine ⟨_,rfl,_,rfl,(by show 3<=sizeLine;decide),fun r hr'=> ?_⟩
   exact k r _ ((aB hp).free hr') ⟨f,t,0,ak,hf,ht,qG,by decide⟩ ((aB hp).trans (aB hr'))
abbrev bD:=Int×Str×Int
def tD (x:bD):PyData:= .tuple [.int x.1,.str x.2.1,.int x.2.2]
theorem yS (x:bD):Mt (tD x)=true:=rfl
def qO (x:bD):Prop:=(0<=x.1/\x.1<8)/\(x.2.1 = "load" \/ x.2.1 = "store" \/ x.2.1 = "swap")/\(0<=x.2.2/\x.2.2<20)
theorem Tz {H:Hp} {t:Addr} {x:bD} (h:H t=some (.tup [.int x.1,.str x.2.1,.int x.2.2])):Dat H (.ref t) (tD x):=by
 simp only [tD,Dat]
 exact ⟨t,_,rfl,h,by simp only [aH,Dat,and_self]⟩
theorem uL {H:Hp} {v:V} {d:PyData} (h:Dat H v d):aH H [v] [d]:=by
 simp only [aH,and_true]
 exact h
def cJ (H:Hp) (a:Addr) (ws:List bD):Prop:=∃vs,H a=some (.lst vs)/\aH H vs (ws.map tD)
theorem cJ.same {H H':Hp} {a:Addr} {ws:List bD} (h:cJ H a ws) (k:Same H H'):cJ H' a ws:=by
 obtain ⟨vs,e,d⟩:=h
 exact ⟨vs,k _ _ e,aH.keep k.tups _ (bA _ yS ws) d⟩
theorem cJ.kp {H H':Hp} {a r:Addr} {ws:List bD} {ys:List V} (h:cJ H a ws) (hr:H r=some (.lst ys)) (k:Kp r H H') (n:a≠r):cJ H' a ws:=by
 obtain ⟨vs,e,d⟩:=h
 exact ⟨vs,k _ _ e n,aH.keep (k.tups hr) _ (bA _ yS ws) d⟩
theorem cJ.v8 {H H':Hp} {a r:Addr} {ws:List bD} (h:cJ H a ws) (hr:bx H r) (k:Kp r H H') (n:a≠r):cJ H' a ws:=by
 obtain ⟨f,t,c,e,_⟩:=hr
 exact h.kp e k n
def Np (K:PySem.W.Frag):Sp:=fun vs H Q _=>∃(r:Addr) (most:Int),vs=[.ref r,.int most]/\bx H r/\0<=most/\most<=300 /\
 ∀(a:Addr) (ws:List bD) (H':Hp),H a=none->cJ H' a ws->(∀x∈ws,qO x)->ws.length<=300->bx H' r->Kp r H H'->Q (.ref a) H'
theorem Zc (most:Int) (h0:0<=most) (h1:most<=300) (b1 b2:Bool):∃v:Int,Iv [V.int 31,V.int 101,V.int (most+1)] ((if b1 then 1 else 0)+(if b2 then 1 else 0))=some (V.int v)/\0<v/\v<=301:=by
 cases b1<;>cases b2
 ·exact ⟨31,rfl,by decide,by decide⟩
 ·exact ⟨101,rfl,by decide,by decide⟩
 ·exact ⟨101,rfl,by decide,by decide⟩
 ·exact ⟨most+1,rfl,by omega,by omega⟩
theorem Zb (n:Int) (h0:0<=n) (h1:n<5):∃v:Int,Iv [V.int 1,V.int 2,V.int 3,V.int 5,V.int 20] n=some (V.int v)/\0<v/\v<=20:=by
 have:n=0\/n=1\/n=2\/n=3\/n=4:=by omega
 rcases this with rfl|rfl|rfl|rfl|rfl
 ·exact ⟨1,rfl,by decide,by decide⟩
 ·exact ⟨2,rfl,by decide,by decide⟩
 ·exact ⟨3,rfl,by decide,by decide⟩
 ·exact ⟨5,rfl,by decide,by decide⟩
 ·exact ⟨20,rfl,by decide,by decide⟩
def KindsOk (ks:List Str):Prop:=0<ks.length/\ks.length<=6 /\ ∀k∈ks,k = "load" \/ k = "store" \/ k = "swap"
theorem T6 {α:Type} {xs:List α} {n:Int} (h0:0<=n) (h1:n<xs.length):∃v,Iv xs n=some v/\xs[n.toNat]? = some v:=by
 obtain ⟨m,rfl⟩:=Int.eq_ofNat_of_zero_le h0
 have:m<xs.length:=by omega
 exact ⟨xs[m],bM (by simp [this]),by simp [this]⟩
def wSt (a0:Addr) (a1:Int) (a2:Int) (a3:Int) (a4:Int) (a5:Int) (a6:Int) (a7:Int) (a8:Addr) (x9:Option V) (x10:Option V) (x11:Option V) (x12:Option V):St:=[some (.ref a0),some (.int a1),some (.int a2),some (.int a3),some (.int a4),some (.int a5),some (.int a6),some (.int a7),some (.ref a8),x9,x10,x11,x12]
theorem Wd {f:Addr} {fd:FuncData} (F:lU K "_law_web" "_law_web" oR f fd) (bH:FnAt P w K mg base 1 "_law_draw" ["spring","many"] (m8 K)) (Bt:uo mg):cI P w K mg base nF 2 f fd ["spring","most"] (Np K):=by
 refine F.ok fW (fun vs H Q E h=> ?_) (fun cdv A outer s H vs Q E hr h=> ?_)
 ·obtain ⟨r,m,rfl,_⟩:=h
  rfl
 ·obtain ⟨r,most,rfl,S0,mo0,mo1,k⟩:=h
  refine ⟨_,(aq (aM (i:=2) fW.nd rfl (Or.inl rfl) (aW bH (hr.mono (by decide)) (by rfl) (aj (pv 0) (aj au ao))))
   (aq (aM (i:=3) fW.nd rfl (Or.inl rfl) (aW bH (hr.mono (by decide)) (by rfl) (aj (pv 0) (aj (aL (aK (K:=K) rfl) (bI (aj au (aj au (aj (aP bU (pv 1) au) ao)))) (aP bU (jA A_ (by rfl) Bt.QV Ih (aj (cW mz (aP nu (pv 2) au) au (bw _)) ao)) (jA A_ (by rfl) Bt.QV Ih (aj (cW mz (pv 2) au (bw _)) ao))) (fun _ _=>rfl)) ao))))
   (aq (aM (i:=4) fW.nd rfl (Or.inl rfl) (aP bU au (aW bH (hr.mono (by decide)) (by rfl) (aj (pv 0) (aj au ao)))))
   (aq (aM (i:=5) fW.nd rfl (Or.inl rfl) (aW bH (hr.mono (by decide)) (by rfl) (aj (pv 0) (aj au ao))))
   (aq (aM (i:=6) fW.nd rfl (Or.inl rfl) (aL (aK (K:=K) rfl) (bI (aj au (aj au (aj au (aj au (aj au ao)))))) (aW bH (hr.mono (by decide)) (by rfl) (aj (pv 0) (aj au ao))) (fun _ _=>rfl)))
   (aq (aM (i:=7) fW.nd rfl (Or.inl rfl) (aW bH (hr.mono (by decide)) (by rfl) (aj (pv 0) (aj au ao))))
   (aq (aM (i:=8) fW.nd rfl (Or.inl rfl) (bI (aj iy (aj iy (aj iy ao)))))
   (aq (cF (bh mz (aW bH (hr.mono (by decide)) (by rfl) (aj (pv 0) (aj au ao))) au (bw _)) (aF (aM (i:=8) fW.nd rfl (Or.inl rfl) (bI (aj iy (aj iy (aj iy (aj iy (aj iy (aj iy ao))))))))) bG)
   (aq (aM (i:=9) fW.nd rfl (Or.inl rfl) (bI ao))
   (aq (dB PassesOwn.never rfl (dD (by rfl) Bt.dX (aj (pv 3) ao)) (aO (i:=10) fW.nd rfl (Or.inl rfl))
   (aq (aM (i:=11) fW.nd rfl (Or.inl rfl) (aP nu (aP bU (pv 5) (aW bH (hr.mono (by decide)) (by rfl) (aj (pv 0) (aj (pv 4) ao)))) au))
   (aq (aM (i:=12) fW.nd rfl (Or.inl rfl) (aL (aK (K:=K) rfl) (pv 8) (aW bH (hr.mono (by decide)) (by rfl) (aj (pv 0) (aj (aR (bB (K:=K) rfl) (by rfl) Bt.jZ fQ (aj (pv 8) ao)) ao))) (fun _ _=>rfl)))
   (aF (cA (cM (K:=K) rfl (pv 9) (aj (dh (aj (pv 11) (aj (pv 12) (aj (aP nu (aP bU (pv 7) (aW bH (hr.mono (by decide)) (by rfl) (aj (pv 0) (aj (pv 6) ao)))) au) ao)))) ao)))))))
   (aF (aY (pv 9))))))))))))), ?_⟩
  refine oN (fun R g=> ?_)
  refine ⟨_,rfl,r,32,rfl,S0,by decide,by decide,fun n1 H1 a1 b1 S1 k1=> ?_⟩
  refine g _ _ ?_
  refine oN (fun R g=> ?_)
  refine ⟨_,rfl,_,rfl,_,_,rfl,rfl,(by show 3<=sizeLine;decide),fun p hp=> ?_⟩
  obtain ⟨v1,e1,v10,v11⟩:=Zc most mo0 mo1 (decide (V.int (n1 % 8)=V.int 7)) (decide (V.int n1=V.int 31))
  have Uk:=aB (o:=HO.lst [V.int 31,V.int 101,V.int (most+1)]) hp
  have S1':=S1.keep Uk
  refine ⟨_,rfl,_,_,rfl,rfl,(by show (0:Int)<8;decide),rfl,Or.inr ⟨_,rfl,_,rfl,rfl,Or.inr ⟨_,rfl,_,_,rfl,rfl,_,_,_,_,rfl,rfl,aZ.of ak,e1, ?_⟩⟩⟩
  refine ⟨r,v1,rfl,S1',v10,by omega,fun n2 H2 a2 b2 S2 k2=> ?_⟩
  refine g _ _ ?_
  refine oN (fun R g=> ?_)
  refine ⟨_,rfl,r,8,rfl,S2,by decide,by decide,fun n3 H3 a3 b3 S3 k3=>⟨_,_,rfl,rfl, ?_⟩⟩
  refine g _ _ ?_
  refine oN (fun R g=> ?_)
  refine ⟨_,rfl,r,8,rfl,S3,by decide,by decide,fun n4 H4 a4 b4 S4 k4=> ?_⟩
  refine g _ _ ?_
  refine oN (fun R g=> ?_)
  refine ⟨(by show 5<=sizeLine;decide),fun p2 hp2=> ?_⟩
  have Kl:=aB (o:=HO.lst [V.int 1,V.int 2,V.int 3,V.int 5,V.int 20]) hp2
  refine ⟨_,rfl,r,5,rfl,S4.keep Kl,by decide,by decide,fun n5 H5 a5 b5 S5 k5=> ?_⟩
  obtain ⟨v2,e2,v20,v21⟩:=Zb n5 a5 b5
  have np2:p2≠r:=by
   obtain ⟨f,t,c,e,_⟩:=S4
   exact (aD e hp2).symm
  refine ⟨_,_,_,_,rfl,rfl,aZ.of (k5 _ _ ak np2),e2, ?_⟩
  refine g _ _ ?_
  refine oN (fun R g=> ?_)
  refine ⟨_,rfl,r,20,rfl,S5,by decide,by decide,fun n6 H6 a6 b6 S6 k6=> ?_⟩
  refine g _ _ ?_
  have kk:Kp r H H6:=((((((k1.trans (.of_same Uk)).trans k2).trans k3).trans k4).trans (.of_same Kl)).trans k5).trans k6
  refine oN (fun R g=> ?_)
  refine ⟨(by show 3<=sizeLine;decide),fun q hq=> ?_⟩
  have sm3:=aB (o:=HO.lst [V.str "load",V.str "store",V.str "swap"]) hq
  refine g _ _ ?_
  have nq:q≠r:=by
   obtain ⟨f,t,c,e,_⟩:=S6
   exact (aD e hq).symm
  refine ⟨_,rfl,r,3,rfl,S6.keep sm3,by decide,by decide,fun n7 H7 a7 b7 S7 k7=> ?_⟩
  have rest:∀(kd:Addr) (ks:List Str) (H8:Hp),KindsOk ks->kd≠r->H8 kd=some (.lst (ks.map V.str))->bx H8 r->Kp r H H8 ->
   ∀t:TS,t=Bo (Kd (Vo xU) (jU 9)) (Bo (Yo (UG (jQ (jP 3) xU)) (jU 10)
    (Bo (Kd (Bp (rI (fun _ j=>0<j) fun i j=>V.int (i % j)) (Bp (Ro fun i j=>V.int (i+j)) (jP 5) (DP (m8 K) [] E0 (jQ (jP 0) (jQ (jP 4) xU)))) (tC (V.int 8))) (jU 11))
      (Bo (Kd (Bp (RM K) (jP 8) (DP (m8 K) [] E0 (jQ (jP 0) (jQ (tCB (YF K) (jQ (jP 8) xU)) xU)))) (jU 12))
        (Uj (tBM K "list" Ca (jP 9) (jQ (Vk (jQ (jP 11) (jQ (jP 12) (jQ (Bp (rI (fun _ j=>0<j) fun i j=>V.int (i % j)) (Bp (Ro fun i j=>V.int (i+j)) (jP 7) (DP (m8 K) [] E0 (jQ (jP 0) (jQ (jP 6) xU)))) (tC (V.int 20))) xU)))) xU))))))
    (Ni (jP 9))) ->
   t {nx:=fun _ H'=>Q .non H',rt:=Q} (wSt r most n1 n2 (1+n3) n4 v2 n6 kd none none none none) H8:=by
   intro kd ks H8 hks nk hk S8 k8 t et
   subst et
   refine ⟨(by show 0<=sizeLine;decide),fun w hw=> ?_⟩
   have Kh:=aB (o:=HO.lst []) hw
   have nw:w≠r:=by
    obtain ⟨f,t,c,e,_⟩:=S8
    exact (aD e hw).symm
   have nwk:w≠kd:=(aD hk hw).symm
   have fresh:H w=none:=by
    cases e:H w with
    | none=>rfl
    | some o=>rw [k8 w o e nw] at hw;cases hw
   refine ⟨_,rfl,n2,rfl,by omega,by omega,iG (lo:=0) (n:=n2.toNat) (fun i σ H2=>∃(ws:List bD) (x1 x2 x3:Option V),σ=(wSt r most n1 n2 (1+n3) n4 v2 n6 kd (some (.ref w)) x1 x2 x3) /\
    cJ H2 w ws/\(∀x∈ws,qO x)/\ws.length=i/\bx H2 r/\Kp r H H2/\H2 kd=some (.lst (ks.map V.str)))
    ⟨[],none,none,none,rfl,⟨[],ak,by simp only [List.map_nil,aH]⟩,by simp,rfl,S8.keep Kh,k8.trans (.of_same Kh),Kh _ _ hk⟩ ?_ ?_⟩
   ·rintro i σ H2 hi ⟨ws,x1,x2,x3,rfl,W2,ok2,len2,S2',kp2,hk2⟩
    refine ⟨_,rfl,_,rfl,_,rfl,r,_,rfl,S2',by omega,by omega,fun m1 G1 c1 d1 T1 j1=>⟨_,_,rfl,rfl,_,_,rfl,rfl,(by show (0:Int)<8;decide), ?_⟩⟩
    have hk3:=j1 _ _ hk2 nk
    refine ⟨_,rfl,_,rfl,_,rfl,kd,_,rfl,.inl (aZ.of hk3),r,_,rfl,T1, ?_, ?_,fun m2 G2 c2 d2 T2 j2=> ?_⟩
    ·have:=hks.1;rw [List.length_map];omega
    ·have:=hks.2.1;rw [List.length_map];omega
    rw [List.length_map] at d2
    obtain ⟨kv,ek,ek'⟩:=T6 (xs:=ks.map V.str) c2 (by rw [List.length_map];exact d2)
    obtain ⟨kind,ZP,rfl⟩:∃kind,ks[m2.toNat]? = some kind/\V.str kind=kv:=by
     rw [List.getElem?_map] at ek'
     cases e:ks[m2.toNat]? with
     | none=>rw [e] at ek';cases ek'
     | some z=>rw [e] at ek';exact ⟨z,rfl,Option.some.inj ek'⟩
    have hk4:=j2 _ _ hk3 nk
    refine ⟨_,_,_,_,rfl,rfl,aZ.of hk4,ek, ?_⟩
    have W3:=(W2.v8 S2' j1 nw).v8 T1 j2 nw
    obtain ⟨vs3,hw3,dt3⟩:=id W3
    refine ⟨_,rfl,.inl ⟨rfl,_,aZ.of hw3⟩,_,rfl,_,rfl,_,rfl,_,rfl,_,rfl,r,v2,rfl,T2,v20,by omega,fun m3 G3 c3 d3 T3 j3=>⟨_,_,rfl,rfl,_,_,rfl,rfl,(by show (0:Int)<20;decide),(by show 3<=sizeLine;decide),fun tp htp=> ?_⟩⟩
    have W4:=W3.v8 T2 j3 nw
    have smt:=aB (o:=HO.tup [V.int ((n4+m1) % 8),V.str kind,V.int ((n6+m3) % 20)]) htp
    obtain ⟨vs5,Zt,dt5⟩:=W4.same smt
    have aeN:vs5.length=i:=by rw [dt5.length,List.length_map,len2]
    refine ⟨w,vs5,_,rfl,rfl,Zt,(by rw [aeN,sizeLine_eq];omega), ?_⟩
    have wz:Kp w (upd G3 tp (HO.tup [V.int ((n4+m1) % 8),V.str kind,V.int ((n6+m3) % 20)])) (upd (upd G3 tp (HO.tup [V.int ((n4+m1) % 8),V.str kind,V.int ((n6+m3) % 20)])) w (HO.lst (vs5++[V.ref tp]))):=Kp.set
    refine ⟨ws++[((n4+m1) % 8,kind,(n6+m3) % 20)],_,_,_,rfl,⟨_,ak, ?_⟩, ?_, ?_, ?_, ?_, ?_⟩
    ·rw [List.map_append]
     refine aH.append (aH.keep (wz.tups Zt) _ (bA _ yS ws) dt5) ?_
     exact uL (Tz (x:=((n4+m1) % 8,kind,(n6+m3) % 20)) (wz _ _ ak (lA ak Zt (by intro z;cases z))))
    ·intro x hx
     rcases List.mem_append.mp hx with hx|hx
     ·exact ok2 x hx
     ·rw [List.mem_singleton] at hx
      subst hx
      exact ⟨⟨Int.emod_nonneg _ (by decide),Int.emod_lt_of_pos _ (by decide)⟩,hks.2.2 kind (List.mem_of_getElem? ZP),⟨Int.emod_nonneg _ (by decide),Int.emod_lt_of_pos _ (by decide)⟩⟩
    ·rw [List.length_append,len2];rfl
    ·exact (T3.keep smt).keep' wz nw.symm
    ·have u1:Kp r H G3:=((kp2.trans j1).trans j2).trans j3
     intro b o e n
     refine wz b o (smt b o (u1 b o e n)) ?_
     rintro rfl
     rw [fresh] at e
     cases e
    ·exact wz _ _ (smt _ _ (j3 _ _ hk4 nk)) nwk.symm
   ·rintro σ H2 ⟨ws,x1,x2,x3,rfl,W2,ok2,len2,S2',kp2,hk2⟩
    exact ⟨_,rfl,k w ws H2 fresh W2 ok2 (by omega) S2' kp2⟩
  refine ⟨rfl,_,rfl, ?_⟩
  have X3:=k7 _ _ (ak (H:=H6) (a:=q) (o:=HO.lst [V.str "load",V.str "store",V.str "swap"])) nq
  have k67:Kp r H H7:=(kk.trans (.of_same sm3)).trans k7
  refine rN (fun _=> ?_) (fun _=> ?_)
  ·refine ⟨(by show 6<=sizeLine;decide),fun q2 hq2=> ?_⟩
   have VD:=aB (o:=HO.lst [V.str "load",V.str "load",V.str "load",V.str "load",V.str "store",V.str "swap"]) hq2
   have nq2:q2≠r:=by
    obtain ⟨f,t,c,e,_⟩:=S7
    exact (aD e hq2).symm
   exact rest q2 ["load","load","load","load","store","swap"] _ ⟨by decide,by decide,by simp⟩ nq2 ak (S7.keep VD) (k67.trans (.of_same VD)) _ rfl
  ·exact rest q ["load","store","swap"] _ ⟨by decide,by decide,by simp⟩ nq X3 S7 k67 _ rfl
theorem qJ {H:Hp} {v:V} {x:bD} (h:Dat H v (tD x)):∃t,v = .ref t/\H t=some (.tup [.int x.1,.str x.2.1,.int x.2.2]):=by
 simp only [tD,Dat] at h
 obtain ⟨t,vs,e,q,d⟩:=h
 match vs,d with
 | [a,b,c],d=>
   simp only [aH,Dat,and_true] at d
   obtain ⟨rfl,rfl,rfl⟩:=d
   exact ⟨t,e,q⟩
 | [],d=>simp only [aH] at d
 | [_],d=>simp only [aH,and_false] at d
 | [_,_],d=>simp only [aH,and_false] at d
 | _::_::_::_::_,d=>simp only [aH,and_false] at d
theorem Xf (x y:bD):PyData.eqv (tD x) (tD y)=decide (x=y):=by
 obtain ⟨a,b,c⟩:=x
 obtain ⟨a',b',c'⟩:=y
 simp only [tD,PyData.eqv,PyData.eqvAll,Bool.and_true]
 by_cases e1:a=a'
 ·subst e1
  by_cases e2:b=b'
  ·subst e2
   by_cases e3:c=c'
   ·subst e3;simp
   ·simp [e3]
  ·simp [e2]
 ·simp [e1]
theorem G5 {ws:List bD} (ok:∀x∈ws,qO x):SeqAt.shaped (.list (ws.map tD))=true:=by
 refine jR tD 1 (by decide) (fun x hx=> ?_) (fun x _=>by show (max 0 (max 0 (max 0 0)))+1<=1;decide)
 have e:PyData.canLay0 (tD x)=(true&&(PyData.strOk x.2.1&&(true&&true))):=rfl
 rw [e]
 rcases (ok x hx).2.1 with q|q|q<;>rw [q]<;>decide +kernel
theorem lB {H:Hp} {a:Addr} {ws:List bD} {i:Nat} {x:bD} (h:cJ H a ws) (e:ws[i]? = some x):∃vs t,H a=some (.lst vs)/\vs[i]? = some (.ref t)/\H t=some (.tup [.int x.1,.str x.2.1,.int x.2.2]):=by
 obtain ⟨vs,ha,d⟩:=h
 obtain ⟨v,ev,dv⟩:=d.getD (i:=i) (d:=tD x) (by rw [List.getElem?_map,e];rfl)
 obtain ⟨t,rfl,ht⟩:=qJ dv
 exact ⟨vs,t,ha,ev,ht⟩
def mt (x y:bD):Bool:=if x.1=y.1 then false else if x.2.2=y.2.2 then (if x.2.1 = "load" then !decide (y.2.1 = "load") else true) else false
def GX (K:PySem.W.Frag):Sp:=fun vs H Q _=>∃(a b:Addr) (x y:bD),vs=[.ref a,.ref b]/\H a=some (.tup [.int x.1,.str x.2.1,.int x.2.2])/\H b=some (.tup [.int y.1,.str y.2.1,.int y.2.2])/\Q (.bl (mt x y)) H
theorem Jz {K:PySem.W.Frag} {a b:Addr} {x y:bD} {H:Hp} {Q:VK} (ha:H a=some (.tup [.int x.1,.str x.2.1,.int x.2.2])) (hb:H b=some (.tup [.int y.1,.str y.2.1,.int y.2.2])) (k:Q (.bl (mt x y)) H) {D:Ends} (hD:D.rt=Q):
 (Bo (Yn (tOr (Nh (Bp rEq (Bp (B_ K) (jP 0) (tC (.int 0))) (Bp (B_ K) (jP 1) (tC (.int 0))))) (Nh (Bp rNe (Bp (B_ K) (jP 0) (tC (.int 2))) (Bp (B_ K) (jP 1) (tC (.int 2)))))) (Ni (tC (.bl false))) Nj)
   (Ni (Yl (Bp rNe (Bp (B_ K) (jP 0) (tC (.int 1))) (tC (.str "load"))) (Bp rNe (Bp (B_ K) (jP 1) (tC (.int 1))) (tC (.str "load")))))) D [some (.ref a),some (.ref b)] H:=by
 refine ⟨_,rfl,_,_,_,_,rfl,rfl,cD.of ha,rfl,_,rfl,_,_,_,_,rfl,rfl,cD.of hb,rfl,rfl,_,rfl, ?_⟩
 refine rN (fun h1=> ?_) (fun h1=> ?_)
 ·have e:x.1=y.1:=by injection (of_decide_eq_true h1)
  have em:mt x y=false:=by unfold mt;rw [if_pos e]
  refine (show D.rt (.bl false) H from ?_)
  rw [hD,←em]
  exact k
 ·have e:¬x.1=y.1:=fun z=>h1 (decide_eq_true (by rw [z]))
  refine ⟨_,rfl,_,_,_,_,rfl,rfl,cD.of ha,rfl,_,rfl,_,_,_,_,rfl,rfl,cD.of hb,rfl,rfl,_,rfl, ?_⟩
  by_cases e2:x.2.2=y.2.2
  ·refine Ao (by rw [e2]) ?_
   refine ⟨_,rfl,_,_,_,_,rfl,rfl,cD.of ha,rfl,rfl,_,rfl, ?_⟩
   by_cases e3:x.2.1 = "load"
   ·refine Ao (by rw [e3]) ?_
    refine ⟨_,rfl,_,_,_,_,rfl,rfl,cD.of hb,rfl,rfl, ?_⟩
    have em:mt x y = !decide (V.str y.2.1=V.str "load"):=by
     unfold mt
     rw [if_neg e,if_pos e2,if_pos e3]
     congr 1
     rw [Bool.eq_iff_iff,decide_eq_true_iff,decide_eq_true_iff]
     exact ⟨fun z=>by rw [z],fun z=>by injection z⟩
    rw [←em,hD]
    exact k
   ·have ne:¬V.str x.2.1=V.str "load" :=fun z=>e3 (by injection z)
    rw [decide_eq_false ne]
    refine cQ ?_
    have em:mt x y=true:=by unfold mt;rw [if_neg e,if_pos e2,if_neg e3]
    rw [←em,hD]
    exact k
  ·have ne:¬V.int x.2.2=V.int y.2.2:=fun z=>e2 (by injection z)
   rw [decide_eq_false ne]
   refine cQ ?_
   have em:mt x y=false:=by unfold mt;rw [if_neg e,if_neg e2]
   refine (show D.rt (.bl false) H from ?_)
   rw [hD,←em]
   exact k
theorem wu {f:Addr} {fd:FuncData} (F:lU K "touches_meet" "touches_meet" b_ f fd):cI P w K mg base nF 1 f fd ["one","other"] (GX K):=by
 refine F.ok v9 (fun vs H Q E h=> ?_) (fun cdv A outer s H vs Q E hr h=> ?_)
 ·obtain ⟨a,b,x,y,rfl,_⟩:=h
  rfl
 ·obtain ⟨a,b,x,y,rfl,ha,hb,k⟩:=h
  exact ⟨_,(aq (cF (PW.pt (nM (bh mz (aL (aN (K:=K) rfl) (pv 0) au (fun _ _=>rfl)) (aL (aN (K:=K) rfl) (pv 1) au (fun _ _=>rfl)) (bw _)) (lY (bh mQ (aL (aN (K:=K) rfl) (pv 0) au (fun _ _=>rfl)) (aL (aN (K:=K) rfl) (pv 1) au (fun _ _=>rfl)) (bw _))))) (aF (aY iD)) bG)
   (aF (aY (Jt (cW mQ (aL (aN (K:=K) rfl) (pv 0) au (fun _ _=>rfl)) iy (bw _)) (nj (cW mQ (aL (aN (K:=K) rfl) (pv 1) au (fun _ _=>rfl)) iy (bw _))))))),Jz (K:=K) ha hb k rfl⟩
theorem KY {f:Addr} {fd:FuncData} (F:lU K "_law_meets" "_law_meets" i_ f fd):cI P w K mg base nF 1 f fd ["one","other"] (GX K):=by
 refine F.ok Ko (fun vs H Q E h=> ?_) (fun cdv A outer s H vs Q E hr h=> ?_)
 ·obtain ⟨a,b,x,y,rfl,_⟩:=h
  rfl
 ·obtain ⟨a,b,x,y,rfl,ha,hb,k⟩:=h
  exact ⟨_,(aq (cF (PW.pt (nM (bh mz (aL (aN (K:=K) rfl) (pv 0) au (fun _ _=>rfl)) (aL (aN (K:=K) rfl) (pv 1) au (fun _ _=>rfl)) (bw _)) (lY (bh mQ (aL (aN (K:=K) rfl) (pv 0) au (fun _ _=>rfl)) (aL (aN (K:=K) rfl) (pv 1) au (fun _ _=>rfl)) (bw _))))) (aF (aY iD)) bG)
   (aF (aY (Jt (cW mQ (aL (aN (K:=K) rfl) (pv 0) au (fun _ _=>rfl)) iy (bw _)) (nj (cW mQ (aL (aN (K:=K) rfl) (pv 1) au (fun _ _=>rfl)) iy (bw _))))))),Jz (K:=K) ha hb k rfl⟩
def Vu (ws:List bD) (i j:Nat):Bool:=match ws[i]?,ws[j]? with |some x,some y=>decide (x.1=y.1)||mt x y|_,_=>false
def lC (ws:List bD) (i j:Nat):Bool:=decide (i<j)&&Vu ws i j
theorem m7 {ws:List bD} {i j:Nat} (h:lC ws i j=true):i<j/\j<ws.length:=by
 unfold lC Vu at h
 simp only [Bool.and_eq_true,decide_eq_true_eq] at h
 refine ⟨h.1, ?_⟩
 by_cases l:j<ws.length
 ·exact l
 ·have e:ws[j]? = none:=by simp;(clear h;omega)
  rw [e] at h
  cases ws[i]? <;> simp at h
theorem o7 {vs:List V} {i:Nat} {v:V} (h:vs[i]? = some v):Iv vs (i:Int)=some v:=bM h
def xY (K:PySem.W.Frag):Sp:=fun vs H Q _=>∃(a:Addr) (ws:List bD) (i j:Nat),vs=[.ref a,.int i,.int j]/\cJ H a ws/\i<ws.length/\j<ws.length/\Q (.bl (lC ws i j)) H
theorem Hl {f:Addr} {fd:FuncData} (F:lU K "is_step" "is_step" fZ f fd) (mK:FnAt P w K mg base 1 "touches_meet" ["one","other"] (GX K)):cI P w K mg base nF 2 f fd ["web","place","later"] (xY K):=by
 refine F.ok G7 (fun vs H Q E h=> ?_) (fun cdv A outer s H vs Q E hr h=> ?_)
 ·obtain ⟨a,ws,i,j,rfl,_⟩:=h
  rfl
 ·obtain ⟨a,ws,i,j,rfl,W,hi,hj,k⟩:=h
  refine ⟨_,(aq (cF (bh Ut (pv 1) (pv 2) (bw _)) (aF (aY iD)) bG)
   (aF (aY (Jt (cW mz (aL (aN (K:=K) rfl) (aL (aK (K:=K) rfl) (pv 0) (pv 1) (fun _ _=>rfl)) au (fun _ _=>rfl)) (aL (aN (K:=K) rfl) (aL (aK (K:=K) rfl) (pv 0) (pv 2) (fun _ _=>rfl)) au (fun _ _=>rfl)) (bw _)) (nj (aW mK (hr.mono (by decide)) (by rfl) (aj (aL (aK (K:=K) rfl) (pv 0) (pv 1) (fun _ _=>rfl)) (aj (aL (aK (K:=K) rfl) (pv 0) (pv 2) (fun _ _=>rfl)) ao)))))))), ?_⟩
  refine ⟨_,rfl,_,rfl,_,_,rfl,rfl,_,rfl, ?_⟩
  by_cases l:i<j
  ·rw [decide_eq_false (show ¬(j:Int)<=(i:Int) by omega)]
   refine cH ?_
   obtain ⟨x,ex⟩:∃x,ws[i]? = some x:=⟨ws[i],by simp [hi]⟩
   obtain ⟨y,ey⟩:∃y,ws[j]? = some y:=⟨ws[j],by simp [hj]⟩
   obtain ⟨vs,t1,ha,e1,ht1⟩:=lB W ex
   obtain ⟨vs',t2,ha',e2,qG⟩:=lB W ey
   have ev:vs=vs':=by rw [ha] at ha';injection ha' with q;injection q
   subst ev
   have es:lC ws i j=(decide (x.1=y.1)||mt x y):=by unfold lC Vu;rw [ex,ey,decide_eq_true l,Bool.true_and]
   refine ⟨_,rfl,_,rfl,_,_,_,_,rfl,rfl,aZ.of ha,o7 e1,_,_,_,_,rfl,rfl,cD.of ht1,rfl,_,rfl,_,rfl,_,_,_,_,rfl,rfl,aZ.of ha,o7 e2,_,_,_,_,rfl,rfl,cD.of qG,rfl,rfl,_,rfl, ?_⟩
   by_cases q:x.1=y.1
   ·rw [show decide (V.int x.1=V.int y.1)=true by simp [q]]
    refine cQ ?_
    rw [decide_eq_true q,Bool.true_or] at es
    rw [←es];exact k
   ·rw [show decide (V.int x.1=V.int y.1)=false by simp [q]]
    refine cH ?_
    rw [decide_eq_false q,Bool.false_or] at es
    exact ⟨_,rfl,_,rfl,_,_,_,_,rfl,rfl,aZ.of ha,o7 e1,_,rfl,_,rfl,_,_,_,_,rfl,rfl,aZ.of ha,o7 e2,t1,t2,x,y,rfl,ht1,qG,by rw [←es];exact k⟩
  ·rw [decide_eq_true (show (j:Int)<=(i:Int) by omega)]
   refine cQ ?_
   have es:lC ws i j=false:=by unfold lC;rw [decide_eq_false l,Bool.false_and]
   rw [←es]
   exact k
inductive pC (ws:List bD) (j:Nat):Nat->Prop
 | one {i:Nat} (h:lC ws i j=true):pC ws j i
 | more {i k:Nat} (h:lC ws i k=true) (r:pC ws j k):pC ws j i
theorem pC.lt {ws:List bD} {i j:Nat} (r:pC ws j i):i<j/\j<ws.length:=by
 induction r with
 | one h=>exact m7 h
 | more h _ ih=>exact ⟨Nat.lt_trans (m7 h).1 ih.1,ih.2⟩
abbrev Nt:=Int×Int×Int×Int
def nD (x:Nt):PyData:= .tuple [.int x.1,.int x.2.1,.int x.2.2.1,.int x.2.2.2]
def nV (x:Nt):List V:=[.int x.1,.int x.2.1,.int x.2.2.1,.int x.2.2.2]
theorem mG (x:Nt):Mt (nD x)=true:=rfl
theorem U8 {H:Hp} {v:V} {d:PyData} (h:Dat H v d):aH H [v] [d]:=by
 simp only [aH,and_true]
 exact h
theorem t_ {H:Hp} {t:Addr} {x:Nt} (h:H t=some (.tup (nV x))):Dat H (.ref t) (nD x):=by
 simp only [nD,Dat]
 exact ⟨t,_,rfl,h,by simp only [nV,aH,Dat,and_self]⟩
theorem zf {H:Hp} {v:V} {x:Nt} (h:Dat H v (nD x)):∃t,v = .ref t/\H t=some (.tup (nV x)):=by
 simp only [nD,Dat] at h
 obtain ⟨t,vs,e,q,d⟩:=h
 match vs,d with
 | [a,b,c,z],d=>
   simp only [aH,Dat,and_true] at d
   obtain ⟨rfl,rfl,rfl,rfl⟩:=d
   exact ⟨t,e,q⟩
 | [],d=>simp only [aH] at d
 | [_],d=>simp only [aH,and_false] at d
 | [_,_],d=>simp only [aH,and_false] at d
 | [_,_,_],d=>simp only [aH,and_false] at d
 | _::_::_::_::_::_,d=>simp only [aH,and_false] at d
def dZ (H:Hp) (a:Addr) (ns:List Nt):Prop:=∃vs,H a=some (.lst vs)/\aH H vs (ns.map nD)
theorem dZ.kp {H H':Hp} {a r:Addr} {ns:List Nt} (h:dZ H a ns) (hr:∀a xs,H a=some (HO.tup xs)->H' a=some (HO.tup xs)) (k:Kp r H H') (n:a≠r):dZ H' a ns:=by
 obtain ⟨vs,e,d⟩:=h
 exact ⟨vs,k _ _ e n,aH.keep hr _ (bA _ mG ns) d⟩
theorem dZ.same {H H':Hp} {a:Addr} {ns:List Nt} (h:dZ H a ns) (k:Same H H'):dZ H' a ns:=by
 obtain ⟨vs,e,d⟩:=h
 exact ⟨vs,k _ _ e,aH.keep k.tups _ (bA _ mG ns) d⟩
theorem Ck {H:Hp} {vs:List V} {ns:List Nt} {i:Nat} {v:V} (d:aH H vs (ns.map nD)) (e:vs[i]? = some v):∃x t,ns[i]? = some x/\v = .ref t/\H t=some (.tup (nV x)):=by
 obtain ⟨q,eq,dq⟩:=d.get e
 rw [List.getElem?_map] at eq
 cases ex:ns[i]? with
 | none=>rw [ex] at eq;cases eq
 | some x=>
   rw [ex] at eq
   cases eq
   obtain ⟨t,rfl,ht⟩:=zf dq
   exact ⟨x,t,rfl,rfl,ht⟩
def gI (cs:List Int) (h:Int):Int:=(cs[h.toNat]?).getD 0
theorem uc {cs:List Int} {h:Int} (h0:0<=h) (h1:h<cs.length):Iv (cs.map V.int) h=some (.int (gI cs h)):=by
 obtain ⟨m,rfl⟩:=Int.eq_ofNat_of_zero_le h0
 have:m<cs.length:=by (clear h0;omega)
 refine bM ?_
 simp [gI,this]
theorem Xa {cs:List Int} {i:Nat} {c:Int} (h:cs[i]? = some c):gI cs i=c:=by simp [gI,h]
theorem JM {n:Nat} {i:Int} (h0:0<=i) (h1:i<n):SQ n i=some i.toNat:=by unfold SQ;rw [if_pos h0,if_pos h1]
theorem Qi {cs:List Int} {h k v:Int} (h0:0<=h) (h1:h<cs.length) (k0:0<=k):gI (cs.set h.toNat v) k=if k=h then v else gI cs k:=by
 unfold gI
 rw [List.getElem?_set]
 by_cases e:k=h
 ·subst e
  have:k.toNat<cs.length:=by (clear h0;omega)
  simp [this]
 ·have:¬h.toNat=k.toNat:=by (clear h1;omega)
  simp [e,this]
abbrev k_:=Int×Int
def pD (x:k_):PyData:= .tuple [.int x.1,.int x.2]
theorem iB (x:k_):Mt (pD x)=true:=rfl
theorem jh {H:Hp} {t:Addr} {x:k_} (h:H t=some (.tup [.int x.1,.int x.2])):Dat H (.ref t) (pD x):=by
 simp only [pD,Dat]
 exact ⟨t,_,rfl,h,by simp only [aH,Dat,and_self]⟩
theorem qK {H:Hp} {v:V} {x:k_} (h:Dat H v (pD x)):∃t,v = .ref t/\H t=some (.tup [.int x.1,.int x.2]):=by
 simp only [pD,Dat] at h
 obtain ⟨t,vs,e,q,d⟩:=h
 match vs,d with
 | [a,b],d=>
   simp only [aH,Dat,and_true] at d
   obtain ⟨rfl,rfl⟩:=d
   exact ⟨t,e,q⟩
 | [],d=>simp only [aH] at d
 | [_],d=>simp only [aH,and_false] at d
 | _::_::_::_,d=>simp only [aH,and_false] at d
def cL (H:Hp) (a:Addr) (ps:List k_):Prop:=∃vs,H a=some (.lst vs)/\aH H vs (ps.map pD)
theorem cL.same {H H':Hp} {a:Addr} {ws:List k_} (h:cL H a ws) (k:Same H H'):cL H' a ws:=by
 obtain ⟨vs,e,d⟩:=h
 exact ⟨vs,k _ _ e,aH.keep k.tups _ (bA _ iB ws) d⟩
theorem cL.kp {H H':Hp} {a r:Addr} {ws:List k_} {ys:List V} (h:cL H a ws) (hr:H r=some (.lst ys)) (k:Kp r H H') (n:a≠r):cL H' a ws:=by
 obtain ⟨vs,e,d⟩:=h
 exact ⟨vs,k _ _ e n,aH.keep (k.tups hr) _ (bA _ iB ws) d⟩
theorem yW (x y:k_):PyData.eqv (pD x) (pD y)=decide (x=y):=by
 obtain ⟨a,b⟩:=x
 obtain ⟨c,d⟩:=y
 simp only [pD,PyData.eqv,PyData.eqvAll,Bool.and_true]
 by_cases e1:a=c
 ·subst e1
  by_cases e2:b=d
  ·subst e2;simp
  ·simp [e2]
 ·simp [e1]
theorem yj (ps:List k_):SeqAt.shaped (.list (ps.map pD))=true:=jR pD 1 (by decide) (fun x _=>rfl) (fun x _=>by show (max 0 (max 0 0))+1<=1;decide)
theorem qY {H:Hp} {vs:List V} {ps:List k_} {i:Nat} {v:V} (d:aH H vs (ps.map pD)) (e:vs[i]? = some v):∃x t,ps[i]? = some x/\v = .ref t/\H t=some (.tup [.int x.1,.int x.2]):=by
 obtain ⟨q,eq,dq⟩:=d.get e
 rw [List.getElem?_map] at eq
 cases ex:ps[i]? with
 | none=>rw [ex] at eq;cases eq
 | some x=>
   rw [ex] at eq
   cases eq
   obtain ⟨t,rfl,ht⟩:=qK dq
   exact ⟨x,t,rfl,rfl,ht⟩
def cnt (ws:List bD) (h:Int):Int:=((ws.filter fun x=>decide (x.1=h)).length:Int)
theorem ji (ws:List bD) (x:bD) (h:Int):cnt (ws++[x]) h=if h=x.1 then cnt ws h+1 else cnt ws h:=by
 unfold cnt
 rw [List.filter_append,List.length_append]
 by_cases e:h=x.1
 ·subst e;simp
 ·rw [if_neg e]
  have:¬x.1=h:=fun z=>e z.symm
  simp [this]
def hnd (ws:List bD) (i:Nat):Int:=match ws[i]? with |some x=>x.1|none=>0
theorem kW {ws:List bD} {i:Nat} {x:bD} (h:ws[i]? = some x):hnd ws i=x.1:=by unfold hnd;rw [h]
def nm (ws:List bD):List k_:=(List.range ws.length).map fun i=>(hnd ws i,cnt (ws.take i) (hnd ws i))
theorem Jy (ws:List bD) (x:bD):nm (ws++[x])=nm ws++[(x.1,cnt ws x.1)]:=by
 unfold nm
 rw [List.length_append,List.length_singleton,List.range_succ,List.map_append]
 congr 1
 ·refine List.map_congr_left fun i hi=> ?_
  have hi':i<ws.length:=by simpa using hi
  unfold hnd
  rw [List.getElem?_append_left hi',List.take_append_of_le_length (by omega)]
 ·simp [hnd]
theorem bN (ws:List bD):(nm ws).length=ws.length:=by unfold nm;simp
theorem cL.v8 {H H':Hp} {a r:Addr} {ws:List k_} (h:cL H a ws) (hr:bx H r) (k:Kp r H H') (n:a≠r):cL H' a ws:=by
 obtain ⟨f,t,c,e,_⟩:=hr
 exact h.kp e k n
def uw (K:PySem.W.Frag):Sp:=fun vs H Q _=>∃(a:Addr) (ws:List bD),vs=[.ref a]/\cJ H a ws/\ws.length<=1000 /\ ∀(r:Addr) (H':Hp),H r=none->cL H' r (nm ws)->Same H H'->Q (.ref r) H'
theorem OJ {f:Addr} {fd:FuncData} (F:lU K "names" "names" lG f fd):cI P w K mg base nF 1 f fd ["web"] (uw K):=by
 refine F.ok qj (fun vs H Q E h=> ?_) (fun cdv A outer s H vs Q E hr h=> ?_)
 ·obtain ⟨a,ws,rfl,_⟩:=h
  rfl
 ·obtain ⟨a,ws,rfl,W,hlen,k⟩:=h
  have hu:=mR hr
  refine ⟨_,(aq (aM (i:=1) qj.nd rfl (Or.inl rfl) Ei)
   (aq (aM (i:=2) qj.nd rfl (Or.inl rfl) (bI ao))
   (aq (dB PassesOwn.never rfl (dg (K:=K) rfl (pv 0)) (aO (i:=3) qj.nd rfl (Or.inl rfl))
   (aq (aM (i:=4) qj.nd rfl (Or.inl rfl) (yD hu (pv 1) (aL (aN (K:=K) rfl) (pv 3) au (fun _ _=>rfl)) au ⟨rfl,rfl,rfl,rfl⟩))
   (aq (cA (cM (K:=K) rfl (pv 2) (aj (dh (aj (aL (aN (K:=K) rfl) (pv 3) au (fun _ _=>rfl)) (aj (pv 4) ao))) ao)))
   (aF (wQ hu (pv 1) (aL (aN (K:=K) rfl) (pv 3) au (fun _ _=>rfl)) (aP bU (pv 4) au) rfl)))))
   (aF (aY (pv 2)))))), ?_⟩
  obtain ⟨vs,ha,dv⟩:=id W
  have zM:vs.length=ws.length:=by rw [dv.length,List.length_map]
  intro d hd
  have Uk:=aB (o:=HO.dK []) hd
  refine ⟨(by show 0<=sizeLine;decide),fun p hp=> ?_⟩
  have Kl:=aB (o:=HO.lst []) hp
  have ndp:d≠p:=aD ak hp
  have hp0:H p=none:=Uk.free hp
  refine ⟨_,rfl,a,rfl,⟨_,aZ.of (Kl _ _ (Uk _ _ ha))⟩,nQ (K:=K) (a:=a) (xs:=vs) (fun i σ H2=>∃(kvs:List (Key×V)) (x1 x2:Option V),σ=[some (.ref a),some (.ref d),some (.ref p),x1,x2]/\Same H H2 /\
   H2 d=some (.dK kvs)/\kvs.length<=i/\(∀h:Int,(gF kvs (Sum.inl h)).getD (.int 0) = .int (cnt (ws.take i) h))/\cL H2 p (nm (ws.take i)))
   ⟨[],none,none,rfl,Uk.trans Kl,Kl _ _ ak,Nat.zero_le _,fun h=>rfl,⟨[],ak,by simp only [List.take_zero,nm,List.length_nil,List.range_zero,List.map_nil,aH]⟩⟩ (fun i σ H2 _ ⟨_,_,_,_,sm,_⟩=>aZ.of (sm _ _ ha)) ?_ ?_⟩
  ·rintro i y σ H2 hi ⟨kvs,x1,x2,rfl,sm,hd2,kl,hval,PA⟩
   have hil:i<ws.length:=by have:=(List.getElem?_eq_some_iff.mp hi).1;omega
   obtain ⟨x,ex⟩:∃x,ws[i]? = some x:=⟨ws[i],by simp [hil]⟩
   obtain ⟨dd,ed,dy⟩:=dv.get hi
   rw [List.getElem?_map,ex] at ed
   cases ed
   obtain ⟨t,rfl,ht⟩:=qJ dy
   have qG:H2 t=some (.tup [.int x.1,.str x.2.1,.int x.2.2]):=sm.tups _ _ ht
   have tk:ws.take (i+1)=ws.take i++[x]:=by rw [List.take_add_one,ex];rfl
   have Vi:(ws.take i).length=i:=by rw [List.length_take];omega
   refine ⟨_,rfl,d,rfl,.inl ⟨_,.inl hd2⟩,_,rfl,_,_,_,_,rfl,rfl,cD.of qG,rfl,_,jD.k (k:=Sum.inl x.1) hd2, ?_⟩
   rw [hval x.1]
   obtain ⟨ts,hts,Qp⟩:=id PA
   refine ⟨_,rfl,.inl ⟨rfl,_,aZ.of hts⟩,_,rfl,_,_,_,_,rfl,rfl,cD.of qG,rfl,_,rfl,(by show 2<=sizeLine;decide),fun q hq=> ?_⟩
   have sm3:=aB (o:=HO.tup [V.int x.1,V.int (cnt (ws.take i) x.1)]) hq
   have PX:=sm3 _ _ hts
   have Yg:ts.length=i:=by rw [Qp.length,List.length_map,bN,Vi]
   refine ⟨p,ts,_,rfl,rfl,PX,(by rw [Yg,sizeLine_eq];omega), ?_⟩
   have wz:Kp p (upd H2 q (HO.tup [V.int x.1,V.int (cnt (ws.take i) x.1)])) (upd (upd H2 q (HO.tup [V.int x.1,V.int (cnt (ws.take i) x.1)])) p (HO.lst (ts++[V.ref q]))):=Kp.set
   have Fq:=wz _ _ (sm3 _ _ hd2) ndp
   refine ⟨_,rfl,_,_,rfl,rfl,_,rfl,_,rfl,_,_,_,_,rfl,rfl,cD.of (wz.tups PX _ _ (sm3.tups _ _ qG)),rfl,d,_,rfl,z8.k (k:=Sum.inl x.1) Fq (Kg (by omega)), ?_⟩
   refine ⟨putK kvs (Sum.inl x.1) (V.int (cnt (ws.take i) x.1+1)),_,_,rfl, ?_,ak, ?_,fun h=> ?_, ?_⟩
   ·intro b o e
    have nb:b≠p:=aD e hp0
    have nb2:b≠d:=aD e hd
    rw [aV nb2]
    exact wz b o (sm3 b o (sm b o e)) nb
   ·exact Nat.le_trans (jT ..) (by omega)
   ·rw [xQ,tk,ji]
    by_cases e:h=x.1
    ·subst e
     rw [if_pos rfl,if_pos rfl];rfl
    ·rw [if_neg (fun z=>e (Sum.inl.inj z)),if_neg e]
     exact hval h
   ·rw [tk,Jy]
    have kd2:Kp d (upd (upd H2 q (HO.tup [V.int x.1,V.int (cnt (ws.take i) x.1)])) p (HO.lst (ts++[V.ref q]))) (upd (upd (upd H2 q (HO.tup [V.int x.1,V.int (cnt (ws.take i) x.1)])) p (HO.lst (ts++[V.ref q]))) d (HO.dK (putK kvs (Sum.inl x.1) (V.int (cnt (ws.take i) x.1+1))))):=Kp.set
    have Ye:∀a xs,(upd H2 q (HO.tup [V.int x.1,V.int (cnt (ws.take i) x.1)])) a=some (HO.tup xs)->(upd (upd (upd H2 q (HO.tup [V.int x.1,V.int (cnt (ws.take i) x.1)])) p (HO.lst (ts++[V.ref q]))) d (HO.dK (putK kvs (Sum.inl x.1) (V.int (cnt (ws.take i) x.1+1))))) a=some (HO.tup xs):=fun a xs hx=>
     kd2.tups' Fq _ _ (wz.tups PX _ _ hx)
    refine ⟨_,kd2 _ _ ak ndp.symm, ?_⟩
    rw [List.map_append]
    refine aH.append (aH.keep (fun a xs hx=>Ye a xs (sm3.tups _ _ hx)) _ (bA _ iB _) Qp) (uL (jh (x:=(x.1,cnt (ws.take i) x.1)) ?_))
    exact kd2 _ _ (wz _ _ ak (lA ak PX (by intro z;cases z))) (lA (wz _ _ ak (lA ak PX (by intro z;cases z))) Fq (by intro z;cases z))
  ·rintro σ H2 ⟨kvs,x1,x2,rfl,sm,hd2,kl,hval,PA⟩
   rw [zM,List.take_length] at PA
   exact ⟨_,rfl,k p H2 hp0 PA sm⟩
def BL (K:PySem.W.Frag):Sp:=fun vs H Q _=>∃(a:Addr) (ws:List bD),vs=[.ref a]/\cJ H a ws/\(∀x∈ws,qO x)/\ws.length<=300 /\ ∀(r:Addr) (H':Hp),H r=none->cL H' r (nm ws)->Same H H'->Q (.ref r) H'
theorem Yz:(List.replicate ((8:Int)).toNat [V.int 0]).flatten=(List.replicate 8 (0:Int)).map V.int:=rfl
theorem O4 {f:Addr} {fd:FuncData} (F:lU K "_law_calls" "_law_calls" jc f fd) (Bt:uo mg):cI P w K mg base nF 1 f fd ["web"] (BL K):=by
 refine F.ok lQ (fun vs H Q E h=> ?_) (fun cdv A outer s H vs Q E hr h=> ?_)
 ·obtain ⟨a,ws,rfl,_⟩:=h
  rfl
 ·obtain ⟨a,ws,rfl,W,ok,wl,k⟩:=h
  obtain ⟨vs,ha,dv⟩:=id W
  have zM:vs.length=ws.length:=by rw [dv.length,List.length_map]
  refine ⟨_,(aq (aM (i:=1) lQ.nd rfl (Or.inl rfl) (aP Ow (bI (aj au ao)) au))
   (aq (aM (i:=2) lQ.nd rfl (Or.inl rfl) (bI ao))
   (aq (dB PassesOwn.never rfl (dg (K:=K) rfl (pv 0)) (lM (K:=K) (n:=3) rfl rfl (bO (aO (i:=3) lQ.nd rfl (Or.inl rfl)) (bO (aO (i:=4) lQ.nd rfl (Or.inl rfl)) (bO (aO (i:=5) lQ.nd rfl (Or.inl rfl)) jK))))
   (aq (cA (cM (K:=K) rfl (pv 2) (aj (dh (aj (pv 3) (aj (aL (aK (K:=K) rfl) (pv 1) (pv 3) (fun _ _=>rfl)) ao))) ao)))
   (aF (qm (aP bU (aL (aK (K:=K) rfl) (pv 1) (pv 3) (fun _ _=>rfl)) au) (yC (pv 1) (pv 3) set_list)))))
   (aF (aY (pv 2)))))), ?_⟩
  refine ⟨(by show 1<=sizeLine;decide),fun l hl=> ?_⟩
  have s1:=aB (o:=HO.lst [V.int 0]) hl
  refine ⟨l,_,_,rfl,rfl,ak,by decide,by decide,by rw [sizeLine_eq];simp,fun m hm=> ?_⟩
  rw [Yz]
  have s2:=aB (o:=HO.lst ((List.replicate 8 (0:Int)).map V.int)) hm
  have s12:=s1.trans s2
  have hm0:H m=none:=s1.free hm
  refine ⟨(by show 0<=sizeLine;decide),fun r hr'=> ?_⟩
  have s3:=aB (o:=HO.lst []) hr'
  have Gw:=s12.trans s3
  have hr0:H r=none:=s12.free hr'
  have nmr:m≠r:=aD ak hr'
  refine ⟨_,rfl,a,rfl,⟨_,aZ.of (Gw _ _ ha)⟩, ?_⟩
  refine nQ (K:=K) (a:=a) (xs:=vs) (fun i σ H2=>∃(ms:List Int) (x1 x2 x3:Option V),σ=[some (.ref a),some (.ref m),some (.ref r),x1,x2,x3]/\Same H H2/\H2 m=some (.lst (ms.map V.int))/\ms.length=8/\(∀h:Int,0<=h->h<8->gI ms h=cnt (ws.take i) h)/\cL H2 r (nm (ws.take i)))
   ⟨List.replicate 8 0,none,none,none,rfl,Gw,s3 _ _ ak,by simp,fun h h0 h1=> ?_,⟨[],ak,by simp only [List.take_zero,nm,List.length_nil,List.range_zero,List.map_nil,aH]⟩⟩ (fun i σ H2 _ ⟨_,_,_,_,_,sm,_⟩=>aZ.of (sm _ _ ha)) ?_ ?_
  ·have:gI (List.replicate 8 0) h=0:=by unfold gI;rw [List.getElem?_replicate];split<;>rfl
   rw [this];rfl
  ·rintro i y σ H2 hi ⟨ms,x1,x2,x3,rfl,sm,hm2,ml,hg,PA⟩
   have hil:i<ws.length:=by have:=(List.getElem?_eq_some_iff.mp hi).1;omega
   obtain ⟨x,ex⟩:∃x,ws[i]? = some x:=⟨ws[i],by simp [hil]⟩
   obtain ⟨dd,ed,dy⟩:=dv.get hi
   rw [List.getElem?_map,ex] at ed
   cases ed
   obtain ⟨t,rfl,ht⟩:=qJ dy
   obtain ⟨⟨x0,x1'⟩,_⟩:=ok x (List.mem_of_getElem? ex)
   have tk:ws.take (i+1)=ws.take i++[x]:=by rw [List.take_add_one,ex];rfl
   have Vi:(ws.take i).length=i:=by rw [List.length_take];omega
   have gx:=hg x.1 x0 x1'
   refine ⟨t,_,rfl,cD.of (sm _ _ ht),rfl,_,_,rfl,_,_,rfl,_,_,rfl,rfl, ?_⟩
   obtain ⟨ts,hts,Qp⟩:=id PA
   have tsl:ts.length=i:=by rw [Qp.length,List.length_map,bN,Vi]
   refine ⟨_,rfl,.inl ⟨rfl,_,aZ.of hts⟩,_,rfl,_,rfl,_,rfl,_,_,_,_,rfl,rfl,aZ.of hm2,uc x0 (by omega),(by show 2<=sizeLine;decide),fun q hq=> ?_⟩
   have s4:=aB (o:=HO.tup [V.int x.1,V.int (gI ms x.1)]) hq
   refine ⟨r,ts,_,rfl,rfl,s4 _ _ hts,by rw [sizeLine_eq];omega, ?_⟩
   have k5:Kp r (upd H2 q (.tup [V.int x.1,V.int (gI ms x.1)])) (upd (upd H2 q (.tup [V.int x.1,V.int (gI ms x.1)])) r (.lst (ts++[V.ref q]))):=Kp.set
   have t5:=k5.tups (s4 _ _ hts)
   have hm5:=k5 _ _ (s4 _ _ hm2) nmr
   refine ⟨_,rfl,_,rfl,_,_,_,_,rfl,rfl,aZ.of hm5,uc x0 (by omega),_,_,rfl,rfl,_,rfl,_,rfl,_,_,_,_,rfl,rfl,hm5,JM x0 (by rw [List.length_map];omega), ?_⟩
   have k6:Kp m (upd (upd H2 q (.tup [V.int x.1,V.int (gI ms x.1)])) r (.lst (ts++[V.ref q]))) (upd (upd (upd H2 q (.tup [V.int x.1,V.int (gI ms x.1)])) r (.lst (ts++[V.ref q]))) m (.lst ((ms.map V.int).set x.1.toNat (V.int (gI ms x.1+1))))):=Kp.set
   have t6:=k6.tups hm5
   refine ⟨ms.set x.1.toNat (gI ms x.1+1),_,_,_,rfl,fun b u e=>k6 _ _ (k5 _ _ (s4 _ _ (sm _ _ e)) (aD e hr0)) (aD e hm0),by rw [ak,List.map_set],by simp [ml],fun h h0 h1=> ?_, ?_⟩
   ·rw [Qi x0 (by omega) h0,tk,ji]
    by_cases e:h=x.1
    ·subst e;rw [if_pos rfl,if_pos rfl,gx]
    ·rw [if_neg e,if_neg e];exact hg h h0 h1
   ·rw [tk,Jy]
    refine ⟨ts++[V.ref q],k6 _ _ ak nmr.symm, ?_⟩
    rw [List.map_append]
    refine aH.append (aH.keep (fun a xs h=>t6 _ _ (t5 _ _ (s4.tups _ _ h))) _ (bA _ iB _) Qp) (uL (jh (x:=(x.1,cnt (ws.take i) x.1)) ?_))
    have:=t6 _ _ (t5 _ _ (ak (H:=H2) (a:=q) (o:=HO.tup [V.int x.1,V.int (gI ms x.1)])))
    rw [gx] at this
    rw [gx]
    exact this
  ·rintro σ H2 ⟨ms,x1,x2,x3,rfl,sm,hm2,ml,hg,PA⟩
   rw [zM,List.take_length] at PA
   exact ⟨_,rfl,k r H2 hr0 PA sm⟩
def wM (K:PySem.W.Frag):Sp:=fun vs H Q _=>∃(a b:Addr) (x y:bD),vs=[.ref a,.ref b]/\H a=some (.tup [.int x.1,.str x.2.1,.int x.2.2])/\H b=some (.tup [.int y.1,.str y.2.1,.int y.2.2])/\Q (.bl (decide (x.1=y.1)||mt x y)) H
theorem O6 {f:Addr} {fd:FuncData} (F:lU K "_law_step" "_law_step" lJ f fd) (Rg:FnAt P w K mg base 1 "_law_meets" ["one","other"] (GX K)):cI P w K mg base nF 2 f fd ["one","other"] (wM K):=by
 refine F.ok NK (fun vs H Q E h=> ?_) (fun cdv A outer s H vs Q E hr h=> ?_)
 ·obtain ⟨a,b,x,y,rfl,_⟩:=h
  rfl
 ·obtain ⟨a,b,x,y,rfl,ha,hb,k⟩:=h
  refine ⟨_,(aF (aY (Jt (cW mz (aL (aN (K:=K) rfl) (pv 0) au (fun _ _=>rfl)) (aL (aN (K:=K) rfl) (pv 1) au (fun _ _=>rfl)) (bw _)) (nj (aW Rg (hr.mono (by decide)) (by rfl) (aj (pv 0) (aj (pv 1) ao))))))), ?_⟩
  refine ⟨_,rfl,_,_,_,_,rfl,rfl,cD.of ha,rfl,_,rfl,_,_,_,_,rfl,rfl,cD.of hb,rfl,rfl,_,rfl, ?_⟩
  by_cases q:x.1=y.1
  ·rw [show decide (V.int x.1=V.int y.1)=true by simp [q]]
   rw [decide_eq_true q,Bool.true_or] at k
   exact cQ k
  ·rw [show decide (V.int x.1=V.int y.1)=false by simp [q]]
   rw [decide_eq_false q,Bool.false_or] at k
   exact cH ⟨_,rfl,_,rfl,a,b,x,y,rfl,ha,hb,k⟩
theorem Ec {ws:List bD} {j m:Nat} (r:pC ws j m):∃i,lC ws i j=true/\(m=i\/pC ws i m):=by
 induction r with
 | one h=>exact ⟨_,h,.inl rfl⟩
 | more h _ ih=>
   obtain ⟨i,st,q⟩:=ih
   refine ⟨i,st,.inr ?_⟩
   rcases q with rfl|q
   ·exact .one h
   ·exact .more h q
theorem Eb {ws:List bD} {i j m:Nat} (st:lC ws i j=true) (r:pC ws i m):pC ws j m:=by
 induction r with
 | one h=>exact .more h (.one st)
 | more h _ ih=>exact .more h ih
theorem mH (ws:List bD) (h:Int) (i:Nat):∀d:Nat,cnt (ws.take i) h<=cnt (ws.take (i+d)) h
 | 0=>Int.le_refl _
 | d+1=>by
   have ih:=mH ws h i d
   have e:ws.take (i+(d+1))=ws.take (i+d)++(ws[i+d]?).toList:=by rw [←Nat.add_assoc,List.take_add_one]
   rw [e]
   cases ws[i+d]? with
   | none=>simpa using ih
   | some x=>
     show _<=cnt (ws.take (i+d)++[x]) h
     rw [ji]
     split<;>omega
theorem nA (ws:List bD) (h:Int):0<=cnt ws h:=by unfold cnt;omega
def Gp (ws:List bD) (rw':List Int) (R:Nat->Prop):Prop:=rw'.length=8 /\ ∀m x,ws[m]? = some x->(cnt (ws.take m) x.1<gI rw' x.1↔R m)
def J3 (ws:List bD) (j:Nat) (rw':List Int):Prop:=Gp ws rw' fun m=>m=j\/pC ws j m
def XH (ws:List bD) (j n m:Nat):Prop:=∃i,i<n/\lC ws i j=true/\(m=i\/pC ws i m)
theorem Qg (h:Int):gI (List.replicate 8 0) h=0:=by unfold gI;rw [List.getElem?_replicate];split<;>rfl
theorem Kq (ws:List bD) (j:Nat):Gp ws (List.replicate 8 0) (XH ws j 0):=by
 refine ⟨by simp,fun m x ex=>⟨fun h=> ?_,fun ⟨i,l,_⟩=>absurd l (Nat.not_lt_zero _)⟩⟩
 rw [Qg] at h
 have:=nA (ws.take m) x.1
 omega
def Wq (a b:List Int):List Int:=(List.range 8).map fun h:Nat=>if gI b (h:Int)>gI a (h:Int) then gI b (h:Int) else gI a (h:Int)
theorem Xb {a b:List Int} {h:Int} (h0:0<=h) (h1:h<8):gI (Wq a b) h=if gI b h>gI a h then gI b h else gI a h:=by
 obtain ⟨m,rfl⟩:=Int.eq_ofNat_of_zero_le h0
 have hm:m<8:=by omega
 refine Xa ?_
 unfold Wq
 rw [List.getElem?_map,List.getElem?_range hm]
 rfl
theorem NQ {ws:List bD} {j n:Nat} {a b:List Int} (ok:∀x∈ws,qO x) (p:Gp ws a (XH ws j n)) (q:J3 ws n b) (st:lC ws n j=true):Gp ws (Wq a b) (XH ws j (n+1)):=by
 refine ⟨by unfold Wq;simp,fun m x ex=> ?_⟩
 obtain ⟨⟨x0,x1⟩,_⟩:=ok x (List.mem_of_getElem? ex)
 rw [Xb x0 (by omega)]
 have pa:=p.2 m x ex
 have pb:=q.2 m x ex
 have e:cnt (ws.take m) x.1<(if gI b x.1>gI a x.1 then gI b x.1 else gI a x.1)↔(cnt (ws.take m) x.1<gI a x.1\/cnt (ws.take m) x.1<gI b x.1):=by
  split<;>omega
 rw [e,pa,pb]
 constructor
 ·rintro (⟨i,l,s,z⟩|z)
  ·exact ⟨i,by omega,s,z⟩
  ·exact ⟨n,by omega,st,z⟩
 ·rintro ⟨i,l,s,z⟩
  by_cases en:i=n
  ·subst en;exact .inr z
  ·exact .inl ⟨i,by omega,s,z⟩
theorem Kr {ws:List bD} {j n:Nat} {a:List Int} (p:Gp ws a (XH ws j n)) (st:lC ws n j=false):Gp ws a (XH ws j (n+1)):=by
 refine ⟨p.1,fun m x ex=>(p.2 m x ex).trans ⟨fun ⟨i,l,s,z⟩=>⟨i,by omega,s,z⟩,fun ⟨i,l,s,z⟩=> ?_⟩⟩
 by_cases en:i=n
 ·subst en;rw [st] at s;cases s
 ·exact ⟨i,by omega,s,z⟩
theorem NZ {ws:List bD} {j:Nat} {a:List Int} {y:bD} (ok:∀x∈ws,qO x) (p:Gp ws a (XH ws j j)) (ey:ws[j]? = some y):J3 ws j (a.set y.1.toNat (cnt (ws.take j) y.1+1)):=by
 obtain ⟨⟨y0,y1⟩,_⟩:=ok y (List.mem_of_getElem? ey)
 have al:=p.1
 refine ⟨by simp [al],fun m x ex=> ?_⟩
 obtain ⟨⟨x0,x1⟩,_⟩:=ok x (List.mem_of_getElem? ex)
 rw [Qi y0 (by omega) x0]
 by_cases e:x.1=y.1
 ·rw [if_pos e,e]
  by_cases l:m<=j
  ·have:=mH ws y.1 m (j - m)
   rw [show m+(j - m)=j by omega] at this
   refine ⟨fun _=> ?_,fun _=>by omega⟩
   by_cases em:m=j
   ·exact .inl em
   ·refine .inr (.one ?_)
    unfold lC Vu
    rw [ex,ey,decide_eq_true (show m<j by omega)]
    simp [e]
  ·have:=mH ws y.1 (j+1) (m - (j+1))
   rw [show j+1+(m - (j+1))=m by omega] at this
   have t:ws.take (j+1)=ws.take j++[y]:=by rw [List.take_add_one,ey];rfl
   rw [t,ji,if_pos rfl] at this
   refine ⟨fun h=>by omega,fun h=> ?_⟩
   rcases h with h|h
   ·omega
   ·have:=h.lt;omega
 ·rw [if_neg e,p.2 m x ex]
  constructor
  ·rintro ⟨i,l,s,z|z⟩
   ·subst z;exact .inr (.one s)
   ·exact .inr (Eb s z)
  ·rintro (z|z)
   ·subst z
    rw [ex] at ey
    cases ey
    exact absurd rfl e
   ·obtain ⟨i,s,q⟩:=Ec z
    exact ⟨i,(m7 s).1,s,q⟩
def Bh (ws:List bD) (H0 H:Hp) (t:Addr) (n:Nat):Prop:=∃rs:List Addr,H0 t=none/\H t=some (.lst (rs.map V.ref))/\rs.length=n /\ ∀j r,rs[j]? = some r->r≠t/\H0 r=none /\ ∃a,H r=some (.lst (a.map V.int))/\J3 ws j a
theorem Bh.same {ws:List bD} {H0 H H':Hp} {t:Addr} {n:Nat} (h:Bh ws H0 H t n) (k:Same H H'):Bh ws H0 H' t n:=by
 obtain ⟨rs,e0,e1,l,q⟩:=h
 refine ⟨rs,e0,k _ _ e1,l,fun j r hj=> ?_⟩
 obtain ⟨n1,n2,a,ha,ra⟩:=q j r hj
 exact ⟨n1,n2,a,k _ _ ha,ra⟩
theorem Df {vs:List V} {i:Nat} {v:V} (h:vs[i]? = some v):Iv vs (0+(i:Int))=some v:=by rw [Int.zero_add];exact bM h
theorem qu {ws:List bD} {i:Nat} {x:bD} (e:ws[i]? = some x):(nm ws)[i]? = some (x.1,cnt (ws.take i) x.1):=by
 have:i<ws.length:=(List.getElem?_eq_some_iff.mp e).1
 unfold nm
 rw [List.getElem?_map,List.getElem?_range this]
 simp only [Option.map_some,kW e]
theorem iw {H:Hp} {a:Addr} {ps:List k_} {i:Nat} {x:k_} (h:cL H a ps) (e:ps[i]? = some x):∃vs t,H a=some (.lst vs)/\vs[i]? = some (.ref t)/\H t=some (.tup [.int x.1,.int x.2]):=by
 obtain ⟨vs,ha,d⟩:=h
 obtain ⟨v,ev,dv⟩:=d.getD (i:=i) (d:=pD x) (by rw [List.getElem?_map,e];rfl)
 obtain ⟨t,rfl,ht⟩:=qK dv
 exact ⟨vs,t,ha,ev,ht⟩
def Bu (K:PySem.W.Frag):Sp:=fun vs H Q _=>∃(a c:Addr) (ws:List bD),vs=[.ref a,.ref c]/\cJ H a ws/\cL H c (nm ws)/\(∀x∈ws,qO x)/\ws.length<=300 /\ ∀(t:Addr) (H':Hp),Bh ws H H' t ws.length->Same H H'->Q (.ref t) H'
theorem Ox {f:Addr} {fd:FuncData} (F:lU K "_law_table" "_law_table" iW f fd) (Dn:FnAt P w K mg base 2 "_law_step" ["one","other"] (wM K)) (Bt:uo mg):cI P w K mg base nF 3 f fd ["web","calls"] (Bu K):=by
 refine F.ok lO (fun vs H Q E h=> ?_) (fun cdv A outer s H vs Q E hr h=> ?_)
 ·obtain ⟨a,c,ws,rfl,_⟩:=h
  rfl
 ·obtain ⟨a,c,ws,rfl,W,C,ok,wl,k⟩:=h
  obtain ⟨vs,ha,dv⟩:=id W
  have zM:vs.length=ws.length:=by rw [dv.length,List.length_map]
  refine ⟨_,(aq (aM (i:=2) lO.nd rfl (Or.inr rfl) (bI ao))
   (aq (dB PassesOwn.never rfl (dD (by rfl) Bt.dX (aj (aR (bB (K:=K) rfl) (by rfl) Bt.jZ fQ (aj (pv 0) ao)) ao)) (aO (i:=3) lO.nd rfl (Or.inl rfl))
   (aq (aM (i:=4) lO.nd rfl (Or.inr rfl) (aP Ow (bI (aj au ao)) au))
   (aq (dB PassesOwn.never rfl (dD (by rfl) Bt.dX (aj (pv 3) ao)) (aO (i:=5) lO.nd rfl (Or.inr rfl))
   (aF (cF (eO (aW Dn (hr.mono (by decide)) (by rfl) (aj (aL (aK (K:=K) rfl) (pv 0) (pv 5) (fun _ _=>rfl)) (aj (aL (aK (K:=K) rfl) (pv 0) (pv 3) (fun _ _=>rfl)) ao)))) (aF (aM (i:=4) lO.nd rfl (Or.inr rfl) (jL rfl (N:=["hand","row","table","i"]) (own:=["hand"]) (caps:=[4,2,5]) (bf.of (by kernel_rfl)) (dD (by rfl) Bt.dX (aj au ao)) (fun _ _ _ _=>(aO (i:=0) (show List.Nodup (["hand","row","table","i"]:List Str) by decide +kernel) rfl (Or.inl rfl))) (fun _ _ _ _=>jJ) (fun _ _ _ _=>(aR (nU rfl) (by rfl) Bt.Gj zE (aj (aL (aK (K:=K) rfl) (pv 1) (pv 0) (fun _ _=>rfl)) (aj (aL (aK (K:=K) rfl) (aL (aK (K:=K) rfl) (pv 2) (pv 3) (fun _ _=>rfl)) (pv 0) (fun _ _=>rfl)) ao))))))) bG)))
   (aq (qm (aP bU (aL (aN (K:=K) rfl) (aL (aK (K:=K) rfl) (pv 1) (pv 3) (fun _ _=>rfl)) au (fun _ _=>rfl)) au) (yC (pv 4) (aL (aN (K:=K) rfl) (aL (aK (K:=K) rfl) (pv 1) (pv 3) (fun _ _=>rfl)) au (fun _ _=>rfl)) set_list))
   (aF (cA (cM (K:=K) rfl (pv 2) (aj (pv 4) ao))))))))
   (aF (aY (pv 2))))), ?_⟩
  refine ⟨(by show 0<=sizeLine;decide),fun t ht=> ?_⟩
  have s1:=aB (o:=HO.lst []) ht
  refine ⟨_,rfl,a,_,rfl,.inl (aZ.of (s1 _ _ ha)),_,rfl,by omega,by omega, ?_⟩
  rw [show ((vs.length:Nat):Int).toNat=ws.length by omega]
  refine iG (lo:=0) (n:=ws.length) (fun j σ H2=>∃(x1 x2 x3:Option V),σ=[some (.ref a),some (.ref c),some (.ref t),x1,x2,x3]/\Same H H2/\Bh ws H H2 t j)
   ⟨none,none,none,rfl,s1,[],ht,ak,rfl,fun j r hj=>by simp at hj⟩ ?_ ?_
  ·rintro j σ H2 hj ⟨x1,x2,x3,rfl,sm,T⟩
   obtain ⟨y,ey⟩:∃y,ws[j]? = some y:=⟨ws[j],by simp [hj]⟩
   obtain ⟨⟨y0,y1⟩,_⟩:=ok y (List.mem_of_getElem? ey)
   have W2:=W.same sm
   have C2:=C.same sm
   refine ⟨(by show 1<=sizeLine;decide),fun l hl=> ?_⟩
   have s2:=aB (o:=HO.lst [V.int 0]) hl
   refine ⟨l,_,_,rfl,rfl,ak,by decide,by decide,by rw [sizeLine_eq];simp,fun q hq=> ?_⟩
   rw [Yz]
   have s3:=aB (o:=HO.lst ((List.replicate 8 (0:Int)).map V.int)) hq
   have s23:=s2.trans s3
   have hq2:H2 q=none:=s2.free hq
   refine ⟨_,rfl,_,rfl,by omega,by omega, ?_⟩
   rw [show (0+(j:Int)).toNat=j by omega]
   refine iG (lo:=0) (n:=j) (fun i σ H4=>∃(q:Addr) (rw':List Int) (x3:Option V),σ=[some (.ref a),some (.ref c),some (.ref t),some (.int (0+(j:Int))),some (.ref q),x3]/\Same H2 H4/\H2 q=none/\H4 q=some (.lst (rw'.map V.int))/\Gp ws rw' (XH ws j i))
    ⟨q,_,_,rfl,s23,hq2,ak,Kq ws j⟩ ?_ ?_
   ·rintro i σ H4 hi ⟨q,rw',x3,rfl,s4,hq2,UW,rp⟩
    have hil:i<ws.length:=by omega
    obtain ⟨x,ex⟩:∃x,ws[i]? = some x:=⟨ws[i],by simp [hil]⟩
    have W4:=W2.same s4
    obtain ⟨vs',t1,W8,e1,ht1⟩:=lB W4 ex
    obtain ⟨vs'',t2,Qd,e2,qG⟩:=lB W4 ey
    have ev:vs'=vs'':=by rw [W8] at Qd;injection Qd with z;injection z
    subst ev
    have es:lC ws i j=(decide (x.1=y.1)||mt x y):=by unfold lC Vu;rw [ex,ey,decide_eq_true hi,Bool.true_and]
    refine ⟨_,rfl,_,rfl,_,_,_,_,rfl,rfl,aZ.of W8,Df e1,_,rfl,_,rfl,_,_,_,_,rfl,rfl,aZ.of W8,Df e2,t1,t2,x,y,rfl,ht1,qG,_,rfl, ?_⟩
    rw [←es]
    by_cases st:lC ws i j=true
    ·rw [st]
     refine cQ ?_
     refine ⟨_,rfl,by decide,by decide,fun D hD=> ?_⟩
     obtain ⟨rs,ht0,hts,rl,rq⟩:=T.same s4
     have hir:i<rs.length:=by omega
     obtain ⟨r,er⟩:∃r,rs[i]? = some r:=⟨rs[i],by simp [hir]⟩
     obtain ⟨_,_,ri,hri,ro⟩:=rq i r er
     have rpl:=rp.1
     have rol:=ro.1
     refine rD (fun (h:Nat)=>some (V.int (if gI ri (0+(h:Int))>gI rw' (0+(h:Int)) then gI ri (0+(h:Int)) else gI rw' (0+(h:Int))))) hD (by decide) (fun h H5 G F hh s5 kG kF=> ?_) (fun H5 s5 e5=> ?_)
     ·have hh8:h<8:=hh
      refine ⟨_,rfl,_,rfl,_,_,_,_,rfl,rfl,aZ.of (s5 _ _ UW),uc (by omega) (by omega),_,rfl,_,rfl,_,_,_,_,rfl,rfl,aZ.of (s5 _ _ hts),Df (by rw [List.getElem?_map,er];rfl),_,rfl,_,_,_,_,rfl,rfl,aZ.of (s5 _ _ hri),uc (by omega) (by omega),_,_,rfl,kF _ H5 (Same.refl _) rfl⟩
     have e5':H5 D=some (.lst ((Wq rw' ri).map V.int)):=by
      rw [e5]
      unfold Wq
      rw [List.map_map]
      congr 2
      all_goals (rw [←List.filterMap_eq_map];refine gM _ trivial fun h _=> ?_;simp)
     exact ⟨D,Wq rw' ri,_,rfl,s4.trans s5,s4.free hD,e5',NQ ok rp ro st⟩
    ·have st':lC ws i j=false:=by simpa using st
     rw [st']
     refine cH ?_
     exact ⟨q,rw',_,rfl,s4,hq2,UW,Kr rp st'⟩
   ·rintro σ H4 ⟨q,rw',x3,rfl,s4,hq2,UW,rp⟩
    have C4:=C2.same s4
    obtain ⟨cs,p,hc,ec,hp⟩:=iw C4 (qu ey)
    have rpl:=rp.1
    refine ⟨_,rfl,_,rfl,_,_,_,_,rfl,rfl,aZ.of hc,Df ec,_,_,_,_,rfl,rfl,cD.of hp,rfl,_,_,rfl,rfl,_,rfl,_,rfl,_,rfl,_,_,_,_,rfl,rfl,aZ.of hc,Df ec,_,_,_,_,rfl,rfl,cD.of hp,rfl,_,_,_,_,rfl,rfl,UW,JM y0 (by rw [List.length_map];omega), ?_⟩
    have k5:Kp q H4 (upd H4 q (.lst ((rw'.map V.int).set y.1.toNat (V.int (cnt (ws.take j) y.1+1))))):=Kp.set
    obtain ⟨rs,ht0,hts,rl,rq⟩:=T
    have ntq:t≠q:=aD hts hq2
    have Hz:=k5 _ _ (s4 _ _ hts) ntq
    refine ⟨_,rfl,.inl ⟨rfl,_,aZ.of Hz⟩,_,rfl,t,_,_,rfl,rfl,Hz,by rw [List.length_map,sizeLine_eq];omega, ?_⟩
    have k6:Kp t (upd H4 q (.lst ((rw'.map V.int).set y.1.toNat (V.int (cnt (ws.take j) y.1+1))))) (upd (upd H4 q (.lst ((rw'.map V.int).set y.1.toNat (V.int (cnt (ws.take j) y.1+1))))) t (.lst (rs.map V.ref++[V.ref q]))):=Kp.set
    have hq0:H q=none:=sm.free hq2
    refine ⟨_,_,_,rfl,fun b u e=>k6 _ _ (k5 _ _ (s4 _ _ (sm _ _ e)) (aD e hq0)) (aD e ht0),rs++[q],ht0,by rw [ak,List.map_append];rfl,by simp [rl],fun m r hm=> ?_⟩
    by_cases hml:m<rs.length
    ·rw [List.getElem?_append_left hml] at hm
     obtain ⟨n1,n2,aa,haa,raa⟩:=rq m r hm
     exact ⟨n1,n2,aa,k6 _ _ (k5 _ _ (s4 _ _ haa) (aD haa hq2)) n1,raa⟩
    ·have em:m=j/\r=q:=by
      have hm2:=(List.getElem?_eq_some_iff.mp hm).1
      rw [List.length_append,List.length_singleton] at hm2
      have:m=rs.length:=by omega
      subst this
      rw [List.getElem?_append_right (Nat.le_refl _)] at hm
      simp at hm
      exact ⟨rl,hm.symm⟩
     obtain ⟨rfl,rfl⟩:=em
     exact ⟨ntq.symm,hq0,_,by rw [k6 _ _ ak ntq.symm,List.map_set],NZ ok rp ey⟩
  ·rintro σ H2 ⟨x1,x2,x3,rfl,sm,T⟩
   exact ⟨_,rfl,k t H2 T sm⟩
def mx (a b:Int):Int:=if b>a then b else a
theorem Ux {c a b:Int}:c<mx a b↔c<a\/c<b:=by unfold mx;split<;>omega
theorem Za {a b:Int} (h:0<=a):0<=mx a b:=by unfold mx;split<;>omega
def wO (K:PySem.W.Frag):Sp:=fun vs H Q _=>∃(t d:Addr) (h k:Int) (g:Int->Int),vs=[.ref t,.ref d]/\H t=some (.tup [.int h,.int k])/\jm H d g/\Q (.bl (decide (k<g h))) H
theorem O2 {f:Addr} {fd:FuncData} (F:lU K "is_known" "is_known" eF f fd):cI P w K mg base nF 1 f fd ["name","known"] (wO K):=by
 refine F.ok DY (fun vs H Q E h=> ?_) (fun cdv A outer s H vs Q E hr h=> ?_)
 ·obtain ⟨t,d,h,k,g,rfl,_⟩:=h
  rfl
 ·obtain ⟨t,d,h,k,g,rfl,ht,kd,q⟩:=h
  have hu:=mR hr
  refine ⟨_,(aF (aY (cW vU (aL (aN (K:=K) rfl) (pv 0) au (fun _ _=>rfl)) (yD hu (pv 1) (aL (aN (K:=K) rfl) (pv 0) au (fun _ _=>rfl)) au ⟨rfl,rfl,rfl,rfl⟩) (bw _)))), ?_⟩
  obtain ⟨kvs,hd,_,val⟩:=kd.get
  refine ⟨_,rfl,_,_,_,_,rfl,rfl,cD.of ht,rfl,_,rfl,d,rfl,.inl ⟨_,.inl hd⟩,_,rfl,_,_,_,_,rfl,rfl,cD.of ht,rfl,_,jD.k (k:=Sum.inl h) hd, ?_⟩
  rw [val h]
  exact ⟨_,_,rfl,rfl,q⟩
def wN (K:PySem.W.Frag):Sp:=fun vs H Q _=>∃(d m:Addr) (g1 g2:Int->Int),vs=[.ref d,.ref m]/\jm H d g1/\jm H m g2/\d≠m /\ ∀H',jm H' d (fun h=>mx (g1 h) (g2 h))->Kp d H H'->Q .non H'
def X5 (hs:List Int) (g1 g2:Int->Int):Int->Int:=fun h=>if h∈hs then mx (g1 h) (g2 h) else g1 h
theorem O1 {f:Addr} {fd:FuncData} (F:lU K "learn" "learn" lH f fd) (Bt:uo mg):cI P w K mg base nF 1 f fd ["known","more"] (wN K):=by
 refine F.ok DR (fun vs H Q E h=> ?_) (fun cdv A outer s H vs Q E hr h=> ?_)
 ·obtain ⟨d,m,g1,g2,rfl,_⟩:=h
  rfl
 ·obtain ⟨d,m,g1,g2,rfl,k1,k2,ne,q⟩:=h
  have hu:=mR hr
  refine ⟨_,(aF (Jp (dB PassesOwn.never rfl (Js (pv 1)) (aO (i:=2) DR.nd rfl (Or.inl rfl))
   (aF (wQ hu (pv 0) (pv 2) (aR (nU rfl) (by rfl) Bt.Gj zE (aj (yD hu (pv 0) (pv 2) au ⟨rfl,rfl,rfl,rfl⟩) (aj (gQ hu (pv 1) (pv 2) (fun _ _=>rfl)) ao))) rfl))))), ?_⟩
  obtain ⟨hs,hm,nd,rg,zz⟩:=k2.ex
  refine ⟨_,rfl,m,_,rfl,hm,fun o=> ?_⟩
  have kf:Kp m H (upd H m (.jB o (.dK (vW hs g2)))):=Kp.set
  refine Qk (fun i σ H2=>∃v:Option V,σ=[some (.ref d),some (.ref m),v]/\jm H2 d (X5 (hs.take i) g1 g2)/\H2 m=some (.jB o (.dK (vW hs g2)))/\Kp d (upd H m (.jB o (.dK (vW hs g2)))) H2)
   ⟨none,rfl,(k1.kp kf ne).ext (fun h=>by simp [X5]),ak,Kp.refl _ _⟩ (fun i σ H2 _ ⟨_,_,_,e,_⟩=>e) ?_ ?_
  ·rintro i kk v σ H2 hi ⟨x,rfl,kd,fz,kp⟩
   have hi':(vW hs g2)[i]? = some (kk,v):=hi
   unfold vW at hi'
   rw [List.getElem?_map] at hi'
   cases eh:hs[i]? with
   | none=>rw [eh] at hi';cases hi'
   | some h=>
     rw [eh] at hi'
     cases hi'
     have hm':h∈hs:=List.mem_of_getElem? eh
     obtain ⟨h0,h1⟩:=rg h hm'
     have tk:hs.take (i+1)=hs.take i++[h]:=by rw [List.take_add_one,eh];rfl
     have nin:h∉hs.take i:=by
      intro z
      have:(hs.take i++[h]).Nodup:=by rw [←tk];exact nd.sublist (List.take_sublist _ _)
      rw [List.nodup_append] at this
      exact this.2.2 h z h (by simp) rfl
     obtain ⟨kvs,hd2,_,val⟩:=kd.get
     have gi:X5 (hs.take i) g1 g2 h=g1 h:=by unfold X5;rw [if_neg nin]
     refine ⟨_,rfl,d,rfl,.inl ⟨_,.inl hd2⟩,_,rfl,_,jD.k (k:=Sum.inl h) hd2, ?_⟩
     rw [val h,gi]
     have gm:jD H2 m (kV (Sum.inl h)) (some (V.int (g2 h))):= .inl ⟨_,Sum.inl h,.inr ⟨o,fz⟩,rfl,by rw [Cr,if_pos hm']⟩
     refine ⟨_,rfl,_,rfl,m,_,rfl,gm,_,_,rfl, ?_⟩
     obtain ⟨kvs',ZC,hz,put⟩:=kd.put (v:=mx (g1 h) (g2 h)) h0 h1 (Za (k1.nn h))
     refine ⟨_,rfl,_,rfl,d,_,rfl,z8.k (k:=Sum.inl h) ZC hz, ?_⟩
     refine ⟨_,rfl,(put _ ak).ext fun x=> ?_,by rw [aV ne.symm];exact fz,kp.trans Kp.set⟩
     unfold Fv X5
     rw [tk]
     by_cases e:x=h
     ·subst e;simp
     ·simp [e]
  ·rintro σ H2 ⟨x,rfl,kd,fz,kp⟩
   refine ⟨_,⟨m,_,o,_,hm,fz,rfl⟩, ?_⟩
   have kt:Kp m H2 (upd H2 m (.dK (vW hs g2))):=Kp.set
   refine q _ ((kd.kp kt ne).ext fun h=> ?_) fun b u e nb=> ?_
   ·have el:hs.take (vW hs g2).length=hs:=by rw [vW,List.length_map,List.take_length]
    rw [el]
    unfold X5
    by_cases hh:h∈hs
    ·rw [if_pos hh]
    ·rw [if_neg hh,zz h hh]
     have:=k1.nn h
     unfold mx
     rw [if_neg (by (clear hh el fz hm hu ne;omega))]
   ·by_cases eb:b=m
    ·subst eb
     rw [hm] at e
     rw [ak];exact e
    ·rw [aV eb]
     exact kp _ _ (by rw [aV eb];exact e) nb
def Mi (ws:List bD) (g:Int->Int) (R:Nat->Prop):Prop:=∀m x,ws[m]? = some x->(cnt (ws.take m) x.1<g x.1↔R m)
def Xy (ws:List bD) (j:Nat) (g:Int->Int):Prop:=Mi ws g (fun m=>m=j\/pC ws j m) /\ ∀h,g h<=cnt (ws.take (j+1)) h
def Mq (ws:List bD) (j lo m:Nat):Prop:=∃x,lo<=x/\lC ws x j=true/\(m=x\/pC ws x m)
def Bare (ws:List bD) (j e:Nat):Prop:=lC ws e j=true /\ ¬Mq ws j (e+1) e
noncomputable instance (ws:List bD) (j e:Nat):Decidable (Bare ws j e):=Classical.propDecidable _
theorem Ks {ws:List bD} {a b c:Nat} (h:pC ws b a) (g:pC ws c b):pC ws c a:=by
 induction h with
 | one h=>exact .more h g
 | more h _ ih=>exact .more h ih
theorem Mi.iff {ws:List bD} {g:Int->Int} {R S:Nat->Prop} (h:Mi ws g R) (e:∀m,R m↔S m):Mi ws g S:=fun m x ex=>(h m x ex).trans (e m)
theorem Qz {ws:List bD} {j e m:Nat} (h:¬lC ws e j=true):Mq ws j (e+1) m↔Mq ws j e m:=by
 constructor
 ·rintro ⟨x,a,b,c⟩
  exact ⟨x,by omega,b,c⟩
 ·rintro ⟨x,a,b,c⟩
  have:x≠e:=fun z=>h (z▸b)
  exact ⟨x,by omega,b,c⟩
theorem Lq {ws:List bD} {j e m:Nat} (k:Mq ws j (e+1) e):Mq ws j (e+1) m↔Mq ws j e m:=by
 constructor
 ·rintro ⟨x,a,b,c⟩
  exact ⟨x,by omega,b,c⟩
 ·rintro ⟨x,a,b,c⟩
  by_cases z:x=e
  ·subst z
   obtain ⟨y,y1,y2,y3⟩:=k
   have r:pC ws y x:=y3.resolve_left (by (clear y3 y2 a c b;omega))
   rcases c with c|c
   ·subst c;exact ⟨y,y1,y2,.inr r⟩
   ·exact ⟨y,y1,y2,.inr (Ks c r)⟩
  ·exact ⟨x,by omega,b,c⟩
theorem TV {ws:List bD} {j e m:Nat} (h:lC ws e j=true):(Mq ws j (e+1) m\/(m=e\/pC ws e m))↔Mq ws j e m:=by
 constructor
 ·rintro (⟨x,a,b,c⟩|c)
  ·exact ⟨x,by omega,b,c⟩
  ·exact ⟨e,Nat.le_refl _,h,c⟩
 ·rintro ⟨x,a,b,c⟩
  by_cases z:x=e
  ·subst z;exact .inr c
  ·exact .inl ⟨x,by (clear c b h;omega),b,c⟩
theorem JG {ws:List bD} {g g':Int->Int} {R S:Nat->Prop} (h:Mi ws g R) (h':Mi ws g' S):Mi ws (fun x=>mx (g x) (g' x)) fun m=>R m\/S m:=fun m x ex=>by
 show cnt _ _<mx _ _↔_
 rw [Ux,h m x ex,h' m x ex]
theorem TQ {ws:List bD} {j m:Nat}:Mq ws j 0 m↔pC ws j m:=by
 constructor
 ·rintro ⟨x,_,b,c|c⟩
  ·subst c;exact .one b
  ·exact Eb b c
 ·intro r
  obtain ⟨i,s,q⟩:=Ec r
  exact ⟨i,Nat.zero_le _,s,q⟩
theorem Sy {ws:List bD} {j:Nat} {y:bD} {g:Int->Int} (h:Mi ws g (pC ws j)) (bd:∀h,g h<=cnt (ws.take j) h) (ey:ws[j]? = some y):Xy ws j (fun x=>mx (g x) (if x=y.1 then cnt (ws.take j) y.1+1 else 0)):=by
 have tk:ws.take (j+1)=ws.take j++[y]:=by rw [List.take_add_one,ey];rfl
 refine ⟨?_,fun h=> ?_⟩
 rotate_left
 ·have b1:=bd h
  have b2:=nA (ws.take j) h
  rw [tk,ji]
  show mx _ _<=_
  unfold mx
  by_cases e:h=y.1
  ·rw [if_pos e,if_pos e];subst e;split<;>(clear b2 tk ey;omega)
  ·rw [if_neg e,if_neg e];split<;>(clear e tk ey;omega)
 intro m x ex
 show cnt _ _<mx _ _↔_
 rw [Ux,h m x ex]
 by_cases e:x.1=y.1
 ·rw [if_pos e]
  constructor
  ·rintro (z|z)
   ·exact .inr z
   ·rw [e] at z
    by_cases l:m<=j
    ·by_cases em:m=j
     ·exact .inl em
     ·refine .inr (.one ?_)
      unfold lC Vu
      rw [ex,ey,decide_eq_true (show m<j by (clear z e ex tk ey;omega))]
      simp [e]
    ·have:=mH ws y.1 (j+1) (m - (j+1))
     rw [show j+1+(m - (j+1))=m by (clear this z e ex tk ey;omega)] at this
     have t:ws.take (j+1)=ws.take j++[y]:=by rw [List.take_add_one,ey];rfl
     rw [t,ji,if_pos rfl] at this
     omega
  ·rintro (z|z)
   ·subst z
    rw [e];exact .inr (by (clear tk ey e ex;omega))
   ·exact .inl z
 ·rw [if_neg e]
  constructor
  ·rintro (z|z)
   ·exact .inr z
   ·have:=nA (ws.take m) x.1;(clear e ex tk ey;omega)
  ·rintro (z|z)
   ·subst z
    rw [ex] at ey
    cases ey
    exact absurd rfl e
   ·exact .inl z
def v7 (H:Hp) (kn:Addr) (ws:List bD) (n:Nat):Prop:=∃rs:List Addr,H kn=some (.lst (rs.map V.ref))/\rs.length=n /\ ∀j r,rs[j]? = some r -> ∃g,jm H r g/\Xy ws j g
theorem v7.same {H H':Hp} {kn:Addr} {ws:List bD} {n:Nat} (h:v7 H kn ws n) (k:Same H H'):v7 H' kn ws n:=by
 obtain ⟨rs,e,l,q⟩:=h
 refine ⟨rs,k _ _ e,l,fun j r hj=> ?_⟩
 obtain ⟨g,a,b⟩:=q j r hj
 exact ⟨g,a.same k,b⟩
theorem v7.kp {H H':Hp} {kn r:Addr} {ys:List V} {ws:List bD} {n:Nat} (h:v7 H kn ws n) (k:Kp r H H') (hr:H r=some (.lst ys)) (ne:kn≠r):v7 H' kn ws n:=by
 obtain ⟨rs,e,l,q⟩:=h
 refine ⟨rs,k _ _ e ne,l,fun j r' hj=> ?_⟩
 obtain ⟨g,a,b⟩:=q j r' hj
 obtain ⟨hs,e',_⟩:=a.ex
 exact ⟨g,a.kp k (lA e' hr (by intro z;cases z)),b⟩
noncomputable def gP (ws:List bD) (j i:Nat):List Nat:=((List.range i).map fun t=>j - 1 - t).filter fun e=>decide (Bare ws j e)
theorem Iu (ws:List bD) (j i:Nat):gP ws j (i+1)=gP ws j i++(if Bare ws j (j - 1 - i) then [j - 1 - i] else []):=by
 unfold gP
 rw [List.range_succ,List.map_append,List.filter_append]
 congr 1
 by_cases h:Bare ws j (j - 1 - i)<;>simp [h]
theorem vK (ws:List bD) (j i:Nat):(gP ws j i).length<=i:=by
 unfold gP
 exact Nat.le_trans (List.length_filter_le _ _) (by simp)
def fJ (l:List Nat):List V:=l.map fun n:Nat=>V.int (n:Int)
def G4 (K:PySem.W.Frag):Sp:=fun vs H Q _=>∃(a nd kn:Addr) (ws:List bD) (j:Nat),vs=[.ref a,.ref nd,.ref kn,.int j]/\cJ H a ws/\cL H nd (nm ws)/\v7 H kn ws j/\j<ws.length/\ws.length<=300/\(∀x∈ws,0<=x.1/\x.1<8) /\
 ∀(p b d:Addr) (g:Int->Int) (H':Hp),H' p=some (.tup [.ref b,.ref d])->H' b=some (.lst (fJ (gP ws j j)))->jm H' d g->Xy ws j g->H b=none->H d=none->H p=none->Same H H'->Q (.ref p) H'
theorem WK {H:Hp} {d:Addr} (h:H d=some (.dK [])):jm H d fun _=>0:=⟨⟨[],h,List.nodup_nil,fun _ z=>absurd z (by simp),fun _ _=>rfl⟩,fun _=>Int.le_refl _⟩
theorem Sd {f:Addr} {fd:FuncData} (F:lU K "bare_steps" "bare_steps" cT f fd) (nW:FnAt P w K mg base 2 "is_step" ["web","place","later"] (xY K)) (uh:FnAt P w K mg base 1 "is_known" ["name","known"] (wO K)) (w6:FnAt P w K mg base 1 "learn" ["known","more"] (wN K)) (Bt:uo mg):cI P w K mg base nF 3 f fd ["web","named","knowns","place"] (G4 K):=by
 refine F.ok jG (fun vs H Q E h=> ?_) (fun cdv A outer s H vs Q E hr h=> ?_)
 ·obtain ⟨a,nd,kn,ws,j,rfl,_⟩:=h
  rfl
 ·obtain ⟨a,nd,kn,ws,j,rfl,W,N,Kn,jl,wl,zQ,k⟩:=h
  have hu:=mR hr
  refine ⟨_,(aq (aM (i:=4) jG.nd rfl (Or.inl rfl) (bI ao))
   (aq (aM (i:=5) jG.nd rfl (Or.inl rfl) Ei)
   (aq (dB PassesOwn.never rfl (Ag (by rfl) Bt.dX (aj (aP kE (pv 3) au) (aj (Eh xT au) (aj (Eh xT au) ao)))) (aO (i:=6) jG.nd rfl (Or.inl rfl))
   (aF (cF (PW.pt (ni (eO (aW nW (hr.mono (by decide)) (by rfl) (aj (pv 0) (aj (pv 6) (aj (pv 3) ao))))) (jH (lZ (eO (aW uh (hr.mono (by decide)) (by rfl) (aj (aL (aK (K:=K) rfl) (pv 1) (pv 6) (fun _ _=>rfl)) (aj (pv 5) ao)))))))) (aq (cA (cM (K:=K) rfl (pv 4) (aj (pv 6) ao)))
   (aF (cA (aW w6 (hr.mono (by decide)) (by rfl) (aj (pv 5) (aj (aL (aK (K:=K) rfl) (pv 2) (pv 6) (fun _ _=>rfl)) ao)))))) bG)))
   (aq (cA (aW w6 (hr.mono (by decide)) (by rfl) (aj (pv 5) (aj (Ce (yw (aL (aN (K:=K) rfl) (aL (aK (K:=K) rfl) (pv 1) (pv 3) (fun _ _=>rfl)) au (fun _ _=>rfl)) (aP bU (aL (aN (K:=K) rfl) (aL (aK (K:=K) rfl) (pv 1) (pv 3) (fun _ _=>rfl)) au (fun _ _=>rfl)) au) Cd) rfl rfl (by simp) (by decide)) ao))))
   (aF (aY (dh (aj (pv 4) (aj (pv 5) ao))))))))), ?_⟩
  refine ⟨(by show 0<=sizeLine;decide),fun b hb=> ?_⟩
  have s1:=aB (o:=HO.lst []) hb
  intro d hd
  have s2:=aB (o:=HO.dK []) hd
  have s12:=s1.trans s2
  have hd0:H d=none:=s1.free hd
  have Eu:b≠d:=aD ak hd
  refine ⟨_,rfl,_,_,rfl,rfl,_,rfl,_,rfl,(j:Int) - 1, -1,rfl,⟨by (clear Eu hd0 hd hb hu wl jl;omega),by (clear Eu hd0 hd hb hu;omega),by (clear Eu hd0 hd hb hu wl jl;omega),by (clear Eu hd0 hd hb hu wl jl;omega)⟩, ?_⟩
  have en:((j:Int) - 1 - (-1)).toNat=j:=by (clear Eu hd0 hd hb hu wl jl;omega)
  rw [en]
  refine yV (hi:=(j:Int) - 1) (n:=j) (fun i σ H2=>∃(x1:Option V) (g:Int->Int),σ=[some (.ref a),some (.ref nd),some (.ref kn),some (.int j),some (.ref b),some (.ref d),x1]/\Same H H2/\H2 b=some (.lst (fJ (gP ws j i)))/\jm H2 d g/\Mi ws g (Mq ws j (j - i)) /\ ∀h,g h<=cnt (ws.take j) h)
   ⟨none,fun _=>0,rfl,s12,s2 _ _ (by rw [ak];rfl),WK ak,⟨fun m x ex=>⟨fun z=> ?_,fun ⟨x,x1,x2,_⟩=> ?_⟩,fun h=>nA _ _⟩⟩ ?_ ?_
  ·have:=nA (ws.take m) x.1
   have z:cnt (ws.take m) x.1<0:=z
   omega
  ·have:=(m7 x2).1
   omega
  ·rintro i σ H2 hi ⟨x1,g,rfl,sm,hb2,kd,kp,bd⟩
   have ee:(j:Int) - 1 - (i:Int)=((j - 1 - i:Nat):Int):=by (clear hb2 en Eu hd0 hd hb hu wl jl;omega)
   rw [ee]
   have bs:=Iu ws j i
   have bl:=vK ws j i
   generalize he:j - 1 - i=e at bs
   have el:e<ws.length:=by (clear bs bl ee hb2 hi en Eu hd0 hd hb hu wl;omega)
   have e1:j - i=e+1:=by (clear el bs bl ee hb2 en Eu hd0 hd hb hu wl jl;omega)
   have e2:j - (i+1)=e:=by (clear e1 el bs bl ee hb2 hi en Eu hd0 hd hb hu wl jl;omega)
   rw [e1] at kp
   rw [e2]
   obtain ⟨x,ex⟩:∃x,ws[e]? = some x:=⟨ws[e],by simp [el]⟩
   refine ⟨_,rfl,_,rfl,_,rfl,a,ws,e,j,rfl,W.same sm,el,jl,_,rfl, ?_⟩
   by_cases st:lC ws e j=true
   ·rw [st]
    refine cQ ?_
    obtain ⟨ns,t,hn,en,ht⟩:=iw (N.same sm) (qu ex)
    refine ⟨_,rfl,_,rfl,_,_,_,_,rfl,rfl,aZ.of hn,bM en,_,rfl,t,d,_,_,g,rfl,ht,kd,_,rfl, ?_⟩
    have kx:=kp e x ex
    by_cases kk:Mq ws j (e+1) e
    ·rw [decide_eq_true (kx.mpr kk)]
     refine cH ?_
     have nb:¬Bare ws j e:=fun z=>z.2 kk
     rw [if_neg nb,List.append_nil] at bs
     exact ⟨_,g,rfl,sm,by rw [bs];exact hb2,kd,kp.iff fun m=>Lq kk,bd⟩
    ·rw [decide_eq_false (fun z=>kk (kx.mp z))]
     refine cQ ?_
     have nb:Bare ws j e:=⟨st,kk⟩
     rw [if_pos nb] at bs
     refine ⟨_,rfl,.inl ⟨rfl,_,aZ.of hb2⟩,_,rfl,b,_,_,rfl,rfl,hb2,by rw [fJ,List.length_map,sizeLine_eq];(clear kk kx ht en hn st ex e2 e1 el bs he ee hb2 Eu hd0 hd hb hu;omega), ?_⟩
     have k3:Kp b H2 (upd H2 b (.lst (fJ (gP ws j i)++[V.int (e:Int)]))):=Kp.set
     obtain ⟨rs,hk,rl,rq⟩:=id (Kn.same sm)
     have er:e<rs.length:=by (clear hk kk kx ht en hn st ex e2 e1 el bs bl ee hb2 Eu hd0 hd hb hu wl jl;omega)
     obtain ⟨r,err⟩:∃r,rs[e]? = some r:=⟨rs[e],by simp [er]⟩
     obtain ⟨ge,kde,kne⟩:=rq e r err
     have nkb:kn≠b:=by
      obtain ⟨_,hk0,_⟩:=Kn
      exact aD hk0 hb
     obtain ⟨_,hre,_⟩:=kde.ex
     have nrb:r≠b:=lA hre hb2 (by intro z;cases z)
     have Y8:d≠r:=by
      obtain ⟨rs0,hk0,_,rq0⟩:=Kn
      have er0:rs=rs0:=by
       have:=(sm _ _ hk0).symm.trans hk
       injection this with this
       injection this with this
       exact (List.map_inj_right (fun x y e=>by injection e)).mp this.symm
      subst er0
      obtain ⟨g0,XR,_⟩:=rq0 e r err
      obtain ⟨_,h0,_⟩:=XR.ex
      exact (aD h0 hd0).symm
     have hk3:=k3 _ _ hk nkb
     have kd3:=kd.kp k3 Eu.symm
     have afk:=kde.kp k3 nrb
     refine ⟨_,rfl,_,rfl,_,rfl,_,_,_,_,rfl,rfl,aZ.of hk3,bM (by rw [List.getElem?_map,err];rfl),d,r,g,ge,rfl,kd3,afk,Y8,fun H4 kd4 k4=> ?_⟩
     refine ⟨_,_,rfl,fun y u hy=>k4 _ _ (k3 _ _ (sm _ _ hy) (aD hy hb)) (aD hy hd0), ?_,kd4, ?_,fun h=> ?_⟩
     ·have:=k4 _ _ (ak (H:=H2) (a:=b) (o:= .lst (fJ (gP ws j i)++[V.int (e:Int)]))) Eu
      rw [this,bs]
      unfold fJ
      rw [List.map_append];rfl
     ·exact (JG kp kne.1).iff fun m=>TV st
     ·have b1:=bd h
      have b2:=kne.2 h
      have b3:=mH ws h (e+1) (j - (e+1))
      rw [show e+1+(j - (e+1))=j by (clear b3 b2 b1 hk3 Y8 nrb hre nkb err er rl hk kk kx ht en hn st ex e2 e1 el bs bl ee hb2 Eu hd0 hd hb hu wl jl;omega)] at b3
      show mx _ _<=_
      unfold mx
      split<;>(clear hk3 Y8 nrb hre nkb err er rl hk kk kx ht en hn st ex e2 e1 el bs he bl ee hb2 hi Eu hd0 hd hb hu wl jl;omega)
   ·have st':lC ws e j=false:=by simpa using st
    rw [st']
    refine cH ?_
    have nb:¬Bare ws j e:=fun z=>st z.1
    rw [if_neg nb,List.append_nil] at bs
    exact ⟨_,g,rfl,sm,by rw [bs];exact hb2,kd,kp.iff fun m=>Qz st,bd⟩
  ·rintro σ H2 ⟨x1,g,rfl,sm,hb2,kd,kp,bd⟩
   rw [Nat.sub_self] at kp
   obtain ⟨y,ey⟩:∃y,ws[j]? = some y:=⟨ws[j],by simp [jl]⟩
   obtain ⟨y0,y1⟩:=zQ y (List.mem_of_getElem? ey)
   obtain ⟨ns,t,hn,en,ht⟩:=iw (N.same sm) (qu ey)
   refine ⟨_,rfl,fun m hm=> ?_⟩
   have s3:=aB (o:=HO.dK []) hm
   refine ⟨_,rfl,_,rfl,_,_,_,_,rfl,rfl,aZ.of (s3 _ _ hn),bM en,_,_,_,_,rfl,rfl,cD.of (s3 _ _ ht),rfl,_,rfl,_,rfl,_,_,_,_,rfl,rfl,aZ.of (s3 _ _ hn),bM en,_,_,_,_,rfl,rfl,cD.of (s3 _ _ ht),rfl,_,_,rfl,rfl,ak,[(Sum.inl y.1,V.int (cnt (ws.take j) y.1+1))],rfl,by show 1<=15;decide, ?_⟩
   have e1:upd (upd H2 m (.dK [])) m (.dK (qw [] [(Sum.inl y.1,V.int (cnt (ws.take j) y.1+1))]))=upd H2 m (.dK (vW [y.1] fun x=>if x=y.1 then cnt (ws.take j) y.1+1 else 0)):=by
    rw [wK]
    congr 2
    show [(Sum.inl y.1,V.int (cnt (ws.take j) y.1+1))]=_
    simp [vW]
   rw [e1]
   have s4:Same H2 (upd H2 m (.dK (vW [y.1] fun x=>if x=y.1 then cnt (ws.take j) y.1+1 else 0))):=aB hm
   have hmd:d≠m:=by
    obtain ⟨_,h,_⟩:=kd.ex
    exact aD h hm
   have kdm:jm (upd H2 m (.dK (vW [y.1] fun x=>if x=y.1 then cnt (ws.take j) y.1+1 else 0))) m (fun x=>if x=y.1 then cnt (ws.take j) y.1+1 else 0):=by
    refine ⟨⟨[y.1],ak,by simp,fun h hh=> ?_,fun h hh=> ?_⟩,fun h=> ?_⟩
    ·have:h=y.1:=by simpa using hh
     subst this;exact ⟨y0,y1⟩
    ·have:h≠y.1:=by simpa using hh
     rw [if_neg this]
    ·have:=nA (ws.take j) y.1
     show (0:Int)<=if h=y.1 then _ else 0
     split<;>(clear hmd e1 hm ht en hn y1 y0 ey hb2 Eu hd0 hd hb hu wl jl;omega)
   refine ⟨d,m,g,_,rfl,kd.same s4,kdm,hmd,fun H5 kd5 k5=> ?_⟩
   have hb5:H5 b=some (.lst (fJ (gP ws j j))):=k5 _ _ (s4 _ _ hb2) Eu
   refine ⟨_,rfl,_,rfl,(by show 2<=sizeLine;decide),fun p hp=> ?_⟩
   have s6:=aB (o:=HO.tup [V.ref b,V.ref d]) hp
   have s05:Same H H5:=fun y u hy=>k5 _ _ (s4 _ _ (sm _ _ hy)) (aD hy hd0)
   exact k p b d _ _ ak (s6 _ _ hb5) (kd5.same s6) (Sy (kp.iff fun m=>TQ) bd ey) hb hd0 (s05.free hp) (s05.trans s6)
def nK (x:Nt):List Int:=[x.1,x.2.1,x.2.2.1,x.2.2.2]
theorem Wo (x:Nt):(nK x).map V.int=nV x:=rfl
def Xx (ns:List Nt):Prop:=ns.Pairwise fun x y=>Tim.gK (nK y) (nK x)=false
def vInt:V->Int
 | .int n=>n
 | _=>0
def tupK (H:Hp) (v:V):List Int:=match v with
 | .ref t=>match H t with
   | some (.tup xs)=>xs.map vInt
   | _=>[]
 | _=>[]
def toN:List Int->Nt
 | [a,b,c,d]=>(a,b,c,d)
 | _=>(0,0,0,0)
theorem qT {H:Hp} {t:Addr} {x:Nt} (h:H t=some (.tup (nV x))):tupK H (.ref t)=nK x:=by
 unfold tupK
 dsimp only
 rw [h]
 rfl
theorem Nf (x:Nt):toN (nK x)=x:=rfl
theorem Jv {H:Hp} {vs:List V} {ns:List Nt} (d:aH H vs (ns.map nD)) {v:V} (hv:v∈vs):∃t x,v = .ref t/\x∈ns/\H t=some (.tup (nV x)):=by
 obtain ⟨i,hi,e⟩:=List.getElem_of_mem hv
 obtain ⟨x,t,ex,ev,ht⟩:=Ck d (i:=i) (v:=v) (by rw [List.getElem?_eq_getElem hi,e])
 exact ⟨t,x,ev,List.mem_of_getElem? ex,ht⟩
theorem Jw {H:Hp}:∀{vs:List V} {ns:List Nt},aH H vs (ns.map nD)->vs.map (fun v=>toN (tupK H v))=ns
 | [],[],_=>rfl
 | [],_::_,h=>by simp only [List.map_cons,aH] at h
 | _::_,[],h=>by simp only [List.map_nil,aH] at h
 | v::vs,n::ns,h=>by
   simp only [List.map_cons,aH] at h
   obtain ⟨t,rfl,ht⟩:=zf h.1
   rw [List.map_cons,Jw h.2,qT ht,Nf]
theorem O8 {H:Hp}:∀{vs:List V},(∀v∈vs,∃t x,v=V.ref t/\H t=some (.tup (nV x)))->aH H vs ((vs.map fun v=>toN (tupK H v)).map nD)
 | [],_=>by simp [aH]
 | v::vs,h=>by
   obtain ⟨t,x,rfl,ht⟩:=h v (.head _)
   simp only [List.map_cons,aH]
   exact ⟨by rw [qT ht,Nf];exact t_ ht,O8 fun v hv=>h v (.tail _ hv)⟩
theorem Nz {K:PySem.W.Frag} {H:Hp} {p:Addr} {ns:List Nt} {Q:VK} (N:dZ H p ns) (k:∀l ns' H',H l=none->dZ H' l ns'->ns'.Perm ns->Xx ns'->Same H H'->Q (.ref l) H'):Hf K [.ref p] H Q:=by
 obtain ⟨ys,hp,d⟩:=N
 refine ⟨p,ys,4,tupK H,rfl,aZ.of hp,by decide,fun y hy=> ?_,fun l zs hl pz sz=> ?_⟩
 ·obtain ⟨t,x,rfl,_,ht⟩:=Jv d hy
  exact ⟨t,rfl,by rw [qT ht,Wo];exact cD.of ht,by rw [qT ht];rfl⟩
 ·have sm:=aB (o:=HO.lst zs) hl
  have all:∀v∈zs,∃t x,v=V.ref t/\H t=some (.tup (nV x)):=fun v hv=>by
   obtain ⟨t,x,e,_,ht⟩:=Jv d (pz.mem_iff.mp hv)
   exact ⟨t,x,e,ht⟩
  refine k l (zs.map fun v=>toN (tupK H v)) _ hl ⟨zs,ak,aH.keep sm.tups _ (bA _ mG _) (O8 all)⟩ ?_ ?_ sm
  ·rw [←Jw d]
   exact pz.map _
  ·unfold Xx
   rw [List.pairwise_map]
   refine List.Pairwise.imp_of_mem (fun {x y} hx hy h=> ?_) sz
   obtain ⟨t,a,rfl,ht⟩:=all x hx
   obtain ⟨u,b,rfl,hu⟩:=all y hy
   rw [qT ht,qT hu] at h ⊢
   exact h
def eU (ws:List bD) (i j:Nat):Nt:=(hnd ws i,cnt (ws.take i) (hnd ws i),hnd ws j,cnt (ws.take j) (hnd ws j))
def jN (ws:List bD) (j:Nat) (l:List Nat):List Nt:=(l.filter fun e=>decide (¬hnd ws e=hnd ws j)).map fun e=>eU ws e j
def u_ (K:PySem.W.Frag):Sp:=fun vs H Q _=>∃(nd b t:Addr) (ws:List bD) (j:Nat) (l:List Nat),vs=[.ref nd,.ref b,.ref t]/\cL H nd (nm ws)/\H b=some (.lst (fJ l))/\H t=some (.tup [.int (hnd ws j),.int (cnt (ws.take j) (hnd ws j))])/\(∀e∈l,e<ws.length)/\l.length<=300 /\
 ∀(r:Addr) (H':Hp),H r=none->dZ H' r (jN ws j l)->Same H H'->Q (.ref r) H'
theorem HW {α β:Type} (l:List α) (f:α->Option β):(List.range l.length).filterMap (fun i=>(l[i]?).bind f)=l.filterMap f:=by
 induction l with
 | nil=>rfl
 | cons x l ih=>
   rw [List.length_cons,List.range_succ_eq_map,List.filterMap_cons,List.filterMap_map,List.filterMap_cons]
   have e:List.filterMap ((fun i=>((x::l)[i]?).bind f)∘Nat.succ) (List.range l.length)=l.filterMap f:=by rw [←ih];rfl
   rw [e]
   rfl
theorem Hr (ws:List bD) (j:Nat) (l:List Nat):(l.filterMap fun e=>if hnd ws e=hnd ws j then none else some (nD (eU ws e j)))=(jN ws j l).map nD:=by
 unfold jN
 induction l with
 | nil=>rfl
 | cons e l ih=>
   rw [List.filterMap_cons,List.filter_cons]
   by_cases h:hnd ws e=hnd ws j
   ·rw [if_pos h]
    simp only [h,not_true_eq_false,decide_false,Bool.false_eq_true,if_false]
    exact ih
   ·rw [if_neg h]
    simp only [h,not_false_eq_true,decide_true,if_true,List.map_cons]
    rw [ih]
theorem Hj {f:Addr} {fd:FuncData} (F:lU K "notes_to" "notes_to" d9 f fd):cI P w K mg base nF 1 f fd ["named","bare","name"] (u_ K):=by
 refine F.ok DQ (fun vs H Q E h=> ?_) (fun cdv A outer s H vs Q E hr h=> ?_)
 ·obtain ⟨nd,b,t,ws,j,l,rfl,_⟩:=h
  rfl
 ·obtain ⟨nd,b,t,ws,j,l,rfl,N,hb,ht,el,ll,k⟩:=h
  refine ⟨_,(aF (aY (jL rfl (N:=["earlier","name","named"]) (own:=["earlier"]) (caps:=[2,0]) (bf.of (by kernel_rfl)) (dg (K:=K) rfl (pv 1)) (fun _ _ _ _=>(aO (i:=0) (show List.Nodup (["earlier","name","named"]:List Str) by decide +kernel) rfl (Or.inl rfl))) (fun _ _ _ _=>(oU (bh mQ (aL (aN (K:=K) rfl) (aL (aK (K:=K) rfl) (pv 2) (pv 0) (fun _ _=>rfl)) au (fun _ _=>rfl)) (aL (aN (K:=K) rfl) (pv 1) au (fun _ _=>rfl)) (bw _)))) (fun _ _ _ _=>(aP (qt (K:=K) rfl) (aL (aK (K:=K) rfl) (pv 2) (pv 0) (fun _ _=>rfl)) (pv 1)))))), ?_⟩
  have il:(fJ l).length=l.length:=by rw [fJ,List.length_map]
  refine ⟨_,rfl,b,rfl,⟨_,aZ.of hb⟩,fun D hD=> ?_⟩
  refine Ay (K:=K) (xs:=fJ l) (fun i=>(l[i]?).bind fun e=>if hnd ws e=hnd ws j then none else some (nD (eU ws e j))) (fun i d h=> ?_) hD (aZ.of hb) (by omega) (fun i x H2 G F hi s2 kG kF=> ?_) (fun H2 vs s2 e2 d2=> ?_)
  ·cases e:l[i]? with
   | none=>rw [e] at h;cases h
   | some z=>
     rw [e] at h
     simp only [Option.bind_some] at h
     split at h
     ·cases h
     ·cases h;rfl
  ·unfold fJ at hi
   rw [List.getElem?_map] at hi
   cases e:l[i]? with
   | none=>rw [e] at hi;cases hi
   | some z=>
     rw [e] at hi
     cases hi
     have zl:=el z (List.mem_of_getElem? e)
     obtain ⟨x,ex⟩:∃x,ws[z]? = some x:=⟨ws[z],by simp [zl]⟩
     have hx:=kW ex
     obtain ⟨ns,tz,hn,en,htz⟩:=iw (N.same s2) (qu ex)
     rw [←hx] at htz
     refine ⟨_,rfl,_,rfl,_,_,_,_,rfl,rfl,aZ.of hn,bM en,_,_,_,_,rfl,rfl,cD.of htz,rfl,_,rfl,_,_,_,_,rfl,rfl,cD.of (s2 _ _ ht),rfl,rfl,_,rfl, ?_⟩
     by_cases eh:hnd ws z=hnd ws j
     ·rw [show (!decide (V.int (hnd ws z)=V.int (hnd ws j)))=false by simp [eh]]
      refine cH ?_
      exact kG _ (Same.refl _) (by rw [e];simp [eh])
     ·rw [show (!decide (V.int (hnd ws z)=V.int (hnd ws j)))=true by simp [eh]]
      refine cQ ?_
      refine ⟨_,rfl,_,rfl,_,_,_,_,rfl,rfl,aZ.of hn,bM en,_,rfl,tz,t,_,_,rfl,rfl,cD.of htz,cD.of (s2 _ _ ht),by simp,by show 4<=sizeLine;decide,fun z=>absurd z (by simp),fun _ p hp=> ?_⟩
      exact kF _ (nD (eU ws z j)) _ (aB hp) (by rw [e];simp [eh]) (t_ (x:=eU ws z j) (by rw [ak];rfl))
  ·rw [il,HW,Hr] at d2
   exact k D H2 hD ⟨vs,e2,d2⟩ s2
noncomputable def jo (ws:List bD) (n:Nat):List Nt:=(List.range n).flatMap fun j=>jN ws j (gP ws j j)
theorem Bg (ws:List bD) (n:Nat):jo ws (n+1)=jo ws n++jN ws n (gP ws n n):=by
 unfold jo
 rw [List.range_succ,List.flatMap_append]
 simp
theorem vV (ws:List bD) (j:Nat) (l:List Nat):(jN ws j l).length<=l.length:=by
 unfold jN
 rw [List.length_map]
 exact List.length_filter_le _ _
theorem Gm (ws:List bD):∀n,(jo ws n).length<=n*n
 | 0=>Nat.le_refl _
 | n+1=>by
   rw [Bg,List.length_append]
   have h1:=Gm ws n
   have h2:=Nat.le_trans (vV ws n (gP ws n n)) (vK ws n n)
   have:(n+1)*(n+1)=n*n+n+n+1:=by rw [Nat.add_mul,Nat.mul_add];omega
   omega
theorem QX {ws:List bD} {j i e:Nat} (h:e∈gP ws j i):e<j\/j=0:=by
 unfold gP at h
 obtain ⟨h1,_⟩:=List.mem_filter.mp h
 obtain ⟨t,_,rfl⟩:=List.mem_map.mp h1
 omega
def BJ (K:PySem.W.Frag):Sp:=fun vs H Q _=>∃(a:Addr) (ws:List bD),vs=[.ref a]/\cJ H a ws/\ws.length<=300/\(∀x∈ws,0<=x.1/\x.1<8) /\
 ∀(r:Addr) (ns:List Nt) (H':Hp),H r=none->dZ H' r ns->ns.Perm (jo ws ws.length)->Xx ns->Same H H'->Q (.ref r) H'
theorem OD {f:Addr} {fd:FuncData} (F:lU K "notes" "notes" lF f fd) (uT:FnAt P w K mg base 1 "names" ["web"] (uw K)) (Dl:FnAt P w K mg base 3 "bare_steps" ["web","named","knowns","place"] (G4 K)) (IW:FnAt P w K mg base 1 "notes_to" ["named","bare","name"] (u_ K)) (Bt:uo mg):cI P w K mg base nF 4 f fd ["web"] (BJ K):=by
 refine F.ok lW (fun vs H Q E h=> ?_) (fun cdv A outer s H vs Q E hr h=> ?_)
 ·obtain ⟨a,ws,rfl,_⟩:=h
  rfl
 ·obtain ⟨a,ws,rfl,W,wl,zQ,k⟩:=h
  refine ⟨_,(aq (aM (i:=1) lW.nd rfl (Or.inl rfl) (aW uT (hr.mono (by decide)) (by rfl) (aj (pv 0) ao)))
   (aq (aM (i:=2) lW.nd rfl (Or.inl rfl) (bI ao))
   (aq (aM (i:=3) lW.nd rfl (Or.inl rfl) (bI ao))
   (aq (dB PassesOwn.never rfl (qp (K:=K) rfl (by rfl) Bt.j4 (aj (pv 1) ao)) (lM (K:=K) (n:=2) rfl rfl (bO (aO (i:=4) lW.nd rfl (Or.inl rfl)) (bO (aO (i:=5) lW.nd rfl (Or.inl rfl)) jK)))
   (aq (aM (i:=6) lW.nd rfl (Or.inl rfl) (aW Dl (hr.mono (by decide)) (by rfl) (aj (pv 0) (aj (pv 1) (aj (pv 2) (aj (pv 4) ao))))))
   (aq (cA (tY (K:=K) rfl PySem.F.plainAttrs_list PySem.F.slot_list_extend PySem.F.type_list_extend Ak (pv 3) (aj (aW IW (hr.mono (by decide)) (by rfl) (aj (pv 1) (aj (aL (aN (K:=K) rfl) (pv 6) au (fun _ _=>rfl)) (aj (pv 5) ao)))) ao)))
   (aF (cA (cM (K:=K) rfl (pv 2) (aj (aL (aN (K:=K) rfl) (pv 6) au (fun _ _=>rfl)) ao)))))))
   (aF (aY (aR (FN (K:=K) rfl) (by rfl) Bt.Gh Ba (aj (pv 3) ao)))))))), ?_⟩
  refine ⟨_,rfl,a,ws,rfl,W,by omega,fun nd H1 alw N s1=> ?_⟩
  refine ⟨(by show 0<=sizeLine;decide),fun kn hkn=> ?_⟩
  have s2:=aB (o:=HO.lst []) hkn
  refine ⟨(by show 0<=sizeLine;decide),fun tl htl=> ?_⟩
  have s3:=aB (o:=HO.lst []) htl
  have Gw:=(s1.trans s2).trans s3
  have Tg:H kn=none:=s1.free hkn
  have af2:H tl=none:=(s1.trans s2).free htl
  have nkt:kn≠tl:=aD ak htl
  obtain ⟨vs,hv,dv⟩:=id N
  have vl:vs.length=ws.length:=by rw [dv.length,List.length_map,bN]
  have nnk:nd≠kn:=aD hv hkn
  have nnt:nd≠tl:=aD (s2 _ _ hv) htl
  refine ⟨_,rfl,nd,vs,rfl,aZ.of (s3 _ _ (s2 _ _ hv)), ?_⟩
  refine qH (K:=K) (a:=nd) (xs:=vs) (fun j σ H3=>∃(x1 x2 x3:Option V),σ=[some (.ref a),some (.ref nd),some (.ref kn),some (.ref tl),x1,x2,x3]/\Same H H3/\H3 nd=some (.lst vs)/\cL H3 nd (nm ws)/\v7 H3 kn ws j/\dZ H3 tl (jo ws j))
   ⟨none,none,none,rfl,Gw,s3 _ _ (s2 _ _ hv),(N.same s2).same s3,⟨[],s3 _ _ ak,rfl,fun j r hj=>by simp at hj⟩,⟨[],ak,by simp [jo,aH]⟩⟩ (fun i σ H3 _ ⟨_,_,_,_,_,e,_⟩=>aZ.of e) ?_ ?_
  ·rintro j v σ H3 q hj ⟨x1,x2,x3,rfl,sm,hv3,N3,Kn,T⟩ hq
   have jl:j<ws.length:=by have:=(List.getElem?_eq_some_iff.mp hj).1;omega
   obtain ⟨y,ey⟩:∃y,ws[j]? = some y:=⟨ws[j],by simp [jl]⟩
   have hy:=kW ey
   obtain ⟨vs',t,hv',et,ht⟩:=iw N3 (qu ey)
   have ev:vs'=vs:=by rw [hv3] at hv';injection hv' with z;injection z with z;exact z.symm
   subst ev
   rw [hj] at et
   cases et
   rw [←hy] at ht
   have sq:=aB (o:=HO.tup [V.int j,V.ref t]) hq
   refine ⟨q,_,rfl,cD.of ak,rfl,_,_,rfl,_,_,rfl,rfl, ?_⟩
   refine ⟨_,rfl,_,rfl,_,rfl,_,rfl,a,nd,kn,ws,j,rfl,W.same (sm.trans sq),N3.same sq,Kn.same sq,jl,wl,zQ,fun p b d g H4 hp hb kd ko hb0 hd0 hp0 s4=> ?_⟩
   have VN:=sq.trans s4
   obtain ⟨ts,hts,Qp⟩:=id (T.same VN)
   have el:∀e∈gP ws j j,e<ws.length:=fun e he=>by
    rcases QX he with h|h
    ·omega
    ·subst h;simp [gP] at he
   have bl:=vK ws j j
   refine ⟨_,rfl,.inl ⟨rfl,_,aZ.of hts⟩,_,rfl,_,rfl,_,_,_,_,rfl,rfl,cD.of hp,rfl,_,rfl,nd,b,t,ws,j,_,rfl,N3.same VN,hb,VN _ _ ht,el,by omega,fun r H5 hr0 NT s5=> ?_⟩
   obtain ⟨VR,hrs,drs⟩:=NT
   have tll:=Gm ws j
   have l1:ts.length=(jo ws j).length:=by rw [Qp.length,List.length_map]
   have l2:VR.length=(jN ws j (gP ws j j)).length:=by rw [drs.length,List.length_map]
   have l3:=vV ws j (gP ws j j)
   have jj:j*j<=300*300:=Nat.mul_le_mul (by omega) (by omega)
   refine ⟨tl,r,_,_,rfl,rfl,s5 _ _ hts,hrs,by rw [sizeLine_eq];omega, ?_⟩
   have k6:Kp tl H5 (upd H5 tl (.lst (ts++VR))):=Kp.set
   have Hz:=s5 _ _ hts
   have t6:=k6.tups Hz
   obtain ⟨rs,hk,rl,rq⟩:=id (((Kn.same VN).same s5).kp k6 Hz nkt)
   have hp6:(upd H5 tl (.lst (ts++VR))) p=some (.tup [.ref b,.ref d]):=t6 _ _ (s5 _ _ hp)
   refine ⟨_,rfl,.inl ⟨rfl,_,aZ.of hk⟩,_,rfl,_,_,_,_,rfl,rfl,cD.of hp6,rfl,kn,_,_,rfl,rfl,hk,by rw [List.length_map,sizeLine_eq];omega, ?_⟩
   have k7:Kp kn (upd H5 tl (.lst (ts++VR))) (upd (upd H5 tl (.lst (ts++VR))) kn (.lst (rs.map V.ref++[V.ref d]))):=Kp.set
   have t7:=k7.tups hk
   have kd6:jm (upd H5 tl (.lst (ts++VR))) d g:=by
    obtain ⟨_,h,_⟩:=kd.ex
    exact (kd.same s5).kp k6 (lA (s5 _ _ h) Hz (by intro z;cases z))
   refine ⟨_,_,_,rfl,fun x u e=>k7 _ _ (k6 _ _ (s5 _ _ (VN _ _ (sm _ _ e))) (aD e af2)) (aD e Tg), ?_, ?_, ?_, ?_⟩
   ·exact k7 _ _ (k6 _ _ (s5 _ _ (VN _ _ hv3)) nnt) nnk
   ·exact (((N3.same VN).same s5).kp Hz k6 nnt).kp hk k7 nnk
   ·refine ⟨rs++[d],by rw [ak,List.map_append];rfl,by simp [rl],fun m r' hm=> ?_⟩
    by_cases hml:m<rs.length
    ·rw [List.getElem?_append_left hml] at hm
     obtain ⟨g',kd',ko'⟩:=rq m r' hm
     obtain ⟨_,h,_⟩:=kd'.ex
     exact ⟨g',kd'.kp k7 (lA h hk (by intro z;cases z)),ko'⟩
    ·have hm2:=(List.getElem?_eq_some_iff.mp hm).1
     rw [List.length_append,List.length_singleton] at hm2
     have em:m=rs.length:=by omega
     subst em
     rw [List.getElem?_append_right (Nat.le_refl _)] at hm
     simp at hm
     subst hm
     rw [rl]
     obtain ⟨_,h,_⟩:=kd6.ex
     exact ⟨g,kd6.kp k7 (lA h hk (by intro z;cases z)),ko⟩
   ·refine ⟨ts++VR,k7 _ _ ak nkt.symm, ?_⟩
    rw [Bg,List.map_append]
    refine aH.append (aH.keep (fun a xs h=>t7 _ _ (t6 _ _ (s5.tups _ _ h))) _ (bA _ mG _) Qp) (aH.keep (fun a xs h=>t7 _ _ (t6 _ _ h)) _ (bA _ mG _) drs)
  ·rintro σ H3 ⟨x1,x2,x3,rfl,sm,hv3,N3,Kn,T⟩
   rw [vl] at T
   exact ⟨_,rfl,Nz T fun l ns H4 hl NN pp ss s4=>k l ns H4 (sm.free hl) NN pp ss (sm.trans s4)⟩
noncomputable def Vc (ws:List bD) (j n:Nat):List Nat:=(List.range n).filter fun i=>decide (Bare ws j i /\ ¬hnd ws i=hnd ws j)
noncomputable instance (ws:List bD) (j e:Nat):Decidable (pC ws j e):=Classical.propDecidable _
def tX (i j:Nat):k_:=((i:Int),(j:Int))
noncomputable def eV (ws:List bD) (n:Nat):List k_:=(List.range n).flatMap fun j=>(Vc ws j j).map fun i=>tX i j
theorem qD (ws:List bD) (n:Nat):eV ws (n+1)=eV ws n++(Vc ws n n).map fun i=>tX i n:=by
 unfold eV
 rw [List.range_succ,List.flatMap_append]
 simp
theorem J1 (ws:List bD) (j n:Nat):(Vc ws j n).length<=n:=by
 unfold Vc
 exact Nat.le_trans (List.length_filter_le _ _) (by simp)
theorem yM (ws:List bD):∀n,(eV ws n).length<=n*n
 | 0=>Nat.le_refl _
 | n+1=>by
   rw [qD,List.length_append,List.length_map]
   have h1:=yM ws n
   have h2:=J1 ws n n
   have:(n+1)*(n+1)=n*n+n+n+1:=by rw [Nat.add_mul,Nat.mul_add];omega
   omega
def bY (ws:List bD) (j:Nat):List Nat:=(List.range j).filter fun i=>lC ws i j
theorem Lf (ws:List bD) (j:Nat):(List.range j).filterMap (fun i=>if lC ws i j=true then some (V.int (0+(i:Int))) else none)=fJ (bY ws j):=by
 unfold bY fJ
 simp only [Int.zero_add]
 generalize List.range j=l
 induction l with
 | nil=>rfl
 | cons x l ih=>
   rw [List.filterMap_cons,List.filter_cons]
   by_cases h:lC ws x j=true
   ·simp [h,ih]
   ·simp [h,ih]
theorem Ir (ws:List bD) (j:Nat):Vc ws j j=(bY ws j).filter fun i=>decide (Bare ws j i /\ ¬hnd ws i=hnd ws j):=by
 unfold Vc bY
 rw [List.filter_filter]
 refine List.filter_congr fun i _=> ?_
 by_cases h:Bare ws j i /\ ¬hnd ws i=hnd ws j
 ·simp [h,h.1.1]
 ·simp [h]
theorem aau {ws:List bD} {j i:Nat}:(bY ws j).filter (fun x=>decide (i<x/\pC ws x i))=[] ↔ ¬Mq ws j (i+1) i:=by
 constructor
 ·rintro h ⟨x,a,b,c⟩
  have r:pC ws x i:=c.resolve_left (by omega)
  have xj:=m7 b
  have:x∈(bY ws j).filter (fun x=>decide (i<x/\pC ws x i)):=List.mem_filter.mpr ⟨List.mem_filter.mpr ⟨List.mem_range.mpr xj.1,b⟩,by simp [r];omega⟩
  rw [h] at this
  cases this
 ·intro h
  rw [List.filter_eq_nil_iff]
  intro x hx z
  have z:=of_decide_eq_true z
  obtain ⟨_,b⟩:=List.mem_filter.mp hx
  exact h ⟨x,by omega,b,.inr z.2⟩
def yd (K:PySem.W.Frag):Sp:=fun vs H Q _=>∃(a c t:Addr) (ws:List bD) (H0:Hp),vs=[.ref a,.ref c,.ref t]/\cJ H a ws/\cL H c (nm ws)/\Bh ws H0 H t ws.length/\(∀x∈ws,qO x)/\ws.length<=300 /\
 ∀(r:Addr) (H':Hp),H r=none->cL H' r (eV ws ws.length)->Same H H'->Q (.ref r) H'
theorem Xd {α:Type} (l:List α) (p:α->Bool) (v:α->V):(List.range l.length).filterMap (fun i=>(l[i]?).bind fun x=>if p x=true then some (v x) else none)=(l.filter p).map v:=by
 rw [HW]
 induction l with
 | nil=>rfl
 | cons x l ih=>
   rw [List.filterMap_cons,List.filter_cons]
   by_cases h:p x=true
   ·simp [h,ih]
   ·simp [h,ih]
theorem Li {H:Hp} {a:Addr} {l:List Nat} (h:H a=some (.lst (fJ l))):Dat H (.ref a) (.list ((l.map fun n:Nat=>(n:Int)).map PyData.int)):=jW (vs:=fJ l) h (by
 have:=aH.ints (H:=H) (l.map fun n:Nat=>(n:Int))
 rw [List.map_map] at this
 exact this)
theorem Tt (l:List Int):PyData.eqv (.list (l.map PyData.int)) (.list [])=decide (l=[]):=by
 cases l with
 | nil=>rfl
 | cons x l=>simp [PyData.eqv,PyData.eqvAll]
theorem uy (ns:List Int):SeqAt.shaped (.list (ns.map PyData.int))=true:=jR PyData.int 0 (by decide) (fun _ _=>rfl) (fun _ _=>by show 0<=0;decide)
theorem KR {f:Addr} {fd:FuncData} (F:lU K "_law_notes" "_law_notes" iZ f fd) (Dn:FnAt P w K mg base 2 "_law_step" ["one","other"] (wM K)) (Bt:uo mg):cI P w K mg base nF 3 f fd ["web","calls","table"] (yd K):=by
 refine F.ok iC (fun vs H Q E h=> ?_) (fun cdv A outer s H vs Q E hr h=> ?_)
 ·obtain ⟨a,c,t,ws,H0,rfl,_⟩:=h
  rfl
 ·obtain ⟨a,c,t,ws,H0,rfl,W,C,T,ok,wl,k⟩:=h
  have pH:=hr.units
  obtain ⟨vs,ha,dv⟩:=id W
  have zM:vs.length=ws.length:=by rw [dv.length,List.length_map]
  refine ⟨_,(aq (aM (i:=3) iC.nd rfl (Or.inl rfl) (bI ao))
   (aq (dB PassesOwn.never rfl (dD (by rfl) Bt.dX (aj (aR (bB (K:=K) rfl) (by rfl) Bt.jZ fQ (aj (pv 0) ao)) ao)) (aO (i:=4) iC.nd rfl (Or.inr rfl))
   (aq (oV (i:=5) rfl iC.nd rfl (Or.inl rfl) (N:=["i","web","j"]) (own:=["i"]) (caps:=[0,4]) (bf.of (by kernel_rfl)) (dD (by rfl) Bt.dX (aj (pv 4) ao)) (fun _ _ _ _=>(aO (i:=0) (show List.Nodup (["i","web","j"]:List Str) by decide +kernel) rfl (Or.inl rfl))) (fun _ _ _ _=>(oU (eO (aW Dn (hr.mono (by decide)) (by rfl) (aj (aL (aK (K:=K) rfl) (pv 1) (pv 0) (fun _ _=>rfl)) (aj (aL (aK (K:=K) rfl) (pv 1) (pv 2) (fun _ _=>rfl)) ao)))))) (fun _ _ _ _=>(pv 0)))
   (aF (dB PassesOwn.never rfl (dg (K:=K) rfl (pv 5)) (aO (i:=6) iC.nd rfl (Or.inr rfl))
   (aq (qm (aL (aK (K:=K) rfl) (pv 1) (pv 6) (fun _ _=>rfl)) (lM (K:=K) (n:=2) rfl rfl (bO (aO (i:=7) iC.nd rfl (Or.inr rfl)) (bO (aO (i:=8) iC.nd rfl (Or.inr rfl)) jK))))
   (aq (oV (i:=9) rfl iC.nd rfl (Or.inl rfl) (N:=["x","i","k","hand","table"]) (own:=["x"]) (caps:=[6,8,7,2]) (bf.of (by kernel_rfl)) (dg (K:=K) rfl (pv 5)) (fun _ _ _ _=>(aO (i:=0) (show List.Nodup (["x","i","k","hand","table"]:List Str) by decide +kernel) rfl (Or.inl rfl))) (fun _ _ _ _=>(oU (PW.pt (ni (bh Ej (pv 0) (pv 1) (bw _)) (jH (bh vU (pv 2) (aL (aK (K:=K) rfl) (aL (aK (K:=K) rfl) (pv 4) (pv 0) (fun _ _=>rfl)) (pv 3) (fun _ _=>rfl)) (bw _))))))) (fun _ _ _ _=>(pv 0)))
   (aF (cF (PW.pt (ni (bh mQ (pv 7) (aL (aN (K:=K) rfl) (aL (aK (K:=K) rfl) (pv 0) (pv 4) (fun _ _=>rfl)) au (fun _ _=>rfl)) (bw _)) (jH (bh (qZ (K:=K) rfl pH) (pv 9) (bI ao) (bw _))))) (aF (cA (cM (K:=K) rfl (pv 3) (aj (dh (aj (pv 6) (aj (pv 4) ao))) ao)))) bG))))))))
   (aF (aY (pv 3))))), ?_⟩
  refine ⟨(by show 0<=sizeLine;decide),fun r hr0=> ?_⟩
  have s1:=aB (o:=HO.lst []) hr0
  refine ⟨_,rfl,a,_,rfl,.inl (aZ.of (s1 _ _ ha)),_,rfl,by omega,by omega, ?_⟩
  rw [show ((vs.length:Nat):Int).toNat=ws.length by omega]
  refine iG (lo:=0) (n:=ws.length) (fun j σ H2=>∃(x1 x2 x3 x4 x5 x6:Option V),σ=[some (.ref a),some (.ref c),some (.ref t),some (.ref r),x1,x2,x3,x4,x5,x6]/\Same H H2/\cL H2 r (eV ws j))
   ⟨none,none,none,none,none,none,rfl,s1,⟨[],ak,by simp [eV,aH]⟩⟩ ?_ ?_
  ·rintro j σ H2 hj ⟨x1,x2,x3,x4,x5,x6,rfl,sm,P2⟩
   obtain ⟨y,ey⟩:∃y,ws[j]? = some y:=⟨ws[j],by simp [hj]⟩
   have hyj:=kW ey
   have W2:=W.same sm
   have C2:=C.same sm
   have T2:=T.same sm
   refine ⟨_,rfl,_,rfl,by omega,by omega,fun D hD=> ?_⟩
   rw [show (0+(j:Int)).toNat=j by omega]
   refine rD (fun i=>if lC ws i j=true then some (V.int (0+(i:Int))) else none) hD (by omega) (fun i H3 G F hi s3 kG kF=> ?_) (fun H3 s3 e3=> ?_)
   ·have hil:i<ws.length:=by omega
    obtain ⟨x,ex⟩:∃x,ws[i]? = some x:=⟨ws[i],by simp [hil]⟩
    have W4:=W2.same s3
    obtain ⟨vs',t1,W8,e1,ht1⟩:=lB W4 ex
    obtain ⟨vs'',t2,Qd,e2,qG⟩:=lB W4 ey
    have ev:vs'=vs'':=by rw [W8] at Qd;injection Qd with z;injection z
    subst ev
    have es:lC ws i j=(decide (x.1=y.1)||mt x y):=by unfold lC Vu;rw [ex,ey,decide_eq_true hi,Bool.true_and]
    refine ⟨_,rfl,_,rfl,_,_,_,_,rfl,rfl,aZ.of W8,Df e1,_,rfl,_,rfl,_,_,_,_,rfl,rfl,aZ.of W8,Df e2,t1,t2,x,y,rfl,ht1,qG,_,rfl, ?_⟩
    rw [←es]
    by_cases st:lC ws i j=true
    ·rw [st]
     refine cQ ?_
     exact ⟨_,rfl,kF _ H3 (Same.refl _) (by rw [if_pos st])⟩
    ·have st':lC ws i j=false:=by simpa using st
     rw [st']
     refine cH ?_
     exact kG H3 (Same.refl _) (by rw [if_neg st])
   rw [Lf] at e3
   have hD0:H D=none:=sm.free hD
   have fl:(bY ws j).length<=j:=Nat.le_trans (List.length_filter_le _ _) (by simp)
   have il:(fJ (bY ws j)).length=(bY ws j).length:=by rw [fJ,List.length_map]
   have nrD:r≠D:=by
    obtain ⟨_,h,_⟩:=P2
    exact aD h hD
   refine ⟨_,rfl,D,rfl,⟨_,aZ.of e3⟩, ?_⟩
   refine nQ (K:=K) (a:=D) (xs:=fJ (bY ws j)) (fun n σ H4=>∃(x3 x4 x5 x6:Option V),σ=[some (.ref a),some (.ref c),some (.ref t),some (.ref r),some (.int (0+(j:Int))),some (.ref D),x3,x4,x5,x6]/\Same H H4/\H4 D=some (.lst (fJ (bY ws j)))/\cL H4 r (eV ws j++(((bY ws j).take n).filter fun i=>decide (Bare ws j i /\ ¬hnd ws i=hnd ws j)).map fun i=>tX i j))
    ⟨_,_,_,_,rfl,sm.trans s3,e3,by simpa using P2.same s3⟩ (fun n σ H4 _ ⟨_,_,_,_,_,_,e,_⟩=>aZ.of e) ?_ ?_
   ·rintro n v σ H4 hn ⟨x3,x4,x5,x6,rfl,s4,e4,P4⟩
    unfold fJ at hn
    rw [List.getElem?_map] at hn
    cases ei:(bY ws j)[n]? with
    | none=>rw [ei] at hn;cases hn
    | some i=>
      rw [ei] at hn
      cases hn
      have im:=List.mem_of_getElem? ei
      obtain ⟨ir,st⟩:=List.mem_filter.mp im
      have hij:i<j:=List.mem_range.mp ir
      have hil:i<ws.length:=by omega
      obtain ⟨x,ex⟩:∃x,ws[i]? = some x:=⟨ws[i],by simp [hil]⟩
      obtain ⟨⟨x0,x1'⟩,_⟩:=ok x (List.mem_of_getElem? ex)
      have hxi:=kW ex
      obtain ⟨cs,p,hc,ec,hp⟩:=iw (C.same s4) (qu ex)
      have tk:(bY ws j).take (n+1)=(bY ws j).take n++[i]:=by rw [List.take_add_one,ei];rfl
      refine ⟨_,rfl,_,rfl,_,_,_,_,rfl,rfl,aZ.of hc,bM ec,p,_,rfl,cD.of hp,rfl,_,_,rfl,_,_,rfl,rfl, ?_⟩
      refine ⟨_,rfl,D,rfl,⟨_,aZ.of e4⟩,fun B hB=> ?_⟩
      refine qL (K:=K) (fun m=>((bY ws j)[m]?).bind fun z=>if decide (i<z/\pC ws z i)=true then some (V.int (z:Int)) else none) hB (aZ.of e4) (by omega) (fun m v H5 G F hm s5 kG kF=> ?_) (fun H5 s5 e5=> ?_)
      ·unfold fJ at hm
       rw [List.getElem?_map] at hm
       cases ez:(bY ws j)[m]? with
       | none=>rw [ez] at hm;cases hm
       | some z=>
         rw [ez] at hm
         cases hm
         have zl:z<j:=List.mem_range.mp (List.mem_filter.mp (List.mem_of_getElem? ez)).1
         refine ⟨_,rfl,_,rfl,_,_,rfl,rfl,_,rfl, ?_⟩
         by_cases lt:i<z
         ·rw [decide_eq_true (show ((i:Nat):Int)<((z:Nat):Int) by omega)]
          refine cQ ?_
          obtain ⟨rs,ht0,hts,rl,rq⟩:=(T.same s4).same s5
          have Zr:z<rs.length:=by omega
          obtain ⟨q,eq⟩:∃q,rs[z]? = some q:=⟨rs[z],by simp [Zr]⟩
          obtain ⟨_,_,rz,hrz,ro⟩:=rq z q eq
          have rol:=ro.1
          have rr:=ro.2 i x ex
          refine ⟨_,rfl,_,rfl,_,rfl,_,_,_,_,rfl,rfl,aZ.of hts,bM (by rw [List.getElem?_map,eq];rfl),_,rfl,_,_,_,_,rfl,rfl,aZ.of hrz,uc x0 (by omega),_,_,rfl,rfl,_,rfl, ?_⟩
          by_cases rc:pC ws z i
          ·rw [decide_eq_true (rr.mpr (.inr rc))]
           refine cQ ?_
           exact ⟨_,rfl,kF _ H5 (Same.refl _) (by simp [ez,lt,rc])⟩
          ·rw [decide_eq_false (fun zz=>rc ((rr.mp zz).resolve_left (by omega)))]
           refine cH ?_
           exact kG H5 (Same.refl _) (by simp [ez,lt,rc])
         ·rw [decide_eq_false (show ¬((i:Nat):Int)<((z:Nat):Int) by omega)]
          refine cH ?_
          exact kG H5 (Same.refl _) (by simp [ez,lt])
      rw [il,Xd (bY ws j) (fun z=>decide (i<z/\pC ws z i)) (fun z:Nat=>V.int (z:Int))] at e5
      have e5:H5 B=some (.lst (fJ ((bY ws j).filter fun z=>decide (i<z/\pC ws z i)))):=e5
      have hB0:H B=none:=s4.free hB
      have s45:=s4.trans s5
      have P5:=P4.same s5
      obtain ⟨ws',t2,Zt,e2,qG⟩:=lB (W.same s45) ey
      refine ⟨_,rfl,_,rfl,_,rfl,_,_,_,_,rfl,rfl,aZ.of Zt,Df e2,_,_,_,_,rfl,rfl,cD.of qG,rfl,rfl,_,rfl, ?_⟩
      rw [←hxi,←hyj]
      have fin:∀(u1 u2:Option V) H6,Same H5 H6 -> ¬(Bare ws j i /\ ¬hnd ws i=hnd ws j) -> ∃(x3 x4 x5 x6:Option V),[some (V.ref a),some (.ref c),some (.ref t),some (.ref r),some (.int (0+(j:Int))),some (.ref D),some (.int (i:Int)),u1,u2,some (.ref B)]=[some (.ref a),some (.ref c),some (.ref t),some (.ref r),some (.int (0+(j:Int))),some (.ref D),x3,x4,x5,x6]/\Same H H6/\H6 D=some (.lst (fJ (bY ws j)))/\cL H6 r (eV ws j++(((bY ws j).take (n+1)).filter fun i=>decide (Bare ws j i /\ ¬hnd ws i=hnd ws j)).map fun i=>tX i j):=by
       intro u1 u2 H6 s6 nb
       refine ⟨_,_,_,_,rfl,s45.trans s6,s6 _ _ (s5 _ _ e4), ?_⟩
       rw [tk,List.filter_append]
       simp only [List.filter_cons,nb,decide_false,Bool.false_eq_true,if_false,List.filter_nil,List.append_nil]
       exact P5.same s6
      by_cases eh:hnd ws i=hnd ws j
      ·rw [show (!decide (V.int (hnd ws i)=V.int (hnd ws j)))=false by simp [eh]]
       refine cH ?_
       exact fin _ _ H5 (Same.refl _) fun z=>z.2 eh
      ·rw [show (!decide (V.int (hnd ws i)=V.int (hnd ws j)))=true by simp [eh]]
       refine cQ ?_
       refine ⟨_,rfl,(by show 0<=sizeLine;decide),fun p0 hp0=> ?_⟩
       have s6:=aB (o:=HO.lst []) hp0
       refine ⟨_,_,Li (s6 _ _ e5),(show Dat _ (V.ref p0) (.list []) from jW (vs:=[]) ak (by simp [aH])),uy _,(show SeqAt.shaped (.list [])=true from uy []),_,rfl, ?_⟩
       rw [if_neg Bool.false_ne_true,Tt]
       by_cases cv:Mq ws j (i+1) i
       ·have ne:¬((bY ws j).filter fun z=>decide (i<z/\pC ws z i)).map (fun n:Nat=>(n:Int))=[]:=fun z=>absurd cv (aau.mp (List.map_eq_nil_iff.mp z))
        rw [decide_eq_false ne]
        refine cH ?_
        exact fin _ _ _ s6 fun z=>z.1.2 cv
       ·have ne:((bY ws j).filter fun z=>decide (i<z/\pC ws z i)).map (fun n:Nat=>(n:Int))=[]:=by rw [List.map_eq_nil_iff];exact aau.mpr cv
        rw [decide_eq_true ne]
        refine cQ ?_
        have P6:=P5.same s6
        obtain ⟨ts,hts,Qp⟩:=id P6
        have tl:ts.length<=j*j+j:=by
         rw [Qp.length,List.length_map,List.length_append,List.length_map]
         have h1:=yM ws j
         have h2:(((bY ws j).take n).filter fun i=>decide (Bare ws j i /\ ¬hnd ws i=hnd ws j)).length<=j:=Nat.le_trans (List.length_filter_le _ _) (Nat.le_trans (by rw [List.length_take];omega) fl)
         omega
        have jj:j*j<=300*300:=Nat.mul_le_mul (by omega) (by omega)
        refine ⟨_,rfl,.inl ⟨rfl,_,aZ.of hts⟩,_,rfl,_,rfl,(by show 2<=sizeLine;decide),fun q hq=> ?_⟩
        have s7:=aB (o:=HO.tup [V.int (i:Int),V.int (0+(j:Int))]) hq
        refine ⟨r,ts,_,rfl,rfl,s7 _ _ hts,by rw [sizeLine_eq];omega, ?_⟩
        have k8:Kp r (upd (upd H5 p0 (.lst [])) q (.tup [V.int (i:Int),V.int (0+(j:Int))])) (upd (upd (upd H5 p0 (.lst [])) q (.tup [V.int (i:Int),V.int (0+(j:Int))])) r (.lst (ts++[V.ref q]))):=Kp.set
        have t8:=k8.tups (s7 _ _ hts)
        have s57:=s6.trans s7
        refine ⟨_,_,_,_,rfl,fun b u e=>k8 _ _ (s57 _ _ (s45 _ _ e)) (aD e hr0),k8 _ _ (s57 _ _ (s5 _ _ e4)) nrD.symm, ?_⟩
        have nb:Bare ws j i /\ ¬hnd ws i=hnd ws j:=⟨⟨st,cv⟩,eh⟩
        rw [tk,List.filter_append,List.map_append,←List.append_assoc]
        simp only [List.filter_cons,nb,not_false_eq_true,and_self,decide_true,if_true,List.filter_nil,List.map_cons,List.map_nil]
        refine ⟨ts++[V.ref q],ak, ?_⟩
        rw [List.map_append]
        refine aH.append (aH.keep (fun a xs h=>t8 _ _ (s7.tups _ _ h)) _ (bA _ iB _) Qp) (uL (jh (x:=tX i j) ?_))
        have:=t8 _ _ (ak (H:=upd H5 p0 (.lst [])) (a:=q) (o:=HO.tup [V.int (i:Int),V.int (0+(j:Int))]))
        rw [Int.zero_add] at this
        rw [Int.zero_add]
        exact this
   ·rintro σ H4 ⟨x3,x4,x5,x6,rfl,s4,e4,P4⟩
    rw [il,List.take_length,←Ir,←qD] at P4
    exact ⟨_,_,_,_,_,_,rfl,s4,P4⟩
  ·rintro σ H2 ⟨x1,x2,x3,x4,x5,x6,rfl,sm,P2⟩
   exact ⟨_,rfl,k r H2 hr0 P2 sm⟩
def PL (i:Int) (n:Nat):Prop:=0<=i/\i<(n:Int)
instance (i:Int) (n:Nat):Decidable (PL i n):=inferInstanceAs (Decidable (_/\_))
def RJ (K:PySem.W.Frag):Sp:=fun vs H Q _=>∃i:Int,vs=[.int i]/\Q (.bl true) H
theorem Em {f:Addr} {fd:FuncData} (F:lU K "is_whole" "is_whole" d_ f fd) (Bt:uo mg):cI P w K mg base nF 1 f fd ["value"] (RJ K):=by
 refine F.ok DW (fun vs H Q E h=> ?_) (fun cdv A outer s H vs Q E hr h=> ?_)
 ·obtain ⟨i,rfl,_⟩:=h
  rfl
 ·obtain ⟨i,rfl,k⟩:=h
  refine ⟨_,(aF (aY (vm (aR (rG (K:=K) (cv:= .ty "int") (c:= .type "int") rfl rfl) (by rfl) Bt.dW cY (aj (pv 0) (aj (uE (v:= .ty "int") (by rfl) Bt.QV Ih rfl) ao))) (nj (V7 (aR (rG (K:=K) (cv:= .ty "bool") (c:= .type "bool") rfl rfl) (by rfl) Bt.dW cY (aj (pv 0) (aj (uE (v:= .ty "bool") (by rfl) Bt.Xq TX rfl) ao)))))))), ?_⟩
  refine ⟨_,rfl,_,_,true,rfl,.int i,Fp K,true,rfl, ?_⟩
  refine cQ ?_
  exact ⟨_,rfl,_,_,false,rfl,.int i,Cv K,false,rfl,k⟩
def BP (K:PySem.W.Frag):Sp:=fun vs H Q _=>∃(i:Int) (n:Nat),vs=[.int i,.int n]/\Q (.bl (decide (PL i n))) H
theorem Eo {f:Addr} {fd:FuncData} (F:lU K "is_below" "is_below" eG f fd) (ug:FnAt P w K mg base 1 "is_whole" ["value"] (RJ K)):cI P w K mg base nF 2 f fd ["value","count"] (BP K):=by
 refine F.ok D_ (fun vs H Q E h=> ?_) (fun cdv A outer s H vs Q E hr h=> ?_)
 ·obtain ⟨i,n,rfl,_⟩:=h
  rfl
 ·obtain ⟨i,n,rfl,k⟩:=h
  refine ⟨_,(aF (aY (vm (aW ug (hr.mono (by decide)) (by rfl) (aj (pv 0) ao)) (nj (Ou YX vU au (pv 0) (pv 1)))))), ?_⟩
  refine ⟨_,rfl,i,rfl,true,rfl, ?_⟩
  refine cQ ?_
  refine ⟨_,rfl,_,_,rfl,rfl,_,rfl, ?_⟩
  refine rN (fun h0=> ?_) (fun h0=> ?_)
  ·refine ⟨_,rfl,_,_,rfl,rfl, ?_⟩
   have e:decide (PL i n)=decide (i<(n:Int)):=by
    have h0:=of_decide_eq_true h0
    rw [Bool.eq_iff_iff,decide_eq_true_iff,decide_eq_true_iff]
    exact ⟨fun z=>z.2,fun z=>⟨h0,z⟩⟩
   show Q (.bl (decide (i<(n:Int)))) H
   rw [←e]
   exact k
  ·have e:decide (PL i n)=false:=decide_eq_false fun z=>h0 (decide_eq_true z.1)
   rw [←e]
   exact k
theorem uK (x y:Int):PyData.eqv (.int x) (.int y)=decide (x=y):=by
 simp only [PyData.eqv]
 rw [Bool.eq_iff_iff]
 simp
theorem jX {H:Hp} {a:Addr} {ns:List Int} (h:H a=some (.lst (ns.map V.int))):Dat H (.ref a) (.list (ns.map PyData.int)):=jW h (aH.ints ns)
theorem shaped_ints (ns:List Int):SeqAt.shaped (.list (ns.map PyData.int))=true:=jR PyData.int 0 (by decide) (fun _ _=>rfl) (fun _ _=>by show 0<=0;decide)
def LI (H:Hp) (a:Addr) (os:List Int):Prop:=H a=some (.lst (os.map V.int))
def wk (n:Nat):List Int:=(List.range n).map fun k:Nat=>(k:Int)
def mF (n:Nat) (os:List Int):Bool:=os.isPerm (wk n)
theorem lR {n:Nat} {os:List Int}:mF n os=true↔os.Perm (wk n):=List.isPerm_iff
theorem yK {n:Nat} {x:Int}:x∈wk n↔PL x n:=by
 unfold wk PL
 rw [List.mem_map]
 constructor
 ·rintro ⟨k,hk,rfl⟩
  rw [List.mem_range] at hk
  omega
 ·rintro ⟨h0,h1⟩
  exact ⟨x.toNat,by rw [List.mem_range];omega,by omega⟩
theorem Ea (n:Nat):(wk n).Pairwise (fun x y:Int=>x<=y):=by
 unfold wk
 rw [List.pairwise_map]
 exact (List.pairwise_lt_range (n:=n)).imp fun h=>by omega
theorem G_ (n:Nat):(wk n).Nodup:=by
 unfold wk List.Nodup
 rw [List.pairwise_map]
 exact (List.nodup_range (n:=n)).imp fun h z=>h (by omega)
theorem Ke {n:Nat} {os ms:List Int} (p:ms.Perm os) (s:ms.Pairwise (fun x y:Int=>x<=y)):decide (ms=wk n)=mF n os:=by
 rw [Bool.eq_iff_iff,decide_eq_true_iff,lR]
 constructor
 ·intro e
  rw [←e]
  exact p.symm
 ·intro q
  exact List.Perm.eq_of_pairwise (le:=fun x y:Int=>x<=y) (fun a b _ _ h1 h2=>Int.le_antisymm h1 h2) s (Ea n) (p.trans q)
theorem Ov {n:Nat} {os:List Int} (o:mF n os=true) {i:Nat} {x:Int} (e:os[i]? = some x):PL x n:=yK.mp ((lR.mp o).mem_iff.mp (List.mem_of_getElem? e))
theorem R4 {n:Nat} {os:List Int} (o:mF n os=true):os.length=n:=by rw [(lR.mp o).length_eq];simp [wk]
theorem R5 {n:Nat} {os:List Int} (o:mF n os=true) {i j:Nat} {x:Int} (ei:os[i]? = some x) (ej:os[j]? = some x):i=j:=by
 have nd:os.Nodup:=((lR.mp o).nodup_iff).mpr (G_ n)
 obtain ⟨hi,e1⟩:=List.getElem?_eq_some_iff.mp ei
 obtain ⟨hj,e2⟩:=List.getElem?_eq_some_iff.mp ej
 have pw:=List.pairwise_iff_getElem.mp nd
 rcases Nat.lt_trichotomy i j with h|h|h
 ·exact absurd (e1.trans e2.symm) (pw i j hi hj h)
 ·exact h
 ·exact absurd (e2.trans e1.symm) (pw j i hj hi h)
theorem Wa {n:Nat} {os:List Int} (o:mF n os=true) {x:Nat} (h:x<n):∃i:Nat,os[i]? = some (x:Int):=by
 have:(x:Int)∈os:=(lR.mp o).mem_iff.mpr (yK.mpr ⟨by omega,by omega⟩)
 exact List.getElem?_of_mem this
theorem LI.same {H H':Hp} {a:Addr} {os:List Int} (h:LI H a os) (k:Same H H'):LI H' a os:=k _ _ h
theorem Ln (os:List Int) {n:Int} (h:0<=n):fL (os.map V.int) none (some n)=(os.take n.toNat).map V.int:=by
 obtain ⟨m,rfl⟩:=Int.eq_ofNat_of_zero_le h
 rw [zm,List.map_take,Int.toNat_natCast]
theorem Lp (os:List Int) {n:Int} (h:0<=n):fL (os.map V.int) (some n) none=(os.drop n.toNat).map V.int:=by
 obtain ⟨m,rfl⟩:=Int.eq_ofNat_of_zero_le h
 rw [uM,List.map_drop,Int.toNat_natCast]
theorem Jj {K:PySem.W.Frag} {H:Hp} {a:Addr} {os:List Int} {n:Int} {Q:VK} (h:LI H a os) (n0:0<=n) (k:∀p H',H p=none->LI H' p (os.take n.toNat)->Same H H'->Q (.ref p) H'):N_ K (.ref a) none (some n) H Q:=
 ⟨a,_,rfl,aZ.of h,fun p hp=>by rw [Ln os n0];exact k p _ hp ak (aB hp)⟩
theorem Jk {K:PySem.W.Frag} {H:Hp} {σ:St} {a:Addr} {os:List Int} {n:Int} {Q:VK} (h:LI H a os) (n0:0<=n) (k:∀p H',H p=none->LI H' p (os.drop n.toNat)->Same H H'->Q (.ref p) H'):Je σ H fun u H3=>N_ K (.ref a) (some n) u H3 Q:=
 ⟨a,_,rfl,aZ.of h,fun p hp=>by rw [Lp os n0];exact k p _ hp ak (aB hp)⟩
theorem eY {H:Hp} {a b:Addr} {xs ys:List Int} {Q:VK} (ha:LI H a xs) (hb:LI H b ys) (hl:xs.length+ys.length<=1000) (k:∀p H',H p=none->LI H' p (xs++ys)->Same H H'->Q (.ref p) H'):YJ (.ref a) (.ref b) H Q:=
 ⟨a,b,_,_,rfl,rfl,ha,hb,by rw [sizeLine_eq,List.length_map,List.length_map];omega,fun p hp=>k p _ hp (show upd H p _ p=some (.lst ((xs++ys).map V.int)) by rw [ak,List.map_append]) (aB hp)⟩
def nI (l:List Nat):List Int:=l.map fun n:Nat=>(n:Int)
theorem kO (l:List Nat):(nI l).length=l.length:=by simp [nI]
theorem Ly {ws:List bD} {m n:Nat} (h:m<=n) (g:Int):cnt (ws.take m) g<=cnt (ws.take n) g:=by
 have e:ws.take n=ws.take m++(ws.take n).drop m:=by
  have:=List.take_append_drop m (ws.take n)
  rw [List.take_take,Nat.min_eq_left h] at this
  exact this.symm
 unfold cnt
 rw [e,List.filter_append,List.length_append]
 omega
theorem Jx {ws:List bD} {i:Nat} {x:k_} (h:(nm ws)[i]? = some x):∃y,ws[i]? = some y/\x=(y.1,cnt (ws.take i) y.1):=by
 have il:i<ws.length:=by have:=(List.getElem?_eq_some_iff.mp h).1;rw [bN] at this;exact this
 have e:ws[i]? = some ws[i]:=by simp [il]
 rw [qu e] at h
 exact ⟨ws[i],e,(Option.some.inj h).symm⟩
theorem Pb {ws:List bD} {i j:Nat} {x:k_} (hi:(nm ws)[i]? = some x) (hj:(nm ws)[j]? = some x):¬i<j:=fun lt=>by
 obtain ⟨y,ey,e1⟩:=Jx hi
 obtain ⟨z,ez,e2⟩:=Jx hj
 rw [e1] at e2
 injection e2 with h1 h2
 have tk:ws.take (i+1)=ws.take i++[y]:=by rw [List.take_add_one,ey];rfl
 have m:=Ly (ws:=ws) (m:=i+1) (n:=j) lt y.1
 rw [tk,ji,if_pos rfl] at m
 rw [←h1] at h2
 omega
theorem kJ {ws:List bD} {i j:Nat} {x:k_} (hi:(nm ws)[i]? = some x) (hj:(nm ws)[j]? = some x):i=j:=by
 have:=Pb hi hj
 have:=Pb hj hi
 omega
def kx (x:k_):List Key:=[Sum.inl x.1,Sum.inl x.2]
theorem Pn {x y:k_} (h:kx x=kx y):x=y:=by
 unfold kx at h
 injection h with h1 h2
 injection h2 with h2 _
 have a:x.1=y.1:=Sum.inl.inj h1
 have b:x.2=y.2:=Sum.inl.inj h2
 exact Prod.ext a b
def Q7 (kvs:List (List Key×V)) (ps:List k_):Prop:=(∀(m:Nat) (x:k_),ps[m]? = some x->gF kvs (kx x)=some (.int m)) /\ ∀x:k_,x∉ps->gF kvs (kx x)=none
def Ky (ps:List k_):List (List Key×V):=(List.range ps.length).filterMap fun m:Nat=>(ps[m]?).map fun x=>(kx x,V.int (m:Int))
theorem Oj (ps:List k_) (x:k_):Ky (ps++[x])=Ky ps++[(kx x,V.int (ps.length:Int))]:=by
 unfold Ky
 rw [List.length_append,List.length_singleton,dU]
 congr 1
 ·refine gM _ trivial fun m hm=> ?_
  have:m<ps.length:=by simpa using hm
  rw [List.getElem?_append_left this]
 ·simp
theorem RX {ps:List k_} {m:Nat} {k:List Key} {v:V} (h:(Ky ps)[m]? = some (k,v)):∃x,ps[m]? = some x/\k=kx x/\v = .int (m:Int):=by
 have e:Ky ps=(List.range ps.length).map fun m:Nat=>(kx (ps[m]?.getD (0,0)),V.int (m:Int)):=by
  unfold Ky
  rw [←List.filterMap_eq_map]
  refine gM _ trivial fun m hm=> ?_
  have:m<ps.length:=by simpa using hm
  simp [List.getElem?_eq_getElem this]
 rw [e,List.getElem?_map] at h
 have hm:m<ps.length:=by
  refine Decidable.byContradiction fun n=> ?_
  rw [List.getElem?_eq_none (by simp;omega)] at h
  cases h
 rw [List.getElem?_range hm] at h
 cases h
 exact ⟨ps[m],by simp [hm],by simp [hm],rfl⟩
theorem RW (ps:List k_):(Ky ps).length=ps.length:=by
 have e:Ky ps=(List.range ps.length).map fun m:Nat=>(kx (ps[m]?.getD (0,0)),V.int (m:Int)):=by
  unfold Ky
  rw [←List.filterMap_eq_map]
  refine gM _ trivial fun m hm=> ?_
  have:m<ps.length:=by simpa using hm
  simp [List.getElem?_eq_getElem this]
 rw [e];simp
theorem RV {kvs:List (List Key×V)} {k:List Key} {v:V} (h:gF kvs k=none):putK kvs k v=kvs++[(k,v)]:=by
 unfold putK
 rw [lV,h]
 rfl
def qe (K:PySem.W.Frag):Sp:=fun vs H Q _=>∃(a:Addr) (ws:List bD),vs=[.ref a]/\cJ H a ws/\ws.length<=300 /\ ∀(d:Addr) (kvs:List (List Key×V)) (H':Hp),H d=none->H' d=some (.dT kvs)->Q7 kvs (nm ws)->kvs=Ky (nm ws)->Same H H'->Q (.ref d) H'
theorem KH {f:Addr} {fd:FuncData} (F:lU K "places_of" "places_of" dN f fd) (uT:FnAt P w K mg base 1 "names" ["web"] (uw K)) (Bt:uo mg):cI P w K mg base nF 2 f fd ["web"] (qe K):=by
 refine F.ok lE (fun vs H Q E h=> ?_) (fun cdv A outer s H vs Q E hr h=> ?_)
 ·obtain ⟨a,ws,rfl,_⟩:=h
  rfl
 ·obtain ⟨a,ws,rfl,W,wl,k⟩:=h
  have hu:=mR hr
  refine ⟨_,(aq (aM (i:=1) lE.nd rfl (Or.inl rfl) Ot)
   (aq (dB PassesOwn.never rfl (qp (K:=K) rfl (by rfl) Bt.j4 (aj (aW uT (hr.mono (by decide)) (by rfl) (aj (pv 0) ao)) ao)) (lM (K:=K) (n:=2) rfl rfl (bO (aO (i:=2) lE.nd rfl (Or.inl rfl)) (bO (aO (i:=3) lE.nd rfl (Or.inl rfl)) jK)))
   (aF (wQ hu (pv 1) (pv 3) (pv 2) rfl)))
   (aF (aY (pv 1))))), ?_⟩
  intro d hd
  have s1:=aB (o:=HO.dT []) hd
  refine ⟨_,rfl,a,ws,rfl,W.same s1,by omega,fun p H2 hp PA s2=> ?_⟩
  obtain ⟨vs,hp2,dv⟩:=id PA
  have vl:vs.length=ws.length:=by rw [dv.length,List.length_map,bN]
  refine ⟨p,vs,rfl,aZ.of hp2, ?_⟩
  have ndp:d≠p:=aD ak hp
  refine qH (K:=K) (a:=p) (xs:=vs) (fun i σ H3=>∃(kvs:List (List Key×V)) (x1 x2:Option V),σ=[some (.ref a),some (.ref d),x1,x2]/\H3 d=some (.dT kvs)/\kvs.length<=i/\Q7 kvs ((nm ws).take i)/\Kp d H2 H3/\kvs=Ky ((nm ws).take i))
   ⟨[],none,none,rfl,s2 _ _ ak,Nat.le_refl _,⟨fun m x e=>by simp at e,fun x _=>rfl⟩,Kp.refl _ _,by simp [Ky]⟩ (fun i σ H3 _ ⟨_,_,_,_,_,_,_,kp,_⟩=>aZ.of (kp _ _ hp2 ndp.symm)) ?_ ?_
  ·rintro i v σ H3 q hi ⟨kvs,x1,x2,rfl,ZC,kl,pl,kp,ek⟩ hq
   obtain ⟨x,t,ex,rfl,ht⟩:=qY dv hi
   have il:=(List.getElem?_eq_some_iff.mp hi).1
   have sq:=aB (o:=HO.tup [V.int i,V.ref t]) hq
   have HN:H3 t=some (.tup [.int x.1,.int x.2]):=kp _ _ ht (lA ht (s2 _ _ ak) (by intro z;cases z))
   refine ⟨q,_,rfl,cD.of ak,rfl,_,_,rfl,_,_,rfl,rfl, ?_⟩
   refine ⟨_,rfl,_,rfl,_,rfl,d,_,rfl,z8.t (k:=kx x) (sq _ _ ZC) (sq _ _ HN) (by rw [sizeLine_eq];omega), ?_⟩
   have tk:(nm ws).take (i+1)=(nm ws).take i++[x]:=by rw [List.take_add_one,ex];rfl
   have tl:((nm ws).take i).length=i:=by rw [List.length_take,bN];omega
   refine ⟨putK kvs (kx x) (V.int i),_,_,rfl,ak, ?_,⟨fun m y e=> ?_,fun y hy=> ?_⟩,fun b o e nb=> ?_, ?_⟩
   ·exact Nat.le_trans (jT ..) (by omega)
   ·rw [xQ]
    rw [tk] at e
    by_cases hm:m<i
    ·rw [List.getElem?_append_left (by omega)] at e
     have ne:¬kx y=kx x:=fun z=>by
      have z:=Pn z
      subst z
      have e':(nm ws)[m]? = some y:=by rw [List.getElem?_take_of_lt hm] at e;exact e
      have:=kJ e' ex
      omega
     rw [if_neg ne]
     exact pl.1 m y e
    ·rw [List.getElem?_append_right (by omega),tl] at e
     have ml:m - i<1:=(List.getElem?_eq_some_iff.mp e).1
     have:m=i:=by omega
     subst this
     rw [Nat.sub_self] at e
     cases e
     rw [if_pos rfl]
   ·rw [tk] at hy
    have n1:y∉(nm ws).take i:=fun z=>hy (List.mem_append.mpr (.inl z))
    have n2:y≠x:=fun z=>hy (List.mem_append.mpr (.inr (by rw [z];simp)))
    rw [xQ,if_neg (fun z=>n2 (Pn z))]
    exact pl.2 y n1
   ·rw [aV nb]
    exact sq _ _ (kp _ _ e nb)
   ·have nx:x∉(nm ws).take i:=fun z=>by
     obtain ⟨m,em⟩:=List.getElem?_of_mem z
     have hm:m<i:=by have:=(List.getElem?_eq_some_iff.mp em).1;rw [List.length_take] at this;omega
     rw [List.getElem?_take_of_lt hm] at em
     have:=kJ em ex
     omega
    rw [RV (pl.2 x nx),ek,tk,Oj,tl]
  ·rintro σ H3 ⟨kvs,x1,x2,rfl,ZC,kl,pl,kp,ek⟩
   have e:(nm ws).take vs.length=nm ws:=by rw [vl,←bN ws,List.take_length]
   rw [e] at pl ek
   exact ⟨_,rfl,k d kvs H3 hd ZC pl ek fun b o eb=>kp _ _ (s2 _ _ (s1 _ _ eb)) (aD eb hd)⟩
theorem Av (a b c d:V):fL [a,b,c,d] none (some 2)=[a,b]:=zm _ 2
theorem Ar (a b c d:V):fL [a,b,c,d] (some 2) none=[c,d]:=uM _ 2
theorem vp {α:Type} (xs:List α) (h:xs.length=4):¬(HT.gJ xs.length 0 none=0/\HT.gJ xs.length xs.length (some 2)=xs.length):=by
 rw [h];decide
theorem vo {α:Type} (xs:List α) (h:xs.length=4):¬(HT.gJ xs.length 0 (some 2)=0/\HT.gJ xs.length xs.length none=xs.length):=by
 rw [h];decide
def ux (K:PySem.W.Frag):Sp:=fun vs H Q _=>∃(t:Addr) (x:Nt),vs=[.ref t]/\H t=some (.tup (nV x)) /\ ∀H',Same H H'->Q (.bl (!decide (x.1=x.2.2.1))) H'
theorem Ho {f:Addr} {fd:FuncData} (F:lU K "is_note" "is_note" gb f fd) (ug:FnAt P w K mg base 1 "is_whole" ["value"] (RJ K)) (Bt:uo mg):cI P w K mg base nF 2 f fd ["value"] (ux K):=by
 refine F.ok G8 (fun vs H Q E h=> ?_) (fun cdv A outer s H vs Q E hr h=> ?_)
 ·obtain ⟨t,x,rfl,_⟩:=h
  rfl
 ·obtain ⟨t,x,rfl,ht,k⟩:=h
  have pH:=hr.units
  refine ⟨_,(aq (cF (PW.pt (nM (lZ (eO (aR (rG (K:=K) (cv:= .ty "tuple") (c:= .type "tuple") rfl rfl) (by rfl) Bt.dW cY (aj (pv 0) (aj (uE (v:= .ty "tuple") (by rfl) Bt.T5 QF rfl) ao))))) (lY (bh mQ (aR (bB (K:=K) rfl) (by rfl) Bt.jZ fQ (aj (pv 0) ao)) au (bw _))))) (aF (aY iD)) bG)
   (aF (aY (vm (aR (kZ (K:=K) rfl rfl) (by rfl) Bt.QW Ii (aj (jL rfl (N:=["number"]) (own:=["number"]) (caps:=[]) (bf.of (by kernel_rfl)) (Jr (K:=K) rfl (pv 0)) (fun _ _ _ _=>(aO (i:=0) (show List.Nodup (["number"]:List Str) by decide +kernel) rfl (Or.inl rfl))) (fun _ _ _ _=>jJ) (fun _ _ _ _=>(aW ug (hr.mono (by decide)) (by rfl) (aj (pv 0) ao)))) ao)) (nj (cW mQ (aL (aN (K:=K) rfl) (pv 0) au (fun _ _=>rfl)) (aL (aN (K:=K) rfl) (pv 0) au (fun _ _=>rfl)) (bw _))))))), ?_⟩
  refine ⟨_,rfl,_,_,true,rfl,.tup ht,wA K,true,rfl, ?_⟩
  refine cH ?_
  refine ⟨_,rfl,t,_,rfl,.inr (cD.of ht),rfl,_,rfl, ?_⟩
  refine Ao (by rfl) ?_
  refine ⟨_,rfl,t,rfl,⟨_,cD.of ht⟩,fun D hD=> ?_⟩
  refine Ax (K:=K) (fun i=>some (.bl true)) hD ht (by show 4<=100000;decide) (fun i v H2 G F hi s2 kG kF=> ?_) (fun H2 s2 e2=> ?_)
  ·obtain ⟨z,rfl⟩:∃z,v=V.int z:=by
    have hm:=List.mem_of_getElem? hi
    simp only [nV,List.mem_cons,List.not_mem_nil,or_false] at hm
    rcases hm with rfl|rfl|rfl|rfl<;>exact ⟨_,rfl⟩
   exact ⟨_,rfl,z,rfl,kF _ H2 (Same.refl _) rfl⟩
  ·refine ⟨D,[true,true,true,true],rfl,aZ.of e2,true,rfl, ?_⟩
   refine cQ ?_
   refine ⟨_,rfl,_,_,_,_,rfl,rfl,cD.of (s2 _ _ ht),rfl,_,rfl,_,_,_,_,rfl,rfl,cD.of (s2 _ _ ht),rfl,rfl, ?_⟩
   have e:(!decide (V.int x.1=V.int x.2.2.1))=(!decide (x.1=x.2.2.1)):=by
    by_cases q:x.1=x.2.2.1
    ·simp [q]
    ·simp [q]
   show Q (.bl (!decide (V.int x.1=V.int x.2.2.1))) H2
   rw [e]
   exact k H2 s2
theorem HY (x y:Nt):PyData.eqv (nD x) (nD y)=decide (x=y):=by
 obtain ⟨a,b,c,d⟩:=x
 obtain ⟨a',b',c',d'⟩:=y
 simp only [nD,PyData.eqv,PyData.eqvAll,Bool.and_true]
 by_cases e1:a=a'
 ·subst e1
  by_cases e2:b=b'
  ·subst e2
   by_cases e3:c=c'
   ·subst e3
    by_cases e4:d=d'
    ·subst e4;simp
    ·simp [e4]
   ·simp [e3]
  ·simp [e2]
 ·simp [e1]
theorem G6 (ns:List Nt):SeqAt.shaped (.list (ns.map nD))=true:=
 jR nD 1 (by decide) (fun _ _=>rfl) (fun _ _=>by show (max 0 (max 0 (max 0 (max 0 0))))+1<=1;decide)
structure Lft (ws:List bD) (other lo:Nat) (ps:List (Nat×Nat)):Prop where
 last:(other,0)∈ps
 nd:(ps.map Prod.fst).Nodup
 ln:ps.length<=other - lo+1
 rng:∀q∈ps,lo<=q.1/\q.1<=other
 bd:∀q∈ps,q.2+q.1<=other
 way:∀p n,(p,n)∈ps->(p=other/\n=0) \/ ∃q k,n=k+1/\(q,k)∈ps/\lC ws p q=true
 all:∀p,lo<=p->p<other->(∃q k,(q,k)∈ps/\lC ws p q=true) -> ∃n,(p,n)∈ps
def yN (ps:List (Nat×Nat)):List (Key×V):=ps.map fun q=>(Sum.inl (q.1:Int),V.int (q.2:Int))
theorem xR:∀{ps:List (Nat×Nat)} (p n:Nat),(ps.map Prod.fst).Nodup->(p,n)∈ps->gF (yN ps) (Sum.inl (p:Int))=some (V.int (n:Int))
 | [],p,n,_,h=>by cases h
 | x::ps,p,n,nd,h=>by
   rw [List.map_cons,List.nodup_cons] at nd
   show gF ((Sum.inl (x.1:Int),V.int (x.2:Int))::yN ps) _=_
   rcases List.mem_cons.mp h with rfl|h
   ·rw [dY rfl]
   ·have ne:x.1≠p:=fun z=>nd.1 (by rw [z];exact List.mem_map.mpr ⟨(p,n),h,rfl⟩)
    rw [dJ (fun z=>ne (by have:=Sum.inl.inj z;(clear z ne nd;omega))),xR p n nd.2 h]
theorem m5:∀{ps:List (Nat×Nat)} (p:Nat),(∀n,(p,n)∉ps)->gF (yN ps) (Sum.inl (p:Int))=none
 | [],p,_=>rfl
 | x::ps,p,h=>by
   show gF ((Sum.inl (x.1:Int),V.int (x.2:Int))::yN ps) _=_
   have ne:x.1≠p:=fun z=>h x.2 (by rw [←z];simp)
   rw [dJ (fun z=>ne (by have:=Sum.inl.inj z;(clear z ne;omega))),m5 p fun n hn=>h n (by simp [hn])]
def GZ (K:PySem.W.Frag):Sp:=fun vs H Q _=>∃(a:Addr) (ws:List bD) (one other:Nat),vs=[.ref a,.int one,.int other]/\cJ H a ws/\one<=other/\other<ws.length/\ws.length<=300 /\ ∀(d:Addr) (ps:List (Nat×Nat)) (H':Hp),H d=none->Lft ws other one ps->H' d=some (.dK (yN ps))->Same H H'->Q (.ref d) H'
theorem R9 {f:Addr} {fd:FuncData} (F:lU K "steps_left" "steps_left" cR f fd) (nW:FnAt P w K mg base 2 "is_step" ["web","place","later"] (xY K)) (Bt:uo mg):cI P w K mg base nF 3 f fd ["web","one","other"] (GZ K):=by
 refine F.ok jF (fun vs H Q E h=> ?_) (fun cdv A outer s H vs Q E hr h=> ?_)
 ·obtain ⟨a,ws,one,other,rfl,_⟩:=h
  rfl
 ·obtain ⟨a,ws,one,other,rfl,W,le,ol,wl,k⟩:=h
  have hu:=mR hr
  refine ⟨_,(aq (aM (i:=3) jF.nd rfl (Or.inr rfl) (Ce (yw (pv 2) au Cd) rfl rfl (by simp) (by decide)))
   (aq (dB PassesOwn.never rfl (Ag (by rfl) Bt.dX (aj (aP kE (pv 2) au) (aj (aP kE (pv 1) au) (aj (Eh xT au) ao)))) (aO (i:=4) jF.nd rfl (Or.inr rfl))
   (aq (Jp (oV (i:=5) rfl jF.nd rfl (Or.inl rfl) (N:=["place","left","web","here"]) (own:=["place"]) (caps:=[3,0,4]) (bf.of (by kernel_rfl)) (Js (pv 3)) (fun _ _ _ _=>(aO (i:=0) (show List.Nodup (["place","left","web","here"]:List Str) by decide +kernel) rfl (Or.inl rfl))) (fun _ _ _ _=>(oU (eO (aW nW (hr.mono (by decide)) (by rfl) (aj (pv 2) (aj (pv 3) (aj (pv 0) ao))))))) (fun _ _ _ _=>(gQ hu (pv 1) (pv 0) (fun _ _=>rfl)))))
   (aF (cF (Kv (K:=K) rfl (pv 5)) (aF (wQ hu (pv 3) (pv 4) (aP bU au (aR (Ig (K:=K) rfl rfl) (by rfl) Bt.U_ QG (aj (pv 5) ao))) rfl)) bG))))
   (aF (aY (pv 3))))), ?_⟩
  intro d hd
  have s1:=aB (o:=HO.dK []) hd
  refine ⟨_,rfl,ak,[(Sum.inl (other:Int),V.int 0)],rfl,by show 1<=15;decide, ?_⟩
  have e1:upd (upd H d (.dK [])) d (.dK (qw [] [(Sum.inl (other:Int),V.int 0)]))=upd H d (.dK (yN [(other,0)])):=wK
  rw [e1]
  have s2:Same H (upd H d (.dK (yN [(other,0)]))):=aB hd
  refine ⟨_,rfl,_,_,rfl,rfl,_,rfl,_,_,rfl,rfl,_,rfl,(other:Int) - 1,(one:Int) - 1,rfl,⟨by (clear e1 hd hu wl ol le;omega),by (clear e1 hd hu le;omega),by (clear e1 hd hu wl ol le;omega),by (clear e1 hd hu;omega)⟩, ?_⟩
  have en:((other:Int) - 1 - ((one:Int) - 1)).toNat=other - one:=by (clear e1 hd hu wl ol le;omega)
  rw [en]
  refine yV (hi:=(other:Int) - 1) (n:=other - one) (fun i σ H2=>∃(ps:List (Nat×Nat)) (x1 x2:Option V),σ=[some (.ref a),some (.int one),some (.int other),some (.ref d),x1,x2]/\H2 d=some (.dK (yN ps))/\Lft ws other (other - i) ps/\Same H H2)
   ⟨[(other,0)],none,none,rfl,ak,⟨by simp,by simp,by simp,fun q hq=> ?_,fun q hq=> ?_,fun p n h=> ?_,fun p h1 h2=>by (clear en e1 hd hu wl ol le;omega)⟩,s2⟩ ?_ ?_
  ·have:q=(other,0):=by simpa using hq
   subst this
   exact ⟨by simp,Nat.le_refl _⟩
  ·have:q=(other,0):=by simpa using hq
   subst this
   simp
  ·have:p=other/\n=0:=by simpa using h
   exact .inl this
  ·rintro i σ H2 hi ⟨ps,x1,x2,rfl,hd2,vZ,sm⟩
   have eh:(other:Int) - 1 - (i:Int)=((other - 1 - i:Nat):Int):=by (clear hd2 en e1 hd hu wl ol le;omega)
   rw [eh]
   generalize hh:other - 1 - i=here
   have W2:=W.same sm
   have pl:=vZ.ln
   refine ⟨_,rfl,d,_,rfl,hd2,fun o D hD=> ?_⟩
   have Et:D≠d:=fun z=>by rw [z,ak] at hD;cases hD
   have fz:(upd H2 d (.jB o (.dK (yN ps)))) d=some (.jB o (.dK (yN ps))):=ak
   have W3:cJ (upd H2 d (.jB o (.dK (yN ps)))) a ws:=by
    obtain ⟨vs,ha,dv⟩:=W2
    have nad:a≠d:=lA ha hd2 (by intro z;cases z)
    exact ⟨vs,by rw [aV nad];exact ha,aH.keep (fun b xs h=>by rw [aV (lA h hd2 (by intro z;cases z))];exact h) _ (bA _ yS ws) dv⟩
   refine Lr (fun i=>(ps[i]?).bind fun x=>if lC ws here x.1 then some (V.int (x.2:Int)) else none) hD fz (by simp [yN];(clear fz Et hD hh eh hd2 hi en e1 hd hu le;omega)) (fun j kk v H3 G F hj s3 kG kF=> ?_) (fun H3 s3 e3=> ?_)
   ·unfold yN at hj
    rw [List.getElem?_map] at hj
    cases ej:ps[j]? with
    | none=>rw [ej] at hj;cases hj
    | some x=>
      rw [ej] at hj
      cases hj
      simp only [ej,Option.bind_some] at kG kF
      have xm:=List.mem_of_getElem? ej
      have xr:=vZ.rng x xm
      refine ⟨_,rfl,_,rfl,_,rfl,a,ws,here,x.1,rfl,W3.same s3,by (clear xr ej fz Et hD pl eh hd2 hi en e1 hd hu wl le;omega),by (clear ej fz Et hD pl hh eh hd2 hi en e1 hd hu wl le;omega),_,rfl, ?_⟩
      by_cases st:lC ws here x.1=true
      ·rw [st]
       refine cQ ?_
       refine ⟨_,rfl,_,rfl,d,_,rfl,.inl ⟨_,Sum.inl (x.1:Int),.inr ⟨o,s3 _ _ fz⟩,rfl,(xR x.1 x.2 vZ.nd xm).symm⟩,kF _ H3 (Same.refl _) (by rw [if_pos st])⟩
      ·have st':lC ws here x.1=false:=by simpa using st
       rw [st']
       exact cH (kG H3 (Same.refl _) (by rw [st'];rfl))
   have hlk:(yN ps).length=ps.length:=by simp [yN]
   rw [hlk,Ld] at e3
   refine ⟨_,⟨d,_,o,_,hd2,s3 _ _ fz,rfl⟩, ?_⟩
   have JQ:(upd H3 d (.dK (yN ps))) D=some (.lst (((ps.filter fun x=>lC ws here x.1).map fun x=>(x.2:Int)).map V.int)):=by
    rw [aV Et,e3,List.map_map];rfl
   have Kh:Same H (upd H3 d (.dK (yN ps))):=fun b u e=>by
    have nb:b≠d:=aD e hd
    rw [aV nb]
    exact s3 _ _ (by rw [aV nb];exact sm _ _ e)
   have Fq:(upd H3 d (.dK (yN ps))) d=some (.dK (yN ps)):=ak
   generalize (upd H3 d (.dK (yN ps)))=H4 at JQ Kh Fq
   refine ⟨_,rfl,_,.inl ⟨_,aZ.of JQ,rfl⟩, ?_⟩
   cases hf:ps.filter (fun x=>lC ws here x.1) with
   | nil=>
     refine cH ?_
     refine ⟨ps,_,_,rfl,Fq,⟨vZ.last,vZ.nd,by (clear hf Fq JQ hlk e3 fz Et hD hh eh hd2 hi en e1 hd hu wl ol le;omega),fun q hq=>⟨by have:=(vZ.rng q hq).1;(clear hf Fq JQ hlk e3 fz Et hD pl hh eh hd2 hi en e1 hd hu wl ol le;omega),(vZ.rng q hq).2⟩,vZ.bd,vZ.way,fun p h1 h2 ⟨q,kq,hq,st⟩=> ?_⟩,Kh⟩
     by_cases ep:p=here
     ·subst ep
      exfalso
      have:(q,kq)∈ps.filter fun x=>lC ws p x.1:=List.mem_filter.mpr ⟨hq,st⟩
      rw [hf] at this
      cases this
     ·exact vZ.all p (by (clear st h2 hf Fq JQ hlk e3 fz Et hD pl eh hd2 hi en e1 hd hu wl ol le;omega)) h2 ⟨q,kq,hq,st⟩
   | cons y ys=>
     rw [hf] at JQ
     refine cQ ?_
     refine ⟨_,rfl,D,_,rfl,aZ.of JQ,by simp,fun m hm hmin=> ?_⟩
     obtain ⟨y0,hy0,rfl⟩:=List.mem_map.mp hm
     have ym:y0∈ps.filter fun x=>lC ws here x.1:=by rw [hf];exact hy0
     obtain ⟨y1,y2⟩:=List.mem_filter.mp ym
     have fresh:∀n,(here,n)∉ps:=fun n z=>by
      have:=(vZ.rng _ z).1
      simp only at this
      omega
     refine ⟨_,_,rfl,rfl,_,rfl,_,rfl,d,_,rfl,z8.k (k:=Sum.inl (here:Int)) Fq (by rw [hlk,sizeLine_eq];(clear y2 hf JQ Fq hlk e3 fz Et hD hh eh hd2 hi en e1 hd hu le;omega)), ?_⟩
     have ek:putK (yN ps) (Sum.inl (here:Int)) (V.int (1+(y0.2:Int)))=yN (ps++[(here,y0.2+1)]):=by
      rw [Oc _ (m5 here fresh)]
      unfold yN
      rw [List.map_append]
      congr 1
      simp
      omega
     refine ⟨ps++[(here,y0.2+1)],_,_,rfl,by rw [ak];exact congrArg (fun z=>some (HO.dK z)) ek,⟨by simp [vZ.last], ?_,by simp;(clear ek y2 hf JQ Fq hlk e3 fz Et hD hh eh hd2 en e1 hd hu wl ol le;omega),fun q hq=> ?_,fun q hq=> ?_,fun p n h=> ?_,fun p h1 h2 ⟨q,kq,hq,st⟩=> ?_⟩,fun b u e=>by rw [aV (aD e hd)];exact Kh _ _ e⟩
     ·rw [List.map_append]
      refine List.nodup_append.mpr ⟨vZ.nd,by simp, ?_⟩
      intro u hu v hv e
      have:v=here:=by simpa using hv
      subst this
      subst e
      obtain ⟨q,hq,e⟩:=List.mem_map.mp hu
      exact fresh q.2 (by rw [←e];exact hq)
     ·rcases List.mem_append.mp hq with hq|hq
      ·exact ⟨by have:=(vZ.rng q hq).1;(clear ek y2 hf JQ Fq hlk e3 fz Et hD pl hh eh hd2 hi en e1 hd hu wl ol le;omega),(vZ.rng q hq).2⟩
      ·have:q=(here,y0.2+1):=by simpa using hq
       subst this
       exact ⟨by simp;(clear ek y2 hf JQ Fq hlk e3 fz Et hD pl eh hd2 hi en e1 hd hu wl ol le;omega),by simp;(clear ek y2 hf JQ Fq hlk e3 fz Et hD pl eh hd2 hi en e1 hd hu wl ol le;omega)⟩
     ·rcases List.mem_append.mp hq with hq|hq
      ·exact vZ.bd q hq
      ·have:q=(here,y0.2+1):=by simpa using hq
       subst this
       have b1:=vZ.bd _ y1
       have b2:=(m7 y2).1
       simp only
       omega
     ·rcases List.mem_append.mp h with h|h
      ·rcases vZ.way p n h with z|⟨q,kq,z1,z2,z3⟩
       ·exact .inl z
       ·exact .inr ⟨q,kq,z1,by simp [z2],z3⟩
      ·have:p=here/\n=y0.2+1:=by simpa using h
       obtain ⟨rfl,rfl⟩:=this
       exact .inr ⟨y0.1,y0.2,rfl,by simp [y1],y2⟩
     ·by_cases ep:p=here
      ·subst ep
       exact ⟨y0.2+1,by simp⟩
      ·have hq':(q,kq)∈ps:=by
        rcases List.mem_append.mp hq with hq|hq
        ·exact hq
        ·have:q=here/\kq=y0.2+1:=by simpa using hq
         have lt:=(m7 st).1
         (clear ep st h2 ek y2 hf JQ Fq hlk e3 fz Et hD pl eh hd2 hi en e1 hd hu wl ol le;omega)
       obtain ⟨n,hn⟩:=vZ.all p (by (clear st h2 ek y2 hf JQ Fq hlk e3 fz Et hD pl eh hd2 hi en e1 hd hu wl ol le;omega)) h2 ⟨q,kq,hq',st⟩
       exact ⟨n,by simp [hn]⟩
  ·rintro σ H2 ⟨ps,x1,x2,rfl,hd2,vZ,sm⟩
   rw [show other - (other - one)=one by (clear hd2 en e1 hd hu wl ol;omega)] at vZ
   exact ⟨_,rfl,k d ps H2 hd vZ hd2 sm⟩
theorem Sw {ws:List bD} {other lo:Nat} {ps:List (Nat×Nat)} (L:Lft ws other lo ps):∀n p,(p,n)∈ps->p≠other->pC ws other p:=by
 intro n
 induction n with
 | zero=>
   intro p h ne
   rcases L.way p 0 h with z|⟨q,k,z,_⟩
   ·exact absurd z.1 ne
   · (clear ne;omega)
 | succ n ih=>
   intro p h ne
   rcases L.way p (n+1) h with z|⟨q,k,z1,z2,z3⟩
   ·exact absurd z.1 ne
   ·have:k=n:=by (clear z3 ne;omega)
    subst this
    by_cases e:q=other
    ·subst e;exact .one z3
    ·exact .more z3 (ih q z2 e)
theorem Fl {ws:List bD} {other:Nat} {ps:List (Nat×Nat)} (L:Lft ws other 0 ps) {p:Nat} (h:p<other):(∃n,(p,n)∈ps)↔pC ws other p:=by
 constructor
 ·rintro ⟨n,hn⟩
  exact Sw L n p hn (by omega)
 ·intro r
  have:∀{p:Nat},pC ws other p -> ∃n,(p,n)∈ps:=fun {p} r=>by
   induction r with
   | one h=>exact L.all _ (Nat.zero_le _) (m7 h).1 ⟨other,0,L.last,h⟩
   | @more i k h r ih=>
     obtain ⟨n,hn⟩:=ih
     exact L.all _ (Nat.zero_le _) (Nat.lt_trans (m7 h).1 r.lt.1) ⟨k,n,hn,h⟩
  exact this r
noncomputable def jC (ws:List bD) (i j:Nat):List Nat:=(List.range j).filter fun p=>decide (pC ws j p/\p≠i)
noncomputable def mW (ws:List bD) (i j:Nat):List Nat:=(List.range ws.length).filter fun p=>decide (¬(p∈jC ws i j)/\p≠i/\p≠j)
structure Yb (ws:List bD) (i j:Nat):Prop where
 lt:i<j
 jl:j<ws.length
 br:Bare ws j i
 ne:¬hnd ws i=hnd ws j
theorem Tc {ws:List bD} {i j:Nat} (h:Yb ws i j):eU ws i j∈jo ws ws.length:=by
 unfold jo
 refine List.mem_flatMap.mpr ⟨j,List.mem_range.mpr h.jl, ?_⟩
 unfold jN gP
 refine List.mem_map.mpr ⟨i,List.mem_filter.mpr ⟨List.mem_filter.mpr ⟨List.mem_map.mpr ⟨j - 1 - i,List.mem_range.mpr (by have:=h.lt;omega),by have:=h.lt;omega⟩,decide_eq_true h.br⟩,decide_eq_true h.ne⟩,rfl⟩
theorem Q0 (ns:List Nt) (x:Nt):((ns.map nD).any fun e=>PyData.eqv e (nD x))=decide (x∈ns):=by
 rw [Bool.eq_iff_iff,List.any_eq_true,decide_eq_true_iff]
 constructor
 ·rintro ⟨e,he,q⟩
  obtain ⟨y,hy,rfl⟩:=List.mem_map.mp he
  rw [HY,decide_eq_true_iff] at q
  rw [←q];exact hy
 ·intro h
  exact ⟨nD x,List.mem_map.mpr ⟨x,h,rfl⟩,by rw [HY];simp⟩
theorem nO {ws:List bD} {x:Nt} (h:x∈jo ws ws.length):∃i j,x=eU ws i j/\Yb ws i j:=by
 unfold jo at h
 obtain ⟨j,hj,h⟩:=List.mem_flatMap.mp h
 unfold jN gP at h
 obtain ⟨i,hi,rfl⟩:=List.mem_map.mp h
 obtain ⟨h1,h2⟩:=List.mem_filter.mp hi
 obtain ⟨h3,h4⟩:=List.mem_filter.mp h1
 have b:=of_decide_eq_true h4
 exact ⟨i,j,rfl,(m7 b.1).1,List.mem_range.mp hj,b,of_decide_eq_true h2⟩
def Ji (C:Addr) (K:PySem.W.Frag):Sp:=fun vs H Q E=>∃(a t:Addr) (ws:List bD) (x:Nt),vs=[.ref a,.ref t]/\cJ H a ws/\ws.length<=300/\(∀x∈ws,0<=x.1/\x.1<8)/\H t=some (.tup (nV x))/\(x∈jo ws ws.length -> ∀H',Same H H'->Q .non H')/\(x∉jo ws ws.length -> ∀H',Same H H'->E (.ref C) none H')
theorem Wj {f:Addr} {fd:FuncData} (F:lU K "check_fewest" "check_fewest" cj f fd) {aC:Addr} (bL:Xr K mg aC "NoNote") (vN:FnAt P w K mg base 2 "is_note" ["value"] (ux K)) (Uc:FnAt P w K mg base 4 "notes" ["web"] (BJ K)) (Bt:uo mg):cI P w K mg base (Ds P w) 5 f fd ["web","note"] (Ji aC K):=by
 refine F.Y6 wj (fun vs H Q E h=> ?_) (fun cdv A outer s H vs Q E hr h hR=> ?_)
 ·obtain ⟨a,t,ws,x,rfl,_⟩:=h
  rfl
 ·obtain ⟨a,t,ws,x,rfl,W,wl,zQ,ht,k1,k2⟩:=h
  refine ⟨_,(aF (cF (PW.pt (nM (lZ (eO (aW vN (hr.mono (by decide)) (by rfl) (aj (pv 1) ao)))) (lY (bh (mj (K:=K) rfl hr.m6) (pv 1) (aW Uc (hr.mono (by decide)) (by rfl) (aj (pv 0) ao)) (by with_unfolding_all rfl))))) (aF (Ef PySem.F.excBase_ValueError bL.ex bL.bd (by rfl) rfl rfl hR (aj iy ao))) bG)), ?_⟩
  refine ⟨_,rfl,t,x,rfl,ht,fun H1 s1=>⟨_,rfl, ?_⟩⟩
  by_cases ne:x.1=x.2.2.1
  ·rw [decide_eq_true ne]
   refine (show if true=true then _ else _ from cQ ?_)
   refine (show if true=true then _ else _ from cQ ?_)
   refine ⟨(by show 1<=sizeLine;decide),k2 (fun z=> ?_) H1 s1⟩
   obtain ⟨i,j,rfl,np⟩:=nO z
   exact np.ne ne
  rw [decide_eq_false ne]
  refine (show if false=true then _ else _ from cH ?_)
  refine ⟨_,rfl,_,rfl,a,ws,rfl,W.same s1,wl,zQ,fun r ns H2 hr2 N2 p2 so2 s2=> ?_⟩
  obtain ⟨vs,hv,dv⟩:=id N2
  refine ⟨r,vs,nD x,ns.map nD,rfl,aZ.of hv,dv,t_ (s2 _ _ (s1 _ _ ht)),rfl,fun e he=> ?_,_,rfl, ?_⟩
  ·obtain ⟨y,_,rfl⟩:=List.mem_map.mp he
   rfl
  rw [if_pos rfl,Q0]
  by_cases z:x∈jo ws ws.length
  ·rw [decide_eq_true (p2.mem_iff.mpr z)]
   exact (show if false=true then _ else _ from cH (k1 z _ (s1.trans s2)))
  ·rw [decide_eq_false (fun w=>z (p2.mem_iff.mp w))]
   refine (show if true=true then _ else _ from cQ ?_)
   exact ⟨(by show 1<=sizeLine;decide),k2 z _ (s1.trans s2)⟩
def BR (K:PySem.W.Frag):Sp:=fun vs H Q _=>∃(a:Addr) (ws:List bD) (i j:Nat),vs=[.ref a,.int i,.int j]/\cJ H a ws/\ws.length<=300/\j<ws.length /\ ∀(D:Addr) H',H D=none->LI H' D (nI (jC ws i j))->Same H H'->Q (.ref D) H'
theorem O5 {f:Addr} {fd:FuncData} (F:lU K "ahead_of_both" "ahead_of_both" bT f fd) (Dk:FnAt P w K mg base 3 "steps_left" ["web","one","other"] (GZ K)) (Bt:uo mg):cI P w K mg base nF 4 f fd ["web","one","other"] (BR K):=by
 refine F.ok nJ (fun vs H Q E h=> ?_) (fun cdv A outer s H vs Q E hr h=> ?_)
 ·obtain ⟨a,ws,i,j,rfl,_⟩:=h
  rfl
 ·obtain ⟨a,ws,i,j,rfl,W,wl,jl,k⟩:=h
  have hu:=mR hr
  refine ⟨_,(aq (aM (i:=3) nJ.nd rfl (Or.inr rfl) (aW Dk (hr.mono (by decide)) (by rfl) (aj (pv 0) (aj au (aj (pv 2) ao)))))
   (aF (aY (jL rfl (N:=["place","left","one"]) (own:=["place"]) (caps:=[3,1]) (bf.of (by kernel_rfl)) (dD (by rfl) Bt.dX (aj (pv 2) ao)) (fun _ _ _ _=>(aO (i:=0) (show List.Nodup (["place","left","one"]:List Str) by decide +kernel) rfl (Or.inl rfl))) (fun _ _ _ _=>(oU (PW.pt (ni (Hg (V9 hu (pv 0) (pv 1))) (jH (bh mQ (pv 0) (pv 2) (bw _))))))) (fun _ _ _ _=>(pv 0)))))), ?_⟩
  refine ⟨_,rfl,_,rfl,a,ws,0,j,rfl,W,Nat.zero_le _,jl,wl,fun d ps H1 hd L h1 s1=> ?_⟩
  refine ⟨_,rfl,_,rfl,by omega,by omega, ?_⟩
  rw [Int.toNat_natCast]
  intro D hD
  refine rD (fun p:Nat=>if pC ws j p/\p≠i then some (V.int (p:Int)) else none) hD (by omega) (fun p H2 G F hp s2 kG kF=> ?_) (fun H2 s2 e2=> ?_)
  ·have hpp:(0+(p:Int))=(p:Int):=Int.zero_add _
   rw [hpp]
   refine ⟨_,rfl,_,rfl,d,_,rfl,.inl ⟨_,Sum.inl (p:Int),.inl (s2 _ _ h1),rfl,rfl⟩,_,rfl, ?_⟩
   by_cases r:pC ws j p
   ·obtain ⟨n,hn⟩:=(Fl L hp).mpr r
    rw [xR p n L.nd hn]
    refine (show if true=true then _ else _ from cQ ?_)
    refine ⟨_,rfl,_,rfl,rfl,_,rfl, ?_⟩
    by_cases e:p=i
    ·subst e
     rw [show (!decide (V.int (p:Int)=V.int (p:Int)))=false by simp]
     exact cH (kG _ (Same.refl _) (if_neg fun z=>z.2 rfl))
    ·rw [show (!decide (V.int (p:Int)=V.int (i:Int)))=true by simp;omega]
     exact cQ ⟨_,rfl,kF _ _ (Same.refl _) (if_pos ⟨r,e⟩)⟩
   ·rw [m5 p fun n hn=>r ((Fl L hp).mp ⟨n,hn⟩)]
    refine (show if false=true then _ else _ from cH ?_)
    exact (show if false=true then _ else _ from cH (kG _ (Same.refl _) (if_neg fun z=>r z.1)))
  ·refine k D H2 (s1.free hD) ?_ (s1.trans s2)
   show H2 D=_
   rw [e2,nI,List.map_map]
   congr 2
   unfold jC
   rw [←List.filterMap_eq_filter,List.map_filterMap]
   refine gM _ trivial fun p _=> ?_
   by_cases z:pC ws j p/\p≠i<;>simp [Option.guard,z]
theorem Uz {p:Nat} {l:List Nat}:inV (V.int (p:Int)) ((nI l).map V.int)=decide (p∈l):=by
 unfold inV nI
 rw [Bool.eq_iff_iff,List.any_eq_true,decide_eq_true_iff]
 constructor
 ·rintro ⟨y,hy,q⟩
  rw [List.map_map,List.mem_map] at hy
  obtain ⟨x,hx,rfl⟩:=hy
  have:x=p:=by
   have:(x:Int)=(p:Int):=by simpa [Mu] using q
   omega
  rw [←this];exact hx
 ·intro h
  refine ⟨V.int (p:Int), ?_,by simp [Mu]⟩
  rw [List.map_map,List.mem_map]
  exact ⟨p,h,rfl⟩
theorem Tp (l:List Nat):((nI l).map V.int).all rZ=true:=by
 rw [List.all_eq_true]
 intro x hx
 obtain ⟨y,_,rfl⟩:=List.mem_map.mp hx
 rfl
theorem jf {ws:List bD} {i:Nat} (h:i<ws.length):(nm ws)[i]? = some (hnd ws i,cnt (ws.take i) (hnd ws i)):=by
 have e:ws[i]? = some ws[i]:=by simp [h]
 rw [qu e]
 rw [kW e]
def Bw (C:Addr) (K:PySem.W.Frag):Sp:=fun vs H Q E=>∃(a t:Addr) (ws:List bD) (x:Nt),vs=[.ref a,.ref t]/\cJ H a ws/\ws.length<=300/\(∀x∈ws,0<=x.1/\x.1<8)/\H t=some (.tup (nV x))/\(x∈jo ws ws.length -> ∀v H',Same H H'->Q v H')/\(x∉jo ws ws.length -> ∀H',Same H H'->E (.ref C) none H')
theorem El {f:Addr} {fd:FuncData} (F:lU K "parting" "parting" fY f fd) {aC:Addr} (bL:Xr K mg aC "NoNote") (mL:pF P w K mg base 5 "check_fewest" ["web","note"] (Ji aC K)) (j8:FnAt P w K mg base 2 "places_of" ["web"] (qe K)) (wJ:FnAt P w K mg base 4 "ahead_of_both" ["web","one","other"] (BR K)) (Bt:uo mg):cI P w K mg base (Ds P w) 6 f fd ["web","note"] (Bw aC K):=by
 refine F.Y6 jx (fun vs H Q E h=> ?_) (fun cdv A outer s H vs Q E hr h hR=> ?_)
 ·obtain ⟨a,t,ws,x,rfl,_⟩:=h
  rfl
 ·obtain ⟨a,t,ws,x,rfl,W,wl,zQ,ht,k1,k2⟩:=h
  have hu:=mR hr
  refine ⟨_,(aq (cA (vh mL rfl hR (hr.mono (by decide)) (by rfl) (aj (pv 0) (aj (pv 1) ao))))
   (aq (aM (i:=2) jx.nd rfl (Or.inl rfl) (aW j8 (hr.mono (by decide)) (by rfl) (aj (pv 0) ao)))
   (aq (aM (i:=3) jx.nd rfl (Or.inr rfl) (gQ hu (pv 2) (bK (fH (K:=K) rfl) (pv 1) cB (bW au)) (fun _ _=>rfl)))
   (aq (aM (i:=4) jx.nd rfl (Or.inr rfl) (gQ hu (pv 2) (bK (fH (K:=K) rfl) (pv 1) (bW au) cB) (fun _ _=>rfl)))
   (aq (aM (i:=5) jx.nd rfl (Or.inr rfl) (aW wJ (hr.mono (by decide)) (by rfl) (aj (pv 0) (aj (pv 3) (aj (pv 4) ao)))))
   (aq (oV (i:=6) rfl jx.nd rfl (Or.inl rfl) (N:=["place","ahead","one","other"]) (own:=["place"]) (caps:=[5,3,4]) (bf.of (by kernel_rfl)) (dD (by rfl) Bt.dX (aj (aR (bB (K:=K) rfl) (by rfl) Bt.jZ fQ (aj (pv 0) ao)) ao)) (fun _ _ _ _=>(aO (i:=0) (show List.Nodup (["place","ahead","one","other"]:List Str) by decide +kernel) rfl (Or.inl rfl))) (fun _ _ _ _=>(oU (PW.pt (ni (bh (jM (K:=K) rfl) (pv 0) (pv 1) (by with_unfolding_all rfl)) (jH (bh (jM (K:=K) rfl) (pv 0) (dh (aj (pv 2) (aj (pv 3) ao))) (by with_unfolding_all rfl))))))) (fun _ _ _ _=>(pv 0)))
   (aF (aY (dh (aj (aP je (aP je (pv 5) (bI (aj (pv 3) (aj (pv 4) ao)))) (pv 6)) (aj (aP je (aP je (pv 5) (bI (aj (pv 4) (aj (pv 3) ao)))) (pv 6)) ao))))))))))), ?_⟩
  refine ⟨_,rfl,_,rfl,a,t,ws,x,rfl,W,wl,zQ,ht,fun hx H1 s1=> ?_,fun nx H1 s1=>k2 nx H1 s1⟩
  have kk:=k1 hx
  obtain ⟨i,j,rfl,np⟩:=nO hx
  have k:∀(p f g:Addr) H',H f=none->H g=none->H p=none->f≠g->H' p=some (.tup [.ref f,.ref g])->LI H' f (nI (jC ws i j++[i,j]++mW ws i j))->LI H' g (nI (jC ws i j++[j,i]++mW ws i j))->Same H H'->Q (.ref p) H':=fun p f g H' _ _ _ _ _ _ _ sm=>kk _ H' sm
  have hil:i<ws.length:=Nat.lt_trans np.lt np.jl
  refine ⟨_,rfl,a,ws,rfl,W.same s1,wl,fun d kvs H2 hd h2 pl _ s2=> ?_⟩
  have s12:=s1.trans s2
  refine ⟨_,rfl,_,rfl,_,rfl,t,_,rfl,cD.of (s12 _ _ ht),vp _ rfl,fun p1 hp1=> ?_⟩
  rw [show fL (nV (eU ws i j)) none (some 2)=[V.int (hnd ws i),V.int (cnt (ws.take i) (hnd ws i))] from Av _ _ _ _]
  have t1:=aB (o:=HO.tup [V.int (hnd ws i),V.int (cnt (ws.take i) (hnd ws i))]) hp1
  refine ⟨d,V.int (i:Int),rfl,by rw [←pl.1 i _ (jf hil)];exact jD.t (t1 _ _ h2) ak, ?_⟩
  refine ⟨_,rfl,_,rfl,_,rfl,t,_,rfl,cD.of (t1 _ _ (s12 _ _ ht)),vo _ rfl,fun p2 hp2=> ?_⟩
  rw [show fL (nV (eU ws i j)) (some 2) none=[V.int (hnd ws j),V.int (cnt (ws.take j) (hnd ws j))] from Ar _ _ _ _]
  have t2:=aB (o:=HO.tup [V.int (hnd ws j),V.int (cnt (ws.take j) (hnd ws j))]) hp2
  refine ⟨d,V.int (j:Int),rfl,by rw [←pl.1 j _ (jf np.jl)];exact jD.t (t2 _ _ (t1 _ _ h2)) ak, ?_⟩
  have XJ:=(s12.trans t1).trans t2
  refine ⟨_,rfl,_,rfl,_,rfl,a,ws,i,j,rfl,W.same XJ,wl,np.jl,fun D H5 hD A5 s5=> ?_⟩
  have Rn:=XJ.trans s5
  obtain ⟨vs,ha,dv⟩:=W.same Rn
  have zM:vs.length=ws.length:=by rw [dv.length,List.length_map]
  refine ⟨_,rfl,a,_,rfl,.inl (aZ.of ha),_,rfl,by omega,by omega, ?_⟩
  rw [zM,Int.toNat_natCast]
  intro B hB
  refine rD (fun p:Nat=>if ¬(p∈jC ws i j)/\p≠i/\p≠j then some (V.int (p:Int)) else none) hB (by omega) (fun p H6 G F hp s6 kG kF=> ?_) (fun H6 s6 e6=> ?_)
  ·have hpp:(0+(p:Int))=(p:Int):=Int.zero_add _
   rw [hpp]
   refine ⟨_,rfl,_,rfl,D,_,rfl,.inl (aZ.of (A5.same s6)),rfl,Tp _,_,rfl, ?_⟩
   rw [if_pos rfl,Uz]
   by_cases h1:p∈jC ws i j
   ·rw [decide_eq_true h1]
    refine (show if false=true then _ else _ from cH ?_)
    exact (show if false=true then _ else _ from cH (kG _ (Same.refl _) (if_neg fun z=>z.1 h1)))
   ·rw [decide_eq_false h1]
    refine (show if true=true then _ else _ from cQ ?_)
    refine ⟨_,rfl,_,rfl,_,rfl,(by show 2<=sizeLine;decide),fun q hq=> ?_⟩
    refine ⟨q,_,rfl,.inr (cD.of ak),rfl,rfl,_,rfl, ?_⟩
    have sq:=aB (o:=HO.tup [V.int (i:Int),V.int (j:Int)]) hq
    rw [if_pos rfl,show [V.int (i:Int),V.int (j:Int)]=(nI [i,j]).map V.int from rfl,Uz]
    by_cases h2:p∈[i,j]
    ·rw [decide_eq_true h2]
     refine (show if false=true then _ else _ from cH ?_)
     refine kG _ sq (if_neg fun z=> ?_)
     simp at h2
     rcases h2 with e|e
     ·exact z.2.1 e
     ·exact z.2.2 e
    ·rw [decide_eq_false h2]
     refine (show if true=true then _ else _ from cQ ?_)
     simp at h2
     exact ⟨_,rfl,kF _ _ sq (if_pos ⟨h1,h2.1,h2.2⟩)⟩
  ·have B6:LI H6 B (nI (mW ws i j)):=by
    show H6 B=_
    rw [e6,nI,List.map_map]
    congr 2
    unfold mW
    rw [←List.filterMap_eq_filter,List.map_filterMap]
    refine gM _ trivial fun p _=> ?_
    by_cases z:¬(p∈jC ws i j)/\p≠i/\p≠j<;>simp [Option.guard,z]
   have A6:=A5.same s6
   have ak0:(jC ws i j).length<=300:=by
    have:=List.length_filter_le (fun p=>decide (pC ws j p/\p≠i)) (List.range j)
    rw [List.length_range] at this
    have:=np.jl
    unfold jC
    omega
   have akZ:(mW ws i j).length<=300:=by
    have:=List.length_filter_le (fun p=>decide (¬(p∈jC ws i j)/\p≠i/\p≠j)) (List.range ws.length)
    rw [List.length_range] at this
    unfold mW
    omega
   have Uq:=Rn.trans s6
   refine ⟨_,rfl,_,rfl,_,rfl,(by show 2<=sizeLine;decide),fun q1 hq1=> ?_⟩
   have u1:=aB (o:=HO.lst ((nI [i,j]).map V.int)) hq1
   refine eY (ys:=nI [i,j]) (A6.same u1) ak (by rw [kO,kO];simp;omega) fun q2 H8 f2 C2 u2=> ?_
   refine ⟨_,rfl,eY C2 ((B6.same u1).same u2) (by rw [List.length_append,kO,kO,kO];simp;omega) fun q3 H9 f3 C3 u3=> ?_⟩
   have Rk:=(u1.trans u2).trans u3
   refine ⟨_,rfl,_,rfl,_,rfl,(by show 2<=sizeLine;decide),fun q4 UW=> ?_⟩
   have u4:=aB (o:=HO.lst ((nI [j,i]).map V.int)) UW
   refine eY (ys:=nI [j,i]) ((A6.same Rk).same u4) ak (by rw [kO,kO];simp;omega) fun q5 H11 f5 C5 u5=> ?_
   refine ⟨_,rfl,eY C5 (((B6.same Rk).same u4).same u5) (by rw [List.length_append,kO,kO,kO];simp;omega) fun q6 H12 f6 C6 u6=> ?_⟩
   have u46:=(u4.trans u5).trans u6
   refine ⟨(by show 2<=sizeLine;decide),fun q7 X3=> ?_⟩
   have u7:=aB (o:=HO.tup [V.ref q3,V.ref q6]) X3
   have C3':=(C3.same u46).same u7
   have C6':=C6.same u7
   have ap:∀(x y:Nat),nI (jC ws i j)++nI [x,y]++nI (mW ws i j)=nI (jC ws i j++[x,y]++mW ws i j):=fun x y=>by simp [nI]
   rw [ap] at C3' C6'
   have f3':=(Uq.trans (u1.trans u2)).free f3
   have f6':=((Uq.trans Rk).trans (u4.trans u5)).free f6
   have f7':=((Uq.trans Rk).trans u46).free X3
   exact k q7 q3 q6 _ f3' f6' f7' (aD (((u4.trans u5) _ _ C3)) f6) ak C3' C6' (((Uq.trans Rk).trans u46).trans u7)
def qU (K:PySem.W.Frag):Sp:=fun vs H Q _=>∃(a b:Addr) (ws:List bD) (os:List Int),vs=[.ref a,.ref b]/\cJ H a ws/\ws.length<=300/\LI H b os/\os.length<=1000 /\ ∀H',Same H H'->Q (.bl (mF ws.length os)) H'
theorem En {f:Addr} {fd:FuncData} (F:lU K "is_order" "is_order" eE f fd) (I_:FnAt P w K mg base 2 "is_below" ["value","count"] (BP K)) (Bt:uo mg):cI P w K mg base nF 3 f fd ["web","order"] (qU K):=by
 refine F.ok DX (fun vs H Q E h=> ?_) (fun cdv A outer s H vs Q E hr h=> ?_)
 ·obtain ⟨a,b,ws,os,rfl,_⟩:=h
  rfl
 ·obtain ⟨a,b,ws,os,rfl,W,wl,B,ol,k⟩:=h
  have pH:=hr.units
  refine ⟨_,(aq (cF (PW.pt (nM (lZ (eO (aR (rG (K:=K) (cv:= .ty "list") (c:= .type "list") rfl rfl) (by rfl) Bt.dW cY (aj (pv 1) (aj (uE (v:= .ty "list") (by rfl) Bt.qN oY rfl) ao))))) (lY (lZ (eO (aR (kZ (K:=K) rfl rfl) (by rfl) Bt.QW Ii (aj (jL rfl (N:=["place","web"]) (own:=["place"]) (caps:=[0]) (bf.of (by kernel_rfl)) (dg (K:=K) rfl (pv 1)) (fun _ _ _ _=>(aO (i:=0) (show List.Nodup (["place","web"]:List Str) by decide +kernel) rfl (Or.inl rfl))) (fun _ _ _ _=>jJ) (fun _ _ _ _=>(aW I_ (hr.mono (by decide)) (by rfl) (aj (pv 0) (aj (aR (bB (K:=K) rfl) (by rfl) Bt.jZ fQ (aj (pv 1) ao)) ao))))) ao))))))) (aF (aY iD)) bG)
   (aF (aY (cW (qZ (K:=K) rfl pH) (aR (FP (K:=K) rfl) (by rfl) Bt.Gh Ba (aj (pv 1) ao)) (vR rfl (by rfl) Bt.qN (by rfl) Bt.dX (aj (aR (bB (K:=K) rfl) (by rfl) Bt.jZ fQ (aj (pv 0) ao)) ao)) (bw _))))), ?_⟩
  obtain ⟨vs,ha,dv⟩:=W
  have zM:vs.length=ws.length:=by rw [dv.length,List.length_map]
  refine ⟨_,rfl,_,_,true,rfl,.lst B,zU K,_,rfl, ?_⟩
  refine cH ?_
  refine ⟨_,rfl,b,rfl,⟨_,aZ.of B⟩,fun D hD=> ?_⟩
  refine qL (K:=K) (a:=b) (xs:=os.map V.int) (fun i=>(os[i]?).map fun x=>V.bl (decide (PL x ws.length))) hD (aZ.of B) (by rw [List.length_map];omega) (fun i x H1 G F hi s1 kG kF=> ?_) (fun H1 s1 e1=> ?_)
  ·rw [List.getElem?_map] at hi
   cases e:os[i]? with
   | none=>rw [e] at hi;cases hi
   | some z=>
     rw [e] at hi
     cases hi
     exact ⟨_,rfl,_,rfl,a,_,rfl,.inl (aZ.of (s1 _ _ ha)),z,ws.length,by rw [zM];rfl,kF _ _ (Same.refl _) (by rw [e];rfl)⟩
  ·rw [List.length_map,wY] at e1
   have e1':H1 D=some (.lst ((os.map fun x=>decide (PL x ws.length)).map V.bl)):=by rw [e1,List.map_map];rfl
   refine ⟨D,_,rfl,aZ.of e1',_,rfl, ?_⟩
   cases hall:(os.map fun x=>decide (PL x ws.length)).all id with
   | false=>
     refine (show if true=true then _ else _ from cQ ?_)
     have e:mF ws.length os=false:=by
      cases q:mF ws.length os with
      | false=>rfl
      | true=>
        rw [lR] at q
        rw [List.all_eq_false] at hall
        obtain ⟨x,hx,nx⟩:=hall
        rw [List.mem_map] at hx
        obtain ⟨y,hy,rfl⟩:=hx
        exact absurd (decide_eq_true (yK.mp (q.mem_iff.mp hy))) nx
     have kk:=k H1 s1
     rw [e] at kk
     exact kk
   | true=>
     refine (show if false=true then _ else _ from cH ?_)
     refine ⟨_,rfl,b,os,rfl,aZ.of (s1 _ _ B),fun l ms hl pm sm=> ?_⟩
     have s2:=aB (o:=HO.lst (ms.map V.int)) hl
     refine ⟨_,rfl,a,_,rfl,.inl (aZ.of (s2 _ _ (s1 _ _ ha))),ws.length,by rw [zM],by omega,fun l2 hl2=> ?_⟩
     have s3:=aB (o:=HO.lst ((wk ws.length).map V.int)) hl2
     refine ⟨_,_,jX (s3 _ _ ak),jX (ns:=wk ws.length) ak,shaped_ints _,shaped_ints _, ?_⟩
     have kk:=k _ ((s1.trans s2).trans s3)
     rw [←Ke pm sm] at kk
     rw [jV PyData.int uK]
     exact kk
def Q9 (ws:List bD) (os:List Int):Prop:=∀(k l:Nat) (p q:Int),k<l->os[k]? = some p->os[l]? = some q->lC ws q.toNat p.toNat=false
def Bv (K:PySem.W.Frag):Sp:=fun vs H Q _=>∃(a b:Addr) (ws:List bD) (os:List Int),vs=[.ref a,.ref b]/\cJ H a ws/\ws.length<=300/\LI H b os/\os.length<=1000/\mF ws.length os=true /\ ∀(r:Bool) H',(r=true↔Q9 ws os)->Same H H'->Q (.bl r) H'
theorem Oz {f:Addr} {fd:FuncData} (F:lU K "same_run" "same_run" d8 f fd) (o_:FnAt P w K mg base 3 "is_order" ["web","order"] (qU K)) (nW:FnAt P w K mg base 2 "is_step" ["web","place","later"] (xY K)) (Bt:uo mg):cI P w K mg base nF 4 f fd ["web","order"] (Bv K):=by
 refine F.ok qg (fun vs H Q E h=> ?_) (fun cdv A outer s H vs Q E hr h=> ?_)
 ·obtain ⟨a,b,ws,os,rfl,_⟩:=h
  rfl
 ·obtain ⟨a,b,ws,os,rfl,W,wl,B,ol,ho,k1⟩:=h
  refine ⟨_,(aq (cF (lZ (eO (aW o_ (hr.mono (by decide)) (by rfl) (aj (pv 0) (aj (pv 1) ao))))) (aF Oh) bG)
   (aq (dB PassesOwn.never rfl (qp (K:=K) rfl (by rfl) Bt.j4 (aj (pv 1) ao)) (lM (K:=K) (n:=2) rfl rfl (bO (aO (i:=2) qg.nd rfl (Or.inl rfl)) (bO (aO (i:=3) qg.nd rfl (Or.inr rfl)) jK)))
   (aF (cF (eO (aR (pB (K:=K) rfl rfl) (by rfl) Bt.Va QH (aj (jL rfl (N:=["behind","web","place"]) (own:=["behind"]) (caps:=[0,3]) (bf.of (by kernel_rfl)) (dg (K:=K) rfl (bK (iT (K:=K) rfl) (pv 1) (bW (aP bU (pv 2) au)) cB)) (fun _ _ _ _=>(aO (i:=0) (show List.Nodup (["behind","web","place"]:List Str) by decide +kernel) rfl (Or.inl rfl))) (fun _ _ _ _=>jJ) (fun _ _ _ _=>(aW nW (hr.mono (by decide)) (by rfl) (aj (pv 1) (aj (pv 0) (aj (pv 2) ao)))))) ao))) (aF (aY iD)) bG)))
   (aF (aY iD)))), ?_⟩
  refine ⟨_,rfl,_,rfl,a,b,ws,os,rfl,W,wl,B,ol,fun H1 s1=> ?_⟩
  refine ⟨_,rfl, ?_⟩
  rw [ho]
  refine (show if false=true then _ else _ from cH ?_)
  ·have B1:LI H1 b os:=s1 _ _ B
   have W1:=W.same s1
   refine ⟨_,rfl,b,_,rfl,aZ.of B1, ?_⟩
   refine qH (K:=K) (a:=b) (xs:=os.map V.int) (fun i σ H2=>∃(x1 x2:Option V),σ=[some (.ref a),some (.ref b),x1,x2]/\Same H1 H2 /\ ∀(k l:Nat) (p q:Int),k<i->k<l->os[k]? = some p->os[l]? = some q->lC ws q.toNat p.toNat=false)
    ⟨none,none,rfl,Same.refl _,fun k l p q h=>absurd h (Nat.not_lt_zero _)⟩ (fun i σ H2 _ ⟨_,_,_,sm,_⟩=>aZ.of (sm _ _ B1)) ?_ ?_
   ·rintro i y σ H2 t hi ⟨x1,x2,rfl,sm,inv⟩ ht
    rw [List.getElem?_map] at hi
    cases e:os[i]? with
    | none=>rw [e] at hi;cases hi
    | some z=>
      rw [e] at hi
      cases hi
      have hil:i<os.length:=(List.getElem?_eq_some_iff.mp e).1
      obtain ⟨z0,z1⟩:=Ov ho e
      have st:=aB (o:=HO.tup [V.int (i:Int),V.int z]) ht
      have smt:=sm.trans st
      refine ⟨t,_,rfl,cD.of ak,rfl,_,_,rfl,_,_,rfl,rfl, ?_⟩
      refine ⟨_,rfl,_,rfl,_,_,rfl,rfl,_,rfl,b,_,rfl,aZ.of (smt _ _ B1),fun p hp=> ?_⟩
      have sp:=aB (o:=HO.lst (fL (os.map V.int) (some ((i:Int)+1)) none)) hp
      have agk:fL (os.map V.int) (some ((i:Int)+1)) none=(os.drop (i+1)).map V.int:=by
       rw [show (i:Int)+1=((i+1:Nat):Int) by omega,uM,List.map_drop]
      rw [agk] at sp ⊢
      refine ⟨p,rfl,⟨_,aZ.of ak⟩,fun D hD=> ?_⟩
      refine qL (K:=K) (a:=p) (xs:=(os.drop (i+1)).map V.int) (fun j=>(os.drop (i+1))[j]?.map fun x=>V.bl (lC ws x.toNat z.toNat)) hD (aZ.of ak) (by rw [List.length_map,List.length_drop];omega) (fun j x H3 G F hj s3 kG kF=> ?_) (fun H3 s3 e3=> ?_)
      ·rw [List.getElem?_map] at hj
       cases ej:(os.drop (i+1))[j]? with
       | none=>rw [ej] at hj;cases hj
       | some v=>
         rw [ej] at hj
         cases hj
         rw [List.getElem?_drop] at ej
         obtain ⟨v0,v1⟩:=Ov ho ej
         exact ⟨_,rfl,_,rfl,_,rfl,a,ws,v.toNat,z.toNat,by rw [Int.toNat_of_nonneg v0,Int.toNat_of_nonneg z0];rfl,(W1.same smt).same (sp.trans s3),by omega,by omega,kF _ _ (Same.refl _) (by rw [List.getElem?_drop,ej];rfl)⟩
      ·rw [List.length_map,wY] at e3
       have e3':H3 D=some (.lst (((os.drop (i+1)).map fun x=>lC ws x.toNat z.toNat).map V.bl)):=by rw [e3,List.map_map];rfl
       refine ⟨D,_,rfl,aZ.of e3',_,rfl, ?_⟩
       have sA:=(smt.trans sp).trans s3
       cases hany:((os.drop (i+1)).map fun x=>lC ws x.toNat z.toNat).any id with
       | true=>
         refine (show if true=true then _ else _ from cQ ?_)
         refine k1 false _ ⟨fun h=>Bool.noConfusion h,fun kp=> ?_⟩ (s1.trans sA)
         rw [List.any_eq_true] at hany
         obtain ⟨x,hx,ex⟩:=hany
         rw [List.mem_map] at hx
         obtain ⟨y,hy,rfl⟩:=hx
         obtain ⟨j,hj⟩:=List.getElem?_of_mem hy
         rw [List.getElem?_drop] at hj
         have:=kp i (i+1+j) z y (by omega) e hj
         rw [this] at ex
         cases ex
       | false=>
         refine (show if false=true then _ else _ from cH ?_)
         refine ⟨_,_,rfl,sA,fun k l p' q hk hkl ep eq=> ?_⟩
         by_cases hki:k<i
         ·exact inv k l p' q hki hkl ep eq
         ·have:k=i:=by omega
          subst this
          rw [e] at ep
          cases ep
          rw [List.any_eq_false] at hany
          have:=hany (lC ws q.toNat z.toNat) (List.mem_map.mpr ⟨q,List.mem_of_getElem? (i:=l - (k+1)) (by rw [List.getElem?_drop,show k+1+(l - (k+1))=l by omega];exact eq),rfl⟩)
          simpa using this
   ·rintro σ H2 ⟨x1,x2,rfl,sm,inv⟩
    rw [List.length_map] at inv
    exact k1 true _ ⟨fun _ k l p q hkl ep eq=>inv k l p q (List.getElem?_eq_some_iff.mp ep).1 hkl ep eq,fun _=>rfl⟩ (s1.trans sm)
theorem Qx (os:List Int) (a b:Nat) (h:a<=os.length):fL (os.map V.int) (some (a:Int)) (some ((a:Int)+(b:Int)))=((os.drop a).take b).map V.int:=by
 unfold fL
 rw [show (a:Int)+(b:Int)=((a+b:Nat):Int) by omega,HT.uD,HT.uD,List.length_map,Nat.min_eq_left h,←List.map_drop,←List.map_take]
 congr 1
 by_cases hb:a+b<=os.length
 ·rw [Nat.min_eq_left hb,Nat.add_sub_cancel_left]
 ·rw [Nat.min_eq_right (by omega),List.take_of_length_le (by rw [List.length_drop];omega),List.take_of_length_le (by rw [List.length_drop];omega)]
theorem VG {K:PySem.W.Frag} {H:Hp} {x:Addr} {os:List Int} {a:Nat} {n:Int} (hn:n=(a:Int)+2) {Q:VK} (h:LI H x os) (ha:a<=os.length) (k:∀p H',H p=none->LI H' p ((os.drop a).take 2)->Same H H'->Q (.ref p) H'):N_ K (.ref x) (some (a:Int)) (some n) H Q:=by
 subst hn
 exact ⟨x,_,rfl,aZ.of h,fun p hp=>by rw [show (a:Int)+2=(a:Int)+((2:Nat):Int) from rfl,Qx os a 2 ha];exact k p _ hp ak (aB hp)⟩
def Turned (x:k_) (fs gs:List Int):Prop:=∃A B,fs=A++[x.1,x.2]++B/\gs=A++[x.2,x.1]++B
theorem DK {x:k_} {fs gs:List Int} {j:Nat} (hj:fs[j]? = some x.1) (hn:∀m,fs[m]? = some x.1->m=j):
 Turned x fs gs↔((fs.drop j).take 2=[x.1,x.2]/\gs=fs.take j++[x.2,x.1]++fs.drop (j+2)):=by
 constructor
 ·rintro ⟨A,B,rfl,rfl⟩
  have:A.length=j:=hn _ (by rw [List.append_assoc,List.getElem?_append_right (Nat.le_refl _),Nat.sub_self];rfl)
  subst this
  simp [List.append_assoc]
 ·rintro ⟨h1,h2⟩
  refine ⟨fs.take j,fs.drop (j+2), ?_,h2⟩
  rw [←h1,List.append_assoc,show fs.drop (j+2)=(fs.drop j).drop 2 by rw [List.drop_drop],List.take_append_drop,List.take_append_drop]
def GQ (K:PySem.W.Frag):Sp:=fun vs H Q _=>∃(f g:Addr) (n:Nat) (fs gs:List Int) (i j:Int),vs=[.ref f,.ref g,.int i,.int j]/\LI H f fs/\LI H g gs/\mF n fs=true/\n<=300/\gs.length<=1000/\PL i n /\ ∀(b:Bool) H',(b=true↔Turned (i,j) fs gs)->Same H H'->Q (.bl b) H'
theorem Kz {f:Addr} {fd:FuncData} (F:lU K "are_turned" "are_turned" cU f fd) (Bt:uo mg):cI P w K mg base nF 1 f fd ["first","second","one","other"] (GQ K):=by
 refine F.ok rW (fun vs H Q E h=> ?_) (fun cdv A outer s H vs Q E hr h=> ?_)
 ·obtain ⟨f,g,n,fs,gs,i,j,rfl,_⟩:=h
  rfl
 ·obtain ⟨f,g,n,fs,gs,i,j,rfl,Fi,Gi,o1,nl,gl,iin,k⟩:=h
  have pH:=hr.units
  refine ⟨_,(aq (aM (i:=4) rW.nd rfl (Or.inl rfl) (tY (K:=K) rfl PySem.F.plainAttrs_list PySem.F.slot_list_index PySem.F.type_list_index (Ht (K:=K) rfl hr.m6) (pv 0) (aj (pv 2) ao)))
   (aF (aY (vm (cW (qZ (K:=K) rfl pH) (bK (iT (K:=K) rfl) (pv 0) (bW (pv 4)) (bW (aP bU (pv 4) au))) (bI (aj (pv 2) (aj (pv 3) ao))) (bw _)) (nj (cW (qZ (K:=K) rfl pH) (pv 1) (aP je (aP je (bK (iT (K:=K) rfl) (pv 0) cB (bW (pv 4))) (bI (aj (pv 3) (aj (pv 2) ao)))) (bK (iT (K:=K) rfl) (pv 0) (bW (aP bU (pv 4) au)) cB)) (bw _))))))), ?_⟩
  have l1:=R4 o1
  obtain ⟨t,ht⟩:=Wa o1 (x:=i.toNat) (by have:=iin.1;have:=iin.2;omega)
  rw [Int.toNat_of_nonneg iin.1] at ht
  have hn:∀m,fs[m]? = some i->m=t:=fun m hm=>R5 o1 hm ht
  have tl:t<fs.length:=(List.getElem?_eq_some_iff.mp ht).1
  have Vj:=DK (x:=(i,j)) (gs:=gs) ht hn
  refine ⟨_,rfl,.inl ⟨rfl,_,aZ.of Fi⟩,_,rfl,f,fs,i,t,rfl,rfl,aZ.of Fi,ht,fun m hm e=>by have:=hn m e;omega, ?_⟩
  refine ⟨_,rfl,_,rfl,_,rfl,_,rfl,_,_,rfl,rfl,_,rfl,VG rfl Fi (by omega) fun p1 H1 f1 C1 u1=> ?_⟩
  refine ⟨_,rfl,_,rfl,(by show 2<=sizeLine;decide),fun p2 hp2=> ?_⟩
  have u2:=aB (o:=HO.lst [V.int i,V.int j]) hp2
  refine ⟨_,_,jX (C1.same u2),jX (ns:=[i,j]) ak,shaped_ints _,shaped_ints _,_,rfl, ?_⟩
  rw [jV PyData.int uK]
  have u12:=u1.trans u2
  by_cases q1:(fs.drop t).take 2=[i,j]
  ·rw [decide_eq_true q1]
   refine cQ ?_
   refine ⟨_,rfl,_,rfl,_,rfl,_,rfl,Jj (Fi.same u12) (by omega) fun p3 H3 f3 C3 u3=> ?_⟩
   refine ⟨_,rfl,_,rfl,(by show 2<=sizeLine;decide),fun p4 Zy=> ?_⟩
   have u4:=aB (o:=HO.lst [V.int j,V.int i]) Zy
   refine eY (ys:=[j,i]) (C3.same u4) ak (by simp;omega) fun p5 H5 f5 C5 u5=> ?_
   have M_:=((u12.trans u3).trans u4).trans u5
   refine ⟨_,rfl,_,rfl,_,_,rfl,rfl,_,rfl,Jk (Fi.same M_) (by omega) fun p6 H6 f6 C6 u6=> ?_⟩
   refine eY (C5.same u6) C6 (by simp;omega) fun p7 H7 f7 C7 u7=> ?_
   have u17:=(M_.trans u6).trans u7
   refine ⟨_,_,jX (Gi.same u17),jX C7,shaped_ints _,shaped_ints _, ?_⟩
   rw [jV PyData.int uK,show ((t:Int)+2).toNat=t+2 by omega,Int.toNat_natCast]
   refine k _ _ ?_ u17
   rw [if_neg Bool.false_ne_true,decide_eq_true_iff]
   exact ⟨fun z=>Vj.mpr ⟨q1,z⟩,fun z=>(Vj.mp z).2⟩
  ·rw [decide_eq_false q1]
   refine cH ?_
   exact k false _ ⟨fun z=>Bool.noConfusion z,fun z=>absurd (Vj.mp z).1 q1⟩ u12
def Nr (C:Addr) (K:PySem.W.Frag):Sp:=fun vs H Q E=>∃(a t p f g:Addr) (ws:List bD) (x:Nt) (fs gs:List Int),vs=[.ref a,.ref t,.ref p]/\cJ H a ws/\ws.length<=300/\(∀x∈ws,0<=x.1/\x.1<8)/\H t=some (.tup (nV x))/\H p=some (.tup [.ref f,.ref g])/\LI H f fs/\LI H g gs/\fs.length<=1000/\gs.length<=1000/\(x∈jo ws ws.length -> ∀v H',Same H H'->Q v H')/\(x∉jo ws ws.length -> ∀H',Same H H'->E (.ref C) none H')
theorem Wf {f:Addr} {fd:FuncData} (F:lU K "parting_shows" "parting_shows" bR f fd) {aC:Addr} (bL:Xr K mg aC "NoNote") (mL:pF P w K mg base 5 "check_fewest" ["web","note"] (Ji aC K)) (o_:FnAt P w K mg base 3 "is_order" ["web","order"] (qU K)) (j8:FnAt P w K mg base 2 "places_of" ["web"] (qe K)) (Dm:FnAt P w K mg base 1 "are_turned" ["first","second","one","other"] (GQ K)) (IV:FnAt P w K mg base 4 "same_run" ["web","order"] (Bv K)) (Bt:uo mg):cI P w K mg base (Ds P w) 6 f fd ["web","note","paper"] (Nr aC K):=by
 refine F.Y6 fV (fun vs H Q E h=> ?_) (fun cdv A outer s H vs Q E hr h hR=> ?_)
 ·obtain ⟨a,t,p,f,g,ws,x,fs,gs,rfl,_⟩:=h
  rfl
 ·obtain ⟨a,t,p,f,g,ws,x,fs,gs,rfl,W,wl,zQ,ht,hp,Fi,Gi,fl,gl,k1,k2⟩:=h
  have hu:=mR hr
  refine ⟨_,(aq (cA (vh mL rfl hR (hr.mono (by decide)) (by rfl) (aj (pv 0) (aj (pv 1) ao))))
   (aq (aM (i:=3) fV.nd rfl (Or.inl rfl) (aL (aN (K:=K) rfl) (pv 2) au (fun _ _=>rfl)))
   (aq (aM (i:=4) fV.nd rfl (Or.inl rfl) (aL (aN (K:=K) rfl) (pv 2) au (fun _ _=>rfl)))
   (aq (cF (PW.pt (nM (lZ (eO (aW o_ (hr.mono (by decide)) (by rfl) (aj (pv 0) (aj (pv 3) ao))))) (lY (lZ (eO (aW o_ (hr.mono (by decide)) (by rfl) (aj (pv 0) (aj (pv 4) ao)))))))) (aF (aY iD)) bG)
   (aq (aM (i:=5) fV.nd rfl (Or.inl rfl) (aW j8 (hr.mono (by decide)) (by rfl) (aj (pv 0) ao)))
   (aF (aY (vm (aW Dm (hr.mono (by decide)) (by rfl) (aj (pv 3) (aj (pv 4) (aj (gQ hu (pv 5) (bK (fH (K:=K) rfl) (pv 1) cB (bW au)) (fun _ _=>rfl)) (aj (gQ hu (pv 5) (bK (fH (K:=K) rfl) (pv 1) (bW au) cB) (fun _ _=>rfl)) ao))))) (nj (aW IV (hr.mono (by decide)) (by rfl) (aj (pv 0) (aj (pv 3) ao)))))))))))), ?_⟩
  refine ⟨_,rfl,_,rfl,a,t,ws,x,rfl,W,wl,zQ,ht,fun hx H1 s1=> ?_,fun nx H1 s1=>k2 nx H1 s1⟩
  have kk:=k1 hx
  obtain ⟨i,j,rfl,np⟩:=nO hx
  have hil:i<ws.length:=Nat.lt_trans np.lt np.jl
  have k:∀(b:Bool) H',(b=true↔(mF ws.length fs=true/\mF ws.length gs=true/\Turned (tX i j) fs gs/\Q9 ws fs))->Same H H'->Q (.bl b) H':=fun b H' _ sm=>kk _ H' sm
  refine ⟨_,rfl,_,_,_,_,rfl,rfl,cD.of (s1 _ _ hp),rfl, ?_⟩
  refine ⟨_,rfl,_,_,_,_,rfl,rfl,cD.of (s1 _ _ hp),rfl, ?_⟩
  refine ⟨_,rfl,_,rfl,a,f,ws,fs,rfl,W.same s1,wl,Fi.same s1,fl,fun H2 s2=>⟨_,rfl, ?_⟩⟩
  have s12:=s1.trans s2
  cases o1:mF ws.length fs with
  | false=>
    refine (show if true=true then _ else _ from cQ ?_)
    refine (show if true=true then _ else _ from cQ ?_)
    exact k false _ ⟨fun z=>Bool.noConfusion z,fun z=>by rw [o1] at z;exact Bool.noConfusion z.1⟩ s12
  | true=>
  refine (show if false=true then _ else _ from cH ?_)
  refine ⟨_,rfl,_,rfl,a,g,ws,gs,rfl,W.same s12,wl,Gi.same s12,gl,fun H3 s3=>⟨_,rfl, ?_⟩⟩
  have Gw:=s12.trans s3
  cases o2:mF ws.length gs with
  | false=>
    refine (show if true=true then _ else _ from cQ ?_)
    exact k false _ ⟨fun z=>Bool.noConfusion z,fun z=>by rw [o2] at z;exact Bool.noConfusion z.2.1⟩ Gw
  | true=>
  refine (show if false=true then _ else _ from cH ?_)
  unfold Nj
  dsimp only
  refine ⟨_,rfl,a,ws,rfl,W.same Gw,wl,fun d kvs H4 hd h4 pl _ s4=> ?_⟩
  have XJ:=Gw.trans s4
  refine ⟨_,rfl,_,rfl,_,rfl,_,rfl,_,rfl,t,_,rfl,cD.of (XJ _ _ ht),vp _ rfl,fun p1 hp1=> ?_⟩
  rw [show fL (nV (eU ws i j)) none (some 2)=[V.int (hnd ws i),V.int (cnt (ws.take i) (hnd ws i))] from Av _ _ _ _]
  have t1:=aB (o:=HO.tup [V.int (hnd ws i),V.int (cnt (ws.take i) (hnd ws i))]) hp1
  refine ⟨d,V.int (i:Int),rfl,by rw [←pl.1 i _ (jf hil)];exact jD.t (t1 _ _ h4) ak, ?_⟩
  refine ⟨_,rfl,_,rfl,_,rfl,t,_,rfl,cD.of (t1 _ _ (XJ _ _ ht)),vo _ rfl,fun p2 hp2=> ?_⟩
  rw [show fL (nV (eU ws i j)) (some 2) none=[V.int (hnd ws j),V.int (cnt (ws.take j) (hnd ws j))] from Ar _ _ _ _]
  have t2:=aB (o:=HO.tup [V.int (hnd ws j),V.int (cnt (ws.take j) (hnd ws j))]) hp2
  refine ⟨d,V.int (j:Int),rfl,by rw [←pl.1 j _ (jf np.jl)];exact jD.t (t2 _ _ (t1 _ _ h4)) ak, ?_⟩
  have Uq:=(XJ.trans t1).trans t2
  refine ⟨f,g,ws.length,fs,gs,(i:Int),(j:Int),rfl,Fi.same Uq,Gi.same Uq,o1,wl,gl,⟨by omega,by omega⟩,fun b H7 hb s7=>⟨b,rfl, ?_⟩⟩
  have s17:=Uq.trans s7
  cases b with
  | false=>
    refine (show if false=true then _ else _ from cH ?_)
    exact k false _ ⟨fun z=>Bool.noConfusion z,fun z=>hb.mpr z.2.2.1⟩ s17
  | true=>
    refine (show if true=true then _ else _ from cQ ?_)
    have T:=hb.mp rfl
    exact ⟨_,rfl,_,rfl,a,f,ws,fs,rfl,W.same s17,wl,Fi.same s17,fl,o1,fun r H8 Zv s8=>k r _ ⟨fun z=>⟨o1,o2,T,Zv.mp z⟩,fun z=>Zv.mpr z.2.2.2⟩ (s17.trans s8)⟩
def n1 (x:Nt):k_:=(x.1,x.2.1)
def n2 (x:Nt):k_:=(x.2.2.1,x.2.2.2)
def Gn (ws:List bD) (x:Nt) (i j:Nat):Prop:=x.1≠x.2.2.1/\(nm ws)[i]? = some (n1 x)/\(nm ws)[j]? = some (n2 x)/\i<j
def j5 (ws:List bD) (x:Nt):Prop:=∃i j,Gn ws x i j
theorem wU {α:Type} {x:α} {l:List α} (h:x∈l):∃i:Nat,l[i]? = some x:=List.getElem?_of_mem h
def xX (K:PySem.W.Frag):Sp:=fun vs H Q _=>∃(d t:Addr) (kvs:List (List Key×V)) (ws:List bD) (x:Nt),vs=[.ref d,.ref t]/\H d=some (.dT kvs)/\Q7 kvs (nm ws)/\H t=some (.tup (nV x)) /\ ∀(bl:Bool) (H':Hp),(bl=true↔j5 ws x)->Same H H'->Q (.bl bl) H'
theorem KC {f:Addr} {fd:FuncData} (F:lU K "is_strict" "is_strict" dR f fd) (vN:FnAt P w K mg base 2 "is_note" ["value"] (ux K)):cI P w K mg base nF 3 f fd ["places","note"] (xX K):=by
 refine F.ok BX (fun vs H Q E h=> ?_) (fun cdv A outer s H vs Q E hr h=> ?_)
 ·obtain ⟨d,t,kvs,ws,x,rfl,_⟩:=h
  rfl
 ·obtain ⟨d,t,kvs,ws,x,rfl,hd,pl,ht,k⟩:=h
  have hu:=mR hr
  refine ⟨_,(aq (cF (PW.pt (nM (lZ (eO (aW vN (hr.mono (by decide)) (by rfl) (aj (pv 1) ao)))) (nM (Hg (Ah hu (bK (fH (K:=K) rfl) (pv 1) cB (bW au)) (pv 0))) (lY (Hg (Ah hu (bK (fH (K:=K) rfl) (pv 1) (bW au) cB) (pv 0))))))) (aF (aY iD)) bG)
   (aF (aY (cW vU (gQ hu (pv 0) (bK (fH (K:=K) rfl) (pv 1) cB (bW au)) (fun _ _=>rfl)) (gQ hu (pv 0) (bK (fH (K:=K) rfl) (pv 1) (bW au) cB) (fun _ _=>rfl)) (bw _))))), ?_⟩
  refine ⟨_,rfl,t,x,rfl,ht,fun H1 s1=>⟨_,rfl, ?_⟩⟩
  have ht1:=s1 _ _ ht
  have hd1:=s1 _ _ hd
  have no:∀{H':Hp},Same H1 H' -> ¬j5 ws x->Q (.bl false) H':=fun sm z=>k false _ ⟨fun w=>(by cases w),fun w=>absurd w z⟩ (s1.trans sm)
  by_cases hne:x.1=x.2.2.1
  ·rw [show (!decide (x.1=x.2.2.1))=false by simp [hne]]
   exact cQ (no (Same.refl _) fun ⟨_,_,z,_⟩=>z hne)
  rw [show (!decide (x.1=x.2.2.1))=true by simp [hne]]
  refine cH ?_
  refine ⟨_,rfl,_,rfl,_,_,rfl,cD.of ht1,vp _ rfl,fun p1 hp1=> ?_⟩
  rw [show fL (nV x) none (some 2)=[.int x.1,.int x.2.1] from Av ..]
  have s2:=aB (o:=HO.tup [V.int x.1,V.int x.2.1]) hp1
  refine ⟨_,rfl,d,_,rfl,jD.t (k:=kx (n1 x)) (s2 _ _ hd1) ak,_,rfl, ?_⟩
  by_cases m1:n1 x∈nm ws
  rotate_left
  ·rw [pl.2 _ m1]
   exact cQ (no s2 fun ⟨i,j,_,z,_⟩=>m1 (List.mem_of_getElem? z))
  obtain ⟨i,ei⟩:=wU m1
  rw [pl.1 i _ ei]
  refine cH ?_
  have qG:=s2 _ _ ht1
  have hd2:=s2 _ _ hd1
  refine ⟨_,rfl,_,rfl,_,_,rfl,cD.of qG,vo _ rfl,fun p2 hp2=> ?_⟩
  rw [show fL (nV x) (some 2) none=[.int x.2.2.1,.int x.2.2.2] from Ar ..]
  have s3:=aB (o:=HO.tup [V.int x.2.2.1,V.int x.2.2.2]) hp2
  have s23:=s2.trans s3
  refine ⟨_,rfl,d,_,rfl,jD.t (k:=kx (n2 x)) (s3 _ _ hd2) ak,_,rfl, ?_⟩
  by_cases m2:n2 x∈nm ws
  rotate_left
  ·rw [pl.2 _ m2]
   exact cQ (no s23 fun ⟨i,j,_,_,z,_⟩=>m2 (List.mem_of_getElem? z))
  obtain ⟨j,ej⟩:=wU m2
  rw [pl.1 j _ ej]
  refine cH ?_
  refine ⟨_,rfl,_,rfl,_,rfl,_,_,rfl,cD.of (s3 _ _ qG),vp _ rfl,fun p3 hp3=> ?_⟩
  rw [show fL (nV x) none (some 2)=[.int x.1,.int x.2.1] from Av ..]
  have s4:=aB (o:=HO.tup [V.int x.1,V.int x.2.1]) hp3
  have s24:=s23.trans s4
  refine ⟨d,_,rfl,pl.1 i _ ei▸jD.t (k:=kx (n1 x)) (s24 _ _ hd1) ak, ?_⟩
  refine ⟨_,rfl,_,rfl,_,rfl,_,_,rfl,cD.of (s24 _ _ ht1),vo _ rfl,fun p4 Zy=> ?_⟩
  rw [show fL (nV x) (some 2) none=[.int x.2.2.1,.int x.2.2.2] from Ar ..]
  have s5:=aB (o:=HO.tup [V.int x.2.2.1,V.int x.2.2.2]) Zy
  have s25:=s24.trans s5
  refine ⟨d,_,rfl,pl.1 j _ ej▸jD.t (k:=kx (n2 x)) (s25 _ _ hd1) ak,_,_,rfl,rfl, ?_⟩
  refine k _ _ ?_ (s1.trans s25)
  rw [decide_eq_true_iff]
  constructor
  ·intro z
   exact ⟨i,j,hne,ei,ej,by omega⟩
  ·rintro ⟨i',j',_,a,b,c⟩
   have:=kJ a ei
   have:=kJ b ej
   omega
def SE (ws:List bD) (ns:List Nt) (a b:Nat):Prop:=(a<b/\b<ws.length/\hnd ws a=hnd ws b/\cnt (ws.take b) (hnd ws b)=cnt (ws.take a) (hnd ws a)+1) \/ ∃x∈ns,Gn ws x a b
theorem SE.lt {ws:List bD} {ns:List Nt} {a b:Nat} (h:SE ws ns a b):a<b/\b<ws.length:=by
 rcases h with ⟨h1,h2,_⟩|⟨x,_,_,_,h3,h4⟩
 ·exact ⟨h1,h2⟩
 ·have:=(List.getElem?_eq_some_iff.mp h3).1
  rw [bN] at this
  exact ⟨h4,this⟩
def Nv (C:Addr) (K:PySem.W.Frag):Sp:=fun vs H Q E=>∃(d s:Addr) (kvs:List (List Key×V)) (ws:List bD) (ns:List Nt),vs=[.ref d,.ref s]/\H d=some (.dT kvs)/\Q7 kvs (nm ws)/\dZ H s ns/\ns.length<=100000/\((∀x∈ns,j5 ws x) -> ∀H',Same H H'->Q .non H')/\(¬(∀x∈ns,j5 ws x) -> ∀H',Same H H'->E (.ref C) none H')
theorem Wi {f:Addr} {fd:FuncData} (F:lU K "check_strict" "check_strict" cg f fd) {aC:Addr} (bL:Xr K mg aC "NoNote") (Gs:FnAt P w K mg base 3 "is_strict" ["places","note"] (xX K)) (Bt:uo mg):cI P w K mg base (Ds P w) 4 f fd ["places","some"] (Nv aC K):=by
 refine F.Y6 wg (fun vs H Q E h=> ?_) (fun cdv A outer s H vs Q E hr h hR=> ?_)
 ·obtain ⟨d,s,kvs,ws,ns,rfl,_⟩:=h
  rfl
 ·obtain ⟨d,sa,kvs,ws,ns,rfl,hd,pl,N,nl,k1,k2⟩:=h
  classical
  refine ⟨_,(aF (cF (lZ (eO (aR (kZ (K:=K) rfl rfl) (by rfl) Bt.QW Ii (aj (jL rfl (N:=["note","places"]) (own:=["note"]) (caps:=[0]) (bf.of (by kernel_rfl)) (dg (K:=K) rfl (pv 1)) (fun _ _ _ _=>(aO (i:=0) (show List.Nodup (["note","places"]:List Str) by decide +kernel) rfl (Or.inl rfl))) (fun _ _ _ _=>jJ) (fun _ _ _ _=>(aW Gs (hr.mono (by decide)) (by rfl) (aj (pv 1) (aj (pv 0) ao))))) ao)))) (aF (Ef PySem.F.excBase_ValueError bL.ex bL.bd (by rfl) rfl rfl hR (aj iy ao))) bG)), ?_⟩
  obtain ⟨vs,hv,dv⟩:=id N
  have vl:vs.length=ns.length:=by rw [dv.length,List.length_map]
  refine ⟨_,rfl,sa,rfl,⟨_,aZ.of hv⟩,fun D hD=> ?_⟩
  refine qL (K:=K) (a:=sa) (xs:=vs) (fun i=>(ns[i]?).map fun x=>V.bl (decide (j5 ws x))) hD (aZ.of hv) (by omega) (fun i v H1 G F' hi s1 kG kF=> ?_) (fun H1 s1 e1=> ?_)
  ·obtain ⟨x,t,ex,rfl,ht⟩:=Ck dv hi
   refine ⟨_,rfl,_,rfl,d,t,kvs,ws,x,rfl,s1 _ _ hd,pl,s1 _ _ ht,fun bl H2 hb s2=> ?_⟩
   have:bl=decide (j5 ws x):=by rw [Bool.eq_iff_iff,hb,decide_eq_true_iff]
   subst this
   exact kF _ _ s2 (by rw [ex];rfl)
  ·rw [vl,wY] at e1
   have e1':H1 D=some (.lst ((ns.map fun x=>decide (j5 ws x)).map V.bl)):=by rw [e1,List.map_map];rfl
   refine ⟨D,_,rfl,aZ.of e1',_,rfl, ?_⟩
   by_cases z:∀x∈ns,j5 ws x
   ·rw [show (ns.map fun x=>decide (j5 ws x)).all id=true by rw [List.all_eq_true];intro b hb;obtain ⟨y,hy,rfl⟩:=List.mem_map.mp hb;exact decide_eq_true (z y hy)]
    exact (show if false=true then _ else _ from cH (k1 z _ s1))
   ·rw [show (ns.map fun x=>decide (j5 ws x)).all id=false by
     rw [Bool.eq_false_iff]
     intro w
     rw [List.all_eq_true] at w
     exact z fun x hx=>of_decide_eq_true (w _ (List.mem_map_of_mem hx))]
    refine (show if true=true then _ else _ from cQ ?_)
    exact ⟨(by show 1<=sizeLine;decide),k2 z _ s1⟩
def Vx (K:PySem.W.Frag):Sp:=fun vs H Q _=>∃(d s:Addr) (kvs:List (List Key×V)) (ws:List bD) (ns:List Nt),vs=[.ref d,.ref s]/\H d=some (.dT kvs)/\kvs=Ky (nm ws)/\Q7 kvs (nm ws)/\ws.length<=300/\dZ H s ns/\ns.length<=90000/\(∀x∈ns,j5 ws x) /\
 ∀(r:Addr) (es:List k_) H',H r=none->cL H' r es->es.length<=90300->(∀x∈es,∃a b,x=tX a b/\SE ws ns a b)->(∀a b,SE ws ns a b->tX a b∈es)->Same H H'->Q (.ref r) H'
theorem Wt (x:k_):(kx x).map kV=[.int x.1,.int x.2]:=rfl
theorem Hs {ws:List bD} {i:Nat} {x:k_} (e:(nm ws)[i]? = some x):i<ws.length/\x=(hnd ws i,cnt (ws.take i) (hnd ws i)):=by
 have hl:i<ws.length:=by have:=(List.getElem?_eq_some_iff.mp e).1;rwa [bN] at this
 rw [jf hl] at e
 exact ⟨hl,(Option.some.inj e).symm⟩
theorem wR (ws:List bD) (h:Int):∀j,j<=ws.length->0<cnt (ws.take j) h -> ∃m,m<j/\hnd ws m=h/\cnt (ws.take m) h=cnt (ws.take j) h - 1
 | 0,_,hp=>by simp [cnt] at hp
 | j+1,hj,hp=>by
   have e:ws[j]? = some (ws[j]'(by omega)):=by simp
   have tk:ws.take (j+1)=ws.take j++[ws[j]'(by omega)]:=by rw [List.take_add_one,e];rfl
   rw [tk,ji] at hp ⊢
   by_cases q:h=(ws[j]'(by omega)).1
   ·rw [if_pos q]
    exact ⟨j,by omega,by rw [kW e,q],by omega⟩
   ·rw [if_neg q] at hp ⊢
    obtain ⟨m,m1,m2,m3⟩:=wR ws h j (by omega) hp
    exact ⟨m,by omega,m2,m3⟩
def prv (ws:List bD) (i:Nat):Nat:=(nm ws).idxOf (hnd ws i,cnt (ws.take i) (hnd ws i) - 1)
theorem Hh {ws:List bD} {i:Nat} (hi:i<ws.length) (hp:0<cnt (ws.take i) (hnd ws i)):(nm ws)[prv ws i]? = some (hnd ws i,cnt (ws.take i) (hnd ws i) - 1):=by
 obtain ⟨m,m1,m2,m3⟩:=wR ws (hnd ws i) i (by omega) hp
 have hm:(hnd ws i,cnt (ws.take i) (hnd ws i) - 1)∈nm ws:=List.mem_of_getElem? (i:=m) (by rw [jf (show m<ws.length by omega),m2,m3])
 have hl:=List.idxOf_lt_length_iff.mpr hm
 unfold prv
 rw [List.getElem?_eq_getElem hl,List.getElem_idxOf hl]
theorem V3 {ws:List bD} {i:Nat} (ns:List Nt) (hi:i<ws.length) (hp:0<cnt (ws.take i) (hnd ws i)):SE ws ns (prv ws i) i:=by
 have e:=Hh hi hp
 obtain ⟨m,m1,m2,m3⟩:=wR ws (hnd ws i) i (by omega) hp
 have e2:(nm ws)[m]? = some (hnd ws i,cnt (ws.take i) (hnd ws i) - 1):=by rw [jf (show m<ws.length by omega),m2,m3]
 rw [kJ e e2]
 exact .inl ⟨m1,hi,m2,by rw [m2,m3];omega⟩
theorem VH {ws:List bD} {a b:Nat} (h1:a<b) (h2:b<ws.length) (h3:hnd ws a=hnd ws b) (h4:cnt (ws.take b) (hnd ws b)=cnt (ws.take a) (hnd ws a)+1):0<cnt (ws.take b) (hnd ws b)/\a=prv ws b:=by
 have:=nA (ws.take a) (hnd ws a)
 refine ⟨by omega,kJ (x:=(hnd ws b,cnt (ws.take b) (hnd ws b) - 1)) ?_ (Hh h2 (by omega))⟩
 rw [jf (show a<ws.length by omega),h3]
 congr 2
 rw [h3] at h4
 omega
def p1 (ws:List bD) (x:Nt):Nat:=(nm ws).idxOf (n1 x)
def p2 (ws:List bD) (x:Nt):Nat:=(nm ws).idxOf (n2 x)
theorem GP {ws:List bD} {x:Nt} (h:j5 ws x):Gn ws x (p1 ws x) (p2 ws x):=by
 obtain ⟨i,j,ne,h1,h2,lt⟩:=h
 have get:∀{y:k_} {i:Nat},(nm ws)[i]? = some y->(nm ws)[(nm ws).idxOf y]? = some y:=fun {y i} e=>by
  have hl:=List.idxOf_lt_length_iff.mpr (List.mem_of_getElem? e)
  rw [List.getElem?_eq_getElem hl,List.getElem_idxOf hl]
 have e1:=get h1
 have e2:=get h2
 have q1:p1 ws x=i:=kJ e1 h1
 have q2:p2 ws x=j:=kJ e2 h2
 rw [q1,q2]
 exact ⟨ne,h1,h2,lt⟩
theorem Nk {ws:List bD} {x:Nt} {i j i' j':Nat} (h:Gn ws x i j) (h':Gn ws x i' j'):i=i'/\j=j':=⟨kJ h.2.1 h'.2.1,kJ h.2.2.1 h'.2.2.1⟩
theorem Y4 {f:Addr} {fd:FuncData} (F:lU K "steps_by" "steps_by" d7 f fd) (Bt:uo mg):cI P w K mg base nF 1 f fd ["places","some"] (Vx K):=by
 refine F.ok vQ (fun vs H Q E h=> ?_) (fun cdv A outer s H vs Q E hr h=> ?_)
 ·obtain ⟨d,s,kvs,ws,ns,rfl,_⟩:=h
  rfl
 ·obtain ⟨d,sa,kvs,ws,ns,rfl,hd,ek,pl,wl,N,nl,st,k⟩:=h
  have hu:=mR hr
  refine ⟨_,(aq (Og (oV (i:=2) rfl vQ.nd rfl (Or.inl rfl) (N:=["name","places"]) (own:=["name"]) (caps:=[0]) (bf.of (by kernel_rfl)) (Om (pv 0)) (fun _ _ _ _=>(aO (i:=0) (show List.Nodup (["name","places"]:List Str) by decide +kernel) rfl (Or.inl rfl))) (fun _ _ _ _=>(oU (bh Ej (aL (aN (K:=K) rfl) (pv 0) au (fun _ _=>rfl)) au (bw _)))) (fun _ _ _ _=>(dh (aj (gQ hu (pv 1) (dh (aj (aL (aN (K:=K) rfl) (pv 0) au (fun _ _=>rfl)) (aj (aP kE (aL (aN (K:=K) rfl) (pv 0) au (fun _ _=>rfl)) au) ao))) (fun _ _=>rfl)) (aj (gQ hu (pv 1) (pv 0) (fun _ _=>rfl)) ao))))))
   (aq (cA (tY (K:=K) rfl PySem.F.plainAttrs_list PySem.F.slot_list_extend PySem.F.type_list_extend Ak (pv 2) (aj (jL rfl (N:=["note","places"]) (own:=["note"]) (caps:=[0]) (bf.of (by kernel_rfl)) (dg (K:=K) rfl (pv 1)) (fun _ _ _ _=>(aO (i:=0) (show List.Nodup (["note","places"]:List Str) by decide +kernel) rfl (Or.inl rfl))) (fun _ _ _ _=>jJ) (fun _ _ _ _=>(dh (aj (gQ hu (pv 1) (bK (fH (K:=K) rfl) (pv 0) cB (bW au)) (fun _ _=>rfl)) (aj (gQ hu (pv 1) (bK (fH (K:=K) rfl) (pv 0) (bW au) cB) (fun _ _=>rfl)) ao))))) ao)))
   (aF (aY (pv 2))))), ?_⟩
  have afi:kvs.length=ws.length:=by rw [ek,RW,bN]
  refine ⟨_,rfl,d,kvs,rfl,hd,fun o D hD=> ?_⟩
  have fz:(upd H d (.jB o (.dT kvs))) d=some (.jB o (.dT kvs)):=ak
  have Et:D≠d:=fun z=>by rw [z,ak] at hD;cases hD
  have hD0:H D=none:=by rwa [aV Et] at hD
  refine Lw (fun i=>if 0<cnt (ws.take i) (hnd ws i) then some (pD (tX (prv ws i) i)) else none) (fun i dd e=> ?_) hD fz (by omega) (fun i kk v b H1 G F' hi hb s1 kG kF=> ?_) (fun H1 vs s1 e1 d1=> ?_)
  ·by_cases z:0<cnt (ws.take i) (hnd ws i)
   ·rw [if_pos z] at e;cases e;rfl
   ·rw [if_neg z] at e;cases e
  ·rw [ek] at hi
   obtain ⟨x,ex,rfl,rfl⟩:=RX hi
   obtain ⟨il,rfl⟩:=Hs ex
   rw [Wt] at hb
   refine ⟨_,rfl,_,_,_,_,rfl,rfl,cD.of hb,rfl,_,_,rfl,rfl,_,rfl, ?_⟩
   refine rN (fun hp=> ?_) (fun hp=> ?_)
   ·have hp:0<cnt (ws.take i) (hnd ws i):=of_decide_eq_true hp
    have epv:=Hh il hp
    refine ⟨_,rfl,_,rfl,_,_,_,_,rfl,rfl,cD.of hb,rfl,_,rfl,_,_,_,_,rfl,rfl,cD.of hb,rfl,_,_,rfl,rfl,(by show 2<=sizeLine;decide),fun u hu'=> ?_⟩
    have su:=aB (o:=HO.tup [V.int (hnd ws i),V.int (cnt (ws.take i) (hnd ws i) - 1)]) hu'
    refine ⟨d,V.int (prv ws i:Nat),rfl,.inr ⟨kvs,kx (hnd ws i,cnt (ws.take i) (hnd ws i) - 1),u,.inr ⟨o,su _ _ (s1 _ _ fz)⟩,rfl,ak,(pl.1 _ _ epv).symm⟩, ?_⟩
    refine ⟨_,rfl,_,rfl,d,V.int (i:Nat),rfl,.inr ⟨kvs,kx (hnd ws i,cnt (ws.take i) (hnd ws i)),b,.inr ⟨o,su _ _ (s1 _ _ fz)⟩,rfl,su _ _ hb,(pl.1 _ _ ex).symm⟩,(by show 2<=sizeLine;decide),fun w hw=> ?_⟩
    have sw:=aB (o:=HO.tup [V.int (prv ws i:Nat),V.int (i:Nat)]) hw
    exact kF _ (pD (tX (prv ws i) i)) _ (su.trans sw) (if_pos hp) (jh (x:=tX (prv ws i) i) ak)
   ·have hp:¬0<cnt (ws.take i) (hnd ws i):=fun z=>hp (decide_eq_true z)
    exact kG _ (Same.refl _) (if_neg hp)
  ·
   have fz1:=s1 _ _ fz
   refine ⟨_,⟨d,kvs,o,kvs,hd,fz1,rfl⟩, ?_⟩
   have sm:Same H (upd H1 d (.dT kvs)):=fun b u e=>by
    by_cases q:b=d
    ·subst q;rw [hd] at e;cases e;exact ak
    ·rw [aV q];exact s1 _ _ (by rw [aV q];exact e)
   have tk:∀a xs,H1 a=some (HO.tup xs)->(upd H1 d (.dT kvs)) a=some (HO.tup xs):=fun a xs h=>by
    have:a≠d:=fun z=>by rw [z,fz1] at h;cases h
    rw [aV this];exact h
   have e2:(upd H1 d (.dT kvs)) D=some (.lst vs):=by rw [aV Et];exact e1
   have hfl:(List.range kvs.length).filterMap (fun i=>if 0<cnt (ws.take i) (hnd ws i) then some (pD (tX (prv ws i) i)) else none)=((List.range ws.length).filterMap fun i=>if 0<cnt (ws.take i) (hnd ws i) then some (tX (prv ws i) i) else none).map pD:=by
    rw [afi,List.map_filterMap]
    refine gM _ trivial fun i _=> ?_
    split<;>rfl
   rw [hfl] at d1
   have P2:cL (upd H1 d (.dT kvs)) D ((List.range ws.length).filterMap fun i=>if 0<cnt (ws.take i) (hnd ws i) then some (tX (prv ws i) i) else none):=⟨vs,e2,aH.keep tk _ (bA _ iB _) d1⟩
   have hd2:(upd H1 d (.dT kvs)) d=some (.dT kvs):=ak
   have len1:=qI (fun i:Nat=>if 0<cnt (ws.take i) (hnd ws i) then some (tX (prv ws i) i) else none) ws.length
   generalize upd H1 d (.dT kvs)=H2 at sm P2 hd2 ⊢
   clear e2 tk
   have N2:=N.same sm
   obtain ⟨nv,Tf,U7⟩:=id N2
   have nvl:nv.length=ns.length:=by rw [U7.length,List.length_map]
   obtain ⟨v2,hv2,U6⟩:=id P2
   have v2l:v2.length<=ws.length:=by rw [U6.length,List.length_map];exact len1
   refine ⟨_,rfl,.inl ⟨rfl,_,aZ.of hv2⟩,_,rfl,sa,rfl,⟨_,aZ.of Tf⟩,fun D2 hD2=> ?_⟩
   have nDD:D≠D2:=aD hv2 hD2
   refine Ay (K:=K) (fun i=>(ns[i]?).map fun x=>pD (tX (p1 ws x) (p2 ws x))) (fun i dd e=> ?_) hD2 (aZ.of Tf) (by omega) (fun i v H3 G F' hi s3 kG kF=> ?_) (fun H3 us s3 e3 d3=> ?_)
   ·cases ex:ns[i]? with
    | none=>rw [ex] at e;cases e
    | some x=>rw [ex] at e;cases e;rfl
   ·obtain ⟨x,t,ex,rfl,ht⟩:=Ck U7 hi
    have sx:=GP (st x (List.mem_of_getElem? ex))
    have HN:=s3 _ _ ht
    refine ⟨_,rfl,_,rfl,_,rfl,t,_,rfl,cD.of HN,vp _ rfl,fun u hu'=> ?_⟩
    rw [show fL (nV x) none (some 2)=[V.int x.1,V.int x.2.1] from Av _ _ _ _]
    have su:=aB (o:=HO.tup [V.int x.1,V.int x.2.1]) hu'
    refine ⟨d,V.int (p1 ws x:Nat),rfl,by rw [←pl.1 _ _ sx.2.1];exact jD.t (su _ _ (s3 _ _ hd2)) ak, ?_⟩
    refine ⟨_,rfl,_,rfl,_,rfl,t,_,rfl,cD.of (su _ _ HN),vo _ rfl,fun w hw=> ?_⟩
    rw [show fL (nV x) (some 2) none=[V.int x.2.2.1,V.int x.2.2.2] from Ar _ _ _ _]
    have sw:=aB (o:=HO.tup [V.int x.2.2.1,V.int x.2.2.2]) hw
    refine ⟨d,V.int (p2 ws x:Nat),rfl,by rw [←pl.1 _ _ sx.2.2.1];exact jD.t (sw _ _ (su _ _ (s3 _ _ hd2))) ak,(by show 2<=sizeLine;decide),fun y hy=> ?_⟩
    have sy:=aB (o:=HO.tup [V.int (p1 ws x:Nat),V.int (p2 ws x:Nat)]) hy
    exact kF _ (pD (tX (p1 ws x) (p2 ws x))) _ ((su.trans sw).trans sy) (by rw [ex];rfl) (jh (x:=tX (p1 ws x) (p2 ws x)) ak)
   ·rw [nvl,wY] at d3
    have d3':aH H3 us ((ns.map fun x=>tX (p1 ws x) (p2 ws x)).map pD):=by rw [List.map_map];exact d3
    have hD3:=s3 _ _ hv2
    have dv3:=aH.keep s3.tups _ (bA _ iB _) U6
    have usl:us.length=ns.length:=by rw [d3'.length,List.length_map,List.length_map]
    refine ⟨D,D2,_,_,rfl,rfl,hD3,e3,by rw [sizeLine_eq];omega, ?_⟩
    have kD:Kp D H3 (upd H3 D (.lst (v2++us))):=Kp.set
    have tD':=kD.tups hD3
    refine ⟨_,rfl,k D (((List.range ws.length).filterMap fun i=>if 0<cnt (ws.take i) (hnd ws i) then some (tX (prv ws i) i) else none)++ns.map fun x=>tX (p1 ws x) (p2 ws x)) _ hD0 ⟨v2++us,ak, ?_⟩ ?_ (fun x hx=> ?_) (fun a b h=> ?_) (fun b u e=>kD _ _ (s3 _ _ (sm _ _ e)) (aD e hD0))⟩
    ·rw [List.map_append]
     exact aH.append (aH.keep tD' _ (bA _ iB _) dv3) (aH.keep tD' _ (bA _ iB _) d3')
    ·rw [List.length_append,List.length_map];omega
    ·rcases List.mem_append.mp hx with z|z
     ·obtain ⟨i,hi,e⟩:=List.mem_filterMap.mp z
      by_cases hp:0<cnt (ws.take i) (hnd ws i)
      ·rw [if_pos hp] at e
       cases e
       exact ⟨_,_,rfl,V3 ns (List.mem_range.mp hi) hp⟩
      ·rw [if_neg hp] at e;cases e
     ·obtain ⟨y,hy,rfl⟩:=List.mem_map.mp z
      exact ⟨_,_,rfl,.inr ⟨y,hy,GP (st y hy)⟩⟩
    ·rcases h with ⟨h1,h2,h3,h4⟩|⟨y,hy,hs⟩
     ·obtain ⟨q1,rfl⟩:=VH h1 h2 h3 h4
      exact List.mem_append_left _ (List.mem_filterMap.mpr ⟨b,List.mem_range.mpr h2,if_pos q1⟩)
     ·obtain ⟨rfl,rfl⟩:=Nk hs (GP (st y hy))
      exact List.mem_append_right _ (List.mem_map.mpr ⟨y,hy,rfl⟩)
theorem W9 {os:List Nat} {t:Nat} {p:Int} (e:(nI os)[t]? = some p):∃q:Nat,os[t]? = some q/\p=(q:Int):=by
 unfold nI at e
 rw [List.getElem?_map] at e
 cases h:os[t]? with
 | none=>rw [h] at e;cases e
 | some q=>rw [h] at e;exact ⟨q,rfl,(Option.some.inj e).symm⟩
inductive uO (ws:List bD) (ns:List Nt) (j:Nat):Nat->Prop
 | one {i:Nat} (h:SE ws ns i j):uO ws ns j i
 | more {i k:Nat} (h:SE ws ns i k) (r:uO ws ns j k):uO ws ns j i
theorem Ku {ws:List bD} {ns:List Nt} {j m:Nat} (r:uO ws ns j m):∃a,SE ws ns a j/\(m=a\/uO ws ns a m):=by
 induction r with
 | one h=>exact ⟨_,h,.inl rfl⟩
 | more h _ ih=>
   obtain ⟨a,s,q⟩:=ih
   refine ⟨a,s,.inr ?_⟩
   rcases q with rfl|q
   ·exact .one h
   ·exact .more h q
theorem Af {ws:List bD} {ns:List Nt} {a j m:Nat} (s:SE ws ns a j) (r:uO ws ns a m):uO ws ns j m:=by
 induction r with
 | one h=>exact .more h (.one s)
 | more h _ ih=>exact .more h ih
theorem zq {ws:List bD} {m j:Nat} (h:m<j) (hj:j<=ws.length):cnt (ws.take m) (hnd ws m)+1<=cnt (ws.take j) (hnd ws m):=by
 have e:ws[m]? = some (ws[m]'(by omega)):=by simp
 have tk:ws.take (m+1)=ws.take m++[ws[m]'(by omega)]:=by rw [List.take_add_one,e];rfl
 have:=mH ws (hnd ws m) (m+1) (j - (m+1))
 rw [show m+1+(j - (m+1))=j by omega,tk,ji,if_pos (kW e)] at this
 exact this
theorem Qc {ws:List bD} (ns:List Nt):∀(j m:Nat),j<ws.length->m<j->hnd ws m=hnd ws j->uO ws ns j m:=fun j=>by
 induction j using Nat.strongRecOn with
 | _ j ih=>
   intro m hj hm e
   have c1:=zq (ws:=ws) hm (by omega)
   rw [e] at c1
   have nn:=nA (ws.take m) (hnd ws j)
   have hp:0<cnt (ws.take j) (hnd ws j):=by omega
   obtain ⟨a,a1,a2,a3⟩:=wR ws (hnd ws j) j (by omega) hp
   have sa:SE ws ns a j:= .inl ⟨a1,hj,a2,by rw [a2,a3];omega⟩
   by_cases q:m=a
   ·subst q;exact .one sa
   ·by_cases l:m<a
    ·exact Af sa (ih a a1 m (by omega) l (e.trans a2.symm))
    ·have c2:=zq (ws:=ws) (show a<m by omega) (by omega)
     rw [a2] at c2
     omega
def Q8 (H:Hp) (kn:Addr) (ws:List bD) (ns:List Nt) (n:Nat):Prop:=∃rs:List Addr,H kn=some (.lst (rs.map V.ref))/\rs.length=n /\ ∀j r,rs[j]? = some r -> ∃g,jm H r g/\Mi ws g fun m=>m=j\/uO ws ns j m
theorem Q8.same {H H':Hp} {kn:Addr} {ws:List bD} {ns:List Nt} {n:Nat} (h:Q8 H kn ws ns n) (k:Same H H'):Q8 H' kn ws ns n:=by
 obtain ⟨rs,e,l,q⟩:=h
 refine ⟨rs,k _ _ e,l,fun j r hj=> ?_⟩
 obtain ⟨g,a,b⟩:=q j r hj
 exact ⟨g,a.same k,b⟩
structure SrcAt (H:Hp) (S:Addr) (n:Nat) (f:Nat->List Nat) (rs:List Addr):Prop where
 hS:H S=some (.lst (rs.map V.ref))
 len:rs.length=n
 nd:rs.Nodup
 ns:S∉rs
 li:∀b r,rs[b]? = some r->LI H r (nI (f b))
theorem SrcAt.same {H H':Hp} {S:Addr} {n:Nat} {f:Nat->List Nat} {rs:List Addr} (h:SrcAt H S n f rs) (k:Same H H'):SrcAt H' S n f rs:=⟨k _ _ h.hS,h.len,h.nd,h.ns,fun b r e=>k _ _ (h.li b r e)⟩
def nH (es:List k_) (k b:Nat):List Nat:=(es.take k).filterMap fun x=>if x.2=(b:Int) then some x.1.toNat else none
theorem Py {ws:List bD} {j:Nat} (hj:j<ws.length):Mi ws (fun x=>if x=hnd ws j then cnt (ws.take j) (hnd ws j)+1 else 0) fun m=>hnd ws m=hnd ws j/\m<=j:=fun m x ex=>by
 have hm:m<ws.length:=(List.getElem?_eq_some_iff.mp ex).1
 have eh:=kW ex
 show cnt (ws.take m) x.1<(if x.1=hnd ws j then _ else 0)↔_
 by_cases e:x.1=hnd ws j
 ·rw [if_pos e,e]
  constructor
  ·intro h
   refine ⟨eh.trans e, ?_⟩
   refine Decidable.byContradiction fun n=> ?_
   have:=zq (ws:=ws) (show j<m by omega) (by omega)
   omega
  ·rintro ⟨_,l⟩
   have:=mH ws (hnd ws j) m (j - m)
   rw [show m+(j - m)=j by omega] at this
   omega
 ·rw [if_neg e]
  have:=nA (ws.take m) x.1
  exact ⟨fun h=>by omega,fun h=>absurd (eh.symm.trans h.1) e⟩
def Vy (K:PySem.W.Frag):Sp:=fun vs H Q _=>∃(nd st:Addr) (ws:List bD) (ns:List Nt) (es:List k_),vs=[.ref nd,.ref st]/\cL H nd (nm ws)/\cL H st es/\es.length<=90300/\(∀x∈es,∃a b,x=tX a b/\SE ws ns a b)/\(∀a b,SE ws ns a b->tX a b∈es)/\ws.length<=300/\(∀x∈ws,0<=x.1/\x.1<8) /\
 ∀(r:Addr) H',H r=none->Q8 H' r ws ns ws.length->Same H H'->Q (.ref r) H'
theorem Y5 {f:Addr} {fd:FuncData} (F:lU K "knowns_by" "knowns_by" dO f fd) (w6:FnAt P w K mg base 1 "learn" ["known","more"] (wN K)) (Bt:uo mg):cI P w K mg base nF 2 f fd ["named","steps"] (Vy K):=by
 refine F.ok dM (fun vs H Q E h=> ?_) (fun cdv A outer s H vs Q E hr h=> ?_)
 ·obtain ⟨nd,st,ws,ns,es,rfl,_⟩:=h
  rfl
 ·obtain ⟨nd,st,ws,ns,es,rfl,N,Es,el,es1,es2,wl,zQ,k⟩:=h
  have hu:=mR hr
  refine ⟨_,(aq (oV (i:=2) rfl dM.nd rfl (Or.inl rfl) (N:=["name"]) (own:=["name"]) (caps:=[]) (bf.of (by kernel_rfl)) (dg (K:=K) rfl (pv 0)) (fun _ _ _ _=>(aO (i:=0) (show List.Nodup (["name"]:List Str) by decide +kernel) rfl (Or.inl rfl))) (fun _ _ _ _=>jJ) (fun _ _ _ _=>(bI ao)))
   (aq (dB PassesOwn.never rfl (dg (K:=K) rfl (pv 1)) (aO (i:=3) dM.nd rfl (Or.inl rfl))
   (aF (cA (cM (K:=K) rfl (aL (aK (K:=K) rfl) (pv 2) (aL (aN (K:=K) rfl) (pv 3) au (fun _ _=>rfl)) (fun _ _=>rfl)) (aj (aL (aN (K:=K) rfl) (pv 3) au (fun _ _=>rfl)) ao)))))
   (aq (aM (i:=4) dM.nd rfl (Or.inl rfl) (bI ao))
   (aq (dB PassesOwn.never rfl (qp (K:=K) rfl (by rfl) Bt.j4 (aj (pv 0) ao)) (lM (K:=K) (n:=2) rfl rfl (bO (aO (i:=5) dM.nd rfl (Or.inl rfl)) (bO (aO (i:=6) dM.nd rfl (Or.inl rfl)) jK)))
   (aq (aM (i:=7) dM.nd rfl (Or.inl rfl) (Ce (yw (aL (aN (K:=K) rfl) (pv 6) au (fun _ _=>rfl)) (aP bU (aL (aN (K:=K) rfl) (pv 6) au (fun _ _=>rfl)) au) Cd) rfl rfl (by simp) (by decide)))
   (aq (dB PassesOwn.never rfl (dg (K:=K) rfl (aL (aK (K:=K) rfl) (pv 2) (pv 5) (fun _ _=>rfl))) (aO (i:=8) dM.nd rfl (Or.inl rfl))
   (aF (cA (aW w6 (hr.mono (by decide)) (by rfl) (aj (pv 7) (aj (aL (aK (K:=K) rfl) (pv 4) (pv 8) (fun _ _=>rfl)) ao))))))
   (aF (cA (cM (K:=K) rfl (pv 4) (aj (pv 7) ao)))))))
   (aF (aY (pv 4))))))), ?_⟩
  obtain ⟨nv,Tf,U7⟩:=id N
  have nvl:nv.length=ws.length:=by rw [U7.length,List.length_map,bN]
  refine ⟨_,rfl,nd,rfl,⟨_,aZ.of Tf⟩,fun S hS=> ?_⟩
  refine rE (K:=K) (a:=nd) (xs:=nv) (fun i σ H2=>(∃v,σ=[v]) /\ ∃rs:List Addr,rs.length=i/\rs.Nodup/\H2 S=some (.lst (rs.map V.ref))/\(∀r∈rs,r≠S/\H r=none/\LI H2 r [])/\Same H H2)
   ⟨⟨none,rfl⟩,[],rfl,List.nodup_nil,ak,by simp,aB hS⟩ (fun i σ H2 _ ⟨_,_,_,_,_,_,sm⟩=>aZ.of (sm _ _ Tf)) ?_ (fun σ H2 h2=> ?_)
  ·rintro i v σ H2 hi ⟨⟨v0,rfl⟩,rs,rl,rnd,hS2,all,sm⟩
   have il:i<nv.length:=(List.getElem?_eq_some_iff.mp hi).1
   refine ⟨(by show 0<=sizeLine;decide),fun q hq=> ?_⟩
   have sq:=aB (o:=HO.lst []) hq
   have nqS:q≠S:=(aD hS2 hq).symm
   have kS:Kp S (upd H2 q (.lst [])) (upd (upd H2 q (.lst [])) S (.lst (rs.map V.ref++[V.ref q]))):=Kp.set
   refine ⟨_,sq _ _ hS2,by rw [List.length_map,sizeLine_eq];omega,⟨_,rfl⟩,rs++[q],by simp [rl], ?_,by rw [ak];simp,fun r hr'=> ?_,fun b o e=>kS _ _ (sq _ _ (sm _ _ e)) (aD e hS)⟩
   ·rw [List.nodup_append]
    refine ⟨rnd,by simp,fun a ha b hb e=> ?_⟩
    simp at hb
    subst hb;subst e
    have:=(all a ha).2.2
    rw [show H2 a=_ from this] at hq
    cases hq
   ·rcases List.mem_append.mp hr' with z|z
    ·obtain ⟨q1,q2,q3⟩:=all r z
     exact ⟨q1,q2,kS _ _ (sq _ _ q3) q1⟩
    ·simp at z
     subst z
     exact ⟨nqS,sm.free hq,kS _ _ ak nqS⟩
  obtain ⟨_,rs,rl,rnd,hS2,all,Kl⟩:=h2
  have acf:SrcAt H2 S ws.length (nH es 0) rs:=⟨hS2,by rw [rl,nvl],rnd,fun z=>(all S z).1 rfl,fun b r e=>(all r (List.mem_of_getElem? e)).2.2⟩
  have acU:∀r∈rs,H r=none:=fun r hr'=>(all r hr').2.1
  obtain ⟨ev,hev,dev⟩:=id (Es.same Kl)
  have evl:ev.length=es.length:=by rw [dev.length,List.length_map]
  have U3:H st=some (.lst ev):=by
   obtain ⟨ev0,h0,_⟩:=Es
   have:=(Kl _ _ h0).symm.trans hev
   rw [h0,←Option.some.inj this]
  dsimp only
  refine oO (fun σ H3=>∃(x3:Option V),σ=[some (.ref nd),some (.ref st),some (.ref S),x3,none,none,none,none,none]/\Same H H3/\SrcAt H3 S ws.length (nH es es.length) rs) (fun D' hD' _=> ?_) ?_
  ·refine ⟨_,rfl,st,rfl,⟨_,aZ.of hev⟩, ?_⟩
   refine nQ (K:=K) (a:=st) (xs:=ev) (fun q σ H3=>∃(x3:Option V),σ=[some (.ref nd),some (.ref st),some (.ref S),x3,none,none,none,none,none]/\Same H H3/\SrcAt H3 S ws.length (nH es q) rs)
    ⟨none,rfl,Kl,acf⟩ (fun q σ H3 _ ⟨_,_,sm,_⟩=>aZ.of (sm _ _ U3)) ?_ ?_
   ·rintro q v σ H3 hq ⟨x3,rfl,sm3,src⟩
    have d3:aH H3 ev (es.map pD):=by
     obtain ⟨ev0,h0,d0⟩:=Es
     rw [U3] at h0
     cases h0
     exact aH.keep sm3.tups _ (bA _ iB _) d0
    obtain ⟨y,ty,ey,rfl,hty⟩:=qY d3 hq
    obtain ⟨a,b,rfl,se⟩:=es1 y (List.mem_of_getElem? ey)
    replace hty:H3 ty=some (.tup [.int (a:Int),.int (b:Int)]):=hty
    have sl:=se.lt
    have ql:q<es.length:=(List.getElem?_eq_some_iff.mp ey).1
    obtain ⟨r,er⟩:∃r,rs[b]? = some r:=⟨rs[b]'(by rw [src.len];exact sl.2),by simp⟩
    have hr':=src.li b r er
    have akY:(nH es q b).length<=q:=by
     unfold nH
     refine Nat.le_trans (List.length_filterMap_le _ _) ?_
     rw [List.length_take];omega
    refine ⟨_,rfl,_,rfl,_,_,_,_,rfl,rfl,cD.of hty,rfl,_,_,_,_,rfl,rfl,aZ.of src.hS,bM (by rw [List.getElem?_map,er];rfl), ?_⟩
    refine ⟨.inl ⟨rfl,_,aZ.of hr'⟩,_,rfl,_,_,_,_,rfl,rfl,cD.of hty,rfl,r,_,_,rfl,rfl,hr',by rw [List.length_map,kO,sizeLine_eq];omega, ?_⟩
    have kr:Kp r H3 (upd H3 r (.lst ((nI (nH es q b)).map V.int++[V.int (a:Int)]))):=Kp.set
    have hr0:=acU r (List.mem_of_getElem? er)
    have nSr:S≠r:=fun z=>src.ns (by rw [z];exact List.mem_of_getElem? er)
    have sf:∀b',nH es (q+1) b'=nH es q b'++(if (b:Int)=(b':Int) then [a] else []):=fun b'=>by
     unfold nH
     rw [List.take_add_one,ey,Option.toList_some,List.filterMap_append]
     congr 1
     by_cases z:(b:Int)=(b':Int)<;>simp [tX,z]
    refine ⟨_,rfl,fun c o e=>kr _ _ (sm3 _ _ e) (aD e hr0),kr _ _ src.hS nSr,src.len,src.nd,src.ns,fun b' r' U4=> ?_⟩
    by_cases eb:b'=b
    ·subst eb
     rw [er] at U4
     cases U4
     show upd _ _ _ _=_
     rw [ak,sf,if_pos rfl]
     simp [nI]
    ·have nrr:r'≠r:=fun z=>by
      subst z
      obtain ⟨h1,e1⟩:=List.getElem?_eq_some_iff.mp er
      obtain ⟨h2,e2⟩:=List.getElem?_eq_some_iff.mp U4
      rcases Nat.lt_or_gt_of_ne eb with l|l
      ·exact List.pairwise_iff_getElem.mp src.nd b' b h2 h1 l (e2.trans e1.symm)
      ·exact List.pairwise_iff_getElem.mp src.nd b b' h1 h2 l (e1.trans e2.symm)
     rw [sf,if_neg (by omega),List.append_nil]
     exact kr _ _ (src.li b' r' U4) nrr
   ·rintro σ H3 ⟨x3,rfl,sm3,src⟩
    rw [evl] at src
    exact hD' _ _ ⟨x3,rfl,sm3,src⟩
  ·rintro σ H3 ⟨x3,rfl,sm3,src⟩
   have Vv:∀a j,a∈nH es es.length j↔SE ws ns a j:=fun a j=>by
    unfold nH
    rw [List.take_length,List.mem_filterMap]
    constructor
    ·rintro ⟨x,hx,e⟩
     obtain ⟨a',b',rfl,se⟩:=es1 x hx
     by_cases z:(tX a' b').2=(j:Int)
     ·rw [if_pos z] at e
      have z:(b':Int)=(j:Int):=z
      have e:a'=a:=by have:=Option.some.inj e;simpa [tX] using this
      have z:b'=j:=by omega
      subst e z
      exact se
     ·rw [if_neg z] at e;cases e
    ·intro se
     exact ⟨tX a j,es2 a j se,by rw [if_pos (show (tX a j).2=(j:Int) from rfl)];rfl⟩
   refine ⟨(by show 0<=sizeLine;decide),fun kn hkn=> ?_⟩
   have s4:=aB (o:=HO.lst []) hkn
   have Kh:=sm3.trans s4
   have Tg:H kn=none:=sm3.free hkn
   have ace:=src.same s4
   refine ⟨_,rfl,nd,_,rfl,aZ.of (Kh _ _ Tf), ?_⟩
   refine qH (K:=K) (a:=nd) (xs:=nv) (fun j σ H5=>∃(x5 x6 x7 x8:Option V),σ=[some (.ref nd),some (.ref st),some (.ref S),x3,some (.ref kn),x5,x6,x7,x8]/\Same H H5/\Q8 H5 kn ws ns j/\SrcAt H5 S ws.length (nH es es.length) rs/\kn∉rs/\kn≠S)
    ⟨none,none,none,none,rfl,Kh,⟨[],ak,rfl,fun j r h=>by simp at h⟩,ace,(fun z=>by
      obtain ⟨b,hb⟩:=List.getElem?_of_mem z
      have:=src.li b kn hb
      rw [show H3 kn=_ from this] at hkn
      cases hkn),(aD src.hS hkn).symm⟩ (fun j σ H5 _ ⟨_,_,_,_,_,sm,_⟩=>aZ.of (sm _ _ Tf)) ?_ ?_
   ·rintro j v σ H5 p hj ⟨x5,x6,x7,x8,rfl,VD,KN,Yt,nkr,nkS⟩ hp
    have jl:j<ws.length:=by have:=(List.getElem?_eq_some_iff.mp hj).1;omega
    have dn5:aH H5 nv ((nm ws).map pD):=aH.keep VD.tups _ (bA _ iB _) U7
    obtain ⟨y,ty,ey,rfl,hty⟩:=qY dn5 hj
    obtain ⟨_,rfl⟩:=Hs ey
    replace hty:H5 ty=some (.tup [.int (hnd ws j),.int (cnt (ws.take j) (hnd ws j))]):=hty
    have sp:=aB (o:=HO.tup [V.int (j:Int),V.ref ty]) hp
    refine ⟨p,_,rfl,cD.of ak,rfl,_,_,rfl,_,_,rfl,rfl, ?_⟩
    have WY:=sp _ _ hty
    have KN6:=KN.same sp
    have RG:=Yt.same sp
    have VB:=VD.trans sp
    generalize upd H5 p (.tup [V.int (j:Int),V.ref ty])=H6 at WY KN6 RG VB ⊢
    intro d hd
    have s7:=aB (o:=HO.dK []) hd
    refine ⟨_,rfl,_,_,_,_,rfl,rfl,cD.of (s7 _ _ WY),rfl,_,rfl,_,_,_,_,rfl,rfl,cD.of (s7 _ _ WY),rfl,_,_,rfl,rfl,ak,[(Sum.inl (hnd ws j),V.int (cnt (ws.take j) (hnd ws j)+1))],rfl,by show 1<=15;decide, ?_⟩
    have e1:upd (upd H6 d (.dK [])) d (.dK (qw [] [(Sum.inl (hnd ws j),V.int (cnt (ws.take j) (hnd ws j)+1))]))=upd H6 d (.dK (vW [hnd ws j] fun x=>if x=hnd ws j then cnt (ws.take j) (hnd ws j)+1 else 0)):=by
     rw [wK]
     congr 2
     show [(Sum.inl (hnd ws j),V.int (cnt (ws.take j) (hnd ws j)+1))]=_
     simp [vW]
    rw [e1]
    have s8:Same H6 (upd H6 d (.dK (vW [hnd ws j] fun x=>if x=hnd ws j then cnt (ws.take j) (hnd ws j)+1 else 0))):=aB hd
    have ey':ws[j]? = some ws[j]:=by simp [jl]
    have h08:0<=hnd ws j/\hnd ws j<8:=by rw [kW ey'];exact zQ _ (List.mem_of_getElem? ey')
    have XR:jm (upd H6 d (.dK (vW [hnd ws j] fun x=>if x=hnd ws j then cnt (ws.take j) (hnd ws j)+1 else 0))) d (fun x=>if x=hnd ws j then cnt (ws.take j) (hnd ws j)+1 else 0):=by
     refine ⟨⟨[hnd ws j],ak,by simp,fun h hh=> ?_,fun h hh=> ?_⟩,fun h=> ?_⟩
     ·have:h=hnd ws j:=by simpa using hh
      subst this;exact h08
     ·have:h≠hnd ws j:=by simpa using hh
      rw [if_neg this]
     ·have:=nA (ws.take j) (hnd ws j)
      show 0<=if h=hnd ws j then _ else _
      split<;>omega
    have hd0:H d=none:=VB.free hd
    have KN8:=KN6.same s8
    have Br:=RG.same s8
    have Mr:=VB.trans s8
    have Wn:d≠kn:=by obtain ⟨rs',h',_⟩:=KN6;exact (aD h' hd).symm
    have ndS:d≠S:=(aD RG.hS hd).symm
    have ndr:∀r∈rs,r≠d:=fun r hr'=>by
     obtain ⟨b,hb⟩:=List.getElem?_of_mem hr'
     exact aD (RG.li b r hb) hd
    obtain ⟨ks,hks,XM,kq⟩:=id KN6
    have ndk:∀(i:Nat) (r:Addr),ks[i]? = some r->d≠r:=fun i r hi=>by
     obtain ⟨g,kd,_⟩:=kq i r hi
     obtain ⟨_,h',_⟩:=kd.ex
     exact (aD h' hd).symm
    generalize upd H6 d (.dK (vW [hnd ws j] fun x=>if x=hnd ws j then cnt (ws.take j) (hnd ws j)+1 else 0))=H8 at XR s8 KN8 Br Mr ⊢
    clear s7 e1
    obtain ⟨r,er⟩:∃r,rs[j]? = some r:=⟨rs[j]'(by rw [Br.len];exact jl),by simp⟩
    have Zv:=Br.li j r er
    have Y8:=ndr r (List.mem_of_getElem? er)
    dsimp only
    refine oO (fun σ H9=>∃(x8:Option V) (g:Int->Int),σ=[some (.ref nd),some (.ref st),some (.ref S),x3,some (.ref kn),some (.int (j:Int)),some (.ref ty),some (.ref d),x8]/\Kp d H8 H9/\jm H9 d g/\Mi ws g fun m=>m=j\/uO ws ns j m) (fun D' hD' _=> ?_) ?_
    ·refine ⟨_,rfl,_,rfl,_,_,_,_,rfl,rfl,aZ.of Br.hS,bM (by rw [List.getElem?_map,er];rfl),r,rfl,⟨_,aZ.of Zv⟩, ?_⟩
     refine nQ (K:=K) (a:=r) (xs:=(nI (nH es es.length j)).map V.int) (fun q σ H9=>∃(x8:Option V) (g:Int->Int),σ=[some (.ref nd),some (.ref st),some (.ref S),x3,some (.ref kn),some (.int (j:Int)),some (.ref ty),some (.ref d),x8]/\Kp d H8 H9/\jm H9 d g/\Mi ws g fun m=>(hnd ws m=hnd ws j/\m<=j) \/ ∃a∈(nH es es.length j).take q,m=a\/uO ws ns a m)
      ⟨_,_,rfl,Kp.refl _ _,XR,(Py jl).iff fun m=>by simp⟩ (fun q σ H9 _ ⟨_,_,_,kp,_⟩=>aZ.of (kp _ _ Zv Y8)) ?_ ?_
     ·rintro q v σ H9 hq ⟨y8,g,rfl,Pu,Zh,XQ⟩
      rw [List.getElem?_map] at hq
      cases ea:(nI (nH es es.length j))[q]? with
      | none=>rw [ea] at hq;cases hq
      | some z=>
        rw [ea] at hq
        cases hq
        obtain ⟨a,ea',rfl⟩:=W9 ea
        have se:SE ws ns a j:=(Vv a j).mp (List.mem_of_getElem? ea')
        have al:a<ks.length:=by rw [XM];exact se.lt.1
        obtain ⟨u,eu⟩:∃u,ks[a]? = some u:=⟨ks[a],by simp [al]⟩
        obtain ⟨ga,kda,kna⟩:=kq a u eu
        have ndu:=ndk a u eu
        have hk9:=Pu _ _ (s8 _ _ hks) Wn.symm
        have SM:=(kda.same s8).kp Pu ndu.symm
        refine ⟨_,rfl,_,rfl,_,rfl,_,_,_,_,rfl,rfl,aZ.of hk9,bM (by rw [List.getElem?_map,eu];rfl),d,u,g,ga,rfl,Zh,SM,ndu,fun HA kdA kA=> ?_⟩
        refine ⟨_,_,rfl,Pu.trans kA,kdA,(JG XQ kna).iff fun m=> ?_⟩
        have tk:(nH es es.length j).take (q+1)=(nH es es.length j).take q++[a]:=by rw [List.take_add_one,ea'];rfl
        rw [tk]
        constructor
        ·rintro ((h|⟨a',h1,h2⟩)|h)
         ·exact .inl h
         ·exact .inr ⟨a',List.mem_append_left _ h1,h2⟩
         ·exact .inr ⟨a,by simp,h⟩
        ·rintro (h|⟨a',h1,h2⟩)
         ·exact .inl (.inl h)
         ·rcases List.mem_append.mp h1 with z|z
          ·exact .inl (.inr ⟨a',z,h2⟩)
          ·simp at z;subst z;exact .inr h2
     ·rintro σ H9 ⟨y8,g,rfl,Pu,Zh,XQ⟩
      have e:(nH es es.length j).take ((nI (nH es es.length j)).map V.int).length=nH es es.length j:=by rw [List.length_map,kO,List.take_length]
      rw [e] at XQ
      refine hD' _ _ ⟨y8,g,rfl,Pu,Zh,XQ.iff fun m=> ?_⟩
      constructor
      ·rintro (⟨h1,h2⟩|⟨a,h1,h2⟩)
       ·by_cases q:m=j
        ·exact .inl q
        ·exact .inr (Qc ns j m jl (by omega) h1)
       ·have se:=(Vv a j).mp h1
        rcases h2 with rfl|h2
        ·exact .inr (.one se)
        ·exact .inr (Af se h2)
      ·rintro (rfl|h)
       ·exact .inl ⟨rfl,Nat.le_refl _⟩
       ·obtain ⟨a,se,q⟩:=Ku h
        exact .inr ⟨a,(Vv a j).mpr se,q⟩
    ·rintro σ H9 ⟨y8,g,rfl,Pu,Zh,XQ⟩
     have hk9:=Pu _ _ (s8 _ _ hks) Wn.symm
     refine ⟨_,rfl,.inl ⟨rfl,_,aZ.of hk9⟩,_,rfl,kn,_,_,rfl,rfl,hk9,by rw [List.length_map,sizeLine_eq];omega, ?_⟩
     have kK:Kp kn H9 (upd H9 kn (.lst (ks.map V.ref++[V.ref d]))):=Kp.set
     have smZ:Same H (upd H9 kn (.lst (ks.map V.ref++[V.ref d]))):=fun b o e=>kK _ _ (Pu _ _ (Mr _ _ e) (aD e hd0)) (aD e Tg)
     refine ⟨_,_,_,_,rfl,smZ,⟨ks++[d],by rw [ak];simp,by simp [XM],fun i u hu'=> ?_⟩,⟨kK _ _ (Pu _ _ Br.hS ndS.symm) nkS.symm,Br.len,Br.nd,Br.ns,fun b r' U4=>kK _ _ (Pu _ _ (Br.li b r' U4) (ndr r' (List.mem_of_getElem? U4))) (fun z=>nkr (by rw [←z];exact List.mem_of_getElem? U4))⟩,nkr,nkS⟩
     by_cases il:i<ks.length
     ·rw [List.getElem?_append_left il] at hu'
      obtain ⟨ga,kda,kna⟩:=kq i u hu'
      have SM:=(kda.same s8).kp Pu (ndk i u hu').symm
      obtain ⟨_,h',_⟩:=SM.ex
      exact ⟨ga,SM.kp kK (lA h' hk9 (by intro z;cases z)),kna⟩
     ·rw [List.getElem?_append_right (by omega)] at hu'
      have:i - ks.length<1:=(List.getElem?_eq_some_iff.mp hu').1
      have hi:i=j:=by omega
      subst hi
      rw [XM,Nat.sub_self] at hu'
      cases hu'
      exact ⟨g,Zh.kp kK Wn,XQ⟩
   ·rintro σ H5 ⟨x5,x6,x7,x8,rfl,VD,KN,Yt,nkr,nkS⟩
    rw [nvl] at KN
    exact ⟨_,rfl,k kn H5 Tg KN VD⟩
def EnP (ws:List bD) (ns:List Nt):Prop:=∀(i j:Nat) (x y:bD),i<j->ws[i]? = some x->ws[j]? = some y->mt x y=true->uO ws ns j i
def Nu (C:Addr) (K:PySem.W.Frag):Sp:=fun vs H Q E=>∃(a s:Addr) (ws:List bD) (ns:List Nt),vs=[.ref a,.ref s]/\cJ H a ws/\ws.length<=300/\(∀x∈ws,0<=x.1/\x.1<8)/\dZ H s ns/\ns.length<=90000/\((∀x∈ns,j5 ws x) -> ∀v H',Same H H'->Q v H')/\(¬(∀x∈ns,j5 ws x) -> ∀H',Same H H'->E (.ref C) none H')
theorem Wh {f:Addr} {fd:FuncData} (F:lU K "enough" "enough" iU f fd) {aC:Addr} (bL:Xr K mg aC "NoNote") (j8:FnAt P w K mg base 2 "places_of" ["web"] (qe K)) (zH:pF P w K mg base 4 "check_strict" ["places","some"] (Nv aC K)) (uT:FnAt P w K mg base 1 "names" ["web"] (uw K)) (IK:FnAt P w K mg base 1 "steps_by" ["places","some"] (Vx K)) (Gr:FnAt P w K mg base 2 "knowns_by" ["named","steps"] (Vy K)) (mK:FnAt P w K mg base 1 "touches_meet" ["one","other"] (GX K)) (uh:FnAt P w K mg base 1 "is_known" ["name","known"] (wO K)) (Bt:uo mg):cI P w K mg base (Ds P w) 5 f fd ["web","some"] (Nu aC K):=by
 refine F.Y6 jy (fun vs H Q E h=> ?_) (fun cdv A outer s H vs Q E hr h hR=> ?_)
 ·obtain ⟨a,s,ws,ns,rfl,_⟩:=h
  rfl
 ·obtain ⟨a,sa,ws,ns,rfl,W,wl,zQ,N,nl,k1,k2⟩:=h
  have hu:=mR hr
  refine ⟨_,(aq (aM (i:=2) jy.nd rfl (Or.inl rfl) (aW j8 (hr.mono (by decide)) (by rfl) (aj (pv 0) ao)))
   (aq (cA (vh zH rfl hR (hr.mono (by decide)) (by rfl) (aj (pv 2) (aj (pv 1) ao))))
   (aq (aM (i:=3) jy.nd rfl (Or.inl rfl) (aW uT (hr.mono (by decide)) (by rfl) (aj (pv 0) ao)))
   (aq (aM (i:=4) jy.nd rfl (Or.inl rfl) (aW Gr (hr.mono (by decide)) (by rfl) (aj (pv 3) (aj (aW IK (hr.mono (by decide)) (by rfl) (aj (pv 2) (aj (pv 1) ao))) ao))))
   (aq (dB PassesOwn.leaving rfl (qp (K:=K) rfl (by rfl) Bt.j4 (aj (pv 4) ao)) (lM (K:=K) (n:=2) rfl rfl (bO (aO (i:=5) jy.nd rfl (Or.inl rfl)) (bO (aO (i:=6) jy.nd rfl (Or.inl rfl)) jK)))
   (aF (dB PassesOwn.leaving rfl (dD (by rfl) Bt.dX (aj (pv 5) ao)) (aO (i:=7) jy.nd rfl (Or.inl rfl))
   (aF (cF (PW.pt (ni (eO (aW mK (hr.mono (by decide)) (by rfl) (aj (aL (aK (K:=K) rfl) (pv 0) (pv 7) (fun _ _=>rfl)) (aj (aL (aK (K:=K) rfl) (pv 0) (pv 5) (fun _ _=>rfl)) ao)))) (jH (lZ (eO (aW uh (hr.mono (by decide)) (by rfl) (aj (aL (aK (K:=K) rfl) (pv 3) (pv 7) (fun _ _=>rfl)) (aj (pv 6) ao)))))))) (aF (aY iD)) bG)))))
   (aF (aY iD))))))), ?_⟩
  refine ⟨_,rfl,a,ws,rfl,W,wl,fun d kvs H1 _ h1 pl ek s1=> ?_⟩
  refine ⟨_,rfl,_,rfl,d,sa,kvs,ws,ns,rfl,h1,pl,N.same s1,by omega,fun st H2 s2=> ?_,fun ns H2 s2=>k2 ns H2 (s1.trans s2)⟩
  have k:∀(b:Bool) H',(b=true↔EnP ws ns)->Same H H'->Q (.bl b) H':=fun b H' _ sm=>k1 st _ H' sm
  have s12:=s1.trans s2
  refine ⟨_,rfl,a,ws,rfl,W.same s12,by omega,fun nd H3 _ ND s3=> ?_⟩
  have Gw:=s12.trans s3
  refine ⟨_,rfl,_,rfl,_,rfl,d,sa,kvs,ws,ns,rfl,s3 _ _ (s2 _ _ h1),ek,pl,wl,N.same Gw,nl,st,fun e es H4 _ Es el es1 es2 s4=> ?_⟩
  refine ⟨nd,e,ws,ns,es,rfl,ND.same s4,Es,el,es1,es2,wl,zQ,fun kn H5 _ KN s5=> ?_⟩
  have Rn:=(Gw.trans s4).trans s5
  have ND5:=(ND.same s4).same s5
  obtain ⟨ks,hks,XM,kq⟩:=id KN
  refine ⟨_,rfl,kn,_,rfl,aZ.of hks, ?_⟩
  refine qH (K:=K) (a:=kn) (xs:=ks.map V.ref) (fun j σ H6=>∃(x5 x6 x7:Option V),σ=[some (.ref a),some (.ref sa),some (.ref d),some (.ref nd),some (.ref kn),x5,x6,x7]/\Same H5 H6 /\ ∀(i j':Nat) (x y:bD),j'<j->i<j'->ws[i]? = some x->ws[j']? = some y->mt x y=true->uO ws ns j' i)
   ⟨none,none,none,rfl,Same.refl _,fun i j' x y h=>absurd h (Nat.not_lt_zero _)⟩ (fun j σ H6 _ ⟨_,_,_,_,sm,_⟩=>aZ.of (sm _ _ hks)) ?_ ?_
  ·rintro j v σ H6 p hj ⟨x5,x6,x7,rfl,VB,inv⟩ hp
   rw [List.getElem?_map] at hj
   cases eu:ks[j]? with
   | none=>rw [eu] at hj;cases hj
   | some u=>
   rw [eu] at hj
   cases hj
   have jl:j<ws.length:=by rw [←XM];exact (List.getElem?_eq_some_iff.mp eu).1
   obtain ⟨g,kd,knp⟩:=kq j u eu
   have sp:=aB (o:=HO.tup [V.int (j:Int),V.ref u]) hp
   refine ⟨p,_,rfl,cD.of ak,rfl,_,_,rfl,_,_,rfl,rfl, ?_⟩
   have sm7:=VB.trans sp
   generalize upd H6 p (.tup [V.int (j:Int),V.ref u])=H7 at sm7 ⊢
   refine ⟨_,rfl,_,rfl,by omega,by omega, ?_⟩
   refine iG (lo:=0) (n:=_) (fun i σ H8=>∃(x7:Option V),σ=[some (.ref a),some (.ref sa),some (.ref d),some (.ref nd),some (.ref kn),some (.int (j:Int)),some (.ref u),x7]/\Same H5 H8 /\ ∀(i':Nat) (x y:bD),i'<i->ws[i']? = some x->ws[j]? = some y->mt x y=true->uO ws ns j i')
    ⟨_,rfl,sm7,fun i' x y h=>absurd h (Nat.not_lt_zero _)⟩ ?_ ?_
   ·rintro i σ H8 hi ⟨y7,rfl,Mr,SX⟩
    have hi:i<j:=by omega
    have il:i<ws.length:=by omega
    obtain ⟨x,ex⟩:∃x,ws[i]? = some x:=⟨ws[i],by simp [il]⟩
    obtain ⟨y,ey⟩:∃y,ws[j]? = some y:=⟨ws[j],by simp [jl]⟩
    obtain ⟨vs,t1,ha,e1,ht1⟩:=lB (W.same (Rn.trans Mr)) ex
    obtain ⟨vs',t2,ha',e2,qG⟩:=lB (W.same (Rn.trans Mr)) ey
    have ev:vs=vs':=by rw [ha] at ha';injection ha' with q;injection q
    subst ev
    rw [Int.zero_add]
    refine ⟨_,rfl,_,rfl,_,_,_,_,rfl,rfl,aZ.of ha,o7 e1,_,rfl,_,rfl,_,_,_,_,rfl,rfl,aZ.of ha,o7 e2,t1,t2,x,y,rfl,ht1,qG,_,rfl, ?_⟩
    cases em:mt x y with
    | false=>
      refine (show if false=true then _ else _ from cH ?_)
      refine ⟨_,rfl,Mr,fun i' x' y' hi' ex' ey' m'=> ?_⟩
      by_cases z:i'=i
      ·subst z
       rw [ex] at ex';rw [ey] at ey'
       cases ex';cases ey'
       rw [em] at m';cases m'
      ·exact SX i' x' y' (by omega) ex' ey' m'
    | true=>
      refine (show if true=true then _ else _ from cQ ?_)
      obtain ⟨nv,Tf,U7⟩:=id (ND5.same Mr)
      have nil:i<nv.length:=by rw [U7.length,List.length_map,bN];exact il
      obtain ⟨vn,evn⟩:∃vn,nv[i]? = some vn:=⟨nv[i],by simp [nil]⟩
      obtain ⟨yy,ty,ey2,rfl,hty⟩:=qY U7 evn
      obtain ⟨_,rfl⟩:=Hs ey2
      have kn:=knp i x ex
      rw [←kW ex] at kn
      refine ⟨_,rfl,_,rfl,_,_,_,_,rfl,rfl,aZ.of Tf,o7 evn,_,rfl,ty,u,_,_,g,rfl,hty,kd.same Mr,_,rfl, ?_⟩
      by_cases q:cnt (ws.take i) (hnd ws i)<g (hnd ws i)
      ·rw [decide_eq_true q]
       refine (show if false=true then _ else _ from cH ?_)
       refine ⟨_,rfl,Mr,fun i' x' y' hi' ex' ey' m'=> ?_⟩
       by_cases z:i'=i
       ·subst z
        exact (kn.mp q).resolve_left (by omega)
       ·exact SX i' x' y' (by omega) ex' ey' m'
      ·rw [decide_eq_false q]
       refine (show if true=true then _ else _ from cQ ?_)
       refine k false _ ⟨fun z=>Bool.noConfusion z,fun z=>absurd (kn.mpr (.inr (z i j x y hi ex ey em))) q⟩ (Rn.trans Mr)
   ·rintro σ H8 ⟨y7,rfl,Mr,SX⟩
    refine ⟨_,_,_,rfl,Mr,fun i j' x y hj' hij ex ey m=> ?_⟩
    by_cases z:j'=j
    ·subst z
     exact SX i x y (by omega) ex ey m
    ·exact inv i j' x y (by omega) hij ex ey m
  ·rintro σ H6 ⟨x5,x6,x7,rfl,VB,inv⟩
   refine k true _ ⟨fun _=>fun i j x y hij ex ey m=> ?_,fun _=>rfl⟩ (Rn.trans VB)
   have jl:=(List.getElem?_eq_some_iff.mp ey).1
   exact inv i j x y (by rw [List.length_map,XM];exact jl) hij ex ey m
section
variable {D r:Addr} {te:TE} {Q:VK} {rest:St} {H1:Hp} {n:Nat}
theorem bx.ne {H:Hp} {r p:Addr} (h:bx H r) (hp:H p=none):p≠r:=by
 obtain ⟨f,t,c,e,_⟩:=h
 exact (aD e hp).symm
theorem bx.at {H:Hp} {r:Addr} (h:bx H r):∃o,H r=some o:=by
 obtain ⟨f,t,c,e,_⟩:=h
 exact ⟨_,e⟩
theorem bx.tups {H H':Hp} {r:Addr} (h:bx H r) (k:Kp r H H'):∀a xs,H a=some (HO.tup xs)->H' a=some (HO.tup xs):=by
 obtain ⟨f,t,c,e,_⟩:=h
 exact k.tups e
end
theorem yu {H:Hp}:∀{vs:List V} {ps:List k_},aH H vs (ps.map pD) -> ∃as:List Addr,vs=as.map V.ref
 | [],[],_=>⟨[],rfl⟩
 | v::vs,x::ps,h=>by
   simp only [List.map_cons,aH] at h
   obtain ⟨t,rfl,_⟩:=qK h.1
   obtain ⟨as,rfl⟩:=yu h.2
   exact ⟨t::as,rfl⟩
 | [],_::_,h=>by simp only [List.map_cons,aH] at h
 | _::_,[],h=>by simp only [List.map_nil,aH] at h
theorem QZ (ns:List k_) (x:k_):((ns.map pD).any fun e=>PyData.eqv e (pD x))=decide (x∈ns):=by
 rw [Bool.eq_iff_iff,List.any_eq_true,decide_eq_true_iff]
 constructor
 ·rintro ⟨e,he,q⟩
  obtain ⟨y,hy,rfl⟩:=List.mem_map.mp he
  rw [yW,decide_eq_true_iff] at q
  exact q▸hy
 ·intro h
  exact ⟨pD x,List.mem_map.mpr ⟨x,h,rfl⟩,by rw [yW,decide_eq_true_iff]⟩
theorem jw (x:k_):SeqAt.shaped (pD x)=true:=rfl
theorem ju {ps:List k_}:∀e∈ps.map pD,SeqAt.shaped e=true:=fun e he=>by
 obtain ⟨y,_,rfl⟩:=List.mem_map.mp he
 exact jw y
def aiv (Q:VK) (H:Hp) (r:Addr):Prop:=∀(t:Addr) (x:Nt) (H':Hp),H' t=some (.tup (nV x))->bx H' r->Kp r H H'->Q (.ref t) H'
def putN (x:Nt) (part v:Int):Nt:=if part=0 then (v,x.2.1,x.2.2.1,x.2.2.2) else if part=1 then (x.1,v,x.2.2.1,x.2.2.2) else if part=2 then (x.1,x.2.1,v,x.2.2.2) else (x.1,x.2.1,x.2.2.1,v)
theorem V1 (x:Nt) {part v:Int} (p0:0<=part) (p1:part<4):(fL (nV x) none (some part)++[V.int v])++fL (nV x) (some (part+1)) none=nV (putN x part v):=by
 have:part=0\/part=1\/part=2\/part=3:=by omega
 rcases this with rfl|rfl|rfl|rfl<;>rfl
theorem YQ (x:Nt) {part:Int} (p0:0<=part) (p1:part<4):¬(HT.gJ (nV x).length 0 none=0/\HT.gJ (nV x).length (nV x).length (some part)=(nV x).length):=by
 have:part=0\/part=1\/part=2\/part=3:=by omega
 show ¬(HT.gJ 4 0 none=0/\HT.gJ 4 4 (some part)=4)
 rcases this with rfl|rfl|rfl|rfl<;>decide
theorem YM (x:Nt) {part:Int} (p0:0<=part) (p1:part<4):¬(HT.gJ (nV x).length 0 (some (part+1))=0/\HT.gJ (nV x).length (nV x).length none=(nV x).length):=by
 have:part=0\/part=1\/part=2\/part=3:=by omega
 show ¬(HT.gJ 4 0 (some (part+1))=0/\HT.gJ 4 4 none=4)
 rcases this with rfl|rfl|rfl|rfl<;>decide
def Bx (K:PySem.W.Frag):Sp:=fun vs H Q _=>∃(t:Addr) (x:Nt) (at_ how:Int),vs=[.ref t,.int at_,.int how]/\H t=some (.tup (nV x))/\0<=at_/\at_<4/\0<=how/\how<8 /\ ∀(q:Addr) (y:Nt) H',H' q=some (.tup (nV y))->Same H H'->Q (.ref q) H'
theorem KQ {f:Addr} {fd:FuncData} (F:lU K "_law_other" "_law_other" iY f fd):cI P w K mg base nF 1 f fd ["note","at","how"] (Bx K):=by
 refine F.ok vg (fun vs H Q E h=> ?_) (fun cdv A outer s H vs Q E hr h=> ?_)
 ·obtain ⟨t,x,at_,how,rfl,_⟩:=h
  rfl
 ·obtain ⟨t,x,at_,how,rfl,ht,a0,a1,h0,h1,k⟩:=h
  refine ⟨_,(aq (aM (i:=3) vg.nd rfl (Or.inl rfl) (aL (aN (K:=K) rfl) (pv 0) (pv 1) (fun _ _=>rfl)))
   (aq (aM (i:=4) vg.nd rfl (Or.inl rfl) (aL (aK (K:=K) rfl) (bI (aj (aP bU (pv 3) au) (aj (aP kE (pv 3) au) (aj (aP kE (Eh xT au) (pv 3)) (aj (aP yE au au) (aj (aP kE au (aP yE au au)) (aj (aP bU (pv 3) au) (aj (aP bU (pv 3) au) (aj (aP bU (pv 3) au) ao))))))))) (pv 2) (fun _ _=>rfl)))
   (aF (aY (aP Ek (aP Ek (bK (fH (K:=K) rfl) (pv 0) cB (bW (pv 1))) (dh (aj (pv 4) ao))) (bK (fH (K:=K) rfl) (pv 0) (bW (aP bU (pv 1) au)) cB)))))), ?_⟩
  obtain ⟨v,ev⟩:∃v:Int,Iv (nV x) at_=some (.int v):=by
   have:at_=0\/at_=1\/at_=2\/at_=3:=by omega
   rcases this with rfl|rfl|rfl|rfl<;>exact ⟨_,rfl⟩
  have cp:Ue 10 29:=⟨by decide,by decide,by decide⟩
  refine ⟨_,rfl,_,rfl,_,_,_,_,rfl,rfl,cD.of ht,ev, ?_⟩
  refine ⟨_,rfl,_,_,rfl,rfl, ?_⟩
  refine ⟨_,rfl,_,_,rfl,rfl, ?_⟩
  refine ⟨_,rfl,_,rfl,_,_,rfl,rfl, ?_⟩
  refine ⟨_,_,rfl,rfl,cp, ?_⟩
  refine ⟨_,_,rfl,rfl,cp,_,_,rfl,rfl, ?_⟩
  refine ⟨_,rfl,_,_,rfl,rfl, ?_⟩
  refine ⟨_,rfl,_,_,rfl,rfl, ?_⟩
  refine ⟨_,rfl,_,_,rfl,rfl, ?_⟩
  refine ⟨(by show 8<=sizeLine;decide),fun q hq=> ?_⟩
  have s3:=aB (o:=HO.lst (([v+1,v - 1, -1 - v,10 ^ (29:Int).toNat,0 - 10 ^ (29:Int).toNat,v+8,v+300,v+1000]:List Int).map V.int)) hq
  have en:=uc (cs:=[v+1,v - 1, -1 - v,10 ^ (29:Int).toNat,0 - 10 ^ (29:Int).toNat,v+8,v+300,v+1000]) (h:=how) h0 (by show how<8;omega)
  refine ⟨_,rfl,_,_,_,_,rfl,rfl,aZ.of ak,en, ?_⟩
  generalize gI [v+1,v - 1, -1 - v,10 ^ (29:Int).toNat,0 - 10 ^ (29:Int).toNat,v+8,v+300,v+1000] how=nb
  have HN:=s3 _ _ ht
  refine ⟨_,rfl,_,rfl,_,rfl,_,_,rfl,cD.of HN,YQ x a0 a1,fun q1 hq1=> ?_⟩
  have v1:=aB (o:=HO.tup (fL (nV x) none (some at_))) hq1
  refine ⟨_,rfl,(by show 1<=sizeLine;decide),fun q2 hq2=> ?_⟩
  have v2':=aB (o:=HO.tup [V.int nb]) hq2
  have l1':=mV (nV x) none (some at_)
  have l2':=mV (nV x) (some (at_+1)) none
  have l4:(nV x).length=4:=rfl
  refine ⟨_,_,_,_,rfl,rfl,v2' _ _ ak,ak,by rw [sizeLine_eq];simp only [List.length_singleton];omega,fun q3 H5 e5 v3=> ?_⟩
  have M8:=(v1.trans v2').trans v3
  refine ⟨_,rfl,_,rfl,_,_,rfl,rfl,_,rfl,_,_,rfl,cD.of (M8 _ _ HN),YM x a0 a1,fun q4 UW=> ?_⟩
  have v4:=aB (o:=HO.tup (fL (nV x) (some (at_+1)) none)) UW
  refine ⟨_,_,_,_,rfl,rfl,v4 _ _ e5,ak,by rw [sizeLine_eq];simp only [List.length_append,List.length_singleton];omega,fun q5 H6 e6 v5=> ?_⟩
  rw [V1 x a0 a1] at e6
  exact k q5 (putN x at_ nb) H6 e6 (s3.trans ((M8.trans v4).trans v5))
theorem rF {H:Hp} {t1 t2:Addr} {x y:k_} {Q:VK} (h1:H t1=some (.tup [.int x.1,.int x.2])) (h2:H t2=some (.tup [.int y.1,.int y.2])) (k:∀q H',H' q=some (.tup (nV (x.1,x.2,y.1,y.2)))->Same H H'->Q (.ref q) H'):Oa K (.ref t1) (.ref t2) H Q:=
 ⟨t1,t2,_,_,rfl,rfl,cD.of h1,cD.of h2,by simp,by show 4<=sizeLine;decide,fun z=>absurd z (by simp),fun _ q hq=>k q _ ak (aB hq)⟩
def Bs (K:PySem.W.Frag):Sp:=fun vs H Q _=>∃(r c:Addr) (ps:List k_),vs=[.ref r,.ref c]/\bx H r/\cL H c ps/\c≠r/\ps.length<=300/\aiv Q H r
theorem KJ {f:Addr} {fd:FuncData} (F:lU K "_law_tuple" "_law_tuple" iV f fd) (bH:FnAt P w K mg base 1 "_law_draw" ["spring","many"] (m8 K)) (Gu:FnAt P w K mg base 1 "_law_other" ["note","at","how"] (Bx K)) (Bt:uo mg):cI P w K mg base nF 2 f fd ["spring","calls"] (Bs K):=by
 refine F.ok fX (fun vs H Q E h=> ?_) (fun cdv A outer s H vs Q E hr h=> ?_)
 ·obtain ⟨r,c,ps,rfl,_⟩:=h
  rfl
 ·obtain ⟨r,c,ps,rfl,S0,C,Cq,pl,k⟩:=h
  have pH:=hr.units
  refine ⟨_,(aq (aM (i:=2) fX.nd rfl (Or.inl rfl) (aW bH (hr.mono (by decide)) (by rfl) (aj (pv 0) (aj au ao))))
   (aq (aM (i:=3) fX.nd rfl (Or.inl rfl) (aW bH (hr.mono (by decide)) (by rfl) (aj (pv 0) (aj au ao))))
   (aq (aM (i:=4) fX.nd rfl (Or.inl rfl) (aW bH (hr.mono (by decide)) (by rfl) (aj (pv 0) (aj au ao))))
   (aq (aM (i:=5) fX.nd rfl (Or.inl rfl) (aW bH (hr.mono (by decide)) (by rfl) (aj (pv 0) (aj au ao))))
   (aq (aM (i:=6) fX.nd rfl (Or.inl rfl) (aW bH (hr.mono (by decide)) (by rfl) (aj (pv 0) (aj au ao))))
   (aq (cF (PW.pt (nM (bh mz (pv 2) au (bw _)) (lY (bh (qZ (K:=K) rfl pH) (pv 1) (bI ao) (bw _))))) (aF (aY (dh (aj (aP kE (aW bH (hr.mono (by decide)) (by rfl) (aj (pv 0) (aj au ao))) au) (aj (aP bU (aP kE (pv 6) au) (aP yF au (pv 4))) (aj (aP kE (aW bH (hr.mono (by decide)) (by rfl) (aj (pv 0) (aj au ao))) au) (aj (aP kE (aW bH (hr.mono (by decide)) (by rfl) (aj (pv 0) (aj au ao))) au) ao))))))) bG)
   (aq (aM (i:=7) fX.nd rfl (Or.inl rfl) (aP (qt (K:=K) rfl) (aL (aK (K:=K) rfl) (pv 1) (aW bH (hr.mono (by decide)) (by rfl) (aj (pv 0) (aj (aR (bB (K:=K) rfl) (by rfl) Bt.jZ fQ (aj (pv 1) ao)) ao))) (fun _ _=>rfl)) (aL (aK (K:=K) rfl) (pv 1) (aW bH (hr.mono (by decide)) (by rfl) (aj (pv 0) (aj (aR (bB (K:=K) rfl) (by rfl) Bt.jZ fQ (aj (pv 1) ao)) ao))) (fun _ _=>rfl))))
   (aq (cF (bh mz (pv 2) au (bw _)) (aF (aM (i:=7) fX.nd rfl (Or.inl rfl) (aW Gu (hr.mono (by decide)) (by rfl) (aj (pv 7) (aj (pv 5) (aj (pv 6) ao)))))) bG)
   (aq (cF (bh vU (pv 2) au (bw _)) (aF (aM (i:=7) fX.nd rfl (Or.inl rfl) (aW Gu (hr.mono (by decide)) (by rfl) (aj (pv 7) (aj (pv 3) (aj (pv 4) ao)))))) bG)
   (aF (aY (pv 7)))))))))))), ?_⟩
  refine ⟨_,rfl,r,4,rfl,S0,by decide,by decide,fun kind H1 XR kd1 S1 k1=> ?_⟩
  refine ⟨_,rfl,r,4,rfl,S1,by decide,by decide,fun at_ H2 a0 a1 S2 k2=> ?_⟩
  refine ⟨_,rfl,r,8,rfl,S2,by decide,by decide,fun how H3 h0 h1 S3 k3=> ?_⟩
  refine ⟨_,rfl,r,4,rfl,S3,by decide,by decide,fun to H4 t0 t1 S4 k4=> ?_⟩
  refine ⟨_,rfl,r,8,rfl,S4,by decide,by decide,fun step H5 p0' p1 S5 k5=> ?_⟩
  have k05:=(((k1.trans k2).trans k3).trans k4).trans k5
  have C5:=C.v8 S0 k05 Cq
  clear k1 k2 k3 k4 k5 S1 S2 S3 S4
  obtain ⟨cv,hcv,Xk⟩:=id C5
  have cvl:cv.length=ps.length:=by rw [Xk.length,List.length_map]
  refine ⟨_,rfl,rfl,_,rfl, ?_⟩
  refine rN (fun _=> ?_) (fun _=> ?_)
  ·refine ⟨_,rfl,r,10,rfl,S5,by decide,by decide,fun z1 H6 _ _ S6 k6=>⟨_,_,rfl,rfl, ?_⟩⟩
   refine ⟨_,rfl,_,_,rfl,rfl,_,rfl,_,_,rfl,rfl, ?_,_,_,rfl,rfl, ?_⟩
   ·exact .inr ⟨by omega,by omega⟩
   refine ⟨_,rfl,r,10,rfl,S6,by decide,by decide,fun z2 H7 _ _ S7 k7=>⟨_,_,rfl,rfl, ?_⟩⟩
   refine ⟨_,rfl,r,302,rfl,S7,by decide,by decide,fun z3 H8 _ _ S8 k8=>⟨_,_,rfl,rfl, ?_⟩⟩
   exact ⟨(by show 4<=sizeLine;decide),fun q hq=>k q (z1 - 1,step - 1+40*how,z2 - 1,z3 - 1) _ ak (S8.keep (aB hq)) ((((k05.trans k6).trans k7).trans k8).trans (.of_same (aB hq)))⟩
  refine ⟨_,rfl,(by show 0<=sizeLine;decide),fun p0 hp0=> ?_⟩
  have u1:=aB (o:=HO.lst []) hp0
  refine ⟨_,_,jW (u1 _ _ hcv) (aH.keep u1.tups _ (bA _ iB _) Xk),(show Dat _ (V.ref p0) (.list (([]:List k_).map pD)) from jW (vs:=[]) ak (by simp [aH])),yj _,yj [],_,rfl, ?_⟩
  rw [if_neg Bool.false_ne_true,jV pD yW]
  have S5':=S5.keep u1
  have WL:=k05.trans (.of_same u1)
  have Qa:=u1 _ _ hcv
  generalize upd H5 p0 (.lst [])=H5' at u1 S5' WL Qa
  by_cases ep:ps=[]
  ·rw [decide_eq_true ep]
   refine cQ ?_
   refine ⟨_,rfl,r,10,rfl,S5',by decide,by decide,fun z1 H6 _ _ S6 k6=>⟨_,_,rfl,rfl, ?_⟩⟩
   refine ⟨_,rfl,_,_,rfl,rfl,_,rfl,_,_,rfl,rfl, ?_,_,_,rfl,rfl, ?_⟩
   ·exact .inr ⟨by omega,by omega⟩
   refine ⟨_,rfl,r,10,rfl,S6,by decide,by decide,fun z2 H7 _ _ S7 k7=>⟨_,_,rfl,rfl, ?_⟩⟩
   refine ⟨_,rfl,r,302,rfl,S7,by decide,by decide,fun z3 H8 _ _ S8 k8=>⟨_,_,rfl,rfl, ?_⟩⟩
   exact ⟨(by show 4<=sizeLine;decide),fun q hq=>k q (z1 - 1,step - 1+40*how,z2 - 1,z3 - 1) _ ak (S8.keep (aB hq)) ((((WL.trans k6).trans k7).trans k8).trans (.of_same (aB hq)))⟩
  rw [decide_eq_false ep]
  refine cH ?_
  have pp:0<ps.length:=List.length_pos_iff.mpr ep
  refine ⟨_,rfl,_,rfl,_,rfl,c,_,rfl,.inl (aZ.of Qa),r,_,rfl,S5',by omega,by omega,fun n1 H6 n10 n11 S6 k6=> ?_⟩
  have k06:=WL.trans k6
  have C6:=C.v8 S0 k06 Cq
  obtain ⟨x,ex⟩:∃x,ps[n1.toNat]? = some x:=⟨ps[n1.toNat]'(by omega),by simp⟩
  obtain ⟨cv6,t1',hc6,X8,ht1⟩:=iw C6 ex
  have al9:cv6.length=ps.length:=by obtain ⟨_,h,d⟩:=C6;rw [h] at hc6;cases hc6;rw [d.length,List.length_map]
  refine ⟨_,_,_,_,rfl,rfl,aZ.of hc6,(by have:=bM X8;rwa [Int.toNat_of_nonneg n10] at this), ?_⟩
  refine ⟨_,rfl,_,rfl,_,rfl,c,_,rfl,.inl (aZ.of hc6),r,_,rfl,S6,by omega,by omega,fun n2 H7 n20 n21 S7 k7=> ?_⟩
  have k07:=k06.trans k7
  have C7:=C.v8 S0 k07 Cq
  obtain ⟨y,ey⟩:∃y,ps[n2.toNat]? = some y:=⟨ps[n2.toNat]'(by omega),by simp⟩
  obtain ⟨cv7,t2',hc7,X7,qG⟩:=iw C7 ey
  refine ⟨_,_,_,_,rfl,rfl,aZ.of hc7,(by have:=bM X7;rwa [Int.toNat_of_nonneg n20] at this), ?_⟩
  refine rF (S6.tups k7 _ _ ht1) qG fun q H8 hq s8=> ?_
  have S8:=S7.keep s8
  have k08:=k07.trans (.of_same s8)
  clear k6 k7 k06 k07 S6 S7 s8
  dsimp only
  refine oO (fun σ H9=>∃(q:Addr) (z:Nt),σ=[some (.ref r),some (.ref c),some (.int kind),some (.int at_),some (.int how),some (.int to),some (.int step),some (.ref q)]/\H9 q=some (.tup (nV z))/\bx H9 r/\Kp r H H9) (fun D' hD' XS=> ?_) ?_
  ·refine ⟨_,rfl,rfl,_,rfl, ?_⟩
   refine rN (fun _=> ?_) (fun _=> ?_)
   ·exact ⟨_,rfl,_,rfl,_,rfl,q,_,to,step,rfl,hq,t0,t1,p0',p1,fun q' y' H9 hq' s9=>hD' _ _ ⟨q',y',rfl,hq',S8.keep s9,k08.trans (.of_same s9)⟩⟩
   ·exact hD' _ _ ⟨q,_,rfl,hq,S8,k08⟩
  rintro σ H9 ⟨q9,z9,rfl,hq9,S9,k09⟩
  refine oO (fun σ HA=>∃(q:Addr) (z:Nt),σ=[some (.ref r),some (.ref c),some (.int kind),some (.int at_),some (.int how),some (.int to),some (.int step),some (.ref q)]/\HA q=some (.tup (nV z))/\bx HA r/\Kp r H HA) (fun D' hD' XS=> ?_) ?_
  ·refine ⟨_,rfl,_,_,rfl,rfl,_,rfl, ?_⟩
   refine rN (fun _=> ?_) (fun _=> ?_)
   ·exact ⟨_,rfl,_,rfl,_,rfl,q9,_,at_,how,rfl,hq9,a0,a1,h0,h1,fun q' y' HA hq' sA=>hD' _ _ ⟨q',y',rfl,hq',S9.keep sA,k09.trans (.of_same sA)⟩⟩
   ·exact hD' _ _ ⟨q9,_,rfl,hq9,S9,k09⟩
  rintro σ HA ⟨qA,zA,rfl,hqA,SA,k0A⟩
  exact ⟨_,rfl,k qA zA HA hqA SA k0A⟩
def BK (K:PySem.W.Frag):Sp:=fun vs H Q _=>∃(c t:Addr) (ws:List bD) (x:Nt),vs=[.ref c,.ref t]/\cL H c (nm ws)/\H t=some (.tup (nV x)) /\ ∀(b:Bool) H',(b=true↔j5 ws x)->Same H H'->Q (.bl b) H'
theorem Cp {ws:List bD} {y:k_} {m:Nat} (e:(nm ws)[m]? = some y):((nm ws).map pD)[m]? = some (pD y):=by rw [List.getElem?_map,e];rfl
theorem uF {ws:List bD} {y:k_} {m:Nat} (e:(nm ws)[m]? = some y):∀m' e',m'<m->((nm ws).map pD)[m']? = some e'->PyData.eqv e' (pD y)=false:=fun m' e' lt he=>by
 rw [List.getElem?_map] at he
 cases ez:(nm ws)[m']? with
 | none=>rw [ez] at he;cases he
 | some z=>
   rw [ez] at he
   cases he
   rw [yW]
   refine decide_eq_false fun w=> ?_
   subst w
   exact Pb ez e lt
theorem wZ (y:k_):PyData.eqv (pD y) (pD y)=true:=by rw [yW];simp
theorem Sg {f:Addr} {fd:FuncData} (F:lU K "_law_is_strict" "_law_is_strict" cV f fd):cI P w K mg base nF 1 f fd ["calls","note"] (BK K):=by
 refine F.ok m9 (fun vs H Q E h=> ?_) (fun cdv A outer s H vs Q E hr h=> ?_)
 ·obtain ⟨c,t,ws,x,rfl,_⟩:=h
  rfl
 ·obtain ⟨c,t,ws,x,rfl,C,ht,k⟩:=h
  refine ⟨_,(aq (aM (i:=2) m9.nd rfl (Or.inl rfl) (dh (aj (aL (aN (K:=K) rfl) (pv 1) au (fun _ _=>rfl)) (aj (aL (aN (K:=K) rfl) (pv 1) au (fun _ _=>rfl)) ao))))
   (aq (aM (i:=3) m9.nd rfl (Or.inl rfl) (dh (aj (aL (aN (K:=K) rfl) (pv 1) au (fun _ _=>rfl)) (aj (aL (aN (K:=K) rfl) (pv 1) au (fun _ _=>rfl)) ao))))
   (aq (cF (PW.pt (nM (bh mz (aL (aN (K:=K) rfl) (pv 1) au (fun _ _=>rfl)) (aL (aN (K:=K) rfl) (pv 1) au (fun _ _=>rfl)) (bw _)) (nM (bh (mj (K:=K) rfl hr.m6) (pv 2) (pv 0) (by with_unfolding_all rfl)) (lY (bh (mj (K:=K) rfl hr.m6) (pv 3) (pv 0) (by with_unfolding_all rfl)))))) (aF (aY iD)) bG)
   (aF (aY (cW vU (tY (K:=K) rfl PySem.F.plainAttrs_list PySem.F.slot_list_index PySem.F.type_list_index (oW (K:=K) rfl hr.m6) (pv 0) (aj (pv 2) ao)) (tY (K:=K) rfl PySem.F.plainAttrs_list PySem.F.slot_list_index PySem.F.type_list_index (oW (K:=K) rfl hr.m6) (pv 0) (aj (pv 3) ao)) (bw _))))))), ?_⟩
  obtain ⟨vs,hc,dv⟩:=id C
  obtain ⟨as,rfl⟩:=yu dv
  refine ⟨_,rfl,_,_,_,_,rfl,rfl,cD.of ht,rfl,_,rfl,_,_,_,_,rfl,rfl,cD.of ht,rfl,(by show 2<=sizeLine;decide),fun o1 ho1=> ?_⟩
  have s1:=aB (o:=HO.tup [V.int x.1,V.int x.2.1]) ho1
  have ht1:=s1 _ _ ht
  refine ⟨_,rfl,_,_,_,_,rfl,rfl,cD.of ht1,rfl,_,rfl,_,_,_,_,rfl,rfl,cD.of ht1,rfl,(by show 2<=sizeLine;decide),fun o2 ho2=> ?_⟩
  have s2:=aB (o:=HO.tup [V.int x.2.2.1,V.int x.2.2.2]) ho2
  have s12:=s1.trans s2
  have qG:=s2 _ _ ht1
  have hc2:=s12 _ _ hc
  have U6:=aH.keep s12.tups _ (bA _ iB _) dv
  have h1:(upd (upd H o1 (HO.tup [V.int x.1,V.int x.2.1])) o2 (HO.tup [V.int x.2.2.1,V.int x.2.2.2])) o1=some (.tup [.int x.1,.int x.2.1]):=s2 _ _ ak
  have h2:(upd (upd H o1 (HO.tup [V.int x.1,V.int x.2.1])) o2 (HO.tup [V.int x.2.2.1,V.int x.2.2.2])) o2=some (.tup [.int x.2.2.1,.int x.2.2.2]):=ak
  generalize upd (upd H o1 (HO.tup [V.int x.1,V.int x.2.1])) o2 (HO.tup [V.int x.2.2.1,V.int x.2.2.2])=H2 at s12 qG hc2 U6 h1 h2
  have no:¬j5 ws x->Q (.bl false) H2:=fun z=>k false _ ⟨fun w=>Bool.noConfusion w,fun w=>absurd w z⟩ s12
  refine ⟨_,rfl,_,_,_,_,rfl,rfl,cD.of qG,rfl,_,rfl,_,_,_,_,rfl,rfl,cD.of qG,rfl,rfl,_,rfl, ?_⟩
  by_cases hne:x.1=x.2.2.1
  ·refine rN (fun _=> ?_) (fun z=>absurd (decide_eq_true (by rw [hne])) z)
   exact no fun ⟨_,_,z,_⟩=>z hne
  refine rN (fun z=>absurd (of_decide_eq_true z) (fun w=>hne (by injection w))) (fun _=> ?_)
  refine ⟨_,rfl,_,rfl,c,_,pD (n1 x),(nm ws).map pD,rfl,aZ.of hc2,U6,jh (x:=n1 x) h1,jw _,ju,_,rfl, ?_⟩
  rw [if_pos rfl,QZ]
  by_cases m1:n1 x∈nm ws
  rotate_left
  ·rw [decide_eq_false m1]
   exact cQ (no fun ⟨_,_,_,z,_⟩=>m1 (List.mem_of_getElem? z))
  rw [decide_eq_true m1]
  refine cH ?_
  refine ⟨_,rfl,_,rfl,c,_,pD (n2 x),(nm ws).map pD,rfl,aZ.of hc2,U6,jh (x:=n2 x) h2,jw _,ju,_,rfl, ?_⟩
  rw [if_pos rfl,QZ]
  by_cases m2:n2 x∈nm ws
  rotate_left
  ·rw [decide_eq_false m2]
   exact cQ (no fun ⟨_,_,_,_,z,_⟩=>m2 (List.mem_of_getElem? z))
  rw [decide_eq_true m2]
  refine cH ?_
  obtain ⟨i,ei⟩:=wU m1
  obtain ⟨j,ej⟩:=wU m2
  refine ⟨_,rfl,.inl ⟨rfl,_,aZ.of hc2⟩,_,rfl,c,as,_,pD (n1 x),_,i,pD (n1 x),rfl,rfl,aZ.of hc2,U6,jh (x:=n1 x) h1,jw _,ju,Cp ei,wZ _,uF ei, ?_⟩
  refine ⟨_,rfl,.inl ⟨rfl,_,aZ.of hc2⟩,_,rfl,c,as,_,pD (n2 x),_,j,pD (n2 x),rfl,rfl,aZ.of hc2,U6,jh (x:=n2 x) h2,jw _,ju,Cp ej,wZ _,uF ej,_,_,rfl,rfl,k _ _ ?_ s12⟩
  rw [decide_eq_true_iff]
  constructor
  ·intro w
   exact ⟨i,j,hne,ei,ej,by omega⟩
  ·rintro ⟨i',j',_,a,b,lt⟩
   have:=kJ a ei
   have:=kJ b ej
   omega
def GR (K:PySem.W.Frag):Sp:=fun vs H Q _=>∃(r c:Addr) (ws:List bD) (m:Int),vs=[.ref r,.ref c,.int m]/\bx H r/\cL H c (nm ws)/\c≠r/\ws.length<=300/\0<=m/\m<=100 /\ ∀(s:Addr) (es:List Nt) H',H s=none->dZ H' s es->es.length<=100->(∀x∈es,j5 ws x)->bx H' r->Kp r H H'->Q (.ref s) H'
theorem O7 {f:Addr} {fd:FuncData} (F:lU K "_law_strict_ones" "_law_strict_ones" cu f fd) (bH:FnAt P w K mg base 1 "_law_draw" ["spring","many"] (m8 K)) (Bt:uo mg):cI P w K mg base nF 2 f fd ["spring","calls","many"] (GR K):=by
 refine F.ok eX (fun vs H Q E h=> ?_) (fun cdv A outer s H vs Q E hr h=> ?_)
 ·obtain ⟨r,c,ws,m,rfl,_⟩:=h
  rfl
 ·obtain ⟨r,c,ws,m,rfl,S0,C,Cq,wl,m0,m1,k⟩:=h
  have pH:=hr.units
  refine ⟨_,(aq (aM (i:=3) eX.nd rfl (Or.inl rfl) (bI ao))
   (aq (dB PassesOwn.never rfl (dD (by rfl) Bt.dX (aj (pv 2) ao)) (aO (i:=4) eX.nd rfl (Or.inl rfl))
   (aq (aM (i:=5) eX.nd rfl (Or.inl rfl) (aW bH (hr.mono (by decide)) (by rfl) (aj (pv 0) (aj (aR (nU rfl) (by rfl) Bt.Gj zE (aj au (aj (aR (bB (K:=K) rfl) (by rfl) Bt.jZ fQ (aj (pv 1) ao)) ao))) ao))))
   (aq (aM (i:=6) eX.nd rfl (Or.inl rfl) (aW bH (hr.mono (by decide)) (by rfl) (aj (pv 0) (aj (aR (nU rfl) (by rfl) Bt.Gj zE (aj au (aj (aR (bB (K:=K) rfl) (by rfl) Bt.jZ fQ (aj (pv 1) ao)) ao))) ao))))
   (aF (cF (PW.pt (ni (bh vU (pv 5) (pv 6) (bw _)) (jH (bh mQ (aL (aN (K:=K) rfl) (aL (aK (K:=K) rfl) (pv 1) (pv 5) (fun _ _=>rfl)) au (fun _ _=>rfl)) (aL (aN (K:=K) rfl) (aL (aK (K:=K) rfl) (pv 1) (pv 6) (fun _ _=>rfl)) au (fun _ _=>rfl)) (bw _))))) (aF (cA (cM (K:=K) rfl (pv 3) (aj (aP (qt (K:=K) rfl) (aL (aK (K:=K) rfl) (pv 1) (pv 5) (fun _ _=>rfl)) (aL (aK (K:=K) rfl) (pv 1) (pv 6) (fun _ _=>rfl))) ao)))) bG)))))
   (aF (aY (pv 3))))), ?_⟩
  refine ⟨(by show 0<=sizeLine;decide),fun f hf=> ?_⟩
  have s1:=aB (o:=HO.lst []) hf
  have nfr:f≠r:=S0.ne hf
  refine ⟨_,rfl,_,rfl,by omega,by omega, ?_⟩
  refine iG (lo:=0) (n:=_) (fun i σ H2=>∃(es:List Nt) (x1 x2 x3:Option V),σ=[some (.ref r),some (.ref c),some (.int m),some (.ref f),x1,x2,x3]/\dZ H2 f es/\es.length<=i/\(∀x∈es,j5 ws x)/\bx H2 r/\Kp r H H2)
   ⟨[],none,none,none,rfl,⟨[],ak,by simp [aH]⟩,Nat.le_refl _,by simp,S0.keep s1,.of_same s1⟩ ?_ ?_
  ·rintro i σ H2 hi ⟨es,x1,x2,x3,rfl,N2,el,est,S2,k2⟩
   have C2:=C.v8 S0 k2 Cq
   obtain ⟨cv,hcv,Xk⟩:=id C2
   have cvl:cv.length=ws.length:=by rw [Xk.length,List.length_map,bN]
   have mx:0<(if ((cv.length:Nat):Int)>1 then ((cv.length:Nat):Int) else 1)/\(if ((cv.length:Nat):Int)>1 then ((cv.length:Nat):Int) else 1)<1073741824:=by split<;>omega
   refine ⟨_,rfl,_,rfl,c,_,rfl,.inl (aZ.of hcv),_,_,rfl,r,_,rfl,S2,mx.1,mx.2,fun n1 H3 n10 n11 S3 k3=> ?_⟩
   refine ⟨_,rfl,_,rfl,c,_,rfl,.inl (aZ.of (k3 _ _ hcv Cq)),_,_,rfl,r,_,rfl,S3,mx.1,mx.2,fun n2 H4 n20 n21 S4 k4=> ?_⟩
   have SN:=k3.trans k4
   have C4:=C2.v8 S2 SN Cq
   have N4:=N2.kp (S2.tups SN) SN nfr
   have k04:=k2.trans SN
   refine ⟨_,rfl,_,rfl,_,_,rfl,rfl,_,rfl, ?_⟩
   by_cases lt:n1<n2
   ·rw [decide_eq_true lt]
    refine cQ ?_
    have n2l:n2<ws.length:=by split at n21<;>omega
    obtain ⟨i1,rfl⟩:=Int.eq_ofNat_of_zero_le n10
    obtain ⟨i2,rfl⟩:=Int.eq_ofNat_of_zero_le n20
    have l1:i1<ws.length:=by omega
    have l2:i2<ws.length:=by omega
    obtain ⟨v4,t1,Te,X8,ht1⟩:=iw C4 (jf l1)
    obtain ⟨v4',t2,PN,X7,qG⟩:=iw C4 (jf l2)
    have ev:v4=v4':=by rw [Te] at PN;injection PN with q;injection q
    subst ev
    refine ⟨_,rfl,_,rfl,_,_,_,_,rfl,rfl,aZ.of Te,bM X8,_,_,_,_,rfl,rfl,cD.of ht1,rfl,_,rfl,_,rfl,_,_,_,_,rfl,rfl,aZ.of Te,bM X7,_,_,_,_,rfl,rfl,cD.of qG,rfl,rfl,_,rfl, ?_⟩
    by_cases eh:hnd ws i1=hnd ws i2
    ·refine Ao (by rw [eh]) ?_
     exact ⟨es,_,_,_,rfl,N4,by omega,est,S4,k04⟩
    ·rw [show (!decide (V.int (hnd ws i1)=V.int (hnd ws i2)))=true by simp [eh]]
     refine cQ ?_
     obtain ⟨fv,X4,ZR⟩:=id N4
     have fvl:fv.length=es.length:=by rw [ZR.length,List.length_map]
     refine ⟨_,rfl,.inl ⟨rfl,_,aZ.of X4⟩,_,rfl,_,rfl,_,_,_,_,rfl,rfl,aZ.of Te,bM X8,_,rfl,_,rfl,_,_,_,_,rfl,rfl,aZ.of Te,bM X7, ?_⟩
     refine rF ht1 qG fun q H5 hq s5=> ?_
     refine ⟨f,fv,_,rfl,rfl,s5 _ _ X4,by rw [sizeLine_eq];omega, ?_⟩
     have kf:Kp f H5 (upd H5 f (.lst (fv++[V.ref q]))):=Kp.set
     have tf:=kf.tups (s5 _ _ X4)
     refine ⟨es++[eU ws i1 i2],_,_,_,rfl,⟨fv++[V.ref q],ak, ?_⟩,by simp;omega,fun x hx=> ?_,(S4.keep s5).keep' kf nfr.symm,fun b o e nb=>kf _ _ (s5 _ _ (k04 _ _ e nb)) (aD e hf)⟩
     ·rw [List.map_append]
      exact aH.append (aH.keep (fun a xs h=>tf _ _ (s5.tups _ _ h)) _ (bA _ mG _) ZR) (U8 (t_ (x:=eU ws i1 i2) (tf _ _ hq)))
     ·rcases List.mem_append.mp hx with z|z
      ·exact est x z
      ·simp at z;subst z;exact ⟨i1,i2,eh,jf l1,jf l2,by omega⟩
   ·rw [decide_eq_false lt]
    refine cH ?_
    exact ⟨es,_,_,_,rfl,N4,by omega,est,S4,k04⟩
  ·rintro σ H2 ⟨es,x1,x2,x3,rfl,N2,el,est,S2,k2⟩
   exact ⟨_,rfl,k f es H2 hf N2 (by omega) est S2 k2⟩
theorem Rw {K:PySem.W.Frag} {i:Nat} {Dc:Addr} {tb:(St->XK)->TS} {th:TS} {D:Ends} {σ:St} {H:Hp} (N X:Hp->Prop) (C:Addr)
 (hb:∀(E:St->XK) (D':Ends),(∀H1,N H1->D'.nx σ H1)->(∀H1,X H1->E σ (.ref C) none H1)->tb E D' σ H) (hn:∀H1,N H1->D.nx σ H1) (hs:PySem.W.subIn K (.ref C) (.ref Dc)=some true)
 (hx:∀H1 e,X H1->H1 e=none->th (Xi D i) (σ.set i (some (.ref e))) (upd H1 e (XO C none e))):Vl K i Dc tb th D σ H:=
 hb _ D hn fun H1 h=>⟨C,rfl,hs,fun e he=>hx H1 e h he⟩
theorem rC {H:Hp} {a:Addr} {bs:List Bool} (h:H a=some (.lst (bs.map V.bl))):Dat H (.ref a) (.list (bs.map PyData.bool)):=by
 refine jW h ?_
 clear h
 induction bs with
 | nil=>simp only [List.map_nil,aH]
 | cons b bs ih=>simp only [List.map_cons,aH,Dat];exact ⟨trivial,ih⟩
def Nq (K:PySem.W.Frag):Sp:=fun vs H Q _=>∃(a t:Addr) (dr:Int) (mo:V) (ws:List bD) (x:Nt) (R:Prop),vs=[.ref a,.int dr,.ref t,mo]/\cJ H a ws/\ws.length<=300/\(∀x∈ws,0<=x.1/\x.1<8)/\H t=some (.tup (nV x)) /\
 ((dr=0 /\ ∃s ns,mo = .ref s/\dZ H s ns/\ns.length<=90000/\(R ↔ ¬ ∀x∈ns,j5 ws x))\/(dr=1/\(R↔x∉jo ws ws.length))\/(dr=2 /\ ∃p f g fs gs,mo = .ref p/\H p=some (.tup [.ref f,.ref g])/\LI H f fs/\LI H g gs/\fs.length<=1000/\gs.length<=1000/\(R↔x∉jo ws ws.length))) /\
 ∀(b:Bool) H',(b=true↔R)->Same H H'->Q (.bl b) H'
theorem Sh {f:Addr} {fd:FuncData} (F:lU K "_law_refused" "_law_refused" eN f fd) {aC cZ lu gR fu fj dG cO eZ dI dH lq cN dF:Addr} (bL:Xr K mg aC "NoNote") (j7:Xo K mg aC cZ "NoteError" true) (Dj:Xo K mg aC lu "Held" false) (w5:Xo K mg aC gR "NoCut" false) (uR:Xo K mg aC fu "NoForm" false) (uQ:Xo K mg aC fj "NoHand" false) (rJ:Xo K mg aC dG "NoneYet" false) (o9:Xo K mg aC cO "NoNumber" false) (uP:Xo K mg aC eZ "NoText" false) (rM:Xo K mg aC dI "NoOrder" false) (rK:Xo K mg aC dH "NoPlace" false) (Di:Xo K mg aC lq "Over" false) (o8:Xo K mg aC cN "RowError" false) (rH:Xo K mg aC dF "TooMany" false) (Ra:pF P w K mg base 5 "enough" ["web","some"] (Nu aC K)) (Mj:pF P w K mg base 6 "parting" ["web","note"] (Bw aC K)) (wI:pF P w K mg base 6 "parting_shows" ["web","note","paper"] (Nr aC K)) (Bt:uo mg):cI P w K mg base nF 7 f fd ["web","door","note","more"] (Nq K):=by
 refine F.ok mO (fun vs H Q E h=> ?_) (fun cdv A outer s H vs Q E hr h=> ?_)
 ·obtain ⟨a,t,dr,mo,ws,x,R,rfl,_⟩:=h
  rfl
 ·obtain ⟨a,t,dr,mo,ws,x,R,rfl,W,wl,zQ,ht,cs,k⟩:=h
  have pH:=hr.units
  refine ⟨_,(aq (aM (i:=4) mO.nd rfl (Or.inl rfl) (bI ao))
   (aq (V2 (i:=5) rfl rfl rfl rfl mO.nd rfl rfl (by rfl) j7.bd j7.hd (fun _ _ _ _ hR=>(aF (cF (bh mz (pv 1) au (bw _)) (aF (cA (vh Ra rfl hR (hr.mono (by decide)) (by rfl) (aj (pv 0) (aj (pv 3) ao))))) (aF (cF (bh mz (pv 1) au (bw _)) (aF (cA (vh Mj rfl hR (hr.mono (by decide)) (by rfl) (aj (pv 0) (aj (pv 2) ao))))) (aF (cA (vh wI rfl hR (hr.mono (by decide)) (by rfl) (aj (pv 0) (aj (pv 2) (aj (pv 3) ao))))))))))) (fun _=>(aF (aM (i:=4) mO.nd rfl (Or.inl rfl) (bI (aj (vm (aR (FQ (K:=K) (c:= .ref aC) (cv:= .ref aC) rfl (fun _ h=>h)) (by rfl) Bt.dW cY (aj (pv 5) (aj (gn (v:= .ref aC) (by rfl) bL.bd rfl) ao))) (nj (aR (FQ (K:=K) (c:= .type "ValueError") (cv:= .ty "ValueError") rfl (fun _ h=>h)) (by rfl) Bt.dW cY (aj (pv 5) (aj (uE (v:= .ty "ValueError") (by rfl) Bt.C_ zX rfl) ao))))) (aj (aR (Az (K:=K) rfl) (by rfl) Bt.dW cY (aj (pv 5) (aj (dh (aj (gn (v:= .ref lu) (by rfl) Dj.bd rfl) (aj (gn (v:= .ref gR) (by rfl) w5.bd rfl) (aj (gn (v:= .ref fu) (by rfl) uR.bd rfl) (aj (gn (v:= .ref fj) (by rfl) uQ.bd rfl) (aj (gn (v:= .ref dG) (by rfl) rJ.bd rfl) (aj (gn (v:= .ref cO) (by rfl) o9.bd rfl) (aj (gn (v:= .ref eZ) (by rfl) uP.bd rfl) ao)))))))) ao))) (aj (aR (Az (K:=K) rfl) (by rfl) Bt.dW cY (aj (pv 5) (aj (dh (aj (gn (v:= .ref dI) (by rfl) rM.bd rfl) (aj (gn (v:= .ref dH) (by rfl) rK.bd rfl) (aj (gn (v:= .ref lq) (by rfl) Di.bd rfl) (aj (gn (v:= .ref cN) (by rfl) o8.bd rfl) (aj (gn (v:= .ref dF) (by rfl) rH.bd rfl) ao)))))) ao))) ao))))))))
   (aF (aY (cW (qZ (K:=K) rfl pH) (pv 4) (bI (aj iD (aj iD (aj iD ao)))) (bw _)))))), ?_⟩
  refine ⟨(by show 0<=sizeLine;decide),fun m hm=> ?_⟩
  have sm:=aB (o:=HO.lst []) hm
  unfold jU
  dsimp only
  unfold Bo
  dsimp only
  refine (show Vl K _ cZ _ _ _ _ _ from ?_)
  refine Rw (fun H1=>Same (upd H m (.lst [])) H1 /\ ¬R) (fun H1=>Same (upd H m (.lst [])) H1/\R) aC (fun E' D' hN hX=> ?_) (fun H1 h1=> ?_) j7.pr.sub (fun H1 e h1 he=> ?_)
  ·refine ⟨_,rfl,rfl,_,rfl, ?_⟩
   rcases cs with ⟨rfl,s,ns,rfl,N,nl,hR⟩|⟨rfl,hR⟩|⟨rfl,p,f,g,fs,gs,rfl,hp,Fi,Gi,fl,gl,hR⟩
   ·refine (show if true=true then _ else _ from cQ ?_)
    exact ⟨_,rfl,_,rfl,a,s,ws,ns,rfl,W.same sm,wl,zQ,N.same sm,nl,fun z v H1 s1=>hN H1 ⟨s1,fun w=>hR.mp w z⟩,fun z H1 s1=>hX H1 ⟨s1,hR.mpr z⟩⟩
   ·refine (show if false=true then _ else _ from cH ?_)
    refine ⟨_,rfl,rfl,_,rfl, ?_⟩
    refine (show if true=true then _ else _ from cQ ?_)
    exact ⟨_,rfl,_,rfl,a,t,ws,x,rfl,W.same sm,wl,zQ,sm _ _ ht,fun z v H1 s1=>hN H1 ⟨s1,fun w=>hR.mp w z⟩,fun z H1 s1=>hX H1 ⟨s1,hR.mpr z⟩⟩
   ·refine (show if false=true then _ else _ from cH ?_)
    refine ⟨_,rfl,rfl,_,rfl, ?_⟩
    refine (show if false=true then _ else _ from cH ?_)
    exact ⟨_,rfl,_,rfl,_,rfl,a,t,p,f,g,ws,x,fs,gs,rfl,W.same sm,wl,zQ,sm _ _ ht,sm _ _ hp,Fi.same sm,Gi.same sm,fl,gl,fun z v H1 s1=>hN H1 ⟨s1,fun w=>hR.mp w z⟩,fun z H1 s1=>hX H1 ⟨s1,hR.mpr z⟩⟩
  ·obtain ⟨s1,nR⟩:=h1
   refine ⟨_,rfl,(by show 3<=sizeLine;decide),fun p hp'=> ?_⟩
   have Kl:=aB (o:=HO.lst [V.bl true,V.bl false,V.bl false]) hp'
   refine ⟨_,_,rC (bs:=[]) (Kl _ _ (s1 _ _ ak)),rC (bs:=[true,false,false]) ak,rfl,rfl, ?_⟩
   exact k false _ ⟨fun z=>Bool.noConfusion z,fun z=>absurd z nR⟩ ((sm.trans s1).trans Kl)
  ·obtain ⟨s1,yR⟩:=h1
   have sme:=aB (o:=XO aC none e) he
   refine ⟨_,rfl,e,_,true,rfl,ak,bL.xc,Pz,true,rfl, ?_⟩
   refine cQ ?_
   refine ⟨_,rfl,e,_,true,rfl,ak,bL.xc,K6 bL.ve, ?_⟩
   refine ⟨_,rfl,(by show 7<=sizeLine;decide),fun t1 ht1=> ?_⟩
   have Vz:=aB (o:=HO.tup [V.ref lu,V.ref gR,V.ref fu,V.ref fj,V.ref dG,V.ref cO,V.ref eZ]) ht1
   refine ⟨e,t1,_,[lu,gR,fu,fj,dG,cO,eZ],false,rfl,Vz _ _ ak,bL.xc,ak,qF (by
    intro D hD
    simp only [List.mem_cons,List.not_mem_nil,or_false] at hD
    rcases hD with rfl|rfl|rfl|rfl|rfl|rfl|rfl
    ·exact Dj.kit
    ·exact w5.kit
    ·exact uR.kit
    ·exact uQ.kit
    ·exact rJ.kit
    ·exact o9.kit
    ·exact uP.kit), ?_⟩
   refine ⟨_,rfl,(by show 5<=sizeLine;decide),fun t2 qG=> ?_⟩
   have Yu:=aB (o:=HO.tup [V.ref dI,V.ref dH,V.ref lq,V.ref cN,V.ref dF]) qG
   refine ⟨e,t2,_,[dI,dH,lq,cN,dF],false,rfl,Yu _ _ (Vz _ _ ak),bL.xc,ak,qF (by
    intro D hD
    simp only [List.mem_cons,List.not_mem_nil,or_false] at hD
    rcases hD with rfl|rfl|rfl|rfl|rfl
    ·exact rM.kit
    ·exact rK.kit
    ·exact Di.kit
    ·exact o8.kit
    ·exact rH.kit), ?_⟩
   refine ⟨(by show 3<=sizeLine;decide),fun q hq=> ?_⟩
   have sm3:=aB (o:=HO.lst [V.bl true,V.bl false,V.bl false]) hq
   refine ⟨_,rfl,(by show 3<=sizeLine;decide),fun p hp'=> ?_⟩
   have Kh:=aB (o:=HO.lst [V.bl true,V.bl false,V.bl false]) hp'
   refine ⟨_,_,rC (bs:=[true,false,false]) (Kh _ _ ak),rC (bs:=[true,false,false]) ak,rfl,rfl, ?_⟩
   exact k true _ ⟨fun _=>yR,fun _=>rfl⟩ (((((((sm.trans s1).trans sme).trans Vz).trans Yu).trans sm3).trans Kh))
def Q6 (ws:List bD) (H:Hp) (t r:Addr):Prop:=∃rs:List Addr,H t=some (.lst (rs.map V.ref))/\t≠r/\rs.length=ws.length /\ ∀j q,rs[j]? = some q->q≠r /\ ∃a,H q=some (.lst (a.map V.int))/\J3 ws j a
theorem Q6.kp {ws:List bD} {H H':Hp} {t r:Addr} (h:Q6 ws H t r) (k:Kp r H H'):Q6 ws H' t r:=by
 obtain ⟨rs,e1,n,l,q⟩:=h
 refine ⟨rs,k _ _ e1 n,n,l,fun j p hj=> ?_⟩
 obtain ⟨n1,a,ha,ra⟩:=q j p hj
 exact ⟨n1,a,k _ _ ha n1,ra⟩
theorem Q6.same {ws:List bD} {H H':Hp} {t r:Addr} (h:Q6 ws H t r) (k:Same H H'):Q6 ws H' t r:=h.kp (.of_same k)
def Q5 (H:Hp) (p:Addr):Prop:=∃(f g:Addr) (fs gs:List Int),H p=some (.tup [.ref f,.ref g])/\LI H f fs/\LI H g gs/\fs.length<=1000/\gs.length<=1000
def yc (K:PySem.W.Frag):Sp:=fun vs H Q _=>∃(c tb t r:Addr) (ws:List bD) (x:Nt),vs=[.ref c,.ref tb,.ref t]/\cL H c (nm ws)/\Q6 ws H tb r/\H t=some (.tup (nV x))/\j5 ws x/\(∀x∈ws,qO x)/\ws.length<=300 /\ ∀(p:Addr) H',Q5 H' p->Same H H'->Q (.ref p) H'
theorem Cw {x:Int} {xs:List Int}:inV (V.int x) (xs.map V.int)=decide (x∈xs):=by
 unfold inV
 rw [Bool.eq_iff_iff,decide_eq_true_iff,List.any_map,List.any_eq_true]
 constructor
 ·rintro ⟨y,hy,e⟩
  have:y=x:=by simpa [Mu] using e
  exact this▸hy
 ·intro h
  exact ⟨x,h,by simp [Mu]⟩
theorem vC (l:List Int):(l.map V.int).all rZ=true:=by
 rw [List.all_eq_true]
 intro x hx
 obtain ⟨y,_,rfl⟩:=List.mem_map.mp hx
 rfl
theorem Hq {f:Addr} {fd:FuncData} (F:lU K "_law_parted" "_law_parted" gk f fd) (Bt:uo mg):cI P w K mg base nF 1 f fd ["calls","table","note"] (yc K):=by
 refine F.ok iu (fun vs H Q E h=> ?_) (fun cdv A outer s H vs Q E hr h=> ?_)
 ·obtain ⟨c,tb,t,r,ws,x,rfl,_⟩:=h
  rfl
 ·obtain ⟨c,tb,t,r,ws,x,rfl,C,T,ht,⟨i,j,ne,ei,ej,lt⟩,ok,wl,k⟩:=h
  have pH:=hr.units
  refine ⟨_,(aq (aM (i:=3) iu.nd rfl (Or.inl rfl) (bI (aj (tY (K:=K) rfl PySem.F.plainAttrs_list PySem.F.slot_list_index PySem.F.type_list_index (oW (K:=K) rfl hr.m6) (pv 0) (aj (bK (fH (K:=K) rfl) (pv 2) cB (bW au)) ao)) (aj (tY (K:=K) rfl PySem.F.plainAttrs_list PySem.F.slot_list_index PySem.F.type_list_index (oW (K:=K) rfl hr.m6) (pv 0) (aj (bK (fH (K:=K) rfl) (pv 2) (bW au) cB) ao)) ao))))
   (aq (aM (i:=4) iu.nd rfl (Or.inl rfl) (bI ao))
   (aq (aM (i:=5) iu.nd rfl (Or.inl rfl) (bI ao))
   (aq (dB PassesOwn.never rfl (dD (by rfl) Bt.dX (aj (aR (bB (K:=K) rfl) (by rfl) Bt.jZ fQ (aj (pv 0) ao)) ao)) (aO (i:=6) iu.nd rfl (Or.inl rfl))
   (aq (qm (aL (aK (K:=K) rfl) (pv 0) (pv 6) (fun _ _=>rfl)) (lM (K:=K) (n:=2) rfl rfl (bO (aO (i:=7) iu.nd rfl (Or.inr rfl)) (bO (aO (i:=8) iu.nd rfl (Or.inr rfl)) jK))))
   (aF (cF (PW.pt (ni (bh (jM (K:=K) rfl) (pv 6) (pv 3) (by with_unfolding_all rfl)) (jH (eO (aR (pB (K:=K) rfl rfl) (by rfl) Bt.Va QH (aj (jL rfl (N:=["end","k","hand","table"]) (own:=["end"]) (caps:=[8,7,1]) (bf.of (by kernel_rfl)) (dg (K:=K) rfl (pv 3)) (fun _ _ _ _=>(aO (i:=0) (show List.Nodup (["end","k","hand","table"]:List Str) by decide +kernel) rfl (Or.inl rfl))) (fun _ _ _ _=>jJ) (fun _ _ _ _=>(cW vU (pv 1) (aL (aK (K:=K) rfl) (aL (aK (K:=K) rfl) (pv 3) (pv 0) (fun _ _=>rfl)) (pv 2) (fun _ _=>rfl)) (bw _)))) ao)))))) (aF (cA (cM (K:=K) rfl (pv 4) (aj (pv 6) ao)))) (aF (cF (bh (jM (K:=K) rfl) (pv 6) (pv 3) (by with_unfolding_all rfl)) (aF (cA (cM (K:=K) rfl (pv 5) (aj (pv 6) ao)))) bG))))))
   (aF (aY (dh (aj (aP je (aP je (pv 4) (pv 3)) (pv 5)) (aj (aP je (aP je (pv 4) (Oq (K:=K) rfl (pv 3) (Eh xT au))) (pv 5)) ao))))))))), ?_⟩
  have il:i<ws.length:=by have:=(List.getElem?_eq_some_iff.mp ei).1;rwa [bN] at this
  have jl:j<ws.length:=by have:=(List.getElem?_eq_some_iff.mp ej).1;rwa [bN] at this
  obtain ⟨vs,hc,dv⟩:=id C
  obtain ⟨as,rfl⟩:=yu dv
  refine ⟨_,rfl,.inl ⟨rfl,_,aZ.of hc⟩,_,rfl,_,rfl,t,_,rfl,cD.of ht,vp _ rfl,fun p1 hp1=> ?_⟩
  rw [show fL (nV x) none (some 2)=[V.int x.1,V.int x.2.1] from Av _ _ _ _]
  have s1:=aB (o:=HO.tup [V.int x.1,V.int x.2.1]) hp1
  refine ⟨c,as,_,pD (n1 x),_,i,pD (n1 x),rfl,rfl,aZ.of (s1 _ _ hc),aH.keep s1.tups _ (bA _ iB _) dv,jh (x:=n1 x) ak,jw _,ju,Cp ei,wZ _,uF ei, ?_⟩
  refine ⟨_,rfl,.inl ⟨rfl,_,aZ.of (s1 _ _ hc)⟩,_,rfl,_,rfl,t,_,rfl,cD.of (s1 _ _ ht),vo _ rfl,fun p2 hp2=> ?_⟩
  rw [show fL (nV x) (some 2) none=[V.int x.2.2.1,V.int x.2.2.2] from Ar _ _ _ _]
  have s2:=aB (o:=HO.tup [V.int x.2.2.1,V.int x.2.2.2]) hp2
  have s12:=s1.trans s2
  refine ⟨c,as,_,pD (n2 x),_,j,pD (n2 x),rfl,rfl,aZ.of (s12 _ _ hc),aH.keep s12.tups _ (bA _ iB _) dv,jh (x:=n2 x) ak,jw _,ju,Cp ej,wZ _,uF ej, ?_⟩
  refine ⟨(by show 2<=sizeLine;decide),fun e he=> ?_⟩
  have s3:=aB (o:=HO.lst [V.int (i:Int),V.int (j:Int)]) he
  have E3:LI _ e [(i:Int),(j:Int)]:=ak (H:=upd (upd H p1 (HO.tup [V.int x.1,V.int x.2.1])) p2 (HO.tup [V.int x.2.2.1,V.int x.2.2.2])) (a:=e) (o:=HO.lst [V.int (i:Int),V.int (j:Int)])
  have Gw:=s12.trans s3
  generalize upd (upd (upd H p1 (HO.tup [V.int x.1,V.int x.2.1])) p2 (HO.tup [V.int x.2.2.1,V.int x.2.2.2])) e (HO.lst [V.int (i:Int),V.int (j:Int)])=H3 at E3 Gw
  clear s1 s2 s12 s3
  refine ⟨(by show 0<=sizeLine;decide),fun a ha=> ?_⟩
  have s4:=aB (o:=HO.lst []) ha
  refine ⟨(by show 0<=sizeLine;decide),fun b hb=> ?_⟩
  have s5:=aB (o:=HO.lst []) hb
  have nab:a≠b:=aD ak hb
  have nea:e≠a:=aD E3 ha
  have neb:e≠b:=aD (s4 _ _ E3) hb
  have Rn:=(Gw.trans s4).trans s5
  have ha0:H a=none:=Gw.free ha
  have hb0:H b=none:=(Gw.trans s4).free hb
  have vl:as.length=ws.length:=by have:=dv.length;rw [List.length_map,List.length_map,bN] at this;exact this
  refine ⟨_,rfl,c,_,rfl,.inl (aZ.of (Rn _ _ hc)),_,rfl,by rw [List.length_map];omega,by rw [List.length_map];omega, ?_⟩
  rw [show ((((as.map V.ref).length:Nat):Int)).toNat=ws.length by rw [List.length_map];omega]
  refine iG (lo:=0) (n:=ws.length) (fun m σ H6=>∃(xs ys:List Int) (x1 x2 x3:Option V),σ=[some (.ref c),some (.ref tb),some (.ref t),some (.ref e),some (.ref a),some (.ref b),x1,x2,x3]/\LI H6 a xs/\LI H6 b ys/\xs.length+ys.length<=m/\LI H6 e [(i:Int),(j:Int)]/\Same H H6)
   ⟨[],[],none,none,none,rfl,s5 _ _ ak,ak,Nat.le_refl _,s5 _ _ (s4 _ _ E3),Rn⟩ ?_ ?_
  ·rintro m σ H6 hm ⟨xs,ys,x1,x2,x3,rfl,A6,B6,l6,E6,s6⟩
   obtain ⟨y,ey⟩:∃y,ws[m]? = some y:=⟨ws[m],by simp [hm]⟩
   have oy:=(ok y (List.mem_of_getElem? ey)).1
   rw [←kW ey] at oy
   obtain ⟨cv,tm,hcv,etm,htm⟩:=iw (C.same s6) (jf hm)
   refine ⟨_,rfl,_,rfl,_,_,_,_,rfl,rfl,aZ.of hcv,Df etm,tm,_,rfl,cD.of htm,rfl,_,_,rfl,_,_,rfl,rfl, ?_⟩
   refine ⟨_,rfl,_,rfl,e,_,rfl,.inl (aZ.of E6),rfl,vC [(i:Int),(j:Int)],_,rfl, ?_⟩
   rw [if_pos rfl,Cw]
   by_cases hin:(0+(m:Int))∈[(i:Int),(j:Int)]
   ·rw [decide_eq_true hin]
    refine (show if false=true then _ else _ from cH ?_)
    refine ⟨_,rfl,_,rfl,e,_,rfl,.inl (aZ.of E6),rfl,vC [(i:Int),(j:Int)],_,rfl, ?_⟩
    rw [if_pos rfl,Cw,decide_eq_true hin]
    refine (show if false=true then _ else _ from cH ?_)
    exact ⟨xs,ys,_,_,_,rfl,A6,B6,by omega,E6,s6⟩
   ·rw [decide_eq_false hin]
    refine (show if true=true then _ else _ from cQ ?_)
    obtain ⟨rs,hts,_,rl,rq⟩:=T.same s6
    refine ⟨_,rfl,e,rfl,⟨_,aZ.of E6⟩,fun D hD=> ?_⟩
    refine qL (K:=K) (a:=e) (xs:=[(i:Int),(j:Int)].map V.int) (fun n=>([i,j][n]?).map fun z=>V.bl (decide (cnt (ws.take m) (hnd ws m)<(if h:z<rs.length then gI ((rq z rs[z] (by simp [h])).2.choose) (hnd ws m) else 0)))) hD (aZ.of E6) (by simp) (fun n v H7 G F' hn s7 kG kF=> ?_) (fun H7 s7 e7=> ?_)
    ·have hz:∃z,[i,j][n]? = some z/\v=V.int (z:Int)/\z<ws.length:=by
      match n,hn with
      | 0,hn=>exact ⟨i,rfl,(Option.some.inj hn).symm,il⟩
      | 1,hn=>exact ⟨j,rfl,(Option.some.inj hn).symm,jl⟩
      | n+2,hn=>cases hn
     obtain ⟨z,ez,rfl,zl⟩:=hz
     have Zr:z<rs.length:=by omega
     obtain ⟨hz1,hz2⟩:=(rq z rs[z] (by simp [Zr])).2.choose_spec
     have rol:=hz2.1
     refine ⟨_,rfl,_,rfl,_,rfl,_,_,_,_,rfl,rfl,aZ.of (s7 _ _ hts),bM (by rw [List.getElem?_map,List.getElem?_eq_getElem Zr];rfl),_,rfl,_,_,_,_,rfl,rfl,aZ.of (s7 _ _ hz1),uc oy.1 (by omega),_,_,rfl,rfl, ?_⟩
     exact kF _ _ (Same.refl _) (by rw [ez];simp [Zr])
    ·obtain ⟨bs,hbs⟩:∃bs:List Bool,H7 D=some (.lst (bs.map V.bl)):=⟨_,by rw [e7];exact congrArg (fun z=>some (HO.lst z)) (show _=([_,_]:List Bool).map V.bl from rfl)⟩
     have A7:=A6.same s7
     have B7:=B6.same s7
     have E7:=E6.same s7
     have s67:=s6.trans s7
     refine ⟨D,_,rfl,aZ.of hbs,_,rfl, ?_⟩
     refine rN (fun _=> ?_) (fun _=> ?_)
     ·refine ⟨_,rfl,.inl ⟨rfl,_,aZ.of A7⟩,_,rfl,a,_,_,rfl,rfl,A7,by rw [List.length_map,sizeLine_eq];omega, ?_⟩
      have ka:Kp a H7 (upd H7 a (.lst (xs.map V.int++[V.int (0+(m:Int))]))):=Kp.set
      exact ⟨xs++[0+(m:Int)],ys,_,_,_,rfl,by show upd _ _ _ _=_;rw [ak];simp,ka _ _ B7 nab.symm,by simp;omega,ka _ _ E7 nea,fun z o ez=>ka _ _ (s67 _ _ ez) (aD ez ha0)⟩
     ·refine ⟨_,rfl,_,rfl,e,_,rfl,.inl (aZ.of E7),rfl,vC [(i:Int),(j:Int)],_,rfl, ?_⟩
      rw [if_pos rfl,Cw,decide_eq_false hin]
      refine (show if true=true then _ else _ from cQ ?_)
      refine ⟨_,rfl,.inl ⟨rfl,_,aZ.of B7⟩,_,rfl,b,_,_,rfl,rfl,B7,by rw [List.length_map,sizeLine_eq];omega, ?_⟩
      have kb:Kp b H7 (upd H7 b (.lst (ys.map V.int++[V.int (0+(m:Int))]))):=Kp.set
      exact ⟨xs,ys++[0+(m:Int)],_,_,_,rfl,kb _ _ A7 nab,by show upd _ _ _ _=_;rw [ak];simp,by simp;omega,kb _ _ E7 neb,fun z o ez=>kb _ _ (s67 _ _ ez) (aD ez hb0)⟩
  ·rintro σ H6 ⟨xs,ys,x1,x2,x3,rfl,A6,B6,l6,E6,s6⟩
   refine ⟨_,rfl,_,rfl,eY (ys:=[(i:Int),(j:Int)]) A6 E6 (by simp;omega) fun q1 H7 f7 L7 s7=> ?_⟩
   refine ⟨_,rfl,eY L7 (B6.same s7) (by simp;omega) fun q2 H8 f8 L8 s8=> ?_⟩
   have s68:=s7.trans s8
   refine ⟨_,rfl,_,rfl,_,rfl,e,_,rfl,rfl,aZ.of (E6.same s68),fun q3 hq3=> ?_⟩
   have s9:=aB (o:=HO.lst ([V.int (i:Int),V.int (j:Int)].reverse)) hq3
   have L9:LI _ q3 [(j:Int),(i:Int)]:=ak (H:=H8) (a:=q3) (o:=HO.lst ([V.int (i:Int),V.int (j:Int)].reverse))
   refine eY (A6.same (s68.trans s9)) L9 (by simp;omega) fun q4 HA fA LA sA=> ?_
   refine ⟨_,rfl,eY LA (B6.same ((s68.trans s9).trans sA)) (by simp;omega) fun q5 HB fB LB sB=> ?_⟩
   have s8B:=(s9.trans sA).trans sB
   refine ⟨(by show 2<=sizeLine;decide),fun p hp=>k p _ ⟨q2,q5,_,_,ak,(L8.same s8B).same (aB hp),LB.same (aB hp),by simp;omega,by simp;omega⟩ (((s6.trans s68).trans s8B).trans (aB hp))⟩
def Ny (K:PySem.W.Frag):Sp:=fun vs H Q _=>∃(r c tb t:Addr) (ws:List bD) (x:Nt),vs=[.ref r,.ref c,.ref tb,.ref t]/\bx H r/\cL H c (nm ws)/\c≠r/\Q6 ws H tb r/\H t=some (.tup (nV x))/\(∀x∈ws,qO x)/\ws.length<=300 /\ ∀(q t' p:Addr) (y:Nt) H',H' q=some (.lst [.ref t',.ref p])->H' t'=some (.tup (nV y))->Q5 H' p->bx H' r->Kp r H H'->Q (.ref q) H'
theorem Q5.same {H H':Hp} {p:Addr} (h:Q5 H p) (k:Same H H'):Q5 H' p:=by
 obtain ⟨f,g,fs,gs,h1,h2,h3,h4,h5⟩:=h
 exact ⟨f,g,fs,gs,k _ _ h1,h2.same k,h3.same k,h4,h5⟩
theorem Sq {f:Addr} {fd:FuncData} (F:lU K "_law_asked" "_law_asked" jd f fd) (bH:FnAt P w K mg base 1 "_law_draw" ["spring","many"] (m8 K)) (pq:FnAt P w K mg base 1 "_law_is_strict" ["calls","note"] (BK K)) (Mp:FnAt P w K mg base 1 "_law_parted" ["calls","table","note"] (yc K)) (Bt:uo mg):cI P w K mg base nF 2 f fd ["spring","calls","table","note"] (Ny K):=by
 refine F.ok qX (fun vs H Q E h=> ?_) (fun cdv A outer s H vs Q E hr h=> ?_)
 ·obtain ⟨r,c,tb,t,ws,x,rfl,_⟩:=h
  rfl
 ·obtain ⟨r,c,tb,t,ws,x,rfl,S0,C,Cq,T,ht,ok,wl,k⟩:=h
  have pH:=hr.units
  refine ⟨_,(aq (aM (i:=4) qX.nd rfl (Or.inl rfl) (aW bH (hr.mono (by decide)) (by rfl) (aj (pv 0) (aj au ao))))
   (aq (aM (i:=5) qX.nd rfl (Or.inl rfl) (aW bH (hr.mono (by decide)) (by rfl) (aj (pv 0) (aj (aR (nU rfl) (by rfl) Bt.Gj zE (aj au (aj (aP kE (aR (bB (K:=K) rfl) (by rfl) Bt.jZ fQ (aj (pv 1) ao)) au) ao))) ao))))
   (aq (aM (i:=6) qX.nd rfl (Or.inl rfl) (vR rfl (by rfl) Bt.qN (by rfl) Bt.dX (aj (aR (bB (K:=K) rfl) (by rfl) Bt.jZ fQ (aj (pv 1) ao)) ao)))
   (aq (cF (PW.pt (ni (bh Ej (pv 4) au (bw _)) (jH (bh Ej (aR (bB (K:=K) rfl) (by rfl) Bt.jZ fQ (aj (pv 1) ao)) au (bw _))))) (aF (aY (bI (aj (aP (qt (K:=K) rfl) (aL (aK (K:=K) rfl) (pv 1) (pv 5) (fun _ _=>rfl)) (aL (aK (K:=K) rfl) (pv 1) (aP bU (pv 5) au) (fun _ _=>rfl))) (aj (dh (aj (pv 6) (aj (aP je (aP je (bK (iT (K:=K) rfl) (pv 6) cB (bW (pv 5))) (bI (aj (aP bU (pv 5) au) (aj (pv 5) ao)))) (bK (iT (K:=K) rfl) (pv 6) (bW (aP bU (pv 5) au)) cB)) ao))) ao))))) bG)
   (aq (cF (PW.pt (ni (bh mz (pv 4) au (bw _)) (jH (eO (aW pq (hr.mono (by decide)) (by rfl) (aj (pv 1) (aj (pv 3) ao))))))) (aF (aY (bI (aj (pv 3) (aj (aW Mp (hr.mono (by decide)) (by rfl) (aj (pv 1) (aj (pv 2) (aj (pv 3) ao)))) ao))))) bG)
   (aF (aY (bI (aj (pv 3) (aj (dh (aj (pv 6) (aj (jL rfl (N:=["number"]) (own:=["number"]) (caps:=[]) (bf.of (by kernel_rfl)) (Jr (K:=K) rfl (pv 3)) (fun _ _ _ _=>(aO (i:=0) (show List.Nodup (["number"]:List Str) by decide +kernel) rfl (Or.inl rfl))) (fun _ _ _ _=>jJ) (fun _ _ _ _=>(pv 0))) ao))) ao)))))))))), ?_⟩
  refine ⟨_,rfl,r,4,rfl,S0,by decide,by decide,fun kind H1 XR kd1 S1 k1=> ?_⟩
  have C1:=C.v8 S0 k1 Cq
  obtain ⟨cv,hcv,Xk⟩:=id C1
  have cvl:cv.length=ws.length:=by rw [Xk.length,List.length_map,bN]
  have mx:0<(if ((cv.length:Nat):Int) - 1>1 then ((cv.length:Nat):Int) - 1 else 1)/\(if ((cv.length:Nat):Int) - 1>1 then ((cv.length:Nat):Int) - 1 else 1)<1073741824:=by split<;>omega
  refine ⟨_,rfl,_,rfl,c,_,rfl,.inl (aZ.of hcv),_,_,rfl,rfl,_,_,rfl,r,_,rfl,S1,mx.1,mx.2,fun at1 H2 a0 a1 S2 k2=> ?_⟩
  have k02:=k1.trans k2
  have C2:=C1.v8 S1 k2 Cq
  have T2:=T.kp k02
  have qG:=S0.tups k02 _ _ ht
  have W6:=k2 _ _ hcv Cq
  refine ⟨_,rfl,c,_,rfl,.inl (aZ.of W6),cv.length,rfl,by omega,fun pl hpl=> ?_⟩
  have pll:((List.range cv.length).map fun k:Nat=>(k:Int)).length=ws.length:=by rw [List.length_map,List.length_range,cvl]
  generalize ((List.range cv.length).map fun k:Nat=>(k:Int))=pls at pll ⊢
  have s3:=aB (o:=HO.lst (pls.map V.int)) hpl
  have P3:LI _ pl pls:=ak (H:=H2) (a:=pl) (o:=HO.lst (pls.map V.int))
  have S3:=S2.keep s3
  have k03:=k02.trans (.of_same s3)
  have C3:=C2.same s3
  have T3:=T2.same s3
  have HN:=s3 _ _ qG
  have ZD:=s3 _ _ W6
  generalize upd H2 pl (HO.lst (pls.map V.int))=H3 at P3 S3 k03 C3 T3 HN ZD
  clear s3 S1 S2 C1 C2 T2 k1 k2 k02 W6 mx Xk hcv
  dsimp only
  refine oO (fun σ H4=>σ=[some (.ref r),some (.ref c),some (.ref tb),some (.ref t),some (.int kind),some (.int at1),some (.ref pl)]/\H4=H3) (fun D' hD' XS=> ?_) ?_
  ·refine ⟨_,rfl,_,_,rfl,rfl,_,rfl, ?_⟩
   refine rN (fun _=> ?_) (fun _=>hD' _ _ ⟨rfl,rfl⟩)
   refine ⟨_,rfl,c,_,rfl,.inl (aZ.of ZD),_,_,rfl,rfl,_,rfl, ?_⟩
   refine rN (fun hl=> ?_) (fun _=>hD' _ _ ⟨rfl,rfl⟩)
   have hl:((cv.length:Nat):Int)>1:=of_decide_eq_true hl
   have al:at1+1<ws.length:=by split at a1<;>omega
   obtain ⟨am,rfl⟩:=Int.eq_ofNat_of_zero_le a0
   have l1:am<ws.length:=by omega
   have l2:am+1<ws.length:=by omega
   obtain ⟨v4,t1,Te,X8,ht1⟩:=iw C3 (jf l1)
   obtain ⟨v4',t2,PN,X7,af5⟩:=iw C3 (jf l2)
   have ev:v4=v4':=by rw [Te] at PN;injection PN with q;injection q
   subst ev
   refine ⟨_,rfl,_,rfl,_,_,_,_,rfl,rfl,aZ.of Te,bM X8,_,rfl,_,rfl,_,_,rfl,rfl,_,_,_,_,rfl,rfl,aZ.of Te,(show Iv v4 (((am+1:Nat)):Int)=_ from bM X7), ?_⟩
   refine rF ht1 af5 fun q5 H5 hq5 s5=> ?_
   refine ⟨_,rfl,_,rfl,_,rfl,_,rfl,Jj (P3.same s5) (by omega) fun q6 H6 f6 L6 s6=> ?_⟩
   refine ⟨_,rfl,_,_,rfl,rfl,_,rfl,(by show 2<=sizeLine;decide),fun q7 X3=> ?_⟩
   have s7:=aB (o:=HO.lst [V.int ((am:Int)+1),V.int (am:Int)]) X3
   refine eY (ys:=[(am:Int)+1,(am:Int)]) (L6.same s7) ak (by simp;omega) fun q8 H8 f8 L8 s8=> ?_
   have s58:=(s6.trans s7).trans s8
   refine ⟨_,rfl,_,rfl,_,_,rfl,rfl,_,rfl,Jk ((P3.same s5).same s58) (by omega) fun q9 H9 f9 L9 s9=> ?_⟩
   refine eY (L8.same s9) L9 (by simp;omega) fun qA HA fA LA sA=> ?_
   refine ⟨(by show 2<=sizeLine;decide),fun qB hqB=> ?_⟩
   have sB:=aB (o:=HO.tup [V.ref pl,V.ref qA]) hqB
   refine ⟨(by show 2<=sizeLine;decide),fun qC Zx=> ?_⟩
   have sC:=aB (o:=HO.lst [V.ref q5,V.ref qB]) Zx
   have s5A:=(s58.trans s9).trans sA
   have Um:=sB.trans sC
   rw [XS]
   exact k qC q5 qB _ _ ak ((s5A.trans Um) _ _ hq5) ⟨pl,qA,_,_,sC _ _ ak,((P3.same s5).same s5A).same Um,LA.same Um,by omega,by simp;omega⟩ (S3.keep ((s5.trans s5A).trans Um)) (k03.trans (.of_same ((s5.trans s5A).trans Um)))
  rintro σ H4 ⟨rfl,rfl⟩
  have last:∀H5,Same H4 H5 -> ∀(D:Ends),D.rt=Q->(Ni (Vo (jQ (jP 3) (jQ (Vk (jQ (jP 6) (jQ (Jf [Str.ofString "number"] [] (WW K (jP 3)) (jU 0) Ys (jP 0)) xU))) xU)))) D [some (.ref r),some (.ref c),some (.ref tb),some (.ref t),some (.int kind),some (.int at1),some (.ref pl)] H5:=fun H5 s5 D hD=>by
   refine ⟨_,rfl,_,rfl,_,rfl,t,rfl,⟨_,cD.of (s5 _ _ HN)⟩,fun B hB=> ?_⟩
   refine Ax (fun n=>(nV x)[n]?) hB (s5 _ _ HN) (by show 4<=100000;decide) (fun n v H6 G F' hn s6 kG kF=> ?_) (fun H6 s6 e6=> ?_)
   ·exact ⟨_,rfl,kF _ _ (Same.refl _) hn⟩
   ·have L6:LI H6 B [x.1,x.2.1,x.2.2.1,x.2.2.2]:=e6
    refine ⟨(by show 2<=sizeLine;decide),fun qB hqB=> ?_⟩
    have sB:=aB (o:=HO.tup [V.ref pl,V.ref B]) hqB
    refine ⟨(by show 2<=sizeLine;decide),fun qC Zx=> ?_⟩
    have sC:=aB (o:=HO.lst [V.ref t,V.ref qB]) Zx
    have Um:=sB.trans sC
    have Uo:=(s5.trans s6).trans Um
    rw [hD]
    exact k qC t qB _ _ ak (Uo _ _ HN) ⟨pl,B,_,_,sC _ _ ak,P3.same Uo,L6.same Um,by omega,by simp⟩ (S3.keep Uo) (k03.trans (.of_same Uo))
  refine oO (fun σ H5=>σ=[some (.ref r),some (.ref c),some (.ref tb),some (.ref t),some (.int kind),some (.int at1),some (.ref pl)]/\Same H4 H5) (fun D' hD' XS=> ?_) ?_
  ·refine ⟨_,rfl,rfl,_,rfl, ?_⟩
   refine rN (fun _=> ?_) (fun _=>hD' _ _ ⟨rfl,Same.refl _⟩)
   refine ⟨_,rfl,_,rfl,c,t,ws,x,rfl,C3,HN,fun b H5 hb s5=>⟨_,rfl, ?_⟩⟩
   cases b with
   | false=>exact (show if false=true then _ else _ from cH (hD' _ _ ⟨rfl,s5⟩))
   | true=>
     refine (show if true=true then _ else _ from cQ ?_)
     refine ⟨_,rfl,_,rfl,_,rfl,_,rfl,c,tb,t,r,ws,x,rfl,C3.same s5,T3.same s5,s5 _ _ HN,hb.mp rfl,ok,wl,fun p H6 tw s6=> ?_⟩
     refine ⟨(by show 2<=sizeLine;decide),fun qC Zx=> ?_⟩
     have sC:=aB (o:=HO.lst [V.ref t,V.ref p]) Zx
     have Uo:=(s5.trans s6).trans sC
     rw [XS]
     exact k qC t p _ _ ak (Uo _ _ HN) (tw.same sC) (S3.keep Uo) (k03.trans (.of_same Uo))
  rintro σ H5 ⟨rfl,s5⟩
  exact last H5 s5 _ rfl
def hD (ws:List bD) (ns:List Nt):PyData:= .tuple [.list (ws.map tD),.list (ns.map nD)]
theorem CG {H:Hp} {t a b:Addr} {ws:List bD} {ns:List Nt} (ht:H t=some (.tup [.ref a,.ref b])) (W:cJ H a ws) (B:dZ H b ns):Dat H (.ref t) (hD ws ns):=by
 obtain ⟨vs,ha,dv⟩:=W
 obtain ⟨us,hb,du⟩:=B
 simp only [hD,Dat]
 refine ⟨t,_,rfl,ht, ?_⟩
 simp only [aH,and_true]
 exact ⟨jW ha dv,jW hb du⟩
theorem qW {ws:List bD} (ok:∀x∈ws,qO x) (ns:List Nt):SeqAt.shaped (hD ws ns)=true:=by
 have e1:=G5 ok
 have e2:=G6 ns
 simp only [SeqAt.shaped,PyData.depth,PyData.depthAll,PyData.canLay0,PyData.canLayAll0,hD,Bool.and_eq_true,decide_eq_true_eq,Bool.and_true] at e1 e2 ⊢
 have d1:PyData.depthAll (ns.map nD)<=1:=gq _ 1 ns (fun _ _=>by show (max 0 (max 0 (max 0 (max 0 0))))+1<=1;decide)
 have d2:PyData.depthAll (ws.map tD)<=1:=gq _ 1 ws (fun _ _=>by show (max 0 (max 0 (max 0 0)))+1<=1;decide)
 refine ⟨?_, ?_⟩<;>first |(clear e2 e1;omega)|exact ⟨e1.1,e2.1⟩|exact ⟨e1.2,e2.2⟩
theorem Qn (ws:List bD) (ns:List Nt):PyData.eqv (hD ws ns) (hD ws ns)=true:=by
 simp only [hD,PyData.eqv,PyData.eqvAll,Bool.and_true]
 have e1:=jV tD Xf ws ws
 have e2:=jV nD HY ns ns
 simp only [PyData.eqv] at e1 e2
 rw [e1,e2]
 simp
def lD (fs gs:List Int):PyData:= .tuple [.list (fs.map PyData.int),.list (gs.map PyData.int)]
theorem Qw {H:Hp} {t a b:Addr} {fs gs:List Int} (ht:H t=some (.tup [.ref a,.ref b])) (A:LI H a fs) (B:LI H b gs):Dat H (.ref t) (lD fs gs):=by
 simp only [lD,Dat]
 refine ⟨t,_,rfl,ht, ?_⟩
 simp only [aH,and_true]
 exact ⟨jX A,jX B⟩
theorem Ae (fs gs:List Int):SeqAt.shaped (lD fs gs)=true:=by
 have e2:=shaped_ints fs
 have e3:=shaped_ints gs
 simp only [SeqAt.shaped,PyData.depth,PyData.depthAll,PyData.canLay0,PyData.canLayAll0,lD,Bool.and_eq_true,decide_eq_true_eq,Bool.and_true] at e2 e3 ⊢
 have d1:PyData.depthAll (fs.map PyData.int)<=0:=gq _ 0 fs (fun _ _=>by show 0<=0;decide)
 have d3:PyData.depthAll (gs.map PyData.int)<=0:=gq _ 0 gs (fun _ _=>by show 0<=0;decide)
 refine ⟨?_, ?_⟩<;>first |(clear e3 e2;omega)|exact ⟨e2.1,e3.1⟩|exact ⟨e2.2,e3.2⟩
theorem Xg (fs gs:List Int):PyData.eqv (lD fs gs) (lD fs gs)=true:=by
 simp only [lD,PyData.eqv,PyData.eqvAll,Bool.and_true]
 have e2:=jV PyData.int uK fs fs
 have e3:=jV PyData.int uK gs gs
 simp only [PyData.eqv] at e2 e3
 rw [e2,e3]
 simp
theorem dZ.v8 {H H':Hp} {a r:Addr} {ns:List Nt} (h:dZ H a ns) (S:bx H r) (k:Kp r H H') (n:a≠r):dZ H' a ns:=h.kp (S.tups k) k n
theorem Pg {ws:List bD} {x:k_} (h:x∈eV ws ws.length):∃i j,x=tX i j/\Yb ws i j:=by
 unfold eV at h
 obtain ⟨j,hj,h⟩:=List.mem_flatMap.mp h
 obtain ⟨i,hi,rfl⟩:=List.mem_map.mp h
 unfold Vc at hi
 have hi:=List.mem_filter.mp hi
 have b:=of_decide_eq_true hi.2
 exact ⟨i,j,rfl,List.mem_range.mp hi.1,List.mem_range.mp hj,b.1,b.2⟩
theorem Zk {ws:List bD} {i j:Nat} (h:Yb ws i j):tX i j∈eV ws ws.length:=by
 unfold eV
 refine List.mem_flatMap.mpr ⟨j,List.mem_range.mpr h.jl,List.mem_map.mpr ⟨i, ?_,rfl⟩⟩
 unfold Vc
 exact List.mem_filter.mpr ⟨List.mem_range.mpr h.lt,decide_eq_true ⟨h.br,h.ne⟩⟩
noncomputable def Ms (ws:List bD):List Nt:=(eV ws ws.length).map fun x=>eU ws x.1.toNat x.2.toNat
theorem JB {ws:List bD} {x:Nt}:x∈Ms ws↔x∈jo ws ws.length:=by
 unfold Ms
 constructor
 ·intro h
  obtain ⟨y,hy,rfl⟩:=List.mem_map.mp h
  obtain ⟨i,j,rfl,np⟩:=Pg hy
  exact Tc np
 ·intro h
  obtain ⟨i,j,rfl,np⟩:=nO h
  exact List.mem_map.mpr ⟨tX i j,Zk np,rfl⟩
theorem Yb.str {ws:List bD} {i j:Nat} (h:Yb ws i j):j5 ws (eU ws i j):=⟨i,j,h.ne,jf (Nat.lt_trans h.lt h.jl),jf h.jl,h.lt⟩
theorem TJ {H:Hp} {vs:List V} {ns:List Nt} (d:aH H vs (ns.map nD)) (m:Nat):aH H (vs.take m) ((ns.take m).map nD)/\aH H (vs.drop m) ((ns.drop m).map nD):=by
 rw [List.map_take,List.map_drop]
 generalize ns.map nD=ds at d
 induction m generalizing vs ds with
 | zero=>exact ⟨by simp [aH],by simpa using d⟩
 | succ m ih=>
   match vs,ds,d with
   | [],[],_=>exact ⟨by simp [aH],by simp [aH]⟩
   | v::vs,e::ds,d=>
     simp only [aH] at d
     obtain ⟨h1,h2⟩:=ih _ d.2
     exact ⟨by simp only [List.take_succ_cons,aH];exact ⟨d.1,h1⟩,by simpa using h2⟩
   | [],_::_,d=>simp only [aH] at d
   | _::_,[],d=>simp only [aH] at d
theorem JF (ws:List bD):∀n,2*(eV ws n).length<=n*n
 | 0=>Nat.le_refl _
 | n+1=>by
   rw [qD,List.length_append,List.length_map]
   have h1:=JF ws n
   have h2:=J1 ws n n
   have:(n+1)*(n+1)=n*n+n+n+1:=by rw [Nat.add_mul,Nat.mul_add];omega
   omega
def Jh (K:PySem.W.Frag):Sp:=fun vs H Q _=>∃(a:Addr) (ns:List Int),vs=[.ref a]/\aZ K H a (ns.map V.int)/\ns.length<=63 /\ ∀H',Q (.bl true) H'
theorem Wg {f:Addr} {fd:FuncData} (F:lU K "law" "law" uz f fd) (Ml:FnAt P w K mg base 1 "_law_spring" ["script"] (xZ K)) (bH:FnAt P w K mg base 1 "_law_draw" ["spring","many"] (m8 K)) (XC:FnAt P w K mg base 2 "_law_web" ["spring","most"] (Np K)) (Rh:FnAt P w K mg base 1 "_law_calls" ["web"] (BL K)) (Rc:FnAt P w K mg base 3 "_law_table" ["web","calls"] (Bu K)) (Rf:FnAt P w K mg base 3 "_law_notes" ["web","calls","table"] (yd K)) (Rb:FnAt P w K mg base 2 "_law_tuple" ["spring","calls"] (Bs K)) (zJ:FnAt P w K mg base 2 "_law_strict_ones" ["spring","calls","many"] (GR K)) (um:FnAt P w K mg base 7 "_law_refused" ["web","door","note","more"] (Nq K)) (pq:FnAt P w K mg base 1 "_law_is_strict" ["calls","note"] (BK K)) (Ri:FnAt P w K mg base 2 "_law_asked" ["spring","calls","table","note"] (Ny K)) (Bt:uo mg):cI P w K mg base nF 8 f fd ["script"] (Jh K):=by
 refine F.ok gG (fun vs H Q E h=> ?_) (fun cdv A outer s H vs Q E hr h=> ?_)
 ·obtain ⟨a,ns,rfl,_⟩:=h
  rfl
 ·obtain ⟨sa,sns,rfl,hS,hlen,k⟩:=h
  have hu:=mR hr
  have pH:=hr.units
  refine ⟨_,(aq (aM (i:=1) gG.nd rfl (Or.inl rfl) (aW Ml (hr.mono (by decide)) (by rfl) (aj (pv 0) ao)))
   (aq (aM (i:=2) gG.nd rfl (Or.inl rfl) (aW XC (hr.mono (by decide)) (by rfl) (aj (pv 1) (aj au ao))))
   (aq (aM (i:=3) gG.nd rfl (Or.inr rfl) (aW Rh (hr.mono (by decide)) (by rfl) (aj (pv 2) ao)))
   (aq (aM (i:=4) gG.nd rfl (Or.inl rfl) (aW Rc (hr.mono (by decide)) (by rfl) (aj (pv 2) (aj (pv 3) ao))))
   (aq (oV (i:=5) rfl gG.nd rfl (Or.inl rfl) (N:=["i","j","calls"]) (own:=["i","j"]) (caps:=[3]) (bf.of (by kernel_rfl)) (dg (K:=K) rfl (aW Rf (hr.mono (by decide)) (by rfl) (aj (pv 2) (aj (pv 3) (aj (pv 4) ao))))) (fun _ _ _ _=>(lM (K:=K) (n:=2) rfl rfl (bO (aO (i:=0) (show List.Nodup (["i","j","calls"]:List Str) by decide +kernel) rfl (Or.inl rfl)) (bO (aO (i:=1) (show List.Nodup (["i","j","calls"]:List Str) by decide +kernel) rfl (Or.inl rfl)) jK)))) (fun _ _ _ _=>jJ) (fun _ _ _ _=>(aP (qt (K:=K) rfl) (aL (aK (K:=K) rfl) (pv 2) (pv 0) (fun _ _=>rfl)) (aL (aK (K:=K) rfl) (pv 2) (pv 1) (fun _ _=>rfl)))))
   (aq (dB PassesOwn.never rfl (dD (by rfl) Bt.dX (aj (aP bU au (aR (Lz rfl) (by rfl) Bt.U_ QG (aj (aR (bB (K:=K) rfl) (by rfl) Bt.jZ fQ (aj (pv 0) ao)) (aj au ao)))) ao)) (aO (i:=6) gG.nd rfl (Or.inl rfl))
   (aq (aM (i:=7) gG.nd rfl (Or.inl rfl) (aW Rb (hr.mono (by decide)) (by rfl) (aj (pv 1) (aj (pv 3) ao))))
   (aq (aM (i:=8) gG.nd rfl (Or.inl rfl) (aW zJ (hr.mono (by decide)) (by rfl) (aj (pv 1) (aj (pv 3) (aj (aW bH (hr.mono (by decide)) (by rfl) (aj (pv 1) (aj au ao))) ao)))))
   (aq (cF (bh mz (aW bH (hr.mono (by decide)) (by rfl) (aj (pv 1) (aj au ao))) au (bw _)) (aF (aM (i:=8) gG.nd rfl (Or.inl rfl) (jA (gO (K:=K) rfl) (by rfl) Bt.qN oY (aj (pv 5) ao)))) bG)
   (aq (aM (i:=9) gG.nd rfl (Or.inl rfl) (aW bH (hr.mono (by decide)) (by rfl) (aj (pv 1) (aj (aP bU (aR (bB (K:=K) rfl) (by rfl) Bt.jZ fQ (aj (pv 8) ao)) au) ao))))
   (aq (aM (i:=8) gG.nd rfl (Or.inl rfl) (aP je (aP je (bK (iT (K:=K) rfl) (pv 8) cB (bW (pv 9))) (bI (aj (pv 7) ao))) (bK (iT (K:=K) rfl) (pv 8) (bW (pv 9)) cB)))
   (aq (aM (i:=10) gG.nd rfl (Or.inl rfl) (dh (aj (jA (gO (K:=K) rfl) (by rfl) Bt.qN oY (aj (pv 2) ao)) (aj (jA (gO (K:=K) rfl) (by rfl) Bt.qN oY (aj (pv 8) ao)) ao))))
   (aq (cF (PW.pt (nM (bh mz (aW um (hr.mono (by decide)) (by rfl) (aj (aL (aN (K:=K) rfl) (pv 10) au (fun _ _=>rfl)) (aj au (aj (pv 7) (aj (aL (aN (K:=K) rfl) (pv 10) au (fun _ _=>rfl)) ao))))) (aW pq (hr.mono (by decide)) (by rfl) (aj (pv 3) (aj (pv 7) ao))) (bw _)) (lY (bh (Ci (K:=K) rfl pH) (pv 10) (dh (aj (pv 2) (aj (pv 8) ao))) (bw _))))) (aF (aY iD)) bG)
   (aq (qm (aW Ri (hr.mono (by decide)) (by rfl) (aj (pv 1) (aj (pv 3) (aj (pv 4) (aj (pv 7) ao))))) (Oo (K:=K) rfl rfl (bO (aO (i:=11) gG.nd rfl (Or.inl rfl)) (bO (aO (i:=12) gG.nd rfl (Or.inl rfl)) jK))))
   (aq (aM (i:=13) gG.nd rfl (Or.inl rfl) (dh (aj (jA (gO (K:=K) rfl) (by rfl) Bt.qN oY (aj (aL (JH (K:=K) rfl) (pv 12) au (fun _ _=>rfl)) ao)) (aj (jA (gO (K:=K) rfl) (by rfl) Bt.qN oY (aj (aL (JH (K:=K) rfl) (pv 12) au (fun _ _=>rfl)) ao)) ao))))
   (aq (cF (bh mQ (aW um (hr.mono (by decide)) (by rfl) (aj (aL (aN (K:=K) rfl) (pv 10) au (fun _ _=>rfl)) (aj au (aj (pv 7) (aj V8 ao))))) (cW (mj (K:=K) rfl hr.m6) (pv 7) (pv 5) (by with_unfolding_all rfl)) (bw _)) (aF (aY iD)) bG)
   (aq (cF (bh mQ (aW um (hr.mono (by decide)) (by rfl) (aj (aL (aN (K:=K) rfl) (pv 10) au (fun _ _=>rfl)) (aj au (aj (pv 11) (aj (pv 13) ao))))) (cW (mj (K:=K) rfl hr.m6) (pv 11) (pv 5) (by with_unfolding_all rfl)) (bw _)) (aF (aY iD)) bG)
   (aF (cF (PW.pt (nM (bh (Ci (K:=K) rfl pH) (pv 10) (dh (aj (pv 2) (aj (pv 8) ao))) (bw _)) (lY (bh (Ci (K:=K) rfl pH) (pv 13) (pv 12) (bw _))))) (aF (aY iD)) bG))))))))))))))
   (aF (aY iD)))))))), ?_⟩
  refine ⟨_,rfl,sa,sns,rfl,hS,hlen,fun r H1 hr1 S1 Uk=> ?_⟩
  refine ⟨_,rfl,r,300,rfl,S1,by decide,by decide,fun w ws H2 hw W ok wl S2 k2=> ?_⟩
  have nwr:w≠r:=S1.ne hw
  have zQ:∀x∈ws,0<=x.1/\x.1<8:=fun x hx=>(ok x hx).1
  have smS:Same H H2:=fun b o e=>k2 b o (Uk b o e) (aD e hr1)
  refine ⟨_,rfl,w,ws,rfl,W,ok,wl,fun c H3 hc C3 s3=> ?_⟩
  have Cq:=S2.ne hc
  have W3:=W.same s3
  have S3:=S2.keep s3
  refine ⟨_,rfl,_,rfl,w,c,ws,rfl,W3,C3,ok,wl,fun tb H4 T4 s4=> ?_⟩
  refine ⟨_,rfl,_,rfl,_,rfl,w,c,tb,ws,H3,rfl,W3.same s4,C3.same s4,T4,ok,wl,fun pr H5 hpr P5 s5=> ?_⟩
  have TS5:Q6 ws H5 tb r:=by
   obtain ⟨rs,e0,e1,l,q⟩:=T4.same s5
   obtain ⟨o,ho⟩:=S3.at
   refine ⟨rs,e1,(aD ho e0).symm,l,fun j p hj=> ?_⟩
   obtain ⟨_,n2,a,ha,ra⟩:=q j p hj
   exact ⟨(aD ho n2).symm,a,ha,ra⟩
  have Yy:=s4.trans s5
  have S5:=S3.keep Yy
  have W5:=W3.same Yy
  have C5:=C3.same Yy
  have sS5:=smS.trans (s3.trans Yy)
  clear T4 s4 s5 Yy S3 W3 C3 s3 W S2 k2 S1 smS
  obtain ⟨pv,hpv,dpv⟩:=id P5
  have pvl:pv.length=(eV ws ws.length).length:=by rw [dpv.length,List.length_map]
  have ll:=JF ws ws.length
  have nn:ws.length*ws.length<=300*300:=Nat.mul_le_mul wl wl
  refine ⟨pr,rfl,⟨_,aZ.of hpv⟩,fun D hD=> ?_⟩
  refine Lx (K:=K) (fun i=>((eV ws ws.length)[i]?).bind fun x=>some (nD (eU ws x.1.toNat x.2.toNat))) (fun i d h=> ?_) hD hpv (by omega) (fun i v hi=> ?_) (fun i t x y H6 G F' hi ht s6 kG kF=> ?_) (fun H6 us s6 e6 d6=> ?_)
  ·cases e:(eV ws ws.length)[i]? with
   | none=>rw [e] at h;cases h
   | some z=>rw [e] at h;cases h;rfl
  ·obtain ⟨x,t,_,rfl,ht⟩:=qY dpv hi
   exact ⟨t,_,_,rfl,ht⟩
  ·obtain ⟨z,t',ez,et,ht'⟩:=qY dpv hi
   cases et
   rw [ht] at ht'
   injection ht' with q
   injection q with q
   injection q with q1 q2
   injection q2 with q2 _
   subst q1 q2
   obtain ⟨i1,j1,rfl,np⟩:=Pg (List.mem_of_getElem? ez)
   obtain ⟨cv,c1,hcv,ec1,hc1⟩:=iw (C5.same s6) (jf (Nat.lt_trans np.lt np.jl))
   obtain ⟨cv',c2,Qa,ec2,hc2⟩:=iw (C5.same s6) (jf np.jl)
   have ev:cv=cv':=by rw [hcv] at Qa;injection Qa with q;injection q
   subst ev
   refine ⟨_,rfl,_,rfl,_,_,_,_,rfl,rfl,aZ.of hcv,bM ec1,_,rfl,_,rfl,_,_,_,_,rfl,rfl,aZ.of hcv,bM ec2, ?_⟩
   refine rF hc1 hc2 fun q H7 hq s7=> ?_
   exact kF _ (nD (eU ws i1 j1)) _ s7 (by rw [ez];rfl) (t_ (x:=eU ws i1 j1) hq)
  have N6:dZ H6 D (Ms ws):=by
   refine ⟨us,e6, ?_⟩
   have e:(List.range pv.length).filterMap (fun i=>((eV ws ws.length)[i]?).bind fun x=>some (nD (eU ws x.1.toNat x.2.toNat)))=(Ms ws).map nD:=by
    rw [pvl,HW]
    unfold Ms
    rw [List.map_map,←List.filterMap_eq_map]
    rfl
   rw [e] at d6
   exact d6
  have nDr:D≠r:=S5.ne hD
  have nml:(Ms ws).length<=89000:=by unfold Ms;rw [List.length_map];omega
  have st6:bx H6 r/\cJ H6 w ws/\cL H6 c (nm ws)/\Q6 ws H6 tb r/\dZ H6 D (Ms ws):=⟨S5.keep s6,W5.same s6,C5.same s6,TS5.same s6,N6⟩
  have hS6:=(sS5.trans s6).seq hS
  clear N6 d6 e6 s6 S5 W5 C5 TS5 sS5 hpv dpv P5 hD
  refine ⟨_,rfl,sa,_,rfl,.inl hS6,_,_,rfl,_,_,rfl,rfl,_,rfl, ?_, ?_, ?_⟩
  ·rw [List.length_map];split<;>omega
  ·rw [List.length_map];split<;>omega
  refine iG (lo:=0) (n:=_) (fun i σ H7=>∃(x1 x2 x3 x4 x5 x6 x7 x8:Option V),σ=[some (.ref sa),some (.ref r),some (.ref w),some (.ref c),some (.ref tb),some (.ref D),x1,x2,x3,x4,x5,x6,x7,x8]/\bx H7 r/\cJ H7 w ws/\cL H7 c (nm ws)/\Q6 ws H7 tb r/\dZ H7 D (Ms ws))
   ⟨none,none,none,none,none,none,none,none,rfl,st6⟩ ?_ (fun σ H7 _=>k H7)
  rintro i σ H7 hi ⟨x1,x2,x3,x4,x5,x6,x7,x8,rfl,S7,W7,C7,T7,N7⟩
  refine ⟨_,rfl,_,rfl,r,c,nm ws,rfl,S7,C7,Cq,by rw [bN];exact wl,fun t x H8 ht S8 k8=> ?_⟩
  refine ⟨_,rfl,_,rfl,_,rfl,r,6,rfl,S8,by decide,by decide,fun m H9 m0 m1 S9 k9=> ?_⟩
  have k79:=k8.trans k9
  refine ⟨r,c,ws,m,rfl,S9,C7.v8 S7 k79 Cq,Cq,wl,m0,by omega,fun s1 es1 HA hs1 NA el1 ZM SA kA=> ?_⟩
  have k7A:=k79.trans kA
  have htA:=(S8.tups (k9.trans kA)) _ _ ht
  have Y7:s1≠r:=S9.ne hs1
  clear k79 k8 k9 kA S8 S9 ht hs1
  dsimp only
  refine oO (fun σ HB=>∃(s:Addr) (es:List Nt),σ=[some (.ref sa),some (.ref r),some (.ref w),some (.ref c),some (.ref tb),some (.ref D),some (.int (0+(i:Int))),some (.ref t),some (.ref s),x4,x5,x6,x7,x8]/\dZ HB s es/\s≠r/\es.length<=89000/\(∀x∈es,j5 ws x)/\bx HB r/\Kp r H7 HB/\HB t=some (.tup (nV x))) (fun D' hD' XS=> ?_) ?_
  ·refine ⟨_,rfl,r,4,rfl,SA,by decide,by decide,fun z HB z0 z1 SB kB=> ?_⟩
   refine ⟨rfl,_,rfl, ?_⟩
   refine rN (fun _=> ?_) (fun _=> ?_)
   ·obtain ⟨dv,hdv,ddv⟩:=id (N7.v8 S7 (k7A.trans kB) nDr)
    refine ⟨_,rfl,D,_,rfl,.inl (aZ.of hdv),fun l hl=> ?_⟩
    have sl:=aB (o:=HO.lst dv) hl
    exact hD' _ _ ⟨l,Ms ws,rfl,⟨dv,ak,aH.keep sl.tups _ (bA _ mG _) ddv⟩,SB.ne hl,nml,fun y hy=>by
     obtain ⟨i',j',rfl,np⟩:=nO (JB.mp hy)
     exact np.str,SB.keep sl,(k7A.trans kB).trans (.of_same sl),sl _ _ (SA.tups kB _ _ htA)⟩
   ·exact hD' _ _ ⟨s1,es1,rfl,NA.v8 SA kB Y7,Y7,by omega,ZM,SB,k7A.trans kB,SA.tups kB _ _ htA⟩
  rintro σ HB ⟨s2,es,rfl,NB,aeC,esl,est,SB,k7B,htB⟩
  clear NA k7A SA htA ZM el1
  obtain ⟨sv,hsv,dsv⟩:=id NB
  have svl:sv.length=es.length:=by rw [dsv.length,List.length_map]
  refine ⟨_,rfl,_,rfl,s2,_,rfl,.inl (aZ.of hsv),_,_,rfl,rfl,r,_,rfl,SB,by omega,by omega,fun at1 HC a0 a1 SC kC=> ?_⟩
  obtain ⟨am,rfl⟩:=Int.eq_ofNat_of_zero_le a0
  have k7C:=k7B.trans kC
  have hsC:=kC _ _ hsv aeC
  have htC:=SB.tups kC _ _ htB
  have dsC:=aH.keep (SB.tups kC) _ (bA _ mG _) dsv
  clear hsv dsv NB
  refine ⟨_,rfl,_,rfl,_,rfl,s2,_,rfl,aZ.of hsC,fun p1 hp1=> ?_⟩
  rw [zm]
  have u1:=aB (o:=HO.lst (sv.take am)) hp1
  refine ⟨_,rfl,(by show 1<=sizeLine;decide),fun p2 hp2=> ?_⟩
  have u2:=aB (o:=HO.lst [V.ref t]) hp2
  refine ⟨p1,p2,_,_,rfl,rfl,u2 _ _ ak,ak,by rw [sizeLine_eq,List.length_take];simp;omega,fun p3 hp3=> ?_⟩
  have u3:=aB (o:=HO.lst (sv.take am++[V.ref t])) hp3
  have Rk:=(u1.trans u2).trans u3
  refine ⟨_,rfl,_,rfl,_,rfl,s2,_,rfl,aZ.of (Rk _ _ hsC),fun p4 Zy=> ?_⟩
  rw [uM]
  have u4:=aB (o:=HO.lst (sv.drop am)) Zy
  refine ⟨p3,p4,_,_,rfl,rfl,u4 _ _ ak,ak,by rw [sizeLine_eq,List.length_append,List.length_take,List.length_drop];simp;omega,fun p5 hp5=> ?_⟩
  have u5:=aB (o:=HO.lst ((sv.take am++[V.ref t])++sv.drop am)) hp5
  have M_:=(Rk.trans u4).trans u5
  have F5:dZ (upd (upd (upd (upd (upd HC p1 (.lst (sv.take am))) p2 (.lst [V.ref t])) p3 (.lst (sv.take am++[V.ref t]))) p4 (.lst (sv.drop am))) p5 (.lst ((sv.take am++[V.ref t])++sv.drop am))) p5 ((es.take am++[x])++es.drop am):=by
   refine ⟨_,ak, ?_⟩
   rw [List.map_append,List.map_append]
   obtain ⟨h1,h2⟩:=TJ dsC am
   exact aH.append (aH.append (aH.keep M_.tups _ (bA _ mG _) h1) (U8 (t_ (x:=x) (M_ _ _ htC)))) (aH.keep M_.tups _ (bA _ mG _) h2)
  have fsl:((es.take am++[x])++es.drop am).length<=90000:=by rw [List.length_append,List.length_append,List.length_take,List.length_drop];simp;omega
  have fst:(¬j5 ws x) ↔ ¬ ∀y∈(es.take am++[x])++es.drop am,j5 ws y:=by
   refine not_congr ⟨fun h y hy=> ?_,fun h=>h x (by simp)⟩
   rcases List.mem_append.mp hy with z|z
   ·rcases List.mem_append.mp z with z|z
    ·exact est y (List.mem_of_mem_take z)
    ·simp at z;subst z;exact h
   ·exact est y (List.mem_of_mem_drop z)
  generalize upd (upd (upd (upd (upd HC p1 (.lst (sv.take am))) p2 (.lst [V.ref t])) p3 (.lst (sv.take am++[V.ref t]))) p4 (.lst (sv.drop am))) p5 (.lst ((sv.take am++[V.ref t])++sv.drop am))=HD at M_ F5
  generalize (es.take am++[x])++es.drop am=fs at F5 fsl fst
  have SD:=SC.keep M_
  have k7D:=k7C.trans (.of_same M_)
  have htD:=M_ _ _ htC
  have aeG:p5≠r:=(SC.keep (Rk.trans u4)).ne hp5
  clear u1 u2 u3 u4 u5 Rk M_ hsC dsC htC k7C k7B kC SB SC
  have WD:=W7.v8 S7 k7D nwr
  obtain ⟨wv,hwv,dwv⟩:=id WD
  refine ⟨_,rfl,w,_,rfl,.inl (aZ.of hwv),fun q1 hq1=> ?_⟩
  have v1:=aB (o:=HO.lst wv) hq1
  obtain ⟨fv,X4,ZR⟩:=id F5
  refine ⟨_,rfl,p5,_,rfl,.inl (aZ.of (v1 _ _ X4)),fun q2 hq2=> ?_⟩
  have v2:=aB (o:=HO.lst fv) hq2
  refine ⟨(by show 2<=sizeLine;decide),fun hd hhd=> ?_⟩
  have v3:=aB (o:=HO.tup [V.ref q1,V.ref q2]) hhd
  have v23:=v2.trans v3
  have M8:=v1.trans v23
  have aeF:q1≠r:=SD.ne hq1
  have aeE:q2≠r:=(SD.keep v1).ne hq2
  have Q1:cJ (upd (upd (upd HD q1 (.lst wv)) q2 (.lst fv)) hd (.tup [V.ref q1,V.ref q2])) q1 ws:=⟨wv,v23 _ _ ak,aH.keep M8.tups _ (bA _ yS ws) dwv⟩
  have Q2:dZ (upd (upd (upd HD q1 (.lst wv)) q2 (.lst fv)) hd (.tup [V.ref q1,V.ref q2])) q2 fs:=⟨fv,v3 _ _ ak,aH.keep M8.tups _ (bA _ mG _) ZR⟩
  have Qh:(upd (upd (upd HD q1 (.lst wv)) q2 (.lst fv)) hd (.tup [V.ref q1,V.ref q2])) hd=some (.tup [V.ref q1,V.ref q2]):=ak
  generalize upd (upd (upd HD q1 (.lst wv)) q2 (.lst fv)) hd (.tup [V.ref q1,V.ref q2])=HE at M8 Q1 Q2 Qh
  have k7E:=k7D.trans (.of_same M8)
  have SE':=SD.keep M8
  have Zu:=M8 _ _ htD
  have FE:=F5.same M8
  clear v1 v2 v3 v23 M8 hwv dwv X4 ZR WD F5 SD k7D htD
  refine ⟨_,rfl,_,_,_,_,rfl,rfl,cD.of Qh,rfl,_,rfl,_,rfl,_,_,_,_,rfl,rfl,cD.of Qh,rfl,q1,t,0,.ref q2,ws,x,¬j5 ws x,rfl,Q1,wl,zQ,Zu,.inl ⟨rfl,q2,fs,rfl,Q2,fsl,fst⟩,fun b1 HF hb1 sF=> ?_⟩
  refine ⟨_,rfl,_,rfl,c,t,ws,x,rfl,(C7.v8 S7 k7E Cq).same sF,sF _ _ Zu,fun b2 HG hb2 sG=> ?_⟩
  refine ⟨rfl,_,rfl, ?_⟩
  have nb:¬b1=b2:=fun z=>by
   subst z
   by_cases q:j5 ws x
   ·exact hb1.mp (hb2.mpr q) q
   ·exact q (hb2.mp (hb1.mpr q))
  rw [decide_eq_false (fun z=>nb (by injection z))]
  refine (show if false=true then _ else _ from cH ?_)
  have sEG:=sF.trans sG
  refine ⟨_,rfl,_,rfl,_,rfl,(by show 2<=sizeLine;decide),fun v1 hv1=> ?_⟩
  have sv1:=aB (o:=HO.tup [V.ref w,V.ref p5]) hv1
  have G9:=sEG.trans sv1
  refine ⟨_,_,CG (G9 _ _ Qh) (Q1.same G9) (Q2.same G9),CG ak ((W7.v8 S7 k7E nwr).same G9) (FE.same G9),qW ok fs,qW ok fs,_,rfl, ?_⟩
  rw [if_pos rfl,Qn]
  refine (show if false=true then _ else _ from cH ?_)
  generalize upd HG v1 (.tup [V.ref w,V.ref p5])=HH at G9
  clear sv1 sEG sF sG hb1 hb2 nb hv1
  have SH:=SE'.keep G9
  have k7H:=k7E.trans (.of_same G9)
  refine ⟨_,rfl,_,rfl,_,rfl,_,rfl,r,c,tb,t,ws,x,rfl,SH,C7.v8 S7 k7H Cq,Cq,T7.kp k7H,G9 _ _ Zu,ok,wl,fun ql t' p y HI hql ht' tw SI kI=> ?_⟩
  refine ⟨ql,_,_,rfl,aZ.of hql,_,_,rfl,_,_,rfl,rfl, ?_⟩
  obtain ⟨f,g,fs',gs',hp,Fi,Gi,fl,gl⟩:=tw
  have k7I:=k7H.trans kI
  have Q1I:=(Q1.same G9).v8 SH kI aeF
  have Q2I:=(Q2.same G9).v8 SH kI aeE
  have QhI:=SH.tups kI _ _ (G9 _ _ Qh)
  have FEI:=(FE.same G9).v8 SH kI aeG
  have htI:=SH.tups kI _ _ (G9 _ _ Zu)
  clear Q1 Q2 Qh FE Zu G9 kI SH k7H k7E SE'
  refine ⟨_,rfl,.inr (.inl ⟨_,_,_,_,rfl,rfl,cD.of hp,rfl,f,_,rfl,.inl (aZ.of Fi),fun l1 hl1=> ?_⟩)⟩
  have w1:=aB (o:=HO.lst (fs'.map V.int)) hl1
  refine ⟨_,rfl,.inr (.inl ⟨_,_,_,_,rfl,rfl,cD.of (w1 _ _ hp),rfl,g,_,rfl,.inl (aZ.of (Gi.same w1)),fun l2 hl2=> ?_⟩)⟩
  have w2:=aB (o:=HO.lst (gs'.map V.int)) hl2
  refine ⟨(by show 2<=sizeLine;decide),fun ls hls=> ?_⟩
  have w3:=aB (o:=HO.tup [V.ref l1,V.ref l2]) hls
  have w23:=w2.trans w3
  have w13:=w1.trans w23
  have L1:LI _ l1 fs':=w23 _ _ (ak (H:=HI) (a:=l1) (o:=HO.lst (fs'.map V.int)))
  have vZ:LI _ l2 gs':=w3 _ _ (ak (H:=upd HI l1 (HO.lst (fs'.map V.int))) (a:=l2) (o:=HO.lst (gs'.map V.int)))
  have Ls:(upd (upd (upd HI l1 (HO.lst (fs'.map V.int))) l2 (HO.lst (gs'.map V.int))) ls (HO.tup [V.ref l1,V.ref l2])) ls=some (.tup [V.ref l1,V.ref l2]):=ak
  generalize upd (upd (upd HI l1 (HO.lst (fs'.map V.int))) l2 (HO.lst (gs'.map V.int))) ls (HO.tup [V.ref l1,V.ref l2])=HJ at w13 L1 vZ Ls
  clear w1 w2 w3 w23
  have NI:=(N7.v8 S7 k7I nDr)
  have Uu:∀(z:Nt) (tz:Addr) HX,Same HI HX->HX tz=some (.tup (nV z)) -> ∀(R:VK),R (.bl (!decide (z∈jo ws ws.length))) HX->YH K true (.ref tz) (.ref D) HX R:=fun z tz HX sX hz R kR=>by
   obtain ⟨dv,hdv,ddv⟩:=id (NI.same sX)
   refine ⟨D,dv,nD z,(Ms ws).map nD,rfl,aZ.of hdv,ddv,t_ hz,rfl,fun e he=> ?_, ?_⟩
   ·obtain ⟨y,_,rfl⟩:=List.mem_map.mp he
    rfl
   rw [if_pos rfl,Q0]
   rw [show decide (z∈Ms ws)=decide (z∈jo ws ws.length) by rw [Bool.eq_iff_iff,decide_eq_true_iff,decide_eq_true_iff];exact JB]
   exact kR
  refine ⟨_,rfl,_,_,_,_,rfl,rfl,cD.of (w13 _ _ QhI),rfl,_,rfl,q1,t,1,.non,ws,x,x∉jo ws ws.length,rfl,Q1I.same w13,wl,zQ,w13 _ _ htI,.inr (.inl ⟨rfl,Iff.rfl⟩),fun b3 HK hb3 sK=> ?_⟩
  have eb3:b3 = !decide (x∈jo ws ws.length):=by rw [Bool.eq_iff_iff,hb3,Bool.not_eq_true',decide_eq_false_iff_not]
  subst eb3
  refine ⟨_,rfl,_,rfl,Uu x t _ (w13.trans sK) (sK _ _ (w13 _ _ htI)) _ ⟨rfl,_,rfl, ?_⟩⟩
  refine Ao rfl ?_
  have sJK:=w13.trans sK
  refine ⟨_,rfl,_,_,_,_,rfl,rfl,cD.of (sJK _ _ QhI),rfl,_,rfl,_,rfl,q1,t',2,.ref ls,ws,y,y∉jo ws ws.length,rfl,Q1I.same sJK,wl,zQ,sJK _ _ ht',.inr (.inr ⟨rfl,ls,l1,l2,fs',gs',rfl,sK _ _ Ls,L1.same sK,vZ.same sK,fl,gl,Iff.rfl⟩),fun b4 HL hb4 sL=> ?_⟩
  have eb4:b4 = !decide (y∈jo ws ws.length):=by rw [Bool.eq_iff_iff,hb4,Bool.not_eq_true',decide_eq_false_iff_not]
  subst eb4
  have sJL:=sJK.trans sL
  refine ⟨_,rfl,_,rfl,Uu y t' _ sJL (sJL _ _ ht') _ ⟨rfl,_,rfl, ?_⟩⟩
  refine Ao rfl ?_
  refine ⟨_,rfl,_,rfl,_,rfl,(by show 2<=sizeLine;decide),fun v2 hv2=> ?_⟩
  have sv2:=aB (o:=HO.tup [V.ref w,V.ref p5]) hv2
  have sM:=sJL.trans sv2
  have WI:=W7.v8 S7 k7I nwr
  refine ⟨_,_,CG (sM _ _ QhI) (Q1I.same sM) (Q2I.same sM),CG ak (WI.same sM) (FEI.same sM),qW ok fs,qW ok fs,_,rfl, ?_⟩
  rw [if_pos rfl,Qn]
  refine (show if false=true then _ else _ from cH ?_)
  have sKM:=(sK.trans sL).trans sv2
  refine ⟨_,rfl,_,rfl,_,_,Qw (sKM _ _ Ls) (L1.same sKM) (vZ.same sKM),Qw (sM _ _ hp) (Fi.same sM) (Gi.same sM),Ae _ _,Ae _ _,_,rfl, ?_⟩
  rw [if_pos rfl,Xg]
  refine (show if false=true then _ else _ from cH ?_)
  exact ⟨_,_,_,_,_,_,_,_,rfl,SI.keep sM,WI.same sM,(C7.v8 S7 k7I Cq).same sM,(T7.kp k7I).same sM,NI.same sM⟩
end
theorem len0 {us:List Value} (h:us.length=0):us=[]:=List.eq_nil_of_length_eq_zero h
theorem bC {us:List Value} {n:Nat} (h:us.length=n+1):∃a vs,us=a::vs/\vs.length=n:=by
 cases us with
 | nil=>cases h
 | cons a t=>exact ⟨a,t,rfl,Nat.succ.inj h⟩
theorem Io (kV doc pm:Value) (an:Option Addr) (cdv ct:Value) (us:List Value) (hl:us.length=(["script"]:List Str).length):bindArgs (PySem.W.fnOf "_law_spring" "_law_spring" (aJ gj) (aG gj) (aA gj) .none kV doc pm an cdv ct) ⟨us,[]⟩=pure ((["script"]:List Str).zip us):=by obtain ⟨_,_,rfl,h1⟩:=bC hl;cases len0 h1;rfl
theorem QT (kV doc pm:Value) (an:Option Addr) (cdv ct:Value) (us:List Value) (hl:us.length=(["spring","many"]:List Str).length):bindArgs (PySem.W.fnOf "_law_draw" "_law_draw" (aJ lK) (aG lK) (aA lK) .none kV doc pm an cdv ct) ⟨us,[]⟩=pure ((["spring","many"]:List Str).zip us):=by obtain ⟨_,_,rfl,h1⟩:=bC hl;obtain ⟨_,_,rfl,h2⟩:=bC h1;cases len0 h2;rfl
theorem TY (kV doc pm:Value) (an:Option Addr) (cdv ct:Value) (us:List Value) (hl:us.length=(["spring","most"]:List Str).length):bindArgs (PySem.W.fnOf "_law_web" "_law_web" (aJ oR) (aG oR) (aA oR) .none kV doc pm an cdv ct) ⟨us,[]⟩=pure ((["spring","most"]:List Str).zip us):=by obtain ⟨_,_,rfl,h1⟩:=bC hl;obtain ⟨_,_,rfl,h2⟩:=bC h1;cases len0 h2;rfl
theorem Gb (kV doc pm:Value) (an:Option Addr) (cdv ct:Value) (us:List Value) (hl:us.length=(["value"]:List Str).length):bindArgs (PySem.W.fnOf "is_whole" "is_whole" (aJ d_) (aG d_) (aA d_) .none kV doc pm an cdv ct) ⟨us,[]⟩=pure ((["value"]:List Str).zip us):=by obtain ⟨_,_,rfl,h1⟩:=bC hl;cases len0 h1;rfl
theorem Gf (kV doc pm:Value) (an:Option Addr) (cdv ct:Value) (us:List Value) (hl:us.length=(["value","count"]:List Str).length):bindArgs (PySem.W.fnOf "is_below" "is_below" (aJ eG) (aG eG) (aA eG) .none kV doc pm an cdv ct) ⟨us,[]⟩=pure ((["value","count"]:List Str).zip us):=by obtain ⟨_,_,rfl,h1⟩:=bC hl;obtain ⟨_,_,rfl,h2⟩:=bC h1;cases len0 h2;rfl
theorem QL (kV doc pm:Value) (an:Option Addr) (cdv ct:Value) (us:List Value) (hl:us.length=(["web"]:List Str).length):bindArgs (PySem.W.fnOf "names" "names" (aJ lG) (aG lG) (aA lG) .none kV doc pm an cdv ct) ⟨us,[]⟩=pure ((["web"]:List Str).zip us):=by obtain ⟨_,_,rfl,h1⟩:=bC hl;cases len0 h1;rfl
theorem wD (kV doc pm:Value) (an:Option Addr) (cdv ct:Value) (us:List Value) (hl:us.length=(["one","other"]:List Str).length):bindArgs (PySem.W.fnOf "touches_meet" "touches_meet" (aJ b_) (aG b_) (aA b_) .none kV doc pm an cdv ct) ⟨us,[]⟩=pure ((["one","other"]:List Str).zip us):=by obtain ⟨_,_,rfl,h1⟩:=bC hl;obtain ⟨_,_,rfl,h2⟩:=bC h1;cases len0 h2;rfl
theorem Il (kV doc pm:Value) (an:Option Addr) (cdv ct:Value) (us:List Value) (hl:us.length=(["web","place","later"]:List Str).length):bindArgs (PySem.W.fnOf "is_step" "is_step" (aJ fZ) (aG fZ) (aA fZ) .none kV doc pm an cdv ct) ⟨us,[]⟩=pure ((["web","place","later"]:List Str).zip us):=by obtain ⟨_,_,rfl,h1⟩:=bC hl;obtain ⟨_,_,rfl,h2⟩:=bC h1;obtain ⟨_,_,rfl,h3⟩:=bC h2;cases len0 h3;rfl
theorem Gd (kV doc pm:Value) (an:Option Addr) (cdv ct:Value) (us:List Value) (hl:us.length=(["web","order"]:List Str).length):bindArgs (PySem.W.fnOf "is_order" "is_order" (aJ eE) (aG eE) (aA eE) .none kV doc pm an cdv ct) ⟨us,[]⟩=pure ((["web","order"]:List Str).zip us):=by obtain ⟨_,_,rfl,h1⟩:=bC hl;obtain ⟨_,_,rfl,h2⟩:=bC h1;cases len0 h2;rfl
theorem FZ (kV doc pm:Value) (an:Option Addr) (cdv ct:Value) (us:List Value) (hl:us.length=(["web","order"]:List Str).length):bindArgs (PySem.W.fnOf "same_run" "same_run" (aJ d8) (aG d8) (aA d8) .none kV doc pm an cdv ct) ⟨us,[]⟩=pure ((["web","order"]:List Str).zip us):=by obtain ⟨_,_,rfl,h1⟩:=bC hl;obtain ⟨_,_,rfl,h2⟩:=bC h1;cases len0 h2;rfl
theorem Ge (kV doc pm:Value) (an:Option Addr) (cdv ct:Value) (us:List Value) (hl:us.length=(["name","known"]:List Str).length):bindArgs (PySem.W.fnOf "is_known" "is_known" (aJ eF) (aG eF) (aA eF) .none kV doc pm an cdv ct) ⟨us,[]⟩=pure ((["name","known"]:List Str).zip us):=by obtain ⟨_,_,rfl,h1⟩:=bC hl;obtain ⟨_,_,rfl,h2⟩:=bC h1;cases len0 h2;rfl
theorem QM (kV doc pm:Value) (an:Option Addr) (cdv ct:Value) (us:List Value) (hl:us.length=(["known","more"]:List Str).length):bindArgs (PySem.W.fnOf "learn" "learn" (aJ lH) (aG lH) (aA lH) .none kV doc pm an cdv ct) ⟨us,[]⟩=pure ((["known","more"]:List Str).zip us):=by obtain ⟨_,_,rfl,h1⟩:=bC hl;obtain ⟨_,_,rfl,h2⟩:=bC h1;cases len0 h2;rfl
theorem zZ (kV doc pm:Value) (an:Option Addr) (cdv ct:Value) (us:List Value) (hl:us.length=(["web","named","knowns","place"]:List Str).length):bindArgs (PySem.W.fnOf "bare_steps" "bare_steps" (aJ cT) (aG cT) (aA cT) .none kV doc pm an cdv ct) ⟨us,[]⟩=pure ((["web","named","knowns","place"]:List Str).zip us):=by obtain ⟨_,_,rfl,h1⟩:=bC hl;obtain ⟨_,_,rfl,h2⟩:=bC h1;obtain ⟨_,_,rfl,h3⟩:=bC h2;obtain ⟨_,_,rfl,h4⟩:=bC h3;cases len0 h4;rfl
theorem Ga (kV doc pm:Value) (an:Option Addr) (cdv ct:Value) (us:List Value) (hl:us.length=(["named","bare","name"]:List Str).length):bindArgs (PySem.W.fnOf "notes_to" "notes_to" (aJ d9) (aG d9) (aA d9) .none kV doc pm an cdv ct) ⟨us,[]⟩=pure ((["named","bare","name"]:List Str).zip us):=by obtain ⟨_,_,rfl,h1⟩:=bC hl;obtain ⟨_,_,rfl,h2⟩:=bC h1;obtain ⟨_,_,rfl,h3⟩:=bC h2;cases len0 h3;rfl
theorem QK (kV doc pm:Value) (an:Option Addr) (cdv ct:Value) (us:List Value) (hl:us.length=(["web"]:List Str).length):bindArgs (PySem.W.fnOf "notes" "notes" (aJ lF) (aG lF) (aA lF) .none kV doc pm an cdv ct) ⟨us,[]⟩=pure ((["web"]:List Str).zip us):=by obtain ⟨_,_,rfl,h1⟩:=bC hl;cases len0 h1;rfl
theorem Im (kV doc pm:Value) (an:Option Addr) (cdv ct:Value) (us:List Value) (hl:us.length=(["value"]:List Str).length):bindArgs (PySem.W.fnOf "is_note" "is_note" (aJ gb) (aG gb) (aA gb) .none kV doc pm an cdv ct) ⟨us,[]⟩=pure ((["value"]:List Str).zip us):=by obtain ⟨_,_,rfl,h1⟩:=bC hl;cases len0 h1;rfl
theorem wG (kV doc pm:Value) (an:Option Addr) (cdv ct:Value) (us:List Value) (hl:us.length=(["web","note"]:List Str).length):bindArgs (PySem.W.fnOf "check_fewest" "check_fewest" (aJ cj) (aG cj) (aA cj) .none kV doc pm an cdv ct) ⟨us,[]⟩=pure ((["web","note"]:List Str).zip us):=by obtain ⟨_,_,rfl,h1⟩:=bC hl;obtain ⟨_,_,rfl,h2⟩:=bC h1;cases len0 h2;rfl
theorem CV (kV doc pm:Value) (an:Option Addr) (cdv ct:Value) (us:List Value) (hl:us.length=(["web"]:List Str).length):bindArgs (PySem.W.fnOf "places_of" "places_of" (aJ dN) (aG dN) (aA dN) .none kV doc pm an cdv ct) ⟨us,[]⟩=pure ((["web"]:List Str).zip us):=by obtain ⟨_,_,rfl,h1⟩:=bC hl;cases len0 h1;rfl
theorem zY (kV doc pm:Value) (an:Option Addr) (cdv ct:Value) (us:List Value) (hl:us.length=(["web","one","other"]:List Str).length):bindArgs (PySem.W.fnOf "steps_left" "steps_left" (aJ cR) (aG cR) (aA cR) .none kV doc pm an cdv ct) ⟨us,[]⟩=pure ((["web","one","other"]:List Str).zip us):=by obtain ⟨_,_,rfl,h1⟩:=bC hl;obtain ⟨_,_,rfl,h2⟩:=bC h1;obtain ⟨_,_,rfl,h3⟩:=bC h2;cases len0 h3;rfl
theorem vJ (kV doc pm:Value) (an:Option Addr) (cdv ct:Value) (us:List Value) (hl:us.length=(["web","one","other"]:List Str).length):bindArgs (PySem.W.fnOf "ahead_of_both" "ahead_of_both" (aJ bT) (aG bT) (aA bT) .none kV doc pm an cdv ct) ⟨us,[]⟩=pure ((["web","one","other"]:List Str).zip us):=by obtain ⟨_,_,rfl,h1⟩:=bC hl;obtain ⟨_,_,rfl,h2⟩:=bC h1;obtain ⟨_,_,rfl,h3⟩:=bC h2;cases len0 h3;rfl
theorem Ik (kV doc pm:Value) (an:Option Addr) (cdv ct:Value) (us:List Value) (hl:us.length=(["web","note"]:List Str).length):bindArgs (PySem.W.fnOf "parting" "parting" (aJ fY) (aG fY) (aA fY) .none kV doc pm an cdv ct) ⟨us,[]⟩=pure ((["web","note"]:List Str).zip us):=by obtain ⟨_,_,rfl,h1⟩:=bC hl;obtain ⟨_,_,rfl,h2⟩:=bC h1;cases len0 h2;rfl
theorem z6 (kV doc pm:Value) (an:Option Addr) (cdv ct:Value) (us:List Value) (hl:us.length=(["first","second","one","other"]:List Str).length):bindArgs (PySem.W.fnOf "are_turned" "are_turned" (aJ cU) (aG cU) (aA cU) .none kV doc pm an cdv ct) ⟨us,[]⟩=pure ((["first","second","one","other"]:List Str).zip us):=by obtain ⟨_,_,rfl,h1⟩:=bC hl;obtain ⟨_,_,rfl,h2⟩:=bC h1;obtain ⟨_,_,rfl,h3⟩:=bC h2;obtain ⟨_,_,rfl,h4⟩:=bC h3;cases len0 h4;rfl
theorem vI (kV doc pm:Value) (an:Option Addr) (cdv ct:Value) (us:List Value) (hl:us.length=(["web","note","paper"]:List Str).length):bindArgs (PySem.W.fnOf "parting_shows" "parting_shows" (aJ bR) (aG bR) (aA bR) .none kV doc pm an cdv ct) ⟨us,[]⟩=pure ((["web","note","paper"]:List Str).zip us):=by obtain ⟨_,_,rfl,h1⟩:=bC hl;obtain ⟨_,_,rfl,h2⟩:=bC h1;obtain ⟨_,_,rfl,h3⟩:=bC h2;cases len0 h3;rfl
theorem CZ (kV doc pm:Value) (an:Option Addr) (cdv ct:Value) (us:List Value) (hl:us.length=(["places","note"]:List Str).length):bindArgs (PySem.W.fnOf "is_strict" "is_strict" (aJ dR) (aG dR) (aA dR) .none kV doc pm an cdv ct) ⟨us,[]⟩=pure ((["places","note"]:List Str).zip us):=by obtain ⟨_,_,rfl,h1⟩:=bC hl;obtain ⟨_,_,rfl,h2⟩:=bC h1;cases len0 h2;rfl
theorem wF (kV doc pm:Value) (an:Option Addr) (cdv ct:Value) (us:List Value) (hl:us.length=(["places","some"]:List Str).length):bindArgs (PySem.W.fnOf "check_strict" "check_strict" (aJ cg) (aG cg) (aA cg) .none kV doc pm an cdv ct) ⟨us,[]⟩=pure ((["places","some"]:List Str).zip us):=by obtain ⟨_,_,rfl,h1⟩:=bC hl;obtain ⟨_,_,rfl,h2⟩:=bC h1;cases len0 h2;rfl
theorem FW (kV doc pm:Value) (an:Option Addr) (cdv ct:Value) (us:List Value) (hl:us.length=(["places","some"]:List Str).length):bindArgs (PySem.W.fnOf "steps_by" "steps_by" (aJ d7) (aG d7) (aA d7) .none kV doc pm an cdv ct) ⟨us,[]⟩=pure ((["places","some"]:List Str).zip us):=by obtain ⟨_,_,rfl,h1⟩:=bC hl;obtain ⟨_,_,rfl,h2⟩:=bC h1;cases len0 h2;rfl
theorem CW (kV doc pm:Value) (an:Option Addr) (cdv ct:Value) (us:List Value) (hl:us.length=(["named","steps"]:List Str).length):bindArgs (PySem.W.fnOf "knowns_by" "knowns_by" (aJ dO) (aG dO) (aA dO) .none kV doc pm an cdv ct) ⟨us,[]⟩=pure ((["named","steps"]:List Str).zip us):=by obtain ⟨_,_,rfl,h1⟩:=bC hl;obtain ⟨_,_,rfl,h2⟩:=bC h1;cases len0 h2;rfl
theorem LC (kV doc pm:Value) (an:Option Addr) (cdv ct:Value) (us:List Value) (hl:us.length=(["web","some"]:List Str).length):bindArgs (PySem.W.fnOf "enough" "enough" (aJ iU) (aG iU) (aA iU) .none kV doc pm an cdv ct) ⟨us,[]⟩=pure ((["web","some"]:List Str).zip us):=by obtain ⟨_,_,rfl,h1⟩:=bC hl;obtain ⟨_,_,rfl,h2⟩:=bC h1;cases len0 h2;rfl
theorem Mf (kV doc pm:Value) (an:Option Addr) (cdv ct:Value) (us:List Value) (hl:us.length=(["web"]:List Str).length):bindArgs (PySem.W.fnOf "_law_calls" "_law_calls" (aJ jc) (aG jc) (aA jc) .none kV doc pm an cdv ct) ⟨us,[]⟩=pure ((["web"]:List Str).zip us):=by obtain ⟨_,_,rfl,h1⟩:=bC hl;cases len0 h1;rfl
theorem Ma (kV doc pm:Value) (an:Option Addr) (cdv ct:Value) (us:List Value) (hl:us.length=(["one","other"]:List Str).length):bindArgs (PySem.W.fnOf "_law_meets" "_law_meets" (aJ i_) (aG i_) (aA i_) .none kV doc pm an cdv ct) ⟨us,[]⟩=pure ((["one","other"]:List Str).zip us):=by obtain ⟨_,_,rfl,h1⟩:=bC hl;obtain ⟨_,_,rfl,h2⟩:=bC h1;cases len0 h2;rfl
theorem QS (kV doc pm:Value) (an:Option Addr) (cdv ct:Value) (us:List Value) (hl:us.length=(["one","other"]:List Str).length):bindArgs (PySem.W.fnOf "_law_step" "_law_step" (aJ lJ) (aG lJ) (aA lJ) .none kV doc pm an cdv ct) ⟨us,[]⟩=pure ((["one","other"]:List Str).zip us):=by obtain ⟨_,_,rfl,h1⟩:=bC hl;obtain ⟨_,_,rfl,h2⟩:=bC h1;cases len0 h2;rfl
theorem LQ (kV doc pm:Value) (an:Option Addr) (cdv ct:Value) (us:List Value) (hl:us.length=(["web","calls"]:List Str).length):bindArgs (PySem.W.fnOf "_law_table" "_law_table" (aJ iW) (aG iW) (aA iW) .none kV doc pm an cdv ct) ⟨us,[]⟩=pure ((["web","calls"]:List Str).zip us):=by obtain ⟨_,_,rfl,h1⟩:=bC hl;obtain ⟨_,_,rfl,h2⟩:=bC h1;cases len0 h2;rfl
theorem L_ (kV doc pm:Value) (an:Option Addr) (cdv ct:Value) (us:List Value) (hl:us.length=(["web","calls","table"]:List Str).length):bindArgs (PySem.W.fnOf "_law_notes" "_law_notes" (aJ iZ) (aG iZ) (aA iZ) .none kV doc pm an cdv ct) ⟨us,[]⟩=pure ((["web","calls","table"]:List Str).zip us):=by obtain ⟨_,_,rfl,h1⟩:=bC hl;obtain ⟨_,_,rfl,h2⟩:=bC h1;obtain ⟨_,_,rfl,h3⟩:=bC h2;cases len0 h3;rfl
theorem LR (kV doc pm:Value) (an:Option Addr) (cdv ct:Value) (us:List Value) (hl:us.length=(["note","at","how"]:List Str).length):bindArgs (PySem.W.fnOf "_law_other" "_law_other" (aJ iY) (aG iY) (aA iY) .none kV doc pm an cdv ct) ⟨us,[]⟩=pure ((["note","at","how"]:List Str).zip us):=by obtain ⟨_,_,rfl,h1⟩:=bC hl;obtain ⟨_,_,rfl,h2⟩:=bC h1;obtain ⟨_,_,rfl,h3⟩:=bC h2;cases len0 h3;rfl
theorem LK (kV doc pm:Value) (an:Option Addr) (cdv ct:Value) (us:List Value) (hl:us.length=(["spring","calls"]:List Str).length):bindArgs (PySem.W.fnOf "_law_tuple" "_law_tuple" (aJ iV) (aG iV) (aA iV) .none kV doc pm an cdv ct) ⟨us,[]⟩=pure ((["spring","calls"]:List Str).zip us):=by obtain ⟨_,_,rfl,h1⟩:=bC hl;obtain ⟨_,_,rfl,h2⟩:=bC h1;cases len0 h2;rfl
theorem z7 (kV doc pm:Value) (an:Option Addr) (cdv ct:Value) (us:List Value) (hl:us.length=(["calls","note"]:List Str).length):bindArgs (PySem.W.fnOf "_law_is_strict" "_law_is_strict" (aJ cV) (aG cV) (aA cV) .none kV doc pm an cdv ct) ⟨us,[]⟩=pure ((["calls","note"]:List Str).zip us):=by obtain ⟨_,_,rfl,h1⟩:=bC hl;obtain ⟨_,_,rfl,h2⟩:=bC h1;cases len0 h2;rfl
theorem wH (kV doc pm:Value) (an:Option Addr) (cdv ct:Value) (us:List Value) (hl:us.length=(["spring","calls","many"]:List Str).length):bindArgs (PySem.W.fnOf "_law_strict_ones" "_law_strict_ones" (aJ cu) (aG cu) (aA cu) .none kV doc pm an cdv ct) ⟨us,[]⟩=pure ((["spring","calls","many"]:List Str).zip us):=by obtain ⟨_,_,rfl,h1⟩:=bC hl;obtain ⟨_,_,rfl,h2⟩:=bC h1;obtain ⟨_,_,rfl,h3⟩:=bC h2;cases len0 h3;rfl
theorem Gg (kV doc pm:Value) (an:Option Addr) (cdv ct:Value) (us:List Value) (hl:us.length=(["web","door","note","more"]:List Str).length):bindArgs (PySem.W.fnOf "_law_refused" "_law_refused" (aJ eN) (aG eN) (aA eN) .none kV doc pm an cdv ct) ⟨us,[]⟩=pure ((["web","door","note","more"]:List Str).zip us):=by obtain ⟨_,_,rfl,h1⟩:=bC hl;obtain ⟨_,_,rfl,h2⟩:=bC h1;obtain ⟨_,_,rfl,h3⟩:=bC h2;obtain ⟨_,_,rfl,h4⟩:=bC h3;cases len0 h4;rfl
theorem Ip (kV doc pm:Value) (an:Option Addr) (cdv ct:Value) (us:List Value) (hl:us.length=(["calls","table","note"]:List Str).length):bindArgs (PySem.W.fnOf "_law_parted" "_law_parted" (aJ gk) (aG gk) (aA gk) .none kV doc pm an cdv ct) ⟨us,[]⟩=pure ((["calls","table","note"]:List Str).zip us):=by obtain ⟨_,_,rfl,h1⟩:=bC hl;obtain ⟨_,_,rfl,h2⟩:=bC h1;obtain ⟨_,_,rfl,h3⟩:=bC h2;cases len0 h3;rfl
theorem Mh (kV doc pm:Value) (an:Option Addr) (cdv ct:Value) (us:List Value) (hl:us.length=(["spring","calls","table","note"]:List Str).length):bindArgs (PySem.W.fnOf "_law_asked" "_law_asked" (aJ jd) (aG jd) (aA jd) .none kV doc pm an cdv ct) ⟨us,[]⟩=pure ((["spring","calls","table","note"]:List Str).zip us):=by obtain ⟨_,_,rfl,h1⟩:=bC hl;obtain ⟨_,_,rfl,h2⟩:=bC h1;obtain ⟨_,_,rfl,h3⟩:=bC h2;obtain ⟨_,_,rfl,h4⟩:=bC h3;cases len0 h4;rfl
theorem all_mk {l:PySem.W.OpenLaw} {w:World} {K:PySem.W.Frag} {h:Heap} {mg:Str->Option Value} {fa f0 f1 f2 f3 f4 f5 f6 f7 f8 f9 ZL f11 f12 f13 f14 f15 f16 f17 f18 f19 f20 f21 f22 f23 f24 f25 f26 f27 f28 f29 f30 f31 f32 f33 f34 f35 f36 f37 f38 f39 f40 aC cZ lu gR fu fj dG cO eZ dI dH lq cN dF:Addr} (X:K.In h) (G:h.Ns mainGlobals mg) (hfa:mg "law" = some (.ref fa))
 {od0 an0 od1 an1 od2 an2 od3 an3 od4 an4 od5 an5 od6 an6 od7 an7 od8 an8 od9 an9 ad3 aij ad2 aii ad1 aif ad0 aie adZ aic adY aib adX aia adW ah' adV ah_ adU ah9 adT ah8 adS ah7 adR ah6 adQ ah5 adP ah4 adO ah3 adN ah2 adM ah1 adL ah0 adK ahZ adJ ahY adI ahX adH ahW adG ahV adF ahU adE ahT adD ahS adC ahR adB ahQ adA ahP adz aav:Option Addr} {sl0 sl1 sl2 sl3 sl4 sl5 sl6 sl7 sl8 sl9 acP acO acN acM acL acK acJ acI acH acG acF acE acD acC acB acA acz acy acw acv acu acs acr acq acp aco acn acj aci ach acg:Array (Option Value)} {oc0 kV0 dc0 pm0 cd0 ct0 oc1 kV1 dc1 pm1 cd1 ct1 oc2 kV2 dc2 pm2 cd2 ct2 oc3 kV3 dc3 pm3 cd3 ct3 oc4 kV4 dc4 pm4 cd4 ct4 oc5 kV5 dc5 pm5 cd5 ct5 oc6 kV6 dc6 pm6 cd6 ct6 oc7 kV7 dc7 pm7 cd7 ct7 oc8 kV8 dc8 pm8 cd8 ct8 oc9 kV9 dc9 pm9 cd9 ct9 aey afO agR adw aat ahm aex afN agQ adv aas ahl aew afM agP adu aar ahk aev afL agO adt aaq ahj aeu afK agN adq aap ahi aes afJ agM adp aao ahh aer afI agL ado aan ahg aep afH agK adn aam ahf aeo afG agJ adl aal ahe aen afF agI adk aak ahd aem afE agH adi aaj ahc ael afD agG adh aai ahb aek afC agF adg aah aha aej afB agE adf aag ag' aei afA agD ade aaf ag9 aeh afz agC adb aae ag8 aeg afy agB ada aad ag7 aef afx agA ac' aac ag6 aee afw agz ac_ Z_ ag5 aed afv agy ac9 Z9 ag4 aec afu agx ac8 Z8 ag3 aeb aft agw ac7 Z7 ag2 aea afs agv ac6 Z6 ag1 ad' afr agu ac5 Z5 ag0 ad_ afq agt ac4 Z4 agZ ad9 afp ags ac3 Z2 agY ad8 afo agr ac2 Z1 agX ad7 afn agq ac1 Z0 agW ad6 afm agp ac0 ZX agV ad5 afl ago acZ ZW agU ad4 Zi ZS YS Xn ZV:Value}
 (a0:PySem.W.nsIn K mainGlobals "_law_spring" = some (some (.ref f0))) (l0:K.lookup f0=some ⟨oc0,od0,.func (PySem.W.fnOf "_law_spring" "_law_spring" (aJ gj) (aG gj) (aA gj) .none kV0 dc0 pm0 an0 cd0 ct0),sl0⟩) (c0:PySem.W.codeIn K cd0 "_law_spring" = true) (k0:PySem.W.keepIn K (.ref f0)=true)
 (a1:PySem.W.nsIn K mainGlobals "_law_draw" = some (some (.ref f1))) (l1:K.lookup f1=some ⟨oc1,od1,.func (PySem.W.fnOf "_law_draw" "_law_draw" (aJ lK) (aG lK) (aA lK) .none kV1 dc1 pm1 an1 cd1 ct1),sl1⟩) (c1:PySem.W.codeIn K cd1 "_law_draw" = true) (k1:PySem.W.keepIn K (.ref f1)=true)
 (a2:PySem.W.nsIn K mainGlobals "_law_web" = some (some (.ref f2))) (l2:K.lookup f2=some ⟨oc2,od2,.func (PySem.W.fnOf "_law_web" "_law_web" (aJ oR) (aG oR) (aA oR) .none kV2 dc2 pm2 an2 cd2 ct2),sl2⟩) (c2:PySem.W.codeIn K cd2 "_law_web" = true) (k2:PySem.W.keepIn K (.ref f2)=true)
 (a3:PySem.W.nsIn K mainGlobals "is_whole" = some (some (.ref f3))) (l3:K.lookup f3=some ⟨oc3,od3,.func (PySem.W.fnOf "is_whole" "is_whole" (aJ d_) (aG d_) (aA d_) .none kV3 dc3 pm3 an3 cd3 ct3),sl3⟩) (c3:PySem.W.codeIn K cd3 "is_whole" = true) (k3:PySem.W.keepIn K (.ref f3)=true)
 (a4:PySem.W.nsIn K mainGlobals "is_below" = some (some (.ref f4))) (l4:K.lookup f4=some ⟨oc4,od4,.func (PySem.W.fnOf "is_below" "is_below" (aJ eG) (aG eG) (aA eG) .none kV4 dc4 pm4 an4 cd4 ct4),sl4⟩) (c4:PySem.W.codeIn K cd4 "is_below" = true) (k4:PySem.W.keepIn K (.ref f4)=true)
 (a5:PySem.W.nsIn K mainGlobals "names" = some (some (.ref f5))) (l5:K.lookup f5=some ⟨oc5,od5,.func (PySem.W.fnOf "names" "names" (aJ lG) (aG lG) (aA lG) .none kV5 dc5 pm5 an5 cd5 ct5),sl5⟩) (c5:PySem.W.codeIn K cd5 "names" = true) (k5:PySem.W.keepIn K (.ref f5)=true)
 (a6:PySem.W.nsIn K mainGlobals "touches_meet" = some (some (.ref f6))) (l6:K.lookup f6=some ⟨oc6,od6,.func (PySem.W.fnOf "touches_meet" "touches_meet" (aJ b_) (aG b_) (aA b_) .none kV6 dc6 pm6 an6 cd6 ct6),sl6⟩) (c6:PySem.W.codeIn K cd6 "touches_meet" = true) (k6:PySem.W.keepIn K (.ref f6)=true)
 (a7:PySem.W.nsIn K mainGlobals "is_step" = some (some (.ref f7))) (l7:K.lookup f7=some ⟨oc7,od7,.func (PySem.W.fnOf "is_step" "is_step" (aJ fZ) (aG fZ) (aA fZ) .none kV7 dc7 pm7 an7 cd7 ct7),sl7⟩) (c7:PySem.W.codeIn K cd7 "is_step" = true) (k7:PySem.W.keepIn K (.ref f7)=true)
 (a8:PySem.W.nsIn K mainGlobals "is_order" = some (some (.ref f8))) (l8:K.lookup f8=some ⟨oc8,od8,.func (PySem.W.fnOf "is_order" "is_order" (aJ eE) (aG eE) (aA eE) .none kV8 dc8 pm8 an8 cd8 ct8),sl8⟩) (c8:PySem.W.codeIn K cd8 "is_order" = true) (k8:PySem.W.keepIn K (.ref f8)=true)
 (a9:PySem.W.nsIn K mainGlobals "same_run" = some (some (.ref f9))) (l9:K.lookup f9=some ⟨oc9,od9,.func (PySem.W.fnOf "same_run" "same_run" (aJ d8) (aG d8) (aA d8) .none kV9 dc9 pm9 an9 cd9 ct9),sl9⟩) (c9:PySem.W.codeIn K cd9 "same_run" = true) (k9:PySem.W.keepIn K (.ref f9)=true)
 (a10:PySem.W.nsIn K mainGlobals "is_known" = some (some (.ref ZL))) (l10:K.lookup ZL=some ⟨aey,ad3,.func (PySem.W.fnOf "is_known" "is_known" (aJ eF) (aG eF) (aA eF) .none afO agR adw aij aat ahm),acP⟩) (c10:PySem.W.codeIn K aat "is_known" = true) (k10:PySem.W.keepIn K (.ref ZL)=true)
 (a11:PySem.W.nsIn K mainGlobals "learn" = some (some (.ref f11))) (l11:K.lookup f11=some ⟨aex,ad2,.func (PySem.W.fnOf "learn" "learn" (aJ lH) (aG lH) (aA lH) .none afN agQ adv aii aas ahl),acO⟩) (c11:PySem.W.codeIn K aas "learn" = true) (k11:PySem.W.keepIn K (.ref f11)=true)
 (a12:PySem.W.nsIn K mainGlobals "bare_steps" = some (some (.ref f12))) (l12:K.lookup f12=some ⟨aew,ad1,.func (PySem.W.fnOf "bare_steps" "bare_steps" (aJ cT) (aG cT) (aA cT) .none afM agP adu aif aar ahk),acN⟩) (c12:PySem.W.codeIn K aar "bare_steps" = true) (k12:PySem.W.keepIn K (.ref f12)=true)
 (a13:PySem.W.nsIn K mainGlobals "notes_to" = some (some (.ref f13))) (l13:K.lookup f13=some ⟨aev,ad0,.func (PySem.W.fnOf "notes_to" "notes_to" (aJ d9) (aG d9) (aA d9) .none afL agO adt aie aaq ahj),acM⟩) (c13:PySem.W.codeIn K aaq "notes_to" = true) (k13:PySem.W.keepIn K (.ref f13)=true)
 (a14:PySem.W.nsIn K mainGlobals "notes" = some (some (.ref f14))) (l14:K.lookup f14=some ⟨aeu,adZ,.func (PySem.W.fnOf "notes" "notes" (aJ lF) (aG lF) (aA lF) .none afK agN adq aic aap ahi),acL⟩) (c14:PySem.W.codeIn K aap "notes" = true) (k14:PySem.W.keepIn K (.ref f14)=true)
 (a15:PySem.W.nsIn K mainGlobals "is_note" = some (some (.ref f15))) (l15:K.lookup f15=some ⟨aes,adY,.func (PySem.W.fnOf "is_note" "is_note" (aJ gb) (aG gb) (aA gb) .none afJ agM adp aib aao ahh),acK⟩) (c15:PySem.W.codeIn K aao "is_note" = true) (k15:PySem.W.keepIn K (.ref f15)=true)
 (a16:PySem.W.nsIn K mainGlobals "check_fewest" = some (some (.ref f16))) (l16:K.lookup f16=some ⟨aer,adX,.func (PySem.W.fnOf "check_fewest" "check_fewest" (aJ cj) (aG cj) (aA cj) .none afI agL ado aia aan ahg),acJ⟩) (c16:PySem.W.codeIn K aan "check_fewest" = true) (k16:PySem.W.keepIn K (.ref f16)=true)
 (a17:PySem.W.nsIn K mainGlobals "places_of" = some (some (.ref f17))) (l17:K.lookup f17=some ⟨aep,adW,.func (PySem.W.fnOf "places_of" "places_of" (aJ dN) (aG dN) (aA dN) .none afH agK adn ah' aam ahf),acI⟩) (c17:PySem.W.codeIn K aam "places_of" = true) (k17:PySem.W.keepIn K (.ref f17)=true)
 (a18:PySem.W.nsIn K mainGlobals "steps_left" = some (some (.ref f18))) (l18:K.lookup f18=some ⟨aeo,adV,.func (PySem.W.fnOf "steps_left" "steps_left" (aJ cR) (aG cR) (aA cR) .none afG agJ adl ah_ aal ahe),acH⟩) (c18:PySem.W.codeIn K aal "steps_left" = true) (k18:PySem.W.keepIn K (.ref f18)=true)
 (a19:PySem.W.nsIn K mainGlobals "ahead_of_both" = some (some (.ref f19))) (l19:K.lookup f19=some ⟨aen,adU,.func (PySem.W.fnOf "ahead_of_both" "ahead_of_both" (aJ bT) (aG bT) (aA bT) .none afF agI adk ah9 aak ahd),acG⟩) (c19:PySem.W.codeIn K aak "ahead_of_both" = true) (k19:PySem.W.keepIn K (.ref f19)=true)
 (a20:PySem.W.nsIn K mainGlobals "parting" = some (some (.ref f20))) (l20:K.lookup f20=some ⟨aem,adT,.func (PySem.W.fnOf "parting" "parting" (aJ fY) (aG fY) (aA fY) .none afE agH adi ah8 aaj ahc),acF⟩) (c20:PySem.W.codeIn K aaj "parting" = true) (k20:PySem.W.keepIn K (.ref f20)=true)
 (a21:PySem.W.nsIn K mainGlobals "are_turned" = some (some (.ref f21))) (l21:K.lookup f21=some ⟨ael,adS,.func (PySem.W.fnOf "are_turned" "are_turned" (aJ cU) (aG cU) (aA cU) .none afD agG adh ah7 aai ahb),acE⟩) (c21:PySem.W.codeIn K aai "are_turned" = true) (k21:PySem.W.keepIn K (.ref f21)=true)
 (a22:PySem.W.nsIn K mainGlobals "parting_shows" = some (some (.ref f22))) (l22:K.lookup f22=some ⟨aek,adR,.func (PySem.W.fnOf "parting_shows" "parting_shows" (aJ bR) (aG bR) (aA bR) .none afC agF adg ah6 aah aha),acD⟩) (c22:PySem.W.codeIn K aah "parting_shows" = true) (k22:PySem.W.keepIn K (.ref f22)=true)
 (a23:PySem.W.nsIn K mainGlobals "is_strict" = some (some (.ref f23))) (l23:K.lookup f23=some ⟨aej,adQ,.func (PySem.W.fnOf "is_strict" "is_strict" (aJ dR) (aG dR) (aA dR) .none afB agE adf ah5 aag ag'),acC⟩) (c23:PySem.W.codeIn K aag "is_strict" = true) (k23:PySem.W.keepIn K (.ref f23)=true)
 (a24:PySem.W.nsIn K mainGlobals "check_strict" = some (some (.ref f24))) (l24:K.lookup f24=some ⟨aei,adP,.func (PySem.W.fnOf "check_strict" "check_strict" (aJ cg) (aG cg) (aA cg) .none afA agD ade ah4 aaf ag9),acB⟩) (c24:PySem.W.codeIn K aaf "check_strict" = true) (SN:PySem.W.keepIn K (.ref f24)=true)
 (a25:PySem.W.nsIn K mainGlobals "steps_by" = some (some (.ref f25))) (l25:K.lookup f25=some ⟨aeh,adO,.func (PySem.W.fnOf "steps_by" "steps_by" (aJ d7) (aG d7) (aA d7) .none afz agC adb ah3 aae ag8),acA⟩) (c25:PySem.W.codeIn K aae "steps_by" = true) (k25:PySem.W.keepIn K (.ref f25)=true)
 (a26:PySem.W.nsIn K mainGlobals "knowns_by" = some (some (.ref f26))) (l26:K.lookup f26=some ⟨aeg,adN,.func (PySem.W.fnOf "knowns_by" "knowns_by" (aJ dO) (aG dO) (aA dO) .none afy agB ada ah2 aad ag7),acz⟩) (c26:PySem.W.codeIn K aad "knowns_by" = true) (k26:PySem.W.keepIn K (.ref f26)=true)
 (a27:PySem.W.nsIn K mainGlobals "enough" = some (some (.ref f27))) (l27:K.lookup f27=some ⟨aef,adM,.func (PySem.W.fnOf "enough" "enough" (aJ iU) (aG iU) (aA iU) .none afx agA ac' ah1 aac ag6),acy⟩) (c27:PySem.W.codeIn K aac "enough" = true) (k27:PySem.W.keepIn K (.ref f27)=true)
 (a28:PySem.W.nsIn K mainGlobals "_law_calls" = some (some (.ref f28))) (l28:K.lookup f28=some ⟨aee,adL,.func (PySem.W.fnOf "_law_calls" "_law_calls" (aJ jc) (aG jc) (aA jc) .none afw agz ac_ ah0 Z_ ag5),acw⟩) (c28:PySem.W.codeIn K Z_ "_law_calls" = true) (k28:PySem.W.keepIn K (.ref f28)=true)
 (a29:PySem.W.nsIn K mainGlobals "_law_meets" = some (some (.ref f29))) (l29:K.lookup f29=some ⟨aed,adK,.func (PySem.W.fnOf "_law_meets" "_law_meets" (aJ i_) (aG i_) (aA i_) .none afv agy ac9 ahZ Z9 ag4),acv⟩) (c29:PySem.W.codeIn K Z9 "_law_meets" = true) (k29:PySem.W.keepIn K (.ref f29)=true)
 (a30:PySem.W.nsIn K mainGlobals "_law_step" = some (some (.ref f30))) (l30:K.lookup f30=some ⟨aec,adJ,.func (PySem.W.fnOf "_law_step" "_law_step" (aJ lJ) (aG lJ) (aA lJ) .none afu agx ac8 ahY Z8 ag3),acu⟩) (c30:PySem.W.codeIn K Z8 "_law_step" = true) (k30:PySem.W.keepIn K (.ref f30)=true)
 (a31:PySem.W.nsIn K mainGlobals "_law_table" = some (some (.ref f31))) (l31:K.lookup f31=some ⟨aeb,adI,.func (PySem.W.fnOf "_law_table" "_law_table" (aJ iW) (aG iW) (aA iW) .none aft agw ac7 ahX Z7 ag2),acs⟩) (c31:PySem.W.codeIn K Z7 "_law_table" = true) (k31:PySem.W.keepIn K (.ref f31)=true)
 (a32:PySem.W.nsIn K mainGlobals "_law_notes" = some (some (.ref f32))) (l32:K.lookup f32=some ⟨aea,adH,.func (PySem.W.fnOf "_law_notes" "_law_notes" (aJ iZ) (aG iZ) (aA iZ) .none afs agv ac6 ahW Z6 ag1),acr⟩) (c32:PySem.W.codeIn K Z6 "_law_notes" = true) (k32:PySem.W.keepIn K (.ref f32)=true)
 (a33:PySem.W.nsIn K mainGlobals "_law_other" = some (some (.ref f33))) (l33:K.lookup f33=some ⟨ad',adG,.func (PySem.W.fnOf "_law_other" "_law_other" (aJ iY) (aG iY) (aA iY) .none afr agu ac5 ahV Z5 ag0),acq⟩) (c33:PySem.W.codeIn K Z5 "_law_other" = true) (k33:PySem.W.keepIn K (.ref f33)=true)
 (a34:PySem.W.nsIn K mainGlobals "_law_tuple" = some (some (.ref f34))) (l34:K.lookup f34=some ⟨ad_,adF,.func (PySem.W.fnOf "_law_tuple" "_law_tuple" (aJ iV) (aG iV) (aA iV) .none afq agt ac4 ahU Z4 agZ),acp⟩) (c34:PySem.W.codeIn K Z4 "_law_tuple" = true) (k34:PySem.W.keepIn K (.ref f34)=true)
 (a35:PySem.W.nsIn K mainGlobals "_law_is_strict" = some (some (.ref f35))) (l35:K.lookup f35=some ⟨ad9,adE,.func (PySem.W.fnOf "_law_is_strict" "_law_is_strict" (aJ cV) (aG cV) (aA cV) .none afp ags ac3 ahT Z2 agY),aco⟩) (c35:PySem.W.codeIn K Z2 "_law_is_strict" = true) (k35:PySem.W.keepIn K (.ref f35)=true)
 (a36:PySem.W.nsIn K mainGlobals "_law_strict_ones" = some (some (.ref f36))) (l36:K.lookup f36=some ⟨ad8,adD,.func (PySem.W.fnOf "_law_strict_ones" "_law_strict_ones" (aJ cu) (aG cu) (aA cu) .none afo agr ac2 ahS Z1 agX),acn⟩) (c36:PySem.W.codeIn K Z1 "_law_strict_ones" = true) (k36:PySem.W.keepIn K (.ref f36)=true)
 (a37:PySem.W.nsIn K mainGlobals "_law_refused" = some (some (.ref f37))) (l37:K.lookup f37=some ⟨ad7,adC,.func (PySem.W.fnOf "_law_refused" "_law_refused" (aJ eN) (aG eN) (aA eN) .none afn agq ac1 ahR Z0 agW),acj⟩) (c37:PySem.W.codeIn K Z0 "_law_refused" = true) (k37:PySem.W.keepIn K (.ref f37)=true)
 (a38:PySem.W.nsIn K mainGlobals "_law_parted" = some (some (.ref f38))) (l38:K.lookup f38=some ⟨ad6,adB,.func (PySem.W.fnOf "_law_parted" "_law_parted" (aJ gk) (aG gk) (aA gk) .none afm agp ac0 ahQ ZX agV),aci⟩) (c38:PySem.W.codeIn K ZX "_law_parted" = true) (k38:PySem.W.keepIn K (.ref f38)=true)
 (a39:PySem.W.nsIn K mainGlobals "_law_asked" = some (some (.ref f39))) (l39:K.lookup f39=some ⟨ad5,adA,.func (PySem.W.fnOf "_law_asked" "_law_asked" (aJ jd) (aG jd) (aA jd) .none afl ago acZ ahP ZW agU),ach⟩) (c39:PySem.W.codeIn K ZW "_law_asked" = true) (k39:PySem.W.keepIn K (.ref f39)=true)
 (a40:PySem.W.nsIn K mainGlobals "law" = some (some (.ref f40))) (l40:K.lookup f40=some ⟨ad4,adz,.func (PySem.W.fnOf "law" "law" (aJ uz) (aG uz) (aA uz) .none Zi ZS YS aav Xn ZV),acg⟩) (c40:PySem.W.codeIn K Xn "law" = true) (k40:PySem.W.keepIn K (.ref f40)=true)
 (uY:PySem.W.nsIn K mainGlobals "NoNote" = some (some (.ref aC)))
 (oF:(PySem.W.clsIn K aC).isSome=true)
 (sI:PySem.W.typeIn K (.ref aC)=some (.type "type"))
 (tL:PySem.W.subIn K (.ref aC) (.type "BaseException")=some true)
 (oJ:PySem.W.nsIn K mainGlobals "NoteError" = some (some (.ref cZ)))
 (mY:(PySem.W.clsIn K cZ).isSome=true)
 (mX:PySem.W.typeIn K (.ref cZ)=some (.type "type"))
 (mZ:PySem.W.subIn K (.ref cZ) (.type "BaseException")=some true)
 (Bm:PySem.W.nsIn K mainGlobals "Held" = some (some (.ref lu)))
 (xH:(PySem.W.clsIn K lu).isSome=true)
 (xu:PySem.W.typeIn K (.ref lu)=some (.type "type"))
 (xK:PySem.W.subIn K (.ref lu) (.type "BaseException")=some true)
 (xM:PySem.W.nsIn K mainGlobals "NoCut" = some (some (.ref gR)))
 (uV:(PySem.W.clsIn K gR).isSome=true)
 (uU:PySem.W.typeIn K (.ref gR)=some (.type "type"))
 (uW:PySem.W.subIn K (.ref gR) (.type "BaseException")=some true)
 (u0:PySem.W.nsIn K mainGlobals "NoForm" = some (some (.ref fu)))
 (tG:(PySem.W.clsIn K fu).isSome=true)
 (sO:PySem.W.typeIn K (.ref fu)=some (.type "type"))
 (tO:PySem.W.subIn K (.ref fu) (.type "BaseException")=some true)
 (uZ:PySem.W.nsIn K mainGlobals "NoHand" = some (some (.ref fj)))
 (tE:(PySem.W.clsIn K fj).isSome=true)
 (sJ:PySem.W.typeIn K (.ref fj)=some (.type "type"))
 (tM:PySem.W.subIn K (.ref fj) (.type "BaseException")=some true)
 (tR:PySem.W.nsIn K mainGlobals "NoneYet" = some (some (.ref dG)))
 (pP:(PySem.W.clsIn K dG).isSome=true)
 (pK:PySem.W.typeIn K (.ref dG)=some (.type "type"))
 (pW:PySem.W.subIn K (.ref dG) (.type "BaseException")=some true)
 (p8:PySem.W.nsIn K mainGlobals "NoNumber" = some (some (.ref cO)))
 (oE:(PySem.W.clsIn K cO).isSome=true)
 (ou:PySem.W.typeIn K (.ref cO)=some (.type "type"))
 (oH:PySem.W.subIn K (.ref cO) (.type "BaseException")=some true)
 (uX:PySem.W.nsIn K mainGlobals "NoText" = some (some (.ref eZ)))
 (sZ:(PySem.W.clsIn K eZ).isSome=true)
 (sH:PySem.W.typeIn K (.ref eZ)=some (.type "type"))
 (tK:PySem.W.subIn K (.ref eZ) (.type "BaseException")=some true)
 (tV:PySem.W.nsIn K mainGlobals "NoOrder" = some (some (.ref dI)))
 (pR:(PySem.W.clsIn K dI).isSome=true)
 (pN:PySem.W.typeIn K (.ref dI)=some (.type "type"))
 (pY:PySem.W.subIn K (.ref dI) (.type "BaseException")=some true)
 (tU:PySem.W.nsIn K mainGlobals "NoPlace" = some (some (.ref dH)))
 (pQ:(PySem.W.clsIn K dH).isSome=true)
 (pL:PySem.W.typeIn K (.ref dH)=some (.type "type"))
 (pX:PySem.W.subIn K (.ref dH) (.type "BaseException")=some true)
 (Bl:PySem.W.nsIn K mainGlobals "Over" = some (some (.ref lq)))
 (xG:(PySem.W.clsIn K lq).isSome=true)
 (xq:PySem.W.typeIn K (.ref lq)=some (.type "type"))
 (xJ:PySem.W.subIn K (.ref lq) (.type "BaseException")=some true)
 (pZ:PySem.W.nsIn K mainGlobals "RowError" = some (some (.ref cN)))
 (oA:(PySem.W.clsIn K cN).isSome=true)
 (oh:PySem.W.typeIn K (.ref cN)=some (.type "type"))
 (oG:PySem.W.subIn K (.ref cN) (.type "BaseException")=some true)
 (tQ:PySem.W.nsIn K mainGlobals "TooMany" = some (some (.ref dF)))
 (pO:(PySem.W.clsIn K dF).isSome=true)
 (pJ:PySem.W.typeIn K (.ref dF)=some (.type "type"))
 (pU:PySem.W.subIn K (.ref dF) (.type "BaseException")=some true)
 (fP:(Value.ref aC==Value.ref cZ)=false)
 (fO:PySem.W.subIn K (.ref aC) (.ref cZ)=some true)
 (kj:(Value.ref aC==Value.ref lu)=false)
 (j_:PySem.W.subIn K (.ref aC) (.ref lu)=some false)
 (jr:(Value.ref aC==Value.ref gR)=false)
 (jq:PySem.W.subIn K (.ref aC) (.ref gR)=some false)
 (iR:(Value.ref aC==Value.ref fu)=false)
 (iK:PySem.W.subIn K (.ref aC) (.ref fu)=some false)
 (iQ:(Value.ref aC==Value.ref fj)=false)
 (iJ:PySem.W.subIn K (.ref aC) (.ref fj)=some false)
 (g_:(Value.ref aC==Value.ref dG)=false)
 (gW:PySem.W.subIn K (.ref aC) (.ref dG)=some false)
 (gD:(Value.ref aC==Value.ref cO)=false)
 (gB:PySem.W.subIn K (.ref aC) (.ref cO)=some false)
 (iM:(Value.ref aC==Value.ref eZ)=false)
 (iI:PySem.W.subIn K (.ref aC) (.ref eZ)=some false)
 (ig:(Value.ref aC==Value.ref dI)=false)
 (gZ:PySem.W.subIn K (.ref aC) (.ref dI)=some false)
 (h_:(Value.ref aC==Value.ref dH)=false)
 (gY:PySem.W.subIn K (.ref aC) (.ref dH)=some false)
 (kh:(Value.ref aC==Value.ref lq)=false)
 (j9:PySem.W.subIn K (.ref aC) (.ref lq)=some false)
 (gC:(Value.ref aC==Value.ref cN)=false)
 (gA:PySem.W.subIn K (.ref aC) (.ref cN)=some false)
 (g8:(Value.ref aC==Value.ref dF)=false)
 (gU:PySem.W.subIn K (.ref aC) (.ref dF)=some false)
 (xcg:PySem.W.specialIn K (.builtin "object.__class__") "__get__" = some (some (.builtin "getset_descriptor.__get__")))
 (xct:PySem.W.takesIn K (.builtin "object.__class__")=some true)
 (sW:PySem.W.findIn K (.ref aC) "__getattribute__" = some (some (.builtin "BaseException.__getattribute__")))
 (sV:PySem.W.findIn K (.ref aC) "__getattr__" = some none)
 (sU:PySem.W.mroIn K aC (.type "BaseException")=some true)
 (tH:PySem.W.findIn K (.ref aC) "__class__" = some (some (.builtin "object.__class__")))
 (sS:PySem.W.mroIn K aC (.type "object")=some true)
 (sY:PySem.W.excIn K aC [.type "ValueError",.type "Exception",.type "BaseException",.type "object"] "ValueError.__new__" = true)
 (sE:PySem.W.subIn K (.ref aC) (.type "ValueError")=some true)
 (n_:PySem.W.nsIn K mainGlobals "ValueError" = some none) (M5:PySem.W.nsIn K mainGlobals "abs" = some none) (M4:PySem.W.nsIn K mainGlobals "all" = some none) (MP:PySem.W.nsIn K mainGlobals "any" = some none) (Gz:PySem.W.nsIn K mainGlobals "bool" = some none) (pI:PySem.W.nsIn K mainGlobals "enumerate" = some none) (MN:PySem.W.nsIn K mainGlobals "int" = some none) (nZ:PySem.W.nsIn K mainGlobals "isinstance" = some none) (MK:PySem.W.nsIn K mainGlobals "len" = some none) (Gy:PySem.W.nsIn K mainGlobals "list" = some none) (MJ:PySem.W.nsIn K mainGlobals "max" = some none) (MF:PySem.W.nsIn K mainGlobals "min" = some none) (Bk:PySem.W.nsIn K mainGlobals "range" = some none) (xg:PySem.W.nsIn K mainGlobals "sorted" = some none) (Bj:PySem.W.nsIn K mainGlobals "tuple" = some none):
 ∃fd:FuncData,(∀(s:Shared) (v:Value),BindsTo s fd ⟨[v],[]⟩ [("script",v)]) /\ ∀base:Heap,K.In base->base.Ns mainGlobals mg->cI l.prog w K mg base nF 8 fa fd ["script"] (Jh K):=by
 have e:=hfa.symm.trans (PySem.W.mg_of X G a40)
 cases e
 have Bt:uo mg:=⟨PySem.W.mg_none_of X G n_,PySem.W.mg_none_of X G M5,PySem.W.mg_none_of X G M4,PySem.W.mg_none_of X G MP,PySem.W.mg_none_of X G Gz,PySem.W.mg_none_of X G pI,PySem.W.mg_none_of X G MN,PySem.W.mg_none_of X G nZ,PySem.W.mg_none_of X G MK,PySem.W.mg_none_of X G Gy,PySem.W.mg_none_of X G MJ,PySem.W.mg_none_of X G MF,PySem.W.mg_none_of X G Bk,PySem.W.mg_none_of X G xg,PySem.W.mg_none_of X G Bj⟩
 have bL:Xr K mg aC "NoNote" :=⟨PySem.W.mg_of X G uY,⟨oF,sI,tL⟩,⟨sW,sV,sU,oF,tH,xcg,xct,sS⟩,sY,sE⟩
 have j7:Xo K mg aC cZ "NoteError" true:=⟨PySem.W.mg_of X G oJ,⟨mY,mX,mZ⟩,⟨fP,fO⟩⟩
 have Dj:Xo K mg aC lu "Held" false:=⟨PySem.W.mg_of X G Bm,⟨xH,xu,xK⟩,⟨kj,j_⟩⟩
 have w5:Xo K mg aC gR "NoCut" false:=⟨PySem.W.mg_of X G xM,⟨uV,uU,uW⟩,⟨jr,jq⟩⟩
 have uR:Xo K mg aC fu "NoForm" false:=⟨PySem.W.mg_of X G u0,⟨tG,sO,tO⟩,⟨iR,iK⟩⟩
 have uQ:Xo K mg aC fj "NoHand" false:=⟨PySem.W.mg_of X G uZ,⟨tE,sJ,tM⟩,⟨iQ,iJ⟩⟩
 have rJ:Xo K mg aC dG "NoneYet" false:=⟨PySem.W.mg_of X G tR,⟨pP,pK,pW⟩,⟨g_,gW⟩⟩
 have o9:Xo K mg aC cO "NoNumber" false:=⟨PySem.W.mg_of X G p8,⟨oE,ou,oH⟩,⟨gD,gB⟩⟩
 have uP:Xo K mg aC eZ "NoText" false:=⟨PySem.W.mg_of X G uX,⟨sZ,sH,tK⟩,⟨iM,iI⟩⟩
 have rM:Xo K mg aC dI "NoOrder" false:=⟨PySem.W.mg_of X G tV,⟨pR,pN,pY⟩,⟨ig,gZ⟩⟩
 have rK:Xo K mg aC dH "NoPlace" false:=⟨PySem.W.mg_of X G tU,⟨pQ,pL,pX⟩,⟨h_,gY⟩⟩
 have Di:Xo K mg aC lq "Over" false:=⟨PySem.W.mg_of X G Bl,⟨xG,xq,xJ⟩,⟨kh,j9⟩⟩
 have o8:Xo K mg aC cN "RowError" false:=⟨PySem.W.mg_of X G pZ,⟨oA,oh,oG⟩,⟨gC,gA⟩⟩
 have rH:Xo K mg aC dF "TooMany" false:=⟨PySem.W.mg_of X G tQ,⟨pO,pJ,pU⟩,⟨g8,gU⟩⟩
 have F0:=bF (st:=gj) l0 c0 k0
 have F1:=bF (st:=lK) l1 c1 k1
 have F2:=bF (st:=oR) l2 c2 k2
 have F3:=bF (st:=d_) l3 c3 k3
 have F4:=bF (st:=eG) l4 c4 k4
 have F5:=bF (st:=lG) l5 c5 k5
 have F6:=bF (st:=b_) l6 c6 k6
 have F7:=bF (st:=fZ) l7 c7 k7
 have F8:=bF (st:=eE) l8 c8 k8
 have F9:=bF (st:=d8) l9 c9 k9
 have F10:=bF (st:=eF) l10 c10 k10
 have F11:=bF (st:=lH) l11 c11 k11
 have F12:=bF (st:=cT) l12 c12 k12
 have F13:=bF (st:=d9) l13 c13 k13
 have F14:=bF (st:=lF) l14 c14 k14
 have F15:=bF (st:=gb) l15 c15 k15
 have F16:=bF (st:=cj) l16 c16 k16
 have F17:=bF (st:=dN) l17 c17 k17
 have F18:=bF (st:=cR) l18 c18 k18
 have F19:=bF (st:=bT) l19 c19 k19
 have F20:=bF (st:=fY) l20 c20 k20
 have F21:=bF (st:=cU) l21 c21 k21
 have F22:=bF (st:=bR) l22 c22 k22
 have F23:=bF (st:=dR) l23 c23 k23
 have F24:=bF (st:=cg) l24 c24 SN
 have F25:=bF (st:=d7) l25 c25 k25
 have F26:=bF (st:=dO) l26 c26 k26
 have F27:=bF (st:=iU) l27 c27 k27
 have F28:=bF (st:=jc) l28 c28 k28
 have F29:=bF (st:=i_) l29 c29 k29
 have F30:=bF (st:=lJ) l30 c30 k30
 have F31:=bF (st:=iW) l31 c31 k31
 have F32:=bF (st:=iZ) l32 c32 k32
 have F33:=bF (st:=iY) l33 c33 k33
 have F34:=bF (st:=iV) l34 c34 k34
 have F35:=bF (st:=cV) l35 c35 k35
 have F36:=bF (st:=cu) l36 c36 k36
 have F37:=bF (st:=eN) l37 c37 k37
 have F38:=bF (st:=gk) l38 c38 k38
 have F39:=bF (st:=jd) l39 c39 k39
 have F40:=bF (st:=uz) l40 c40 k40
 refine ⟨PySem.W.fnOf "law" "law" (aJ uz) (aG uz) (aA uz) .none Zi ZS YS aav Xn ZV,fun s v=> .of_eq rfl,fun base _ _=> ?_⟩
 have A0:FnAt l.prog w K mg base 1 "_law_spring" ["script"] (xZ K):=⟨f0,_,KD F0 Bt,PySem.W.mg_of X G a0,k0,F0.binds (ps:=["script"]) Io⟩
 have A1:FnAt l.prog w K mg base 1 "_law_draw" ["spring","many"] (m8 K):=⟨f1,_,R_ F1,PySem.W.mg_of X G a1,k1,F1.binds (ps:=["spring","many"]) QT⟩
 have A2:FnAt l.prog w K mg base 2 "_law_web" ["spring","most"] (Np K):=⟨f2,_,Wd F2 A1 Bt,PySem.W.mg_of X G a2,k2,F2.binds (ps:=["spring","most"]) TY⟩
 have A3:FnAt l.prog w K mg base 1 "is_whole" ["value"] (RJ K):=⟨f3,_,Em F3 Bt,PySem.W.mg_of X G a3,k3,F3.binds (ps:=["value"]) Gb⟩
 have A4:FnAt l.prog w K mg base 2 "is_below" ["value","count"] (BP K):=⟨f4,_,Eo F4 A3,PySem.W.mg_of X G a4,k4,F4.binds (ps:=["value","count"]) Gf⟩
 have A5:FnAt l.prog w K mg base 1 "names" ["web"] (uw K):=⟨f5,_,OJ F5,PySem.W.mg_of X G a5,k5,F5.binds (ps:=["web"]) QL⟩
 have A6:FnAt l.prog w K mg base 1 "touches_meet" ["one","other"] (GX K):=⟨f6,_,wu F6,PySem.W.mg_of X G a6,k6,F6.binds (ps:=["one","other"]) wD⟩
 have A7:FnAt l.prog w K mg base 2 "is_step" ["web","place","later"] (xY K):=⟨f7,_,Hl F7 A6,PySem.W.mg_of X G a7,k7,F7.binds (ps:=["web","place","later"]) Il⟩
 have A8:FnAt l.prog w K mg base 3 "is_order" ["web","order"] (qU K):=⟨f8,_,En F8 A4 Bt,PySem.W.mg_of X G a8,k8,F8.binds (ps:=["web","order"]) Gd⟩
 have A9:FnAt l.prog w K mg base 4 "same_run" ["web","order"] (Bv K):=⟨f9,_,Oz F9 A8 A7 Bt,PySem.W.mg_of X G a9,k9,F9.binds (ps:=["web","order"]) FZ⟩
 have A10:FnAt l.prog w K mg base 1 "is_known" ["name","known"] (wO K):=⟨ZL,_,O2 F10,PySem.W.mg_of X G a10,k10,F10.binds (ps:=["name","known"]) Ge⟩
 have A11:FnAt l.prog w K mg base 1 "learn" ["known","more"] (wN K):=⟨f11,_,O1 F11 Bt,PySem.W.mg_of X G a11,k11,F11.binds (ps:=["known","more"]) QM⟩
 have A12:FnAt l.prog w K mg base 3 "bare_steps" ["web","named","knowns","place"] (G4 K):=⟨f12,_,Sd F12 A7 A10 A11 Bt,PySem.W.mg_of X G a12,k12,F12.binds (ps:=["web","named","knowns","place"]) zZ⟩
 have A13:FnAt l.prog w K mg base 1 "notes_to" ["named","bare","name"] (u_ K):=⟨f13,_,Hj F13,PySem.W.mg_of X G a13,k13,F13.binds (ps:=["named","bare","name"]) Ga⟩
 have A14:FnAt l.prog w K mg base 4 "notes" ["web"] (BJ K):=⟨f14,_,OD F14 A5 A12 A13 Bt,PySem.W.mg_of X G a14,k14,F14.binds (ps:=["web"]) QK⟩
 have A15:FnAt l.prog w K mg base 2 "is_note" ["value"] (ux K):=⟨f15,_,Ho F15 A3 Bt,PySem.W.mg_of X G a15,k15,F15.binds (ps:=["value"]) Im⟩
 have A16:pF l.prog w K mg base 5 "check_fewest" ["web","note"] (Ji aC K):=⟨f16,_,Wj F16 bL A15 A14 Bt,PySem.W.mg_of X G a16,k16,F16.binds (ps:=["web","note"]) wG⟩
 have A17:FnAt l.prog w K mg base 2 "places_of" ["web"] (qe K):=⟨f17,_,KH F17 A5 Bt,PySem.W.mg_of X G a17,k17,F17.binds (ps:=["web"]) CV⟩
 have A18:FnAt l.prog w K mg base 3 "steps_left" ["web","one","other"] (GZ K):=⟨f18,_,R9 F18 A7 Bt,PySem.W.mg_of X G a18,k18,F18.binds (ps:=["web","one","other"]) zY⟩
 have A19:FnAt l.prog w K mg base 4 "ahead_of_both" ["web","one","other"] (BR K):=⟨f19,_,O5 F19 A18 Bt,PySem.W.mg_of X G a19,k19,F19.binds (ps:=["web","one","other"]) vJ⟩
 have A20:pF l.prog w K mg base 6 "parting" ["web","note"] (Bw aC K):=⟨f20,_,El F20 bL A16 A17 A19 Bt,PySem.W.mg_of X G a20,k20,F20.binds (ps:=["web","note"]) Ik⟩
 have A21:FnAt l.prog w K mg base 1 "are_turned" ["first","second","one","other"] (GQ K):=⟨f21,_,Kz F21 Bt,PySem.W.mg_of X G a21,k21,F21.binds (ps:=["first","second","one","other"]) z6⟩
 have A22:pF l.prog w K mg base 6 "parting_shows" ["web","note","paper"] (Nr aC K):=⟨f22,_,Wf F22 bL A16 A8 A17 A21 A9 Bt,PySem.W.mg_of X G a22,k22,F22.binds (ps:=["web","note","paper"]) vI⟩
 have A23:FnAt l.prog w K mg base 3 "is_strict" ["places","note"] (xX K):=⟨f23,_,KC F23 A15,PySem.W.mg_of X G a23,k23,F23.binds (ps:=["places","note"]) CZ⟩
 have A24:pF l.prog w K mg base 4 "check_strict" ["places","some"] (Nv aC K):=⟨f24,_,Wi F24 bL A23 Bt,PySem.W.mg_of X G a24,SN,F24.binds (ps:=["places","some"]) wF⟩
 have A25:FnAt l.prog w K mg base 1 "steps_by" ["places","some"] (Vx K):=⟨f25,_,Y4 F25 Bt,PySem.W.mg_of X G a25,k25,F25.binds (ps:=["places","some"]) FW⟩
 have A26:FnAt l.prog w K mg base 2 "knowns_by" ["named","steps"] (Vy K):=⟨f26,_,Y5 F26 A11 Bt,PySem.W.mg_of X G a26,k26,F26.binds (ps:=["named","steps"]) CW⟩
 have A27:pF l.prog w K mg base 5 "enough" ["web","some"] (Nu aC K):=⟨f27,_,Wh F27 bL A17 A24 A5 A25 A26 A6 A10 Bt,PySem.W.mg_of X G a27,k27,F27.binds (ps:=["web","some"]) LC⟩
 have A28:FnAt l.prog w K mg base 1 "_law_calls" ["web"] (BL K):=⟨f28,_,O4 F28 Bt,PySem.W.mg_of X G a28,k28,F28.binds (ps:=["web"]) Mf⟩
 have A29:FnAt l.prog w K mg base 1 "_law_meets" ["one","other"] (GX K):=⟨f29,_,KY F29,PySem.W.mg_of X G a29,k29,F29.binds (ps:=["one","other"]) Ma⟩
 have A30:FnAt l.prog w K mg base 2 "_law_step" ["one","other"] (wM K):=⟨f30,_,O6 F30 A29,PySem.W.mg_of X G a30,k30,F30.binds (ps:=["one","other"]) QS⟩
 have A31:FnAt l.prog w K mg base 3 "_law_table" ["web","calls"] (Bu K):=⟨f31,_,Ox F31 A30 Bt,PySem.W.mg_of X G a31,k31,F31.binds (ps:=["web","calls"]) LQ⟩
 have A32:FnAt l.prog w K mg base 3 "_law_notes" ["web","calls","table"] (yd K):=⟨f32,_,KR F32 A30 Bt,PySem.W.mg_of X G a32,k32,F32.binds (ps:=["web","calls","table"]) L_⟩
 have A33:FnAt l.prog w K mg base 1 "_law_other" ["note","at","how"] (Bx K):=⟨f33,_,KQ F33,PySem.W.mg_of X G a33,k33,F33.binds (ps:=["note","at","how"]) LR⟩
 have A34:FnAt l.prog w K mg base 2 "_law_tuple" ["spring","calls"] (Bs K):=⟨f34,_,KJ F34 A1 A33 Bt,PySem.W.mg_of X G a34,k34,F34.binds (ps:=["spring","calls"]) LK⟩
 have A35:FnAt l.prog w K mg base 1 "_law_is_strict" ["calls","note"] (BK K):=⟨f35,_,Sg F35,PySem.W.mg_of X G a35,k35,F35.binds (ps:=["calls","note"]) z7⟩
 have A36:FnAt l.prog w K mg base 2 "_law_strict_ones" ["spring","calls","many"] (GR K):=⟨f36,_,O7 F36 A1 Bt,PySem.W.mg_of X G a36,k36,F36.binds (ps:=["spring","calls","many"]) wH⟩
 have A37:FnAt l.prog w K mg base 7 "_law_refused" ["web","door","note","more"] (Nq K):=⟨f37,_,Sh F37 bL j7 Dj w5 uR uQ rJ o9 uP rM rK Di o8 rH A27 A20 A22 Bt,PySem.W.mg_of X G a37,k37,F37.binds (ps:=["web","door","note","more"]) Gg⟩
 have A38:FnAt l.prog w K mg base 1 "_law_parted" ["calls","table","note"] (yc K):=⟨f38,_,Hq F38 Bt,PySem.W.mg_of X G a38,k38,F38.binds (ps:=["calls","table","note"]) Ip⟩
 have A39:FnAt l.prog w K mg base 2 "_law_asked" ["spring","calls","table","note"] (Ny K):=⟨f39,_,Sq F39 A1 A35 A38 Bt,PySem.W.mg_of X G a39,k39,F39.binds (ps:=["spring","calls","table","note"]) Mh⟩
 exact Wg F40 A0 A1 A2 A28 A31 A32 A34 A36 A37 A35 A39 Bt
theorem walk {l:PySem.W.OpenLaw} {q:Program} {loose:List Str} {XP:(Str->Option Value)->Heap->Prop} {YP:World->Heap->Prop} {d:DefRec} {K:Params->PySem.W.Frag} (hn:l.most=some 63) (hdf:d.params.defaults=[])
 (hY:∀(w:World) (h:Heap),YP w h->(K w.params).In h)
 (F:∀(w:World) (mg:Str->Option Value) (fa:Addr) (h:Heap),(K w.params).In h->h.Ns mainGlobals mg->mg d.name=some (.ref fa) ->
   ∃fd:FuncData,(∀(s:Shared) (u:Value),BindsTo s fd ⟨[u],[]⟩ [("script",u)]) /\ ∀base:Heap,(K w.params).In base->base.Ns mainGlobals mg->cI l.prog w (K w.params) mg base nF 8 fa fd ["script"] (Jh (K w.params))):
 PySem.W.WalkO q loose XP YP l.row.toRowW d [] (fun f vs=>PySem.call f vs):=
 L2.Rv (n:=63) (k:=8) (x:= "script") (CX:=fun _=>nF) (sp:=fun w=>Jh (K w.params)) hn (by decide) hdf ⟨rfl,by decide,by decide⟩ hY F (fun _ _ a ns hl _ hS=>⟨a,ns,rfl,hS,hl,fun _=>rfl⟩) fun _ _ _ _ _ z=>z
end Prf
namespace PySem.W.Fast
def tw2970962424102827529:=()
def tw4270742218528258495:=()
def tw2447293259121971261:=()
def tw374791975913681481:=()
def tw7127216691977822911:=()
def tw897315503950264162:=()
def tw3525662317982513427:=()
def tw237908713368458310:=()
def tw11365982621066989477:=()
def tw9346700456605655483:=()
def tw9298759484759133897:=()
def tw7215458654349996494:=()
def tw8572293990237905401:=()
def tw1111712872547620872:=()
def tw10102842548189570606:=()
def tw15856399608042301200:=()
def tw15405673997722333086:=()
def tw8459776422371866979:=()
def tw6876814195018320028:=()
def tw17414476815722494312:=()
def tw1654388023485254158:=()
def tw6954108373403978981:=()
def tw15857854595876286135:=()
def tw5391445302856456380:=()
def tw4800700836647970467:=()
def tw1520641982457992104:=()
def tw5881047355742734304:=()
def tw7800636372202248596:=()
def tw11040295643123131564:=()
def tw12615655349623207070:=()
def tw4682690147711732660:=()
def tw4754545594036669688:=()
def tw1767963625555170304:=()
def tw18249932701294520101:=()
def tw10438971920483356079:=()
def tw13041175433680860156:=()
def tw3867729108603871954:=()
def tw4500246955389063333:=()
def tw9964608226447440762:=()
def tw1588395104132673374:=()
def tw13570297210319130848:=()
def tw6045428837747228927:=()
def tw15914207016601152768:=()
def tw9410980325215606885:=()
def tw9169606546031177155:=()
def tw14115515703802291204:=()
def tw11794761272647606925:=()
def tw7925052236403387022:=()
def tw11202930076379126632:=()
def tw12304644732897816374:=()
def tw6335310577786220078:=()
def tw16652847755443932888:=()
def tw16237456576909524967:=()
def tw2084909354499471912:=()
def tw16629764631258866069:=()
def tw5928938711734863409:=()
def tw13577001644480808219:=()
def tw2645566851644666034:=()
def tw1335963766939448122:=()
def tw9628041090889205303:=()
def tw17050714639178040107:=()
def tw6285095185715442074:=()
def tw9335558779792504280:=()
def tw6368906798815756519:=()
def tw10787789434401685006:=()
def tw16529897612725035266:=()
def tw13420436825518163406:=()
def tw11141725443952272095:=()
def tw10222841837657501249:=()
def tw10121454739402256093:=()
def tw9314926694557761835:=()
def tw1546284739466041119:=()
def tw9903933346362563403:=()
def tw1282917333216061732:=()
def tw8136351897819873185:=()
def tw18339147672379978103:=()
def tw18322496793396496720:=()
def tw1057083301779226233:=()
def tw12039765241173390071:=()
def tw7120231102202180992:=()
def tw14527359081785000029:=()
def tw3000405746263863616:=()
def tw924557028972181873:=()
def tw53829613277426963:=()
def tw11741799723291134273:=()
def tw14321529673246456576:=()
def tw4622879985783188070:=()
def tw8627292313566977985:=()
def tw13875066479175257863:=()
def tw7368103169132250211:=()
def tw3430594410015632126:=()
def tw16994764556009217517:=()
def tw914763019663316263:=()
def tw3891110549452613587:=()
def tw2678702051847781382:=()
def tw1227300315782501798:=()
def tw4880218858581775552:=()
def tw1219492213552300863:=()
def tw1723093714447069447:=()
def tw13130270735656726451:=()
def tw16386271537696420767:=()
def tw5835897988004665637:=()
def tw9713530692908973995:=()
def tw7992878740098238851:=()
def tw8472952596050292794:=()
def tw4040159313427104069:=()
def tw9426215202388633973:=()
def tw1736519709282862688:=()
def tw6345984945176982707:=()
def tw4111003378434333934:=()
def tw5321667821812119152:=()
def tw13226535231017249294:=()
def tw15921483440059428177:=()
def tw4886950759282297494:=()
def tw11813555337155445930:=()
def tw11813492501392801006:=()
def tw5698116424592356463:=()
def tw11970293477979137445:=()
def tw8705996762667196399:=()
def tw12381773890455174787:=()
def tw4444793917487710904:=()
def tw12363604313824489743:=()
def tw18182232475844518856:=()
def tw3720183481875132310:=()
def tw2350670487439359056:=()
def tw15990302205638822791:=()
def tw1311205184026549701:=()
def tw2002616497872936819:=()
def tw3123438235505239803:=()
def tw6449815630142536187:=()
def tw17688630254059396821:=()
def tw6126766542870290541:=()
def tw3423491037109322956:=()
def tw16090657447247675809:=()
def tw4908185850407534659:=()
def tw3809947583074317391:=()
def tw8522505526158969705:=()
def tw4920389883721513255:=()
def tw1720848424621620953:=()
def tw4102058815725262971:=()
def tw2158880665454536113:=()
def tw2636720146618920246:=()
def tw2833131355591414372:=()
def tw13166131881365528728:=()
def tw12850055070922152420:=()
def tw11102007218793582756:=()
def tw2992778507475928931:=()
def tw8831839456058901010:=()
def tw10865890131494708151:=()
def tw3272604809385630745:=()
def tw12815863716594604474:=()
def tw8558942994546146974:=()
def tw1929920165402506237:=()
def tw3416588520465078193:=()
def tw4409467196682285696:=()
def tw10794654733603169472:=()
def tw12162576148302470864:=()
def tw6684839062676337024:=()
def tw13584536015593683207:=()
def tw9210071058724580161:=()
def tw10063201484857428372:=()
def tw9928941222624702693:=()
def tw9526406059924772313:=()
def tw5199316942278488438:=()
def tw11717856596149846306:=()
def tw11348011582983866443:=()
def tw11915756479360812944:=()
def tw13884390256502422563:=()
def tw7612931225385618726:=()
def tw5962901213201977255:=()
def tw2672623416886812676:=()
def tw13839080330953391195:=()
def tw4807754626662712273:=()
def tw8059513788460287898:=()
def tw3874294362952301574:=()
def tw4556284628244038336:=()
def tw6125820305669888958:=()
def tw16929090679985195021:=()
def tw10653617753348071419:=()
def tw6418497823064941142:=()
def tw5749161933098978151:=()
def tw7173534385548022167:=()
def tw16919915504897333514:=()
def tw14712691108694020058:=()
def tw16311795943920640934:=()
def tw637549762211361230:=()
def tw14492080109036424528:=()
def tw13149939682600158422:=()
def tw9181198621358808150:=()
def tw17725833364674960204:=()
def tw5411276884960858785:=()
def tw8113462856134252734:=()
def tw12621869300062383534:=()
def tw1693294239479637827:=()
def tw8658410429474369630:=()
def tw8706671192698304640:=()
def tw2809012817757349577:=()
def tw5009314986781106158:=()
def tw9055140588786044636:=()
def tw15967318468930489946:=()
def tw10807104463202800179:=()
def tw17443520881489787704:=()
def tw12490300887328911090:=()
def tw1618398238345627861:=()
def tw6521960860289817134:=()
def tw11951539239229087128:=()
def tw4344128508766593785:=()
def tw5580567462366209190:=()
def tw358020203586718223:=()
def tw10044575161260946350:=()
def tw17551184153155149877:=()
def tw14892822948488942803:=()
def tw7971783393900514653:=()
def tw2882142555908945338:=()
def tw8477106089324299503:=()
def tw10267082847763354240:=()
def tw18223739330530948054:=()
def tw6266923126085292080:=()
def tw17354107260884233213:=()
def tw6581610564559671105:=()
def tw608621305298784214:=()
def tw17601213616023831542:=()
def tw17004054560442192076:=()
def tw17835004784446538131:=()
def tw18304465309557536687:=()
def tw254103718055636113:=()
def tw2897482407670746362:=()
def tw5170673719735328113:=()
def tw17223025571021066982:=()
def tw15443004152226382239:=()
def tw17837070327727528988:=()
def tw6182796835970088013:=()
def tw10064251853681269169:=()
def tw16604949812705507543:=()
def tw10958589104829908218:=()
def tw2348564493440129096:=()
def tw7319872726815488751:=()
def tw2297652987570621080:=()
def tw14260173254165336231:=()
def tw18254352548469938559:=()
def tw4726500197104701561:=()
def tw52120272879221069:=()
def tw5269680256036429315:=()
def tw4901660383330746537:=()
def tw12699247045008977204:=()
def tw9715520184806381449:=()
def tw16191345059952867711:=()
def tw3907344798488341953:=()
def tw9356294007633947239:=()
def tw6523155154313581191:=()
def tw7068698178247491043:=()
def tw10357639141188611947:=()
def tw17321656104356115660:=()
def tw6535528723661684302:=()
def tw5594127514025369653:=()
def tw207558639595612092:=()
def tw8020030180101941628:=()
def tw17829483592855383132:=()
def tw12871668464597040671:=()
def tw14568503796985315346:=()
def tw1918734581391186319:=()
def tw11866809939371049050:=()
def tw3068131705170773923:=()
def tw3691863734420807048:=()
def tw13264366462867356515:=()
def tw4729190456158372591:=()
def tw2144964398524337035:=()
def tw410040349922198115:=()
def tw16004629193866016051:=()
def tw15411677765257152041:=()
def tw15692398218429793765:=()
def tw16005806119173734005:=()
def tw9502558154088900949:=()
def tw7570231014364469548:=()
def tw3372088279466354638:=()
def tw13043554867804415552:=()
def tw4250218246398379099:=()
def tw6599483866964551971:=()
def tw17400533893940170298:=()
def tw8507974857793215644:=()
def tw10942863171783072500:=()
def tw13283010763961081137:=()
def tw6393398429216088035:=()
def tw1314512040680475271:=()
def tw3522475892554288961:=()
def tw18199518229137024376:=()
def tw13542214346115960600:=()
def tw8860517386895538602:=()
def tw9738984447670457384:=()
def tw16886969199317607946:=()
def tw8507153235952103451:=()
def tw17865439751949343198:=()
def tw6402970875978200261:=()
def tw14228255168462533018:=()
def tw11449271737168129695:=()
def tw461948581088500430:=()
def tw5805881051491454461:=()
def tw2333770189065033710:=()
def tw8417600311131260073:=()
def tw16671760862574095572:=()
def tw18382787895212485970:=()
def tw12266137194771519028:=()
def tw15007606905667994818:=()
def tw14616842867300433526:=()
def tw464166801127358455:=()
def tw6987455108833096924:=()
def tw7284260373406084585:=()
def tw9648933339768774843:=()
def tw14350880545561417891:=()
def tw2396905920728194143:=()
def tw11890671714001224471:=()
def tw17085645677130591290:=()
def tw7615793937603140580:=()
def tw1393316080194730399:=()
def tw17083605799666363007:=()
def tw7573153062455156576:=()
def tw12817191933448946816:=()
def tw780518354252806590:=()
def tw3318469188942342999:=()
def tw16413993422320042153:=()
def tw7002634949925725423:=()
def tw951185359085565059:=()
def tw12673264347524751418:=()
def tw5947458430771637414:=()
def tw11340675150139324091:=()
def tw6975156726676204499:=()
def tw5683258530519704222:=()
def tw17952417549913165449:=()
def tw8073283073932325190:=()
def tw1421904274348060173:=()
def tw9930793806643005330:=()
def tw9526535647624150550:=()
def tw1811229093574583669:=()
def tw2183124835328461377:=()
def tw14905982151478883935:=()
def tw12772699077716918650:=()
def tw11392242996130814578:=()
def tw8178126309131522876:=()
def tw11387461092401670789:=()
def tw9817040106973707934:=()
def tw13696550348734475834:=()
def tw6317060389282254831:=()
def tw2836597116304165981:=()
def tw5613039896243067221:=()
def tw10676032707339824502:=()
def tw1364937267913608363:=()
def tw5009943222800335068:=()
def tw4707536913769130900:=()
def tw4862963455386760302:=()
def tw3210995801424882243:=()
def tw16077512001251391044:=()
def tw2324447054351141595:=()
def tw1229682390012488951:=()
def tw8819588325295289646:=()
def tw4875781487502292143:=()
def tw17710433351962773030:=()
def tw16625164990339616038:=()
def tw7245755754669637959:=()
def tw16430278579183697648:=()
def tw3027433915155329770:=()
def tw13969246947649495291:=()
def tw13590895746682856220:=()
def tw16553916552151963706:=()
def tw10048308837148862996:=()
def tw14502553960634652344:=()
def tw17609860626831099434:=()
def tw12199191700414510194:=()
def tw15587993790316634338:=()
def tw11427954271243144368:=()
def tw8441615843497197836:=()
def tw8318514225056210800:=()
def tw11331467552724026119:=()
def tw12418639765456196197:=()
def tw12784150122566103219:=()
def tw1776594198338120013:=()
def tw8008783013547487921:=()
def tw8239626507354336674:=()
def tw13900967095682234530:=()
def tw10926504489704846289:=()
def tw18042683139772252849:=()
def tw5926290329131668780:=()
def tw3478226717682639053:=()
def tw12737113833599742833:=()
def tw3226209976185265801:=()
def tw15843803405284817047:=()
def tw991560057158230189:=()
def tw16528754588802345702:=()
def tw13365466109886633232:=()
def tw7965694319658528105:=()
def tw3885192629716515662:=()
def tw3973071235221566810:=()
def tw15746178521460231338:=()
def tw16585765252638099642:=()
def tw12454285768683474360:=()
def tw1828078173097976619:=()
def tw1815358723523694599:=()
def tw8626482965818502591:=()
def tw5897073726995786696:=()
def tw12296076882492428712:=()
def tw10277381455548532724:=()
def tw14585949664519990894:=()
def tw11880927309142363729:=()
def tw11636558304582365893:=()
def tw14982128104720935218:=()
def tw7633031409833686519:=()
def tw2897298350865125502:=()
def tw17453081721889188615:=()
def tw14443989321145068735:=()
def tw15484849117624971846:=()
def tw4193257936638086828:=()
def tw5256445989851365555:=()
def tw17038398227077522102:=()
def tw15478484044998568540:=()
def tw16457415025599555397:=()
def tw9606996815885280215:=()
def tw3328322807803921030:=()
def tw5787805431528150698:=()
def tw12172653045027674653:=()
def tw3986014279825139929:=()
def tw10779642587953542734:=()
def tw3626460328912292512:=()
def tw2819645900359193282:=()
def tw6055200599674063030:=()
def tw9597436975583258884:=()
def tw14935800178806234345:=()
def tw10248525917590260296:=()
def tw8497895795030204981:=()
def tw4699066587499072976:=()
def tw2195815331553892388:=()
def tw6071729149691115406:=()
def tw15507504007997735115:=()
def tw9248920953749940947:=()
def tw17926797070476683738:=()
def tw2503135736496706497:=()
def tw3425283845254958183:=()
def tw11504722995464456491:=()
def tw14047657841463065634:=()
def tw17478443661402915144:=()
def tw2805586430066165625:=()
def tw16526648379089242117:=()
def tw15003802001221555246:=()
def tw2054159835849787240:=()
def tw10530502860655052077:=()
def tw2654214217386206381:=()
def tw4935646113837479372:=()
def tw9749853883031215901:=()
def tw3792211598074315474:=()
def tw15114811480812618673:=()
def tw15864637006796148544:=()
def tw218455794019194704:=()
def tw3423758109481018274:=()
def tw8287148825968459715:=()
def tw8480361286552203135:=()
def tw15589538792404652488:=()
def tw8500617830376568510:=()
def tw8485203462802136689:=()
def tw5320783147982603399:=()
def tw180878779610851571:=()
end PySem.W.Fast
open PySem PySem.W PyProof.Rows
set_option maxRecDepth 100000 in
set_option maxHeartbeats 0 in
theorem PySem.Challenge.cw_fewnotes_k25_no_such_note_holds : PySem.Challenge.rw_fewnotes_k25_no_such_note.Holds := by
 w_on;o_law;k_head;(case hw=>w_witness2)
 k_fill
 refine Prf.walk (l:=PySem.Challenge.rw_fewnotes_k25_no_such_note) rfl rfl (fun w h Y=>PySem.W.kIn_of Y) ?F
 case F=>
  intro w mg fa h KX G hmg
  replace hmg:mg (Str.ofString "law")=some (.ref fa):=hmg
  refine' Prf.all_mk KX G hmg ?a0 ?l0 ?c0 ?k0 ?a1 ?l1 ?c1 ?k1 ?a2 ?l2 ?c2 ?k2 ?a3 ?l3 ?c3 ?k3 ?a4 ?l4 ?c4 ?k4 ?a5 ?l5 ?c5 ?k5 ?a6 ?l6 ?c6 ?k6 ?a7 ?l7 ?c7 ?k7 ?a8 ?l8 ?c8 ?k8 ?a9 ?l9 ?c9 ?k9 ?a10 ?l10 ?c10 ?k10 ?a11 ?l11 ?c11 ?k11 ?a12 ?l12 ?c12 ?k12 ?a13 ?l13 ?c13 ?k13 ?a14 ?l14 ?c14 ?k14 ?a15 ?l15 ?c15 ?k15 ?a16 ?l16 ?c16 ?k16 ?a17 ?l17 ?c17 ?k17 ?a18 ?l18 ?c18 ?k18 ?a19 ?l19 ?c19 ?k19 ?a20 ?l20 ?c20 ?k20 ?a21 ?l21 ?c21 ?k21 ?a22 ?l22 ?c22 ?k22 ?a23 ?l23 ?c23 ?k23 ?a24 ?l24 ?c24 ?SN ?a25 ?l25 ?c25 ?k25 ?a26 ?l26 ?c26 ?k26 ?a27 ?l27 ?c27 ?k27 ?a28 ?l28 ?c28 ?k28 ?a29 ?l29 ?c29 ?k29 ?a30 ?l30 ?c30 ?k30 ?a31 ?l31 ?c31 ?k31 ?a32 ?l32 ?c32 ?k32 ?a33 ?l33 ?c33 ?k33 ?a34 ?l34 ?c34 ?k34 ?a35 ?l35 ?c35 ?k35 ?a36 ?l36 ?c36 ?k36 ?a37 ?l37 ?c37 ?k37 ?a38 ?l38 ?c38 ?k38 ?a39 ?l39 ?c39 ?k39 ?a40 ?l40 ?c40 ?k40 ?uY ?oF ?sI ?tL ?oJ ?mY ?mX ?mZ ?Bm ?xH ?xu ?xK ?xM ?uV ?uU ?uW ?u0 ?tG ?sO ?tO ?uZ ?tE ?sJ ?tM ?tR ?pP ?pK ?pW ?p8 ?oE ?ou ?oH ?uX ?sZ ?sH ?tK ?tV ?pR ?pN ?pY ?tU ?pQ ?pL ?pX ?Bl ?xG ?xq ?xJ ?pZ ?oA ?oh ?oG ?tQ ?pO ?pJ ?pU ?fP ?fO ?kj ?j_ ?jr ?jq ?iR ?iK ?iQ ?iJ ?g_ ?gW ?gD ?gB ?iM ?iI ?ig ?gZ ?h_ ?gY ?kh ?j9 ?gC ?gA ?g8 ?gU ?xcg ?xct ?sW ?sV ?sU ?tH ?sS ?sY ?sE ?n_ ?M5 ?M4 ?MP ?Gz ?pI ?MN ?nZ ?MK ?Gy ?MJ ?MF ?Bk ?xg ?Bj
  (case uY=>k_is)
  (case oF=>rfl)
  (case sI=>k_is)
  (case tL=>k_is)
  (case oJ=>k_is)
  (case mY=>rfl)
  (case mX=>k_is)
  (case mZ=>k_is)
  (case Bm=>k_is)
  (case xH=>rfl)
  (case xu=>k_is)
  (case xK=>k_is)
  (case xM=>k_is)
  (case uV=>rfl)
  (case uU=>k_is)
  (case uW=>k_is)
  (case u0=>k_is)
  (case tG=>rfl)
  (case sO=>k_is)
  (case tO=>k_is)
  (case uZ=>k_is)
  (case tE=>rfl)
  (case sJ=>k_is)
  (case tM=>k_is)
  (case tR=>k_is)
  (case pP=>rfl)
  (case pK=>k_is)
  (case pW=>k_is)
  (case p8=>k_is)
  (case oE=>rfl)
  (case ou=>k_is)
  (case oH=>k_is)
  (case uX=>k_is)
  (case sZ=>rfl)
  (case sH=>k_is)
  (case tK=>k_is)
  (case tV=>k_is)
  (case pR=>rfl)
  (case pN=>k_is)
  (case pY=>k_is)
  (case tU=>k_is)
  (case pQ=>rfl)
  (case pL=>k_is)
  (case pX=>k_is)
  (case Bl=>k_is)
  (case xG=>rfl)
  (case xq=>k_is)
  (case xJ=>k_is)
  (case pZ=>k_is)
  (case oA=>rfl)
  (case oh=>k_is)
  (case oG=>k_is)
  (case tQ=>k_is)
  (case pO=>rfl)
  (case pJ=>k_is)
  (case pU=>k_is)
  (case fP=>rfl)
  (case fO=>k_is)
  (case kj=>rfl)
  (case j_=>k_is)
  (case jr=>rfl)
  (case jq=>k_is)
  (case iR=>rfl)
  (case iK=>k_is)
  (case iQ=>rfl)
  (case iJ=>k_is)
  (case g_=>rfl)
  (case gW=>k_is)
  (case gD=>rfl)
  (case gB=>k_is)
  (case iM=>rfl)
  (case iI=>k_is)
  (case ig=>rfl)
  (case gZ=>k_is)
  (case h_=>rfl)
  (case gY=>k_is)
  (case kh=>rfl)
  (case j9=>k_is)
  (case gC=>rfl)
  (case gA=>k_is)
  (case g8=>rfl)
  (case gU=>k_is)
  (case xcg=>k_is)
  (case xct=>k_is)
  (case sW=>k_is)
  (case sV=>k_is)
  (case sU=>k_is)
  (case tH=>k_is)
  (case sS=>k_is)
  (case sY=>k_exc)
  (case sE=>k_is)
  (case a0=>k_is)
  (case l0=>k_is)
  (case c0=>k_is)
  (case k0=>k_is)
  (case a1=>k_is)
  (case l1=>k_is)
  (case c1=>k_is)
  (case k1=>k_is)
  (case a2=>k_is)
  (case l2=>k_is)
  (case c2=>k_is)
  (case k2=>k_is)
  (case a3=>k_is)
  (case l3=>k_is)
  (case c3=>k_is)
  (case k3=>k_is)
  (case a4=>k_is)
  (case l4=>k_is)
  (case c4=>k_is)
  (case k4=>k_is)
  (case a5=>k_is)
  (case l5=>k_is)
  (case c5=>k_is)
  (case k5=>k_is)
  (case a6=>k_is)
  (case l6=>k_is)
  (case c6=>k_is)
  (case k6=>k_is)
  (case a7=>k_is)
  (case l7=>k_is)
  (case c7=>k_is)
  (case k7=>k_is)
  (case a8=>k_is)
  (case l8=>k_is)
  (case c8=>k_is)
  (case k8=>k_is)
  (case a9=>k_is)
  (case l9=>k_is)
  (case c9=>k_is)
  (case k9=>k_is)
  (case a10=>k_is)
  (case l10=>k_is)
  (case c10=>k_is)
  (case k10=>k_is)
  (case a11=>k_is)
  (case l11=>k_is)
  (case c11=>k_is)
  (case k11=>k_is)
  (case a12=>k_is)
  (case l12=>k_is)
  (case c12=>k_is)
  (case k12=>k_is)
  (case a13=>k_is)
  (case l13=>k_is)
  (case c13=>k_is)
  (case k13=>k_is)
  (case a14=>k_is)
  (case l14=>k_is)
  (case c14=>k_is)
  (case k14=>k_is)
  (case a15=>k_is)
  (case l15=>k_is)
  (case c15=>k_is)
  (case k15=>k_is)
  (case a16=>k_is)
  (case l16=>k_is)
  (case c16=>k_is)
  (case k16=>k_is)
  (case a17=>k_is)
  (case l17=>k_is)
  (case c17=>k_is)
  (case k17=>k_is)
  (case a18=>k_is)
  (case l18=>k_is)
  (case c18=>k_is)
  (case k18=>k_is)
  (case a19=>k_is)
  (case l19=>k_is)
  (case c19=>k_is)
  (case k19=>k_is)
  (case a20=>k_is)
  (case l20=>k_is)
  (case c20=>k_is)
  (case k20=>k_is)
  (case a21=>k_is)
  (case l21=>k_is)
  (case c21=>k_is)
  (case k21=>k_is)
  (case a22=>k_is)
  (case l22=>k_is)
  (case c22=>k_is)
  (case k22=>k_is)
  (case a23=>k_is)
  (case l23=>k_is)
  (case c23=>k_is)
  (case k23=>k_is)
  (case a24=>k_is)
  (case l24=>k_is)
  (case c24=>k_is)
  (case SN=>k_is)
  (case a25=>k_is)
  (case l25=>k_is)
  (case c25=>k_is)
  (case k25=>k_is)
  (case a26=>k_is)
  (case l26=>k_is)
  (case c26=>k_is)
  (case k26=>k_is)
  (case a27=>k_is)
  (case l27=>k_is)
  (case c27=>k_is)
  (case k27=>k_is)
  (case a28=>k_is)
  (case l28=>k_is)
  (case c28=>k_is)
  (case k28=>k_is)
  (case a29=>k_is)
  (case l29=>k_is)
  (case c29=>k_is)
  (case k29=>k_is)
  (case a30=>k_is)
  (case l30=>k_is)
  (case c30=>k_is)
  (case k30=>k_is)
  (case a31=>k_is)
  (case l31=>k_is)
  (case c31=>k_is)
  (case k31=>k_is)
  (case a32=>k_is)
  (case l32=>k_is)
  (case c32=>k_is)
  (case k32=>k_is)
  (case a33=>k_is)
  (case l33=>k_is)
  (case c33=>k_is)
  (case k33=>k_is)
  (case a34=>k_is)
  (case l34=>k_is)
  (case c34=>k_is)
  (case k34=>k_is)
  (case a35=>k_is)
  (case l35=>k_is)
  (case c35=>k_is)
  (case k35=>k_is)
  (case a36=>k_is)
  (case l36=>k_is)
  (case c36=>k_is)
  (case k36=>k_is)
  (case a37=>k_is)
  (case l37=>k_is)
  (case c37=>k_is)
  (case k37=>k_is)
  (case a38=>k_is)
  (case l38=>k_is)
  (case c38=>k_is)
  (case k38=>k_is)
  (case a39=>k_is)
  (case l39=>k_is)
  (case c39=>k_is)
  (case k39=>k_is)
  (case a40=>k_is)
  (case l40=>k_is)
  (case c40=>k_is)
  (case k40=>k_is)
  (case n_=>k_is)
  (case M5=>k_is)
  (case M4=>k_is)
  (case MP=>k_is)
  (case Gz=>k_is)
  (case pI=>k_is)
  (case MN=>k_is)
  (case nZ=>k_is)
  (case MK=>k_is)
  (case Gy=>k_is)
  (case MJ=>k_is)
  (case MF=>k_is)
  (case Bk=>k_is)
  (case xg=>k_is)
  (case Bj=>k_is)
#print axioms PySem.Challenge.cw_fewnotes_k25_no_such_note_holds
