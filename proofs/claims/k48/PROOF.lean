import PyProof.Rows.All
import Wide.All
import OpenK.AllK
import Wide.FinOn
import Lean
import PyProof.EqAt
import PyProof.EqKinds
import PyProof.TupleCall
import PyProof.EqLayable
import PyProof.ExcArgsOwn
import PyProof.ExcAttrAll.Exception
import PyProof.RulesAs
import PyProof.ExcBaseAll.ValueError
import PyProof.NsDelKeeps
import KE.KRevSl
import OpenK.KOps
import OpenK.KWalk
import KE.KCallOwn
import PyProof.InstNe
import PyProof.FactsAll.object_2
import PySem.Challenge.RW_fewnotes_k48_whole_one_run_in_many_order
set_option Elab.async false
set_option linter.all false
set_option maxRecDepth 100000
namespace L2
open PySem PySem.Spec PyProof.Rows
abbrev Key:=Sum Int Str
def tU:Key->Value->Bool
 | .inl k,v=>Value.isInt k v
 | .inr x,v=>Value.isStrOf x v
def aaP (w:World):Key->Int
 | .inl k=>hashInt k
 | .inr x=>hashStr w x
theorem cV:∀{k:Key} {v:Value},tU k v=true->(∃i t,k=Sum.inl i/\v=Value.int i t)\/(∃x t,k=Sum.inr x/\v=Value.str x t)
 | .inl i,v,h=>by
   obtain ⟨t,e⟩:=Value.isInt_shape (k:=i) (v:=v) h;exact .inl ⟨i,t,rfl,e⟩
 | .inr x,v,h=>by
   obtain ⟨t,e⟩:=Value.isStrOf_shape (x:=x) (v:=v) h;exact .inr ⟨x,t,rfl,e⟩
theorem GD (i:Int) (t:Tok):tU (.inl i) (.int i t)=true:=by simp [tU,Value.isInt]
theorem GC (x:Str) (t:Tok):tU (.inr x) (.str x t)=true:=by simp [tU,Value.isStrOf]
theorem Rk (a b:Int):decide ((Sum.inl a:Key)=Sum.inl b)=(a==b):=by
 by_cases e:a=b
 ·subst e;simp
 ·have h:¬(Sum.inl a:Key)=Sum.inl b:=fun q=>e (Sum.inl.inj q)
  rw [decide_eq_false h];exact (beq_eq_false_iff_ne.mpr e).symm
theorem Rh (a b:Str):decide ((Sum.inr a:Key)=Sum.inr b)=decide (a=b):=by
 by_cases e:a=b
 ·subst e;simp
 ·have h:¬(Sum.inr a:Key)=Sum.inr b:=fun q=>e (Sum.inr.inj q)
  rw [decide_eq_false h,decide_eq_false e]
theorem Rj (a:Int) (b:Str):decide ((Sum.inl a:Key)=Sum.inr b)=false:=decide_eq_false (fun q=>nomatch q)
theorem Ri (a:Str) (b:Int):decide ((Sum.inr a:Key)=Sum.inl b)=false:=decide_eq_false (fun q=>nomatch q)
def cB (prog:Program) (w:World):PySem.KeyKind prog w Key where
 is:=tU
 hash:=aaP w
 inj:=fun v a b ha hb=>by
  rcases cV ha with ⟨i,t,rfl,rfl⟩|⟨x,t,rfl,rfl⟩
  ·rcases cV hb with ⟨j,u,rfl,e⟩|⟨y,u,rfl,e⟩
   ·injection e with e1 _;rw [e1]
   ·exact nomatch e
  ·rcases cV hb with ⟨j,u,rfl,e⟩|⟨y,u,rfl,e⟩
   ·exact nomatch e
   ·injection e with e1 _;rw [e1]
 byValue:=fun k v h=>by
  rcases cV h with ⟨i,t,rfl,rfl⟩|⟨x,t,rfl,rfl⟩<;>rfl
 pyHash:=fun hv h=>by
  rcases cV hv with ⟨i,t,rfl,rfl⟩|⟨x,t,rfl,rfl⟩
  ·exact wpAny_pyHash_int h
  ·exact wpAny_pyHash_str h
 eqBool:=fun hu hv h=>by
  rcases cV hu with ⟨i,t,rfl,rfl⟩|⟨x,t,rfl,rfl⟩
  ·rcases cV hv with ⟨j,u,rfl,rfl⟩|⟨y,u,rfl,rfl⟩
   ·rw [Rk] at h;exact wpAny_eqBool_int h
   ·rw [Rj] at h;exact SeqAt.EqAt.int_str i t y u _ _ _ _ h
  ·rcases cV hv with ⟨j,u,rfl,rfl⟩|⟨y,u,rfl,rfl⟩
   ·rw [Ri] at h;exact SeqAt.EqAt.str_int x t j u _ _ _ _ h
   ·rw [Rh] at h;exact wpAny_eqBool_str h
 «strs» :=fun k x t v h=>by
  rcases cV h with ⟨i,u,rfl,e⟩|⟨y,u,rfl,e⟩
  ·exact nomatch e
  ·injection e with e1 _
   subst e1;cases v<;>rfl
theorem Cg (prog:Program) (w:World) (k:Key) (v:Value):(cB prog w).is k v=tU k v:=rfl
theorem zf (prog:Program) (w:World) (i:Int) (t:Tok):(cB prog w).is (.inl i) (.int i t)=true:=GD i t
theorem zc (prog:Program) (w:World) (x:Str) (t:Tok):(cB prog w).is (.inr x) (.str x t)=true:=GC x t
end L2
namespace L2
open PySem PySem.Spec PyProof.Rows
inductive V where
 | non|bl (b:Bool)|int (i:Int)|str (x:Str)|CQ (b:Array UInt8)|flt (b:UInt64)|ref (a:Addr)|ty (n:String)
 deriving DecidableEq
def RelV:V->Value->Prop
 | .non,u=>u=Value.none
 | .bl b,u=>u=Value.bool b
 | .int i,u=>∃t,u=Value.int i t
 | .str x,u=>∃t,u=Value.str x t
 | .CQ b,u=>∃t,u=Value.bytes b t
 | .flt b,u=>∃t,u=Value.float b t
 | .ref a,u=>u=Value.ref a
 | .ty n,u=>u=Value.type n
abbrev Vals:List V->List Value->Prop:=Paired RelV
theorem Vals.length {xs:List V} {us:List Value} (r:Vals xs us):xs.length=us.length:=Paired.length r
theorem Vals.get:∀{xs:List V} {us:List Value} {i:Nat} {x:V},Vals xs us->xs[i]? = some x -> ∃u,us[i]? = some u/\RelV x u
 | _,_,_,_,.nil,e=>by simp at e
 | _,_,0,_,.cons r _,e=>by simp at e;subst e;exact ⟨_,rfl,r⟩
 | _,_,i+1,x,.cons _ t,e=>by
   obtain ⟨u,h1,h2⟩:=Vals.get (i:=i) (x:=x) t (by simpa using e);exact ⟨u,by simpa using h1,h2⟩
theorem Vals.set {x:V} {u:Value} (r:RelV x u):∀{xs:List V} {us:List Value} (i:Nat),Vals xs us->Vals (xs.set i x) (us.set i u)
 | _,_,_,.nil=> .nil
 | _,_,0,.cons _ t=> .cons r t
 | _,_,i+1,.cons q t=> .cons q (Vals.set r i t)
theorem Vals.append {xs ys:List V} {us ws:List Value} (h:Vals xs us) (s:Vals ys ws):Vals (xs++ys) (us++ws):=by
 induction h with
 | nil=>exact s
 | cons r t ih=>exact .cons r ih
theorem Vals.take:∀{xs:List V} {us:List Value} (n:Nat),Vals xs us->Vals (xs.take n) (us.take n)
 | _,_,0,_=> .nil
 | _,_,_+1,.nil=> .nil
 | _,_,n+1,.cons r t=> .cons r (Vals.take n t)
theorem Vals.drop:∀{xs:List V} {us:List Value} (n:Nat),Vals xs us->Vals (xs.drop n) (us.drop n)
 | _,_,0,r=>r
 | _,_,_+1,.nil=> .nil
 | _,_,n+1,.cons _ t=>Vals.drop n t
def k_:Option V->Option Value->Prop
 | some v,some u=>RelV v u
 | none,none=>True
 | _,_=>False
def KV {κ:Type}:List (κ×V)->List (κ×Value)->Prop:=Paired fun (p:κ×V) (q:κ×Value)=>p.1=q.1/\RelV p.2 q.2
def kV:Key->V
 | .inl i=> .int i
 | .inr x=> .str x
inductive HO where
 | lst (xs:List V)
 | tup (xs:List V)
 | dK (kvs:List (Key×V))|dT (kvs:List (List Key×V))
 | set (S:Int->Bool) (n:Nat)
 | ins (C dx:Addr) (fs:List (Str×V))
 | own (x:Addr)
 | xd (fs:List (Str×V))
 | met (f x:Addr)
 | rng (lo hi:Int)
 | lA (o:Obj) (u:HO)
 | OD (ps:Array Value)
 | ext (φ:Heap->Prop)
abbrev Hp:=Addr->Option HO
def upd (H:Hp) (a:Addr) (o:HO):Hp:=fun b=>if b=a then some o else H b
theorem aq {H:Hp} {a:Addr} {o:HO}:upd H a o a=some o:=by unfold upd;rw [if_pos rfl]
theorem aR {H:Hp} {a b:Addr} {o:HO} (h:b≠a):upd H a o b=H b:=by unfold upd;rw [if_neg h]
theorem Lx {H:Hp} {a:Addr} {o u:HO}:upd (upd H a o) a u=upd H a u:=by
 funext b;unfold upd;split<;>rfl
theorem qF {H:Hp} {a b:Addr} {o u:HO} (h:H a=some o) (h':H b=some u) (d:o≠u):a≠b:=by
 intro e;subst e;rw [h] at h';exact d (Option.some.inj h')
theorem aA {H:Hp} {a b:Addr} {o:HO} (h:H a=some o) (h':H b=none):a≠b:=by
 intro e;subst e;rw [h] at h';cases h'
section
variable (P:Program) (w:World)
def cJ (H:Hp) (h:Heap) (a:Addr):HO->Prop
 | .lst xs=>xs.length<=sizeLine /\ ∃(its:List Value) (n:Nat),Vals xs its/\h.get? a=some {cls:= .type "list",data:= .seq its.toArray n}
 | .tup xs=>xs.length<=sizeLine /\ ∃its:List Value,Vals xs its/\IsTup h a its.toArray
 | .dK kvs=>kvs.length<=sizeLine/\(a==sysModules)=false /\ ∃vs,KV kvs vs/\h.DictOf (cB P w) a vs
 | .dT kvs=>kvs.length<=sizeLine/\(a==sysModules)=false /\ ∃xs:List (List Key×Addr×Value),
    Paired (fun (p:List Key×V) (q:List Key×Addr×Value)=>p.1=q.1/\H q.2.1=some (.tup (p.1.map kV))/\RelV p.2 q.2.2) kvs xs /\
    ∃o es ep,h.get? a=some o/\o.ExactDict/\o.data = .dict es ep/\es.toList=xs.map (entryOfKey (tupleKind (cB P w)))/\(xs.map (·.1)).Nodup
 | .set S n=>h.SetOf (intKind P w) a S n
 | .ins C dx fs=>H dx=some (.own a)/\fs.length<=1000/\dx≠a/\h.get? a=some (PySem.W.instObj C dx) /\
    ∃mA,h.Ns1 dx mA/\(∀f,k_ (fs.lookup f) (mA f))/\PySem.Within mA (fs.map (·.1))
 | .own _=>∃o,h.get? a=some o
 | .xd fs=>∃mA,h.Ns1 a mA /\ ∀f,k_ (fs.lookup f) (mA f)
 | .rng lo hi=>∃t u v,h.get? a=some {cls:= .type "range",data:= .fields #[.int lo t,.int hi u,.int 1 v]}
 | .lA o u=>h.get? a=some o/\cJ H h a u
 | .OD ps=>h.get? a=some {cls:= .none,data:= .fields ps}
 | .met f x=>h.get? a=some (PySem.W.methodObj (.ref f) (.ref x))
 | .ext φ=>φ h/\(∃o,h.get? a=some o) /\ ∀h1 h2:Heap,φ h1->(∀o,h1.get? a=some o->h2.get? a=some o)->φ h2
def nU (H:Hp) (h:Heap):Prop:=∀a o,H a=some o->cJ P w H h a o
end
section
variable {P:Program} {w:World} {H H':Hp} {h h':Heap} {a:Addr} {o:HO}
theorem cJ.lt (x:cJ P w H h a o):a<h.objs.size:=by
 cases o with
 | lst xs=>obtain ⟨_,_,_,_,e⟩:=x;exact Heap.lt_size e
 | tup xs=>obtain ⟨_,_,_,p⟩:=x;exact p.lt
 | dK kvs=>obtain ⟨_,_,_,_,o,_,_,e,_⟩:=x;exact Heap.lt_size e
 | dT kvs=>obtain ⟨_,_,_,_,o,_,_,e,_⟩:=x;exact Heap.lt_size e
 | set S n=>obtain ⟨o,_,_,_,e,_⟩:=x;exact Heap.lt_size e
 | ins C dx fs=>obtain ⟨_,_,_,e,_⟩:=x;exact Heap.lt_size e
 | own y=>obtain ⟨_,e⟩:=x;exact Heap.lt_size e
 | xd fs=>obtain ⟨_,⟨_,_,_,e,_⟩,_⟩:=x;exact Heap.lt_size e
 | rng lo hi=>obtain ⟨_,_,_,e⟩:=x;exact Heap.lt_size e
 | lA ob u=>obtain ⟨e,_⟩:=x;exact Heap.lt_size e
 | OD ps=>exact Heap.lt_size (show h.get? a=some _ from x)
 | met f y=>exact Heap.lt_size (show h.get? a=some _ from x)
 | ext φ=>obtain ⟨_,⟨_,e⟩,_⟩:=x;exact Heap.lt_size e
theorem Paired.Uj {α β:Type} {F G:α->β->Prop}:∀{l₁:List α} {l₂:List β},Paired F l₁ l₂->(∀a b,F a b->G a b)->Paired G l₁ l₂
 :=by
 intro l₁ l₂ h f
 induction h with
 | nil=>exact .nil
 | cons r t ih=>exact .cons (f _ _ r) ih
theorem cJ.stay (x:cJ P w H h a o) (k:∀b u,(b=a\/H b=some (.own a))->h.get? b=some u->h'.get? b=some u)
 (ho:∀b,H b=some (.own a)->H' b=some (.own a)) (ht:∀b xs,H b=some (.tup xs)->H' b=some (.tup xs)):cJ P w H' h' a o:=by
 induction o with
 | lst xs=>obtain ⟨z,its,n,r,e⟩:=x;exact ⟨z,its,n,r,k _ _ (.inl rfl) e⟩
 | tup xs=>obtain ⟨z,its,r,ob,e,c⟩:=x;exact ⟨z,its,r,ob,k _ _ (.inl rfl) e,c⟩
 | dK kvs=>obtain ⟨z,y,vs,r,ob,es,ep,e,c⟩:=x;exact ⟨z,y,vs,r,ob,es,ep,k _ _ (.inl rfl) e,c⟩
 | dT kvs=>
   obtain ⟨z,y,xs,r,ob,es,ep,e,c⟩:=x;exact ⟨z,y,xs,Paired.Uj r fun p q z=>⟨z.1,ht _ _ z.2.1,z.2.2⟩,ob,es,ep,k _ _ (.inl rfl) e,c⟩
 | set S n=>obtain ⟨ob,es,ep,t,e,c⟩:=x;exact ⟨ob,es,ep,t,k _ _ (.inl rfl) e,c⟩
 | ins C dx fs=>
   obtain ⟨d,z,ne,e,mA,⟨od,es,ep,e2,c⟩,r⟩:=x;exact ⟨ho _ d,z,ne,k _ _ (.inl rfl) e,mA,⟨od,es,ep,k _ _ (.inr d) e2,c⟩,r⟩
 | own y=>obtain ⟨ob,e⟩:=x;exact ⟨ob,k _ _ (.inl rfl) e⟩
 | xd fs=>obtain ⟨mA,⟨od,es,ep,e,c⟩,r⟩:=x;exact ⟨mA,⟨od,es,ep,k _ _ (.inl rfl) e,c⟩,r⟩
 | rng lo hi=>obtain ⟨t,u,v,e⟩:=x;exact ⟨t,u,v,k _ _ (.inl rfl) e⟩
 | lA ob u ih=>obtain ⟨e,q⟩:=x;exact ⟨k _ _ (.inl rfl) e,ih q⟩
 | OD ps=>
   have e:h.get? a=some {cls:= .none,data:= .fields ps}:=x;show h'.get? a=some {cls:= .none,data:= .fields ps};exact k a _ (.inl rfl) e
 | met f y=>
   have e:h.get? a=some (PySem.W.methodObj (.ref f) (.ref y)):=x;show h'.get? a=some (PySem.W.methodObj (.ref f) (.ref y));exact k a _ (.inl rfl) e
 | ext φ=>obtain ⟨p,⟨o,e⟩,st⟩:=x;exact ⟨st _ _ p fun o q=>k _ _ (.inl rfl) q,⟨o,k _ _ (.inl rfl) e⟩,st⟩
theorem nU.lt (x:nU P w H h) (e:H a=some o):a<h.objs.size:=(x a o e).lt
theorem nU.fresh (x:nU P w H h) (e:h.objs.size<=a):H a=none:=by
 cases q:H a with
 | none=>rfl
 | some u=>exact absurd (Nat.lt_of_lt_of_le (x.lt q) e) (Nat.lt_irrefl _)
theorem nU.kept (x:nU P w H h) (k:∀b u,h.get? b=some u->h'.get? b=some u):nU P w H h':=fun a o e=>
 (x a o e).stay (fun b u _ q=>k b u q) (fun _ q=>q) fun _ _ q=>q
theorem nU.laid (x:nU P w H h) (k:∀b u,h.get? b=some u->h'.get? b=some u) (hp:h.objs.size<=a) (new:cJ P w (upd H a o) h' a o):nU P w (upd H a o) h':=fun b u e=>by
 have hn:=x.fresh hp
 by_cases hb:b=a
 ·subst hb;rw [aq] at e;cases e;exact new
 ·rw [aR hb] at e
  exact (x b u e).stay (fun c v _ q=>k c v q) (fun c q=>by rw [aR (aA q hn)];exact q) fun c xs q=>by rw [aR (aA q hn)];exact q
end
def Rd (H:Hp) (a:Addr) (u:HO):Prop:=H a=some u \/ ∃o,H a=some (.lA o u)
theorem Rd.ok {P:Program} {w:World} {H:Hp} {h:Heap} {a:Addr} {u:HO} (r:Rd H a u) (x:nU P w H h):cJ P w H h a u:=by
 rcases r with r|⟨o,r⟩
 ·exact x a u r
 ·obtain ⟨_,q⟩:=x a _ r
  exact q
def V6:Option HO->Prop
 | some (.lst _)=>True
 | some (.dK _)=>True
 | some (.dT _)=>True
 | some (.set _ _)=>True
 | some (.ins _ _ _)=>True
 | some (.ext _)=>True
 | _=>False
section
variable {P:Program} {w:World} {H:Hp} {h h':Heap} {x e:Addr} {o':HO}
theorem nU.write (ok:nU P w H h) (mu:V6 (H x)) (he:e=x\/H e=some (.own x)) (k:∀b u,b≠e->h.get? b=some u->h'.get? b=some u) (heo:∃u,h'.get? e=some u)
 (new:cJ P w (upd H x o') h' x o'):nU P w (upd H x o') h':=fun b u q=>by
 have Ua:∀c y,H c=some (.own y)->c≠x:=fun c y r z=>by subst z;rw [r] at mu;exact mu
 have aah:∀c xs,H c=some (.tup xs)->c≠x:=fun c xs r z=>by subst z;rw [r] at mu;exact mu
 by_cases hb:b=x
 ·subst hb;rw [aq] at q;cases q;exact new
 ·rw [aR hb] at q
  by_cases hbe:b=e
  ·have q':H b=some (.own x):=by
    rcases he with z|z
    ·exact absurd (hbe.trans z) hb
    ·rw [hbe];exact z
   rw [q] at q';cases q';obtain ⟨v,hv⟩:=heo;exact ⟨v,by rw [hbe];exact hv⟩
  ·refine (ok b u q).stay (fun c v hc r=>k c v ?_ r) (fun c r=>by rw [aR (Ua c b r)];exact r) fun c xs r=>by rw [aR (aah c xs r)];exact r
   rcases hc with rfl|hc
   ·exact hbe
   ·rintro rfl
    rcases he with z|z
    ·exact Ua c b hc z
    ·rw [hc] at z;cases z;exact hb rfl
end
structure Un (fs ex:List Addr) (H H':Hp) (h h':Heap):Prop where
 keep:∀b o,h.get? b=some o->H b=none->b∉fs->b∉ex->h'.get? b=some o
 slot:∀b o,h.get? b=some o->H b=none->b∈fs->b∉ex -> ∃sl,h'.get? b=some {o with slots:=sl}
 free:∀b o,h.get? b=some o->H b=none->b∉ex->H' b=none
 there:∀b o,h.get? b=some o->b∉ex -> ∃o',h'.get? b=some o'
 tups:∀b xs,H b=some (.tup xs)->H' b=some (.tup xs)
 qe:∀b o u,H b=some (.lA o u)->H' b=some (.lA o u)
 rZ:∀b ps,H b=some (.OD ps) -> ∃more,H' b=some (.OD (ps++more))
section
variable {fs fs' ex ex':List Addr} {H H1 H2:Hp} {h h1 h2 h':Heap} {a x e:Addr} {o:HO}
theorem Un.any (u:Un fs ex H H1 h h1) {b:Addr} {ob:Obj} (q:h.get? b=some ob) (n:H b=none) (hx:b∉ex):∃sl,h1.get? b=some {ob with slots:=sl}:=by
 by_cases hb:b∈fs
 ·exact u.slot b ob q n hb hx
 ·exact ⟨ob.slots,u.keep b ob q n hb hx⟩
theorem Un.kept (k:∀b u,h.get? b=some u->h'.get? b=some u):Un fs ex H H h h':=
 ⟨fun b ob q _ _ _=>k b ob q,fun b ob q _ _ _=>⟨ob.slots,k b ob q⟩,fun _ _ _ n _=>n,fun b ob q _=>⟨ob,k b ob q⟩,fun _ _ q=>q,fun _ _ _ q=>q,fun _ ps q=>⟨#[],by rw [q];simp⟩⟩
theorem Un.refl:Un fs ex H H h h:=Un.kept fun _ _ q=>q
theorem Un.laid (k:∀b u,h.get? b=some u->h'.get? b=some u) (hp:h.objs.size<=a) (hn:H a=none):Un fs ex H (upd H a o) h h' where
 keep:=fun b u q _ _ _=>k b u q
 slot:=fun b u q _ _ _=>⟨u.slots,k b u q⟩
 free:=fun b u q n _=>by rw [aR (Nat.ne_of_lt (Nat.lt_of_lt_of_le (Heap.lt_size q) hp))];exact n
 there:=fun b u q _=>⟨u,k b u q⟩
 tups:=fun b xs q=>by rw [aR (aA q hn)];exact q
 qe:=fun b u xs q=>by rw [aR (aA q hn)];exact q
 rZ:=fun b ps q=>⟨#[],by rw [aR (aA q hn),q];simp⟩
theorem Un.write (mu:V6 (H x)) (he:e=x\/H e=some (.own x)) (k:∀b u,b≠e->h.get? b=some u->h'.get? b=some u) (heo:∃u,h'.get? e=some u):Un fs ex H (upd H x o) h h':=by
 have hx:∀b,H b=none->b≠x:=fun b n z=>by subst z;rw [n] at mu;exact mu
 have hb:∀b,H b=none->b≠e:=fun b n z=>by
  subst z;rcases he with r|r
  ·exact hx b n r
  ·rw [n] at r;cases r
 have hm:∀b u,H b=some u -> ¬V6 (some u)->b≠x:=fun b u q nm z=>by subst z;rw [q] at mu;exact nm mu
 refine ⟨fun b u q n _ _=>k b u (hb b n) q,fun b u q n _ _=>⟨u.slots,k b u (hb b n) q⟩,fun b u q n _=>by rw [aR (hx b n)];exact n,fun b u q _=> ?_,
  fun b xs q=>by rw [aR (hm b _ q fun z=>z)];exact q,fun b u xs q=>by rw [aR (hm b _ q fun z=>z)];exact q,fun b ps q=>⟨#[],by rw [aR (hm b _ q fun z=>z),q];simp⟩⟩
 by_cases hbe:b=e
 ·subst hbe;exact heo
 ·exact ⟨u,k b u hbe q⟩
end
def Wb (h:Heap) (H:Hp):List Addr:=(List.range h.objs.size).filter fun a=>(H a).isSome
def w6 (h:Heap) (H:Hp):Heap:=PySem.W.hideAll h (Wb h H)
theorem GZ (h:Heap) (H:Hp):(w6 h H).objs.size=h.objs.size:=PySem.W.hideAll_size _ _
theorem J7 {h:Heap} {H:Hp} {b:Addr} {o:Obj} (e:h.get? b=some o) (n:H b=none):(w6 h H).get? b=some o:=
 PySem.W.hideAll_get _ e fun hm=>by
  have q:(H b).isSome=true:=(List.mem_filter.mp hm).2;rw [n] at q;simp at q
theorem M9 {h:Heap} {H:Hp} {b:Addr} {o:Obj} (e:(w6 h H).get? b=some o):h.get? b=some o/\H b=none:=by
 have e':h.get? b=some o:=PySem.W.of_hideAll (Wb h H) e;refine ⟨e', ?_⟩;cases q:H b with
 | none=>rfl
 | some x=>
   have hm:b∈Wb h H:=List.mem_filter.mpr ⟨List.mem_range.mpr (Heap.lt_size e'),by simp [q]⟩;have z:(w6 h H).get? b=none:=PySem.W.hideAll_none (Wb h H) hm;rw [z] at e;cases e
def Ou (g h:Heap) (L:Addr):List (Addr×Obj):=(List.range h.objs.size).filterMap fun a=>if a=L\/(g.get? a).isSome=true then none else (h.get? a).map fun o=>(a,o)
def rest (g h:Heap) (L d:Addr):List (Addr×Obj):=(Ou g h L).filter fun p=>decide (p.1≠d)
end L2
namespace L2
open PySem PySem.Spec PyProof.Rows
structure Mod (K:PySem.W.Frag) (mg:Str->Option Value) (base:Heap):Prop where
 Pk:K.In base
 glob:base.Ns mainGlobals mg
 blt:∃mb,base.Ns builtinsNs mb /\ ∀x:Str,x ≠ "__name__" -> mb x=bootBuiltins x
 nolimit:base.NoLimit
structure Cx where
 prog:Program
 w:World
 K:PySem.W.Frag
 mg:Str->Option Value
 base:Heap
 A:Around
 N:List Str
 s₀:Shared
 H₀:Hp
 env:Env
 outer:List Env
 stack:List Env
 ex:List Addr
 fn:Str->Bool
 calm:Bool
 pn:List (Addr×Obj)
 xe:Value->Shared->Prop
def frs (l:List Env):List Addr:=l.filterMap (·.frame)
abbrev Cx.fs (X:Cx):List Addr:=frs X.outer
def Vis (sc:Scope) (x:Str):Prop:=sc.names.lookup x=some .local\/sc.names.lookup x=some .cell\/sc.names.lookup x=some .free
def Loc (sc:Scope) (x:Str):Prop:=sc.names.lookup x=some .local\/sc.names.lookup x=some .cell
def Look (env:Env) (h:Heap) (m:Str->Option Value) (x:Str) (u:Value):Prop:=
 (env.kindOf x=some .local/\m x=some u)\/((env.kindOf x=some .cell\/env.kindOf x=some .free) /\ ∃c,env.cells.lookup x=some c/\h.IsCell c (some u))
structure Cx.Ok (X:Cx):Prop where
 mod:Mod X.K X.mg X.base
 kind:X.env.scope.kind = .function
 glob:X.env.globals=mainGlobals
 blt:X.env.builtins=builtinsNs
 above:X.s₀.heap.objs.size<=X.env.locals
 inj:∀x y c,X.env.cells.lookup x=some c->X.env.cells.lookup y=some c->x=y
 has:∀x,(X.env.kindOf x=some .cell\/X.env.kindOf x=some .free) -> ∃c,X.env.cells.lookup x=some c
 cab:∀x c,X.fn x=true->X.env.cells.lookup x=some c->X.s₀.heap.objs.size<=c
 hd:X.calm=true->X.A.handled=none
 frames:X.A.frames=some X.stack
 stk:X.stack=X.outer\/(X.stack=X.env::X.outer/\X.env.frame=some X.env.locals)
 exf:∀b∈X.ex,b≠X.env.locals /\ ∀x c,X.env.cells.lookup x=some c->c≠b
 bs:∀b o,X.base.get? b=some o->X.s₀.heap.get? b=some o/\X.H₀ b=none
 Hl:X.base.objs.size<=X.s₀.heap.objs.size
 Gu:∀b o,X.base.get? b=some o->b∉X.ex
 N_:∀b∈X.ex,b∉X.fs
 qd:X.s₀.heap.FunFrames X.base X.outer
 Pz:∀b∈X.fs,X.H₀ b=none
structure Inv (X:Cx) (pins:List (Addr×Obj)) (σ:List (Option V)) (H:Hp) (s:Shared):Prop where
 ok:X.Ok
 os:s.os=X.s₀.os
 bare:AllBare s.gens
 base:Un X.fs X.ex X.H₀ H X.s₀.heap s.heap
 loc:∃m,s.heap.Ns X.env.locals m /\ ∀(i:Nat) (x:Str) (v:V),X.N[i]? = some x->σ[i]? = some (some v)->Vis X.env.scope x -> ∃u,RelV v u/\Look X.env s.heap m x u
 cell:∀x c,X.env.cells.lookup x=some c -> ∃v,s.heap.IsCell c v
 free:H X.env.locals=none
 jH:∀x c,X.env.cells.lookup x=some c->H c=none
 pin:∀p∈X.pn++pins,s.heap.get? p.1=some p.2/\H p.1=none/\p.1≠X.env.locals/\p.1∉X.fs /\ ∀v,p.2.data ≠ .cell v
 hok:nU X.prog X.w H s.heap
 len:σ.length=X.N.length
section
variable {X:Cx} {pins:List (Addr×Obj)} {σ:List (Option V)} {H H':Hp} {s:Shared} {h':Heap}
theorem Cx.Ok.aar (ok:X.Ok) {b:Addr} {o:Obj} (e:X.base.get? b=some o):b∉X.fs:=fun hb=>by
 have:=(ok.qd.mem hb).1;rw [e] at this;cases this
theorem Inv.bs (I:Inv X pins σ H s):∀b o,X.base.get? b=some o->s.heap.get? b=some o/\H b=none:=fun b o e=>
 ⟨I.base.keep b o (I.ok.bs b o e).1 (I.ok.bs b o e).2 (I.ok.aar e) (I.ok.Gu b o e),I.base.free b o (I.ok.bs b o e).1 (I.ok.bs b o e).2 (I.ok.Gu b o e)⟩
theorem Inv.bk (I:Inv X pins σ H s):∀b o,X.base.get? b=some o->s.heap.get? b=some o:=fun b o e=>(I.bs b o e).1
theorem Inv.mod (I:Inv X pins σ H s):Mod X.K X.mg X.base:=I.ok.mod
theorem Inv.nA (I:Inv X pins σ H s):X.K.In s.heap:=I.ok.mod.Pk.keeps I.bk
theorem Inv.fr (I:Inv X pins σ H s):∃m,Fr X.base X.env.locals s.heap m:=
 let ⟨m,hn,_⟩:=I.loc
 ⟨m,hn,I.bk,Nat.le_trans I.ok.Hl I.ok.above⟩
theorem Inv.lt (I:Inv X pins σ H s):X.env.locals<s.heap.objs.size:=let ⟨_,hn,_⟩:=I.loc;hn.lt
theorem Inv.sz (I:Inv X pins σ H s):X.s₀.heap.objs.size<=s.heap.objs.size:=Nat.le_trans I.ok.above (Nat.le_of_lt I.lt)
theorem Inv.aaq (I:Inv X pins σ H s) {a:Addr} (h:s.heap.objs.size<=a):a∉X.fs:=fun hb=>by
 obtain ⟨_,o,ho,_⟩:=I.ok.qd.mem hb;exact absurd (Nat.lt_of_lt_of_le (Heap.lt_size ho) (Nat.le_trans I.sz h)) (Nat.lt_irrefl _)
theorem Inv.RP (I:Inv X pins σ H s):∀x c,X.env.cells.lookup x=some c->c≠X.env.locals:=fun x c e z=>by
 obtain ⟨v,o,ho,hd⟩:=I.cell x c e;obtain ⟨m,⟨o',es,ep,ho',hd',_⟩,_⟩:=I.loc;rw [z,ho'] at ho;cases ho;rw [hd'] at hd;cases hd
theorem Inv.qd (I:Inv X pins σ H s):s.heap.FunFrames X.base X.outer:=by
 have all:∀(l:List Env),(∀b∈frs l,b∈X.fs)->X.s₀.heap.FunFrames X.base l->s.heap.FunFrames X.base l:=by
  intro l
  induction l with
  | nil=>intro _ _;trivial
  | cons env r ih=>
    intro hs hl;obtain ⟨hk,⟨L,o,hf,hn,ho,hd⟩,hr⟩:=hl;have hL:L∈X.fs:=hs L (by unfold frs;rw [List.filterMap_cons,hf];exact List.mem_cons_self);obtain ⟨sl,e⟩:=I.base.slot L o ho (I.ok.Pz L hL) hL fun z=>I.ok.N_ L z hL;exact ⟨hk,⟨L,_,hf,hn,e,hd⟩,ih (fun b hb=>hs b (by unfold frs;rw [List.filterMap_cons,hf];exact List.mem_cons_of_mem _ hb)) hr⟩
 exact all X.outer (fun _ hb=>hb) I.ok.qd
theorem Inv.stack (I:Inv X pins σ H s):s.heap.FunFrames X.base X.stack:=by
 rcases I.ok.stk with e|⟨e,hf⟩
 ·rw [e];exact I.qd
 ·rw [e]
  obtain ⟨m,hn,_⟩:=I.loc;refine .cons (by rw [I.ok.kind];decide) hf hn ?_ I.qd;exact Heap.get?_none_of_le (Nat.le_trans I.ok.Hl I.ok.above)
theorem Inv.pG (I:Inv X pins σ H s):∀b∈frs X.stack,b∈X.env.locals::X.fs:=fun b hb=>by
 rcases I.ok.stk with e|⟨e,hf⟩
 ·rw [e] at hb;exact List.mem_cons_of_mem _ hb
 ·rw [e] at hb
  unfold frs at hb;rw [List.filterMap_cons,hf] at hb;exact hb
theorem Inv.wu (I:Inv X pins σ H s):∀b∈frs X.stack,H b=none:=fun b hb=>by
 rcases List.mem_cons.mp (I.pG b hb) with e|hb
 ·rw [e];exact I.free
 ·obtain ⟨_,o,ho,_⟩:=I.ok.qd.mem hb
  exact I.base.free b o ho (I.ok.Pz b hb) fun z=>I.ok.N_ b z hb
theorem Inv.step {g':Array GenState} {t':Nat} {d':Drawn} {ch:List Addr} (I:Inv X pins σ H s)
 (hch:∀b∈ch,(b∈X.ex\/X.s₀.heap.objs.size<=b)/\b≠X.env.locals/\(∀x c,X.env.cells.lookup x=some c->c≠b) /\ ∀p∈X.pn++pins,p.1≠b)
 (keep:∀b o,b≠X.env.locals->b∉X.fs->b∉ch->s.heap.get? b=some o->H b=none->h'.get? b=some o)
 (slot:∀b o,b≠X.env.locals->b∈X.fs->b∉ch->s.heap.get? b=some o->H b=none -> ∃sl,h'.get? b=some {o with slots:=sl}) (free:∀b o,b∉ch->s.heap.get? b=some o->H b=none->H' b=none)
 (there:∀b o,b∉ch->s.heap.get? b=some o -> ∃o',h'.get? b=some o')
 (tups:∀b xs,H b=some (.tup xs)->H' b=some (.tup xs)) (qe:∀b o u,H b=some (.lA o u)->H' b=some (.lA o u)) (rZ:∀b ps,H b=some (.OD ps) -> ∃more,H' b=some (.OD (ps++more)))
 (ns:∀m,s.heap.Ns X.env.locals m->h'.Ns X.env.locals m) (hok:nU X.prog X.w H' h') (hg:AllBare g'):
 Inv X pins σ H' {s with heap:=h',gens:=g',drawn:=d',toks:=t'}:=by
 have neL:∀b o,X.s₀.heap.get? b=some o->b≠X.env.locals:=fun b o e=>Nat.ne_of_lt (Nat.lt_of_lt_of_le (Heap.lt_size e) I.ok.above)
 have Ws:∀b o,X.s₀.heap.get? b=some o->b∉X.ex->b∉ch:=fun b o e hx hb=>by
  rcases (hch b hb).1 with z|z
  ·exact hx z
  ·exact absurd (Nat.lt_of_lt_of_le (Heap.lt_size e) z) (Nat.lt_irrefl _)
 have cellK:∀x c,X.env.cells.lookup x=some c -> ∀v,s.heap.IsCell c v->h'.IsCell c v:=fun x c e v ⟨o,ho,hd⟩=>by
  have Ue:c∉ch:=fun z=>(hch c z).2.2.1 x c e rfl
  by_cases hc:c∈X.fs
  ·obtain ⟨sl,q⟩:=slot c o (I.RP x c e) hc Ue ho (I.jH x c e)
   exact ⟨_,q,hd⟩
  ·exact ⟨o,keep c o (I.RP x c e) hc Ue ho (I.jH x c e),hd⟩
 refine ⟨I.ok,I.os,hg,⟨fun b o e n hb hx=> ?_,fun b o e n hb hx=> ?_,fun b o e n hx=> ?_,fun b o e hx=> ?_,fun b xs e=>tups b xs (I.base.tups b xs e),fun b o xs e=>qe b o xs (I.base.qe b o xs e),fun b ps e=> ?_⟩, ?_,fun x c e=> ?_, ?_,fun x c e=> ?_,fun p hp=> ?_,hok,I.len⟩
 ·exact keep b o (neL b o e) hb (Ws b o e hx) (I.base.keep b o e n hb hx) (I.base.free b o e n hx)
 ·obtain ⟨sl,e1⟩:=I.base.slot b o e n hb hx
  obtain ⟨sl',e2⟩:=slot b _ (neL b o e) hb (Ws b o e hx) e1 (I.base.free b o e n hx);exact ⟨sl',e2⟩
 ·obtain ⟨o',e1⟩:=I.base.there b o e hx
  exact free b o' (Ws b o e hx) e1 (I.base.free b o e n hx)
 ·obtain ⟨o',e1⟩:=I.base.there b o e hx
  exact there b o' (Ws b o e hx) e1
 ·obtain ⟨m1,e1⟩:=I.base.rZ b ps e
  obtain ⟨m2,e2⟩:=rZ b _ e1;exact ⟨m1++m2,by rw [e2,Array.append_assoc]⟩
 ·obtain ⟨m,hn,hl⟩:=I.loc
  refine ⟨m,ns m hn,fun i x v e1 e2 e3=> ?_⟩;obtain ⟨u,r,l⟩:=hl i x v e1 e2 e3;refine ⟨u,r, ?_⟩;rcases l with l|⟨k,c,e,z⟩
  ·exact .inl l
  ·exact .inr ⟨k,c,e,cellK x c e _ z⟩
 ·obtain ⟨v,z⟩:=I.cell x c e
  exact ⟨v,cellK x c e v z⟩
 ·obtain ⟨m,⟨o,_,_,ho,_⟩,_⟩:=I.loc
  exact free _ o (fun z=>(hch _ z).2.1 rfl) ho I.free
 ·obtain ⟨v,o,ho,hd⟩:=I.cell x c e
  exact free c o (fun z=>(hch c z).2.2.1 x c e rfl) ho (I.jH x c e)
 ·obtain ⟨e,n,ne,nf,d⟩:=I.pin p hp
  have Ue:p.1∉ch:=fun z=>(hch p.1 z).2.2.2 p hp rfl;exact ⟨keep p.1 p.2 ne nf Ue e n,free p.1 p.2 Ue e n,ne,nf,d⟩
theorem Inv.un {t':Nat} (I:Inv X pins σ H s) (u:Un X.fs [] H H' s.heap h') (hok:nU X.prog X.w H' h'):Inv X pins σ H' {s with heap:=h',toks:=t'}:=by
 obtain ⟨m,⟨o,es,ep,ho,r⟩,_⟩:=id I.loc;obtain ⟨sl,hL⟩:=u.any ho I.free (by simp)
 exact I.step (g':=s.gens) (d':=s.drawn) (ch:=[]) (fun _ z=>nomatch z) (fun b o _ hb _ e n=>u.keep b o e n hb (by simp)) (fun b o _ hb _ e n=>u.slot b o e n hb (by simp)) (fun b o _ e n=>u.free b o e n (by simp)) (fun b o _ e=>u.there b o e (by simp)) u.tups u.qe u.rZ (fun m' hm=>by
  obtain ⟨o',es',ep',ho',r'⟩:=hm;rw [ho] at ho';cases ho';exact ⟨_,es',ep',hL,r'⟩) hok I.bare
theorem Inv.call {g':Array GenState} {t':Nat} {d':Drawn} {ch:List Addr} (I:Inv X pins σ H s) (u:Un (frs X.stack) ch H H' s.heap h') (hok:nU X.prog X.w H' h') (hg:AllBare g')
 (hch:∀b∈ch,(b∈X.ex\/X.s₀.heap.objs.size<=b)/\b≠X.env.locals/\(∀x c,X.env.cells.lookup x=some c->c≠b) /\ ∀p∈X.pn++pins,p.1≠b):
 Inv X pins σ H' {s with heap:=h',gens:=g',drawn:=d',toks:=t'}:=by
 obtain ⟨m,⟨o,es,ep,ho,r⟩,_⟩:=id I.loc;obtain ⟨sl,hL⟩:=u.any ho I.free fun z=>(hch _ z).2.1 rfl
 exact I.step (ch:=ch) hch (fun b o hL hb hc e n=>u.keep b o e n (fun z=>(List.mem_cons.mp (I.pG b z)).elim hL hb) hc) (fun b o _ _ hc e n=>u.any e n hc) (fun b o hc e n=>u.free b o e n hc) (fun b o hc e=>u.there b o e hc) u.tups u.qe u.rZ (fun m' hm=>by
  obtain ⟨o',es',ep',ho',r'⟩:=hm;rw [ho] at ho';cases ho';exact ⟨_,es',ep',hL,r'⟩) hok hg
theorem Inv.turned {t':Nat} {it:Addr} (I:Inv X pins σ H s) (k:∀b o,b≠it->s.heap.get? b=some o->h'.get? b=some o) (hn:H it=none) (hL:it≠X.env.locals)
 (h1:it∈X.ex\/X.s₀.heap.objs.size<=it) (h2:∀x c,X.env.cells.lookup x=some c->c≠it) (h3:∀p∈X.pn++pins,p.1≠it):Inv X pins σ H {s with heap:=h',toks:=t'}:=by
 have Q0:∀b u,H b=some u->b≠it:=fun b u e z=>by rw [z,hn] at e;cases e
 refine I.step (g':=s.gens) (d':=s.drawn) (ch:=[it]) (fun b hb=> ?_) (fun b o _ _ hc e _=>k b o (fun z=>hc (by simp [z])) e) (fun b o _ _ hc e _=>⟨o.slots,k b o (fun z=>hc (by simp [z])) e⟩) (fun _ _ _ _ n=>n)
  (fun b o hc e=>⟨o,k b o (fun z=>hc (by simp [z])) e⟩) (fun _ _ e=>e) (fun _ _ _ e=>e) (fun b ps e=>⟨#[],by rw [e];simp⟩) (fun m hm=> ?_) (fun b u e=> ?_) I.bare
 ·have e:b=it:=by simpa using hb
  subst e;exact ⟨h1,hL,h2,h3⟩
 ·obtain ⟨o,es,ep,ho,r⟩:=hm
  exact ⟨o,es,ep,k _ o (Ne.symm hL) ho,r⟩
 ·refine (I.hok b u e).stay (fun c v hc q=>k c v ?_ q) (fun _ q=>q) fun _ _ q=>q
  rcases hc with z|z
  ·rw [z];exact Q0 b u e
  ·exact Q0 c _ z
theorem Inv.tok (I:Inv X pins σ H s) (t:Nat):Inv X pins σ H {s with toks:=t}:=I.un (h':=s.heap) (t':=t) Un.refl I.hok
theorem Inv.kept {t':Nat} (I:Inv X pins σ H s) (k:∀b u,s.heap.get? b=some u->h'.get? b=some u):Inv X pins σ H {s with heap:=h',toks:=t'}:=I.un (Un.kept k) (I.hok.kept k)
theorem Inv.laid {a:Addr} {o:HO} {t':Nat} (I:Inv X pins σ H s) (k:∀b u,s.heap.get? b=some u->h'.get? b=some u) (hp:s.heap.objs.size<=a) (new:cJ X.prog X.w (upd H a o) h' a o):
 Inv X pins σ (upd H a o) {s with heap:=h',toks:=t'}:=I.un (Un.laid k hp (I.hok.fresh hp)) (I.hok.laid k hp new)
theorem Inv.write {x e:Addr} {o:HO} {t':Nat} (I:Inv X pins σ H s) (mu:V6 (H x)) (he:e=x\/H e=some (.own x)) (k:∀b u,b≠e->s.heap.get? b=some u->h'.get? b=some u) (heo:∃u,h'.get? e=some u)
 (new:cJ X.prog X.w (upd H x o) h' x o):Inv X pins σ (upd H x o) {s with heap:=h',toks:=t'}:=I.un (Un.write mu he k heo) (I.hok.write mu he k heo new)
theorem Inv.D_ {vG:List (Addr×Obj)} (I:Inv X pins σ H s) (h:∀p∈vG,s.heap.get? p.1=some p.2/\H p.1=none/\p.1≠X.env.locals/\p.1∉X.fs /\ ∀v,p.2.data ≠ .cell v):Inv X vG σ H s:=
 ⟨I.ok,I.os,I.bare,I.base,I.loc,I.cell,I.free,I.jH,fun p hp=>(List.mem_append.mp hp).elim (fun z=>I.pin p (List.mem_append_left _ z)) (h p),I.hok,I.len⟩
theorem yW {N:List Str} (hN:N.Nodup) {i j:Nat} {x:Str} (a:N[i]? = some x) (b:N[j]? = some x):i=j:=by
 obtain ⟨h1,e1⟩:=List.getElem?_eq_some_iff.mp a;obtain ⟨h2,e2⟩:=List.getElem?_eq_some_iff.mp b;exact (List.getElem_inj hN).mp (e1.trans e2.symm)
theorem pF {M:Model} {A:Around} {E:Value->Shared->Prop} {i:Nat} {x:Str} {v:V} {u:Value} {Q:Unit->Shared->Prop} (I:Inv X pins σ H s) (hN:X.N.Nodup) (hi:X.N[i]? = some x) (hx:Loc X.env.scope x) (r:RelV v u)
 (h:∀s',Inv X pins (σ.set i (some v)) H s'->(∃a,Heap.SameBut a s.heap s'.heap/\(a=X.env.locals\/X.env.cells.lookup x=some a))->Q () s') (hf:X.fn x=true\/X.env.scope.names.lookup x=some .local:=by first |exact .inl rfl|exact .inr rfl|assumption):wpAny M A (storeName X.env x u) Q E s:=by
 obtain ⟨m,hn,hl⟩:=id I.loc;have hcls:(X.env.scope.kind == .class||(X.env.scope.kind == .module&&X.env.locals != X.env.globals))=false:=by rw [I.ok.kind];rfl
 have aea:i<σ.length:=by rw [I.len];exact (List.getElem?_eq_some_iff.mp hi).1
 have RP:=I.RP
 have tracked:∀{a:Addr} {h':Heap},(∃o,s.heap.get? a=some o/\H a=none)->Heap.SameBut a s.heap h'->nU X.prog X.w H h':=fun {a h'} ha hs b ob e=>by
  obtain ⟨_,_,hfree⟩:=ha;refine (I.hok b ob e).stay (fun c w' hc q=>(hs.2 c ?_).trans q) (fun _ q=>q) fun _ _ q=>q;rintro rfl;rcases hc with rfl|hc
  ·rw [hfree] at e;cases e
  ·rw [hfree] at hc;cases hc
 rcases hx with hk|hk
 ·refine wpAny_storeName_local hk hn (fun h' hn' hs=> ?_) hcls
  obtain ⟨oL,_,_,hoL,_⟩:=id hn;refine h _ ⟨I.ok,I.os,I.bare,⟨fun b o e n hb hx=> ?_,fun b o e n hb hx=> ?_,I.base.free,fun b o e hx=> ?_,I.base.tups,I.base.qe,I.base.rZ⟩,⟨_,hn',fun j y v' e1 e2 e3=> ?_⟩,fun y c e=> ?_,I.free,I.jH,fun p hp=> ?_,tracked ⟨oL,hoL,I.free⟩ hs,by simpa using I.len⟩ ⟨_,hs,.inl rfl⟩
  ·exact (hs.2 b (Nat.ne_of_lt (Nat.lt_of_lt_of_le (Heap.lt_size e) I.ok.above))).trans (I.base.keep b o e n hb hx)
  ·obtain ⟨sl,e1⟩:=I.base.slot b o e n hb hx
   exact ⟨sl,(hs.2 b (Nat.ne_of_lt (Nat.lt_of_lt_of_le (Heap.lt_size e) I.ok.above))).trans e1⟩
  ·obtain ⟨o',e1⟩:=I.base.there b o e hx
   exact ⟨o',(hs.2 b (Nat.ne_of_lt (Nat.lt_of_lt_of_le (Heap.lt_size e) I.ok.above))).trans e1⟩
  ·by_cases hj:j=i
   ·subst hj
    rw [hi] at e1;cases e1;rw [List.getElem?_set_self aea] at e2;cases e2;exact ⟨u,r,.inl ⟨hk,by simp⟩⟩
   ·rw [List.getElem?_set_ne (Ne.symm hj)] at e2
    obtain ⟨u',r',q⟩:=hl j y v' e1 e2 e3;refine ⟨u',r', ?_⟩;rcases q with ⟨k,e⟩|⟨k,c,e,z⟩
    ·refine .inl ⟨k, ?_⟩
     have:y≠x:=fun e=>hj (yW hN e1 (e▸hi));simp [this,e]
    ·exact .inr ⟨k,c,e,z.sameBut hs (RP y c e)⟩
  ·obtain ⟨w',z⟩:=I.cell y c e
   exact ⟨w',z.sameBut hs (RP y c e)⟩
  ·obtain ⟨e,n,ne,nf,d⟩:=I.pin p hp
   exact ⟨(hs.2 p.1 ne).trans e,n,ne,nf,d⟩
 ·have hfn:X.fn x=true:=by
   rcases hf with z|z
   ·exact z
   ·rw [z] at hk;cases hk
  obtain ⟨c,hc⟩:=I.ok.has x (.inl hk);obtain ⟨w',z⟩:=I.cell x c hc;refine wpAny_storeName_cell I.ok.kind hk hc z (fun h' hc' hs=> ?_);obtain ⟨oc,hoc,abn⟩:=id z;refine h {s with heap:=h'} ⟨I.ok,I.os,I.bare,⟨fun b o e n hb hx=> ?_,fun b o e n hb hx=> ?_,I.base.free,fun b o e hx=> ?_,I.base.tups,I.base.qe,I.base.rZ⟩,⟨m,hn.sameBut hs (Ne.symm (RP x c hc)),fun j y v' e1 e2 e3=> ?_⟩,fun y c' e=> ?_,I.free,I.jH,fun p hp=> ?_,tracked ⟨oc,hoc,I.jH x c hc⟩ hs,by simpa using I.len⟩ ⟨c,hs,.inr hc⟩
  ·exact (hs.2 b (Nat.ne_of_lt (Nat.lt_of_lt_of_le (Heap.lt_size e) (I.ok.cab x c hfn hc)))).trans (I.base.keep b o e n hb hx)
  ·obtain ⟨sl,e1⟩:=I.base.slot b o e n hb hx
   exact ⟨sl,(hs.2 b (Nat.ne_of_lt (Nat.lt_of_lt_of_le (Heap.lt_size e) (I.ok.cab x c hfn hc)))).trans e1⟩
  ·obtain ⟨o',e1⟩:=I.base.there b o e hx
   exact ⟨o',(hs.2 b (Nat.ne_of_lt (Nat.lt_of_lt_of_le (Heap.lt_size e) (I.ok.cab x c hfn hc)))).trans e1⟩
  ·by_cases hj:j=i
   ·subst hj
    rw [hi] at e1;cases e1;rw [List.getElem?_set_self aea] at e2;cases e2;exact ⟨u,r,.inr ⟨.inl hk,c,hc,hc'⟩⟩
   ·rw [List.getElem?_set_ne (Ne.symm hj)] at e2
    obtain ⟨u',r',q⟩:=hl j y v' e1 e2 e3;refine ⟨u',r', ?_⟩;rcases q with q|⟨k,c',e,z'⟩
    ·exact .inl q
    ·refine .inr ⟨k,c',e,z'.sameBut hs ?_⟩
     rintro rfl;exact hj (yW hN e1 (I.ok.inj _ _ _ e hc▸hi))
  ·by_cases hcc:c'=c
   ·subst hcc;exact ⟨_,hc'⟩
   ·obtain ⟨w2,z2⟩:=I.cell y c' e
    exact ⟨w2,z2.sameBut hs hcc⟩
  ·obtain ⟨e,n,ne,nf,d⟩:=I.pin p hp
   refine ⟨(hs.2 p.1 ?_).trans e,n,ne,nf,d⟩;intro q;rw [q,hoc] at e;have q':oc=p.2:=Option.some.inj e;exact d w' (by rw [←q'];exact abn)
theorem yp {M:Model} {A:Around} {E:Value->Shared->Prop} {i:Nat} {x:Str} {v:V} {u:Value} {Q:Unit->Shared->Prop} (I:Inv X pins σ H s) (hN:X.N.Nodup) (hi:X.N[i]? = some x) (hx:Loc X.env.scope x) (r:RelV v u)
 (h:∀s',Inv X pins (σ.set i (some v)) H s'->Q () s') (hf:X.fn x=true\/X.env.scope.names.lookup x=some .local:=by first |exact .inl rfl|exact .inr rfl|assumption):wpAny M A (storeName X.env x u) Q E s:=
 pF I hN hi hx r (fun s' I' _=>h s' I') hf
theorem Inv.call' {s':Shared} {ch:List Addr} (I:Inv X pins σ H s) (ho:s'.os=s.os) (u:Un (frs X.stack) ch H H' s.heap s'.heap) (hok:nU X.prog X.w H' s'.heap) (hg:AllBare s'.gens)
 (hch:∀b∈ch,(b∈X.ex\/X.s₀.heap.objs.size<=b)/\b≠X.env.locals/\(∀x c,X.env.cells.lookup x=some c->c≠b) /\ ∀p∈X.pn++pins,p.1≠b):Inv X pins σ H' s':=by
 obtain ⟨h',g',d',t',o'⟩:=s';have e:o'=s.os:=ho;subst e;exact I.call (g':=g') (t':=t') (d':=d') u hok hg hch
end
abbrev XK:=Value->Option Addr->Hp->Prop
abbrev St:=List (Option V)
abbrev VK:=V->Hp->Prop
abbrev TE:=St->Hp->VK->Prop
abbrev TT:=St->Hp->(Bool->Hp->Prop)->Prop
abbrev TA:=St->Hp->(List V->Hp->Prop)->Prop
structure Ends where
 nx:St->Hp->Prop
 rt:VK
 bk:St->Hp->Prop:=fun _ _=>False
 ct:St->Hp->Prop:=fun _ _=>False
abbrev TS:=Ends->St->Hp->Prop
def EP (X:Cx) (pins:List (Addr×Obj)) (σ:St) (Q:VK) (u:Value) (s':Shared):Prop:=∃v H',Inv X pins σ H' s'/\RelV v u/\Q v H'
def TP (X:Cx) (pins:List (Addr×Obj)) (σ:St) (Q:Bool->Hp->Prop) (b:Bool) (s':Shared):Prop:=∃H',Inv X pins σ H' s'/\Q b H'
def AP (X:Cx) (pins:List (Addr×Obj)) (σ:St) (Q:List V->Hp->Prop) (us:List Value) (s':Shared):Prop:=∃vs H',Inv X pins σ H' s'/\Vals vs us/\Q vs H'
def SP (X:Cx) (pins:List (Addr×Obj)) (D:Ends) (f:Flow) (s':Shared):Prop:=
 match f with
 | .next=>∃σ' H',Inv X pins σ' H' s'/\D.nx σ' H'
 | .brk=>∃σ' H',Inv X pins σ' H' s'/\D.bk σ' H'
 | .cont=>∃σ' H',Inv X pins σ' H' s'/\D.ct σ' H'
 | .ret u=>∃v σ' H',Inv X pins σ' H' s'/\RelV v u/\D.rt v H'
def PE (X:Cx) (e:Expr) (t:TE):Prop:=
 ∀(pins:List (Addr×Obj)) (s:Shared) (σ:St) (H:Hp) (Q:VK),Inv X pins σ H s->t σ H Q->wpAny (model X.prog X.w) X.A (eval e X.env) (EP X pins σ Q) X.xe s
def PT (X:Cx) (e:Expr) (t:TT):Prop:=
 ∀(pins:List (Addr×Obj)) (s:Shared) (σ:St) (H:Hp) (Q:Bool->Hp->Prop),Inv X pins σ H s->t σ H Q->wpAny (model X.prog X.w) X.A (isTrue e X.env (eval e X.env)) (TP X pins σ Q) X.xe s
def PW (X:Cx) (e:Expr) (t:TT):Prop:=
 ∀(whole:Sem Value) (pins:List (Addr×Obj)) (s:Shared) (σ:St) (H:Hp) (Q:Bool->Hp->Prop),Inv X pins σ H s->t σ H Q->wpAny (model X.prog X.w) X.A (isTrue e X.env whole) (TP X pins σ Q) X.xe s
theorem PW.pt {X:Cx} {e:Expr} {t:TT} (h:PW X e t):PT X e t:=h _
def PA (X:Cx) (es:List Expr) (t:TA):Prop:=
 ∀(pos:Pos) (pins:List (Addr×Obj)) (s:Shared) (σ:St) (H:Hp) (Q:List V->Hp->Prop),Inv X pins σ H s->t σ H Q->wpAny (model X.prog X.w) X.A (spliced (backTo pos (starEach es X.env))) (AP X pins σ Q) X.xe s
def PS (X:Cx) (st:Stmt) (t:TS):Prop:=
 ∀(pins:List (Addr×Obj)) (s:Shared) (σ:St) (H:Hp) (D:Ends),Inv X pins σ H s->t D σ H->wpAny (model X.prog X.w) X.A (exec st X.env) (SP X pins D) X.xe s
def HF (X:Cx) (st:List Stmt) (t:TS):Prop:=
 ∀(pins:List (Addr×Obj)) (s:Shared) (σ:St) (H:Hp) (D:Ends),Inv X pins σ H s->t D σ H->wpAny (model X.prog X.w) X.A (execs st X.env) (SP X pins D) X.xe s
theorem cM {α:Type} {t:Sem α} {Q Q':α->Shared->Prop} {M:Model} {A:Around} {E:Value->Shared->Prop} {s:Shared} (h:wpAny M A t Q E s) (hQ:∀a s,Q a s->Q' a s):wpAny M A t Q' E s:=wpAny_mono h hQ fun _ _ x=>x
end L2
namespace L2
open PySem PySem.Spec PyProof.Rows
section
variable {X:Cx}
def su (i:Nat):TE:=fun σ H Q=>∃v,σ[i]? = some (some v)/\Q v H
def tC (v:V):TE:=fun _ H Q=>Q v H
theorem Qz {i:Nat} {x:Str} {pos:Pos} (hN:X.N[i]? = some x) (hv:Vis X.env.scope x) (hd:(x==("__debug__" :Str))=false:=by decide) (hcd:(x==("__classdict__" :Str))=false:=by decide):PE X (.Name x pos) (su i):=by
 intro pins s σ H Q I h;obtain ⟨v,e,h⟩:=h;obtain ⟨m,hn,hl⟩:=I.loc;obtain ⟨u,r,l⟩:=hl i x v hN e hv;have fin:EP X pins σ Q u s:=⟨v,H,I,r,h⟩;rcases l with ⟨hk,hm⟩|⟨hk,c,hc,hcell⟩
 ·exact wpAny_Name (wpAny_loadName_local I.ok.kind hk hn hm fin) hd
 ·rcases hk with hk|hk
  ·exact wpAny_Name (wpAny_loadName_cell I.ok.kind hk hc hcell fin) hd
  ·exact wpAny_Name (wpAny_loadName_free I.ok.kind hk hc hcell fin hcd) hd
theorem aF {i j pos}:PE X (.Constant (.int i) j pos) (tC (.int i)):=fun _ _ _ H _ I h=>wpAny_Constant_int ⟨.int i,H,I.tok _,⟨_,rfl⟩,h⟩
theorem mZ {b j pos}:PE X (.Constant (.bool b) j pos) (tC (.bl b)):=fun _ _ _ H _ I h=>Constant_bool ⟨.bl b,H,I,rfl,h⟩
theorem QB {j pos}:PE X (.Constant .none j pos) (tC .non):=fun _ _ _ H _ I h=>Constant_none ⟨.non,H,I,rfl,h⟩
theorem dB {x j pos}:PE X (.Constant (.str x) j pos) (tC (.str x)):=fun _ _ _ H _ I h=>Calls.Constant_str ⟨.str x,H,I.tok _,⟨_,rfl⟩,h⟩
def Gl (X:Cx) (x:Str):Prop:=X.env.kindOf x=some .globalImplicit
theorem wV {E:Value->Shared->Prop} {pins:List (Addr×Obj)} {s:Shared} {σ:St} {H:Hp} {x:Str} {u:Value} {pos:Pos} {Q:Value->Shared->Prop} (I:Inv X pins σ H s) (hg:Gl X x) (hm:X.mg x=some u) (h:Q u s)
 (hd:(x==("__debug__" :Str))=false:=by decide):wpAny (model X.prog X.w) X.A (eval (.Name x pos) X.env) Q E s:=
 Calls.Name_function_global I.ok.kind hg (Calls.loadGlobal_global (by rw [I.ok.glob];exact I.mod.glob.keeps I.bk) hm h) hd
theorem lQ {E:Value->Shared->Prop} {pins:List (Addr×Obj)} {s:Shared} {σ:St} {H:Hp} {x:Str} {u:Value} {pos:Pos} {Q:Value->Shared->Prop} (I:Inv X pins σ H s) (hg:Gl X x) (hm:X.mg x=none) (hv:bootBuiltins x=some u) (h:Q u s)
 (hn:x ≠ "__name__" :=by decide) (hd:(x==("__debug__" :Str))=false:=by decide):wpAny (model X.prog X.w) X.A (eval (.Name x pos) X.env) Q E s:=by
 obtain ⟨mb,h1,h2⟩:=I.mod.blt;exact Calls.Name_function_global I.ok.kind hg (Calls.loadGlobal_builtin (by rw [I.ok.glob];exact I.mod.glob.keeps I.bk) hm (by rw [I.ok.blt];exact h1.keeps I.bk) ((h2 x hn).trans hv) h) hd
theorem Ec {x:Str} {v:V} {u:Value} {pos:Pos} (hg:Gl X x) (hm:X.mg x=some u) (r:RelV v u) (hd:(x==("__debug__" :Str))=false:=by decide):PE X (.Name x pos) (tC v):=
 fun _ _ _ H _ I h=>wV I hg hm ⟨v,H,I,r,h⟩ hd
theorem gR {x:Str} {v:V} {u:Value} {pos:Pos} (hg:Gl X x) (hm:X.mg x=none) (hv:bootBuiltins x=some u) (r:RelV v u) (hn:x ≠ "__name__" :=by decide) (hd:(x==("__debug__" :Str))=false:=by decide):PE X (.Name x pos) (tC v):=
 fun _ _ _ H _ I h=>lQ I hg hm hv ⟨v,H,I,r,h⟩ hn hd
variable {a b:Expr} {ta tb:TE} {pos:Pos}
def tB (t:TE):TT:=fun σ H Q=>t σ H fun x H1=>∃c,x = .bl c/\Q c H1
theorem gJ {e:Expr} {t:TE} (h:PE X e t) (he:∀whole,isTrue e X.env whole=(do let v ←whole;standAt e.pos;holding [v] (truthy v)):=by intro _;rfl):PT X e (tB t):=by
 intro pins s σ H Q I hw;refine isTrue_plain (cM (h pins s σ H _ I hw) fun v s1 ⟨x,H1,I1,r1,q1⟩=> ?_) (he _);obtain ⟨d,rfl,q⟩:=q1;cases r1;exact wpAny_truthy_bool ⟨H1,I1,q⟩
variable {tA Wd:TT} {rest:List Expr}
def XS (t u:TT):TT:=fun σ H Q=>t σ H fun c H1=>if c=true then u σ H1 Q else Q false H1
def tOr (t u:TT):TT:=fun σ H Q=>t σ H fun c H1=>if c=true then Q true H1 else u σ H1 Q
def XF (t:TT):TT:=fun σ H Q=>t σ H fun c H1=>Q (!c) H1
theorem wK (ha:PT X a tA):PW X (.BoolOp .And [a] pos) tA:=by
 intro wh pins s σ H Q I h;refine isTrue_and (cM (ha pins s σ H Q I h) fun c s1 e=> ?_);cases c with
 | true=>exact isTrue_and_nil e
 | false=>exact e
theorem nj (ha:PT X a tA):PW X (.BoolOp .Or [a] pos) tA:=by
 intro wh pins s σ H Q I h;refine isTrue_or (cM (ha pins s σ H Q I h) fun c s1 e=> ?_);cases c with
 | false=>exact isTrue_or_nil e
 | true=>exact e
theorem Bs (ha:PT X a tA) (hb:PW X (.BoolOp .And (b::rest) pos) Wd):PW X (.BoolOp .And (a::b::rest) pos) (XS tA Wd):=by
 intro wh pins s σ H Q I h;refine isTrue_and (cM (ha pins s σ H _ I h) fun c s1 ⟨H1,I1,q1⟩=> ?_);cases c with
 | true=>exact hb wh pins s1 σ H1 Q I1 q1
 | false=>exact ⟨H1,I1,q1⟩
theorem qy (ha:PT X a tA) (hb:PW X (.BoolOp .Or (b::rest) pos) Wd):PW X (.BoolOp .Or (a::b::rest) pos) (tOr tA Wd):=by
 intro wh pins s σ H Q I h;refine isTrue_or (cM (ha pins s σ H _ I h) fun c s1 ⟨H1,I1,q1⟩=> ?_);cases c with
 | true=>exact ⟨H1,I1,q1⟩
 | false=>exact hb wh pins s1 σ H1 Q I1 q1
theorem jz (ha:PT X a tA):PT X (.UnaryOp .Not a pos) (XF tA):=by
 intro pins s σ H Q I h;exact isTrue_not (ha pins s σ H (fun c H1=>Q (!c) H1) I h)
def Td (ta tb:TE):TE:=fun σ H Q=>ta σ H fun x H1=>∃c,x = .bl c/\if c=true then tb σ H1 Q else Q (.bl false) H1
def S5 (ta tb:TE):TE:=fun σ H Q=>ta σ H fun x H1=>∃c,x = .bl c/\if c=true then Q (.bl true) H1 else tb σ H1 Q
def S6 (ta:TE):TE:=fun σ H Q=>ta σ H fun x H1=>∃c,x = .bl c/\Q (.bl (!c)) H1
theorem j8 {op} {t:TE} (h:PE X a t):PE X (.BoolOp op [a] pos) t:=fun pins s σ H Q I hw=>BoolOp_one (h pins s σ H Q I hw)
theorem nq (ha:PE X a ta) (hb:PE X (.BoolOp .And (b::rest) pos) tb):PE X (.BoolOp .And (a::b::rest) pos) (Td ta tb):=by
 intro pins s σ H Q I h;refine BoolOp_and (cM (ha pins s σ H _ I h) fun v s1 ⟨x,H1,I1,r1,q1⟩=> ?_);obtain ⟨c,rfl,q1⟩:=q1;cases r1;refine wpAny_truthy_bool ?_;cases c with
 | true=>exact hb pins s1 σ H1 Q I1 q1
 | false=>exact ⟨.bl false,H1,I1,rfl,q1⟩
theorem Eb (ha:PE X a ta) (hb:PE X (.BoolOp .Or (b::rest) pos) tb):PE X (.BoolOp .Or (a::b::rest) pos) (S5 ta tb):=by
 intro pins s σ H Q I h;refine BoolOp_or (cM (ha pins s σ H _ I h) fun v s1 ⟨x,H1,I1,r1,q1⟩=> ?_);obtain ⟨c,rfl,q1⟩:=q1;cases r1;refine wpAny_truthy_bool ?_;cases c with
 | false=>exact hb pins s1 σ H1 Q I1 q1
 | true=>exact ⟨.bl true,H1,I1,rfl,q1⟩
theorem Jt (ha:PE X a ta):PE X (.UnaryOp .Not a pos) (S6 ta):=by
 intro pins s σ H Q I h;refine UnaryOp_ (cM (ha pins s σ H _ I h) fun v s1 ⟨x,H1,I1,r1,q1⟩=> ?_);obtain ⟨c,rfl,q1⟩:=q1;cases r1;exact not_of (wpAny_truthy_bool ⟨.bl (!c),H1,I1,rfl,q1⟩)
def tIf (t:TT) (ta tb:TE):TE:=fun σ H Q=>t σ H fun c H1=>if c=true then ta σ H1 Q else tb σ H1 Q
theorem Jv {c:Expr} (hc:PT X c tA) (ha:PE X a ta) (hb:PE X b tb):PE X (.IfExp c a b pos) (tIf tA ta tb):=by
 intro pins s σ H Q I h;refine wpAny_IfExp (cM (hc pins s σ H _ I h) fun d s1 ⟨H1,I1,q1⟩=> ?_);cases d with
 | true=>exact ha pins s1 σ H1 Q I1 q1
 | false=>exact hb pins s1 σ H1 Q I1 q1
end
end L2
namespace L2
open PySem PySem.Spec PyProof.Rows
def bw (K:PySem.W.Frag) (H:Hp) (a:Addr) (xs:List V):Prop:=
 Rd H a (.lst xs) \/
  ∃(o:Obj) (its:Array Value) (n:Nat),K.lookup a=some o/\o.cls = .type "list" /\ o.dict=none/\o.data = .seq its n/\its.size<=sizeLine/\Vals xs its.toList
def fY (K:PySem.W.Frag) (H:Hp) (a:Addr) (xs:List V):Prop:=
 Rd H a (.tup xs) \/
  ∃(o:Obj) (its:Array Value) (n:Nat),K.lookup a=some o/\o.cls = .type "tuple" /\ o.data = .seq its n/\its.size<=sizeLine/\Vals xs its.toList
def ac_:Value->Option V
 | .none=>some .non
 | .bool b=>some (.bl b)
 | .int i _=>some (.int i)
 | .str x _=>some (.str x)
 | .bytes b _=>some (.CQ b)
 | .float b _=>some (.flt b)
 | .ref a=>some (.ref a)
 | .type n=>some (.ty n)
 | _=>none
theorem RelV.abs {x:V} {u:Value} (r:RelV x u):ac_ u=some x:=by
 cases x with
 | non=>cases r;rfl
 | bl _=>cases r;rfl
 | int _=>obtain ⟨t,rfl⟩:=r;rfl
 | str _=>obtain ⟨t,rfl⟩:=r;rfl
 | CQ _=>obtain ⟨t,rfl⟩:=r;rfl
 | flt _=>obtain ⟨t,rfl⟩:=r;rfl
 | ref _=>cases r;rfl
 | ty _=>cases r;rfl
theorem RelV.inj {x y:V} {u:Value} (r:RelV x u) (q:RelV y u):x=y:=Option.some.inj (r.abs.symm.trans q.abs)
theorem Vals.inj {xs ys:List V} {us:List Value} (h:Vals xs us) (h':Vals ys us):xs=ys:=by
 induction h generalizing ys with
 | nil=>cases h';rfl
 | cons r t ih=>cases h' with
   | cons r' t'=>rw [r.inj r',ih t']
section
variable {X:Cx} {pins:List (Addr×Obj)} {σ:St} {H:Hp} {s:Shared} {a:Addr} {xs ys:List V}
theorem bw.of {K:PySem.W.Frag} (h:H a=some (.lst xs)):bw K H a xs:= .inl (.inl h)
theorem fY.of {K:PySem.W.Frag} (h:H a=some (.tup xs)):fY K H a xs:= .inl (.inl h)
theorem Inv.list (I:Inv X pins σ H s) (h:bw X.K H a xs):∃its:List Value,Vals xs its/\PlainL s.heap a its.toArray/\xs.length<=sizeLine:=by
 rcases h with h|⟨o,its,n,hk,hc,hd,hs,hz,r⟩
 ·obtain ⟨z,its,n,r,e⟩:=h.ok I.hok
  exact ⟨its,r,⟨_,n,e,rfl,rfl,rfl⟩,z⟩
 ·refine ⟨its.toList,r,⟨o,n,I.nA a o hk,hc,hd,by simpa using hs⟩, ?_⟩
  have e:=r.length;simp only [Array.length_toList] at e;omega
theorem Inv.tuple (I:Inv X pins σ H s) (h:fY X.K H a xs):∃its:List Value,Vals xs its/\IsTup s.heap a its.toArray/\xs.length<=sizeLine:=by
 rcases h with h|⟨o,its,n,hk,hc,hs,hz,r⟩
 ·obtain ⟨z,its,r,p⟩:=h.ok I.hok
  exact ⟨its,r,p,z⟩
 ·refine ⟨its.toList,r,⟨o,I.nA a o hk,hc,n,by simpa using hs⟩, ?_⟩
  have e:=r.length;simp only [Array.length_toList] at e;omega
theorem Inv.tQ (I:Inv X pins σ H s) (h:bw X.K H a xs) (h':bw X.K H a ys):xs=ys:=by
 obtain ⟨its,r,⟨o,n,e,_,_,d⟩,_⟩:=I.list h;obtain ⟨its',r',⟨o',n',e',_,_,d'⟩,_⟩:=I.list h';rw [e] at e';cases e';rw [d] at d';injection d' with d1 _
 have:its=its':=by simpa using congrArg Array.toList d1
 subst this;exact r.inj r'
theorem Inv.FT (I:Inv X pins σ H s) (h:fY X.K H a xs) (h':fY X.K H a ys):xs=ys:=by
 obtain ⟨its,r,⟨o,e,_,n,d⟩,_⟩:=I.tuple h;obtain ⟨its',r',⟨o',e',_,n',d'⟩,_⟩:=I.tuple h';rw [e] at e';cases e';rw [d] at d';injection d' with d1 _
 have:its=its':=by simpa using congrArg Array.toList d1
 subst this;exact r.inj r'
end
abbrev Cx.wish (X:Cx) (E:Value->Shared->Prop):Cx:={X with xe:=E}
abbrev Cx.Wq (X:Cx):Cx:=X.wish fun _ _=>False
theorem Cx.Ok.wish {X:Cx} (ok:X.Ok) (E:Value->Shared->Prop):(X.wish E).Ok:=
 ⟨ok.mod,ok.kind,ok.glob,ok.blt,ok.above,ok.inj,ok.has,ok.cab,ok.hd,ok.frames,ok.stk,ok.exf,ok.bs,ok.Hl,ok.Gu,ok.N_,ok.qd,ok.Pz⟩
theorem Cx.Ok.lC {X:Cx} {E:Value->Shared->Prop} (ok:(X.wish E).Ok):X.Ok:=
 ⟨ok.mod,ok.kind,ok.glob,ok.blt,ok.above,ok.inj,ok.has,ok.cab,ok.hd,ok.frames,ok.stk,ok.exf,ok.bs,ok.Hl,ok.Gu,ok.N_,ok.qd,ok.Pz⟩
section
variable {X:Cx} {pins:List (Addr×Obj)} {σ:St} {H:Hp} {s:Shared} {E:Value->Shared->Prop}
theorem Inv.wish (I:Inv X pins σ H s) (E:Value->Shared->Prop):Inv (X.wish E) pins σ H s:=⟨I.ok.wish E,I.os,I.bare,I.base,I.loc,I.cell,I.free,I.jH,I.pin,I.hok,I.len⟩
theorem Inv.lC (I:Inv (X.wish E) pins σ H s):Inv X pins σ H s:=⟨I.ok.lC,I.os,I.bare,I.base,I.loc,I.cell,I.free,I.jH,I.pin,I.hok,I.len⟩
theorem SP.lC {D:Ends} {f:Flow} {s':Shared} (h:SP (X.wish E) pins D f s'):SP X pins D f s':=by
 cases f with
 | next=>obtain ⟨σ',H',I,q⟩:=h;exact ⟨σ',H',I.lC,q⟩
 | brk=>obtain ⟨σ',H',I,q⟩:=h;exact ⟨σ',H',I.lC,q⟩
 | cont=>obtain ⟨σ',H',I,q⟩:=h;exact ⟨σ',H',I.lC,q⟩
 | ret u=>obtain ⟨v,σ',H',I,r,q⟩:=h;exact ⟨v,σ',H',I.lC,r,q⟩
theorem HF.Wq {st:List Stmt} {t:TS} (h:HF X.Wq st t):HF X st t:=fun pins s σ H D I hw=>
 wpAny_mono (h pins s σ H D (I.wish _) hw) (fun _ _ q=>q.lC) fun _ _ z=>False.elim z
end
section
variable {X:Cx} {st:Stmt} {rest:List Stmt} {t u:TS} {e:Expr} {te:TE} {pos:Pos}
def Ip:TS:=fun D σ H=>D.nx σ H
def Qe (t u:TS):TS:=fun D σ H=>t {D with nx:=u D} σ H
theorem cA:HF X [] Ip:=fun _ _ σ H _ I h=>wpAny_execs_nil ⟨σ,H,I,h⟩
theorem aD (h1:PS X st t) (h2:HF X rest u):HF X (st::rest) (Qe t u):=by
 intro pins s σ H D I h;refine wpAny_execs_cons (cM (h1 pins s σ H {D with nx:=u D} I h) fun f s1 q=> ?_);cases f with
 | next=>
   obtain ⟨σ',H',I',q⟩:=q;exact h2 pins s1 σ' H' D I' q
 | ret v=>exact q
 | brk=>exact q
 | cont=>exact q
theorem aL (h1:PS X st t):HF X [st] t:=by
 intro pins s σ H D I h;refine wpAny_execs_cons (cM (h1 pins s σ H D I h) fun f s1 q=> ?_);cases f with
 | next=>exact wpAny_execs_nil q
 | ret v=>exact q
 | brk=>exact q
 | cont=>exact q
theorem Inv.quiet {pins:List (Addr×Obj)} {σ:St} {H:Hp} {s:Shared} (I:Inv X pins σ H s):interactive X.env=false:=by simp [interactive,I.ok.kind]
def S8 (te:TE):TS:=fun D σ H=>te σ H fun _ H1=>D.nx σ H1
theorem dg (he:PE X e te) (hs:swapsWith e none pos.line X.env=pure false:=by rfl):PS X (.Expr e pos) (S8 te):=by
 intro pins s σ H D I h;exact wpAny_Expr_any (cM (he pins s σ H _ I h) fun v s1 ⟨x,H1,I1,r1,q1⟩=>⟨σ,H1,I1,q1⟩) I.quiet hs
def Lz (te:TE):TS:=fun D σ H=>te σ H D.rt
theorem bh (he:PE X e te):PS X (.Return (some e) pos) (Lz te):=by
 intro pins s σ H D I h;exact wpAny_Return_some (cM (he pins s σ H _ I h) fun v s1 ⟨x,H1,I1,r1,q1⟩=>⟨x,σ,H1,I1,r1,q1⟩)
def S7 (c:TT) (t u:TS):TS:=fun D σ H=>c σ H fun b H1=>if b=true then t D σ H1 else u D σ H1
theorem fj {c:Expr} {a b:List Stmt} {tc:TT} (hc:PT X c tc) (ha:HF X a t) (hb:HF X b u):PS X (.If c a b pos) (S7 tc t u):=by
 intro pins s σ H D I h;refine wpAny_If (cM (hc pins s σ H _ I h) fun d s1 ⟨H1,I1,q1⟩=> ?_);cases d with
 | true=>exact ha pins s1 σ H1 D I1 q1
 | false=>exact hb pins s1 σ H1 D I1 q1
def Qf:TS:=fun _ _ _=>False
theorem yE:PS X st Qf:=fun _ _ _ _ _ _ h=>h.elim
end
abbrev TG:=V->St->Hp->(St->Hp->Prop)->Prop
abbrev PX:=List V->St->Hp->(St->Hp->Prop)->Prop
def PG (X:Cx) (target:Expr) (t:TG):Prop:=
 ∀(pins:List (Addr×Obj)) (s:Shared) (σ:St) (H:Hp) (v:V) (u:Value) (Q:St->Hp->Prop),Inv X pins σ H s->RelV v u->t v σ H Q ->
  wpAny (model X.prog X.w) X.A (assign target X.env u) (fun _ s'=>∃σ' H',Inv X pins σ' H' s'/\Q σ' H') X.xe s
def V4 (X:Cx) (ts:List Expr) (t:PX):Prop:=
 ∀(pins:List (Addr×Obj)) (s:Shared) (σ:St) (H:Hp) (vs:List V) (us:List Value) (Q:St->Hp->Prop),Inv X pins σ H s->Vals vs us->t vs σ H Q ->
  wpAny (model X.prog X.w) X.A (assignInOrder ((assignEach ts X.env).map (·.2)) us) (fun _ s'=>∃σ' H',Inv X pins σ' H' s'/\Q σ' H') X.xe s
abbrev RW:=V->V->V->Hp->(Hp->Prop)->Prop
def V3 (X:Cx) (t:RW):Prop:=
 ∀(pins:List (Addr×Obj)) (s:Shared) (σ:St) (H:Hp) (o i v:V) (ov iv u:Value) (Q:Hp->Prop),Inv X pins σ H s->RelV o ov->RelV i iv->RelV v u->t o i v H Q ->
  wpAny (model X.prog X.w) X.A (setItem ov iv u) (fun _ s'=>∃H',Inv X pins σ H' s'/\Q H') X.xe s
section
variable {X:Cx} {pos:Pos}
def dZ (i:Nat):TG:=fun v σ H Q=>Q (σ.set i (some v)) H
theorem bA {i:Nat} {x:Str} (hN:X.N.Nodup) (hi:X.N[i]? = some x) (hx:Loc X.env.scope x) (hf:X.fn x=true\/X.env.scope.names.lookup x=some .local:=by first |exact .inl rfl|exact .inr rfl|assumption):PG X (.Name x pos) (dZ i):=by
 intro pins s σ H v u Q I r h;exact wpAny_assign_Name (yp I hN hi hx r (fun s' I'=>⟨_,H,I',h⟩) hf)
def UG:PX:=fun vs σ H Q=>vs=[]/\Q σ H
def Kf (t:TG) (u:PX):PX:=fun vs σ H Q=>∃v r,vs=v::r/\t v σ H fun σ' H'=>u r σ' H' Q
theorem rD:V4 X [] UG:=by
 intro pins s σ H vs us Q I r h;obtain ⟨e,h⟩:=h;subst e;cases r;exact assignInOrder_nil ⟨σ,H,I,h⟩
theorem eF {e:Expr} {es:List Expr} {t:TG} {u:PX} (h1:PG X e t) (h2:V4 X es u)
 (hs:(assignEach (e::es) X.env).map (·.2)=assign e X.env::(assignEach es X.env).map (·.2):=by rfl):V4 X (e::es) (Kf t u):=by
 intro pins s σ H vs us Q I r h;obtain ⟨v,vr,e1,h⟩:=h;subst e1;cases r with
 | cons r rr=>
   rw [hs];refine assignInOrder_cons (cM (h1 pins s σ H _ _ _ I r h) fun _ s1 ⟨σ1,H1,I1,q1⟩=> ?_);exact h2 pins s1 σ1 H1 _ _ Q I1 rr q1
def Rw (K:PySem.W.Frag) (n:Nat) (t:PX):TG:=fun v σ H Q=>∃a xs,v = .ref a/\fY K H a xs/\xs.length=n/\t xs σ H Q
theorem Qy {es:List Expr} {k:Nat} {t:PX} {n:Nat} (hc:X.calm=true) (h:V4 X es t)
 (hn:(assignEach es X.env).length=n:=by rfl) (hst:(assignEach es X.env).findIdx? (·.1)=none:=by rfl):PG X (.Tuple es k pos) (Rw X.K n t):=by
 intro pins s σ H v u Q I r hw;obtain ⟨a,xs,e1,hq,hl,hw⟩:=hw;subst e1;cases r;obtain ⟨its,rv,ht,hz⟩:=I.tuple hq;refine assign_Tuple_tuple (I.ok.hd hc) ht (by simp [hn,←hl,rv.length]) hst fun h' hx=> ?_;have I1:Inv X pins σ H {s with heap:=h'}:=I.kept (t':=s.toks) fun b o e=>hx b o (Nat.ne_of_lt (Heap.lt_size e)) e;exact h pins _ σ H xs _ Q I1 (by simpa using rv) hw
def aby (to ti:TE) (t:RW):TG:=fun v σ H Q=>to σ H fun o H1=>ti σ H1 fun i H2=>t o i v H2 fun H3=>Q σ H3
theorem lK {o i:Expr} {to ti:TE} {t:RW} (ho:PE X o to) (hi:PE X i ti) (hs:V3 X t)
 (ha:∀v,assign (.Subscript o i pos) X.env v=(do
   let ov ←holding [v] (eval o X.env)
   let iv ←holding [v,ov] (eval i X.env)
   standAt pos
   holding [v,ov,iv] (setItem ov iv v)
   release [v,ov,iv] []):=by intro _;rfl):PG X (.Subscript o i pos) (aby to ti t):=by
 intro pins s σ H v u Q I r h;rw [ha];refine wpAny_bind (wpAny_holding (cM (ho pins s σ H _ I h) fun ov s1 ⟨x,H1,I1,r1,q1⟩=> ?_));refine wpAny_bind (wpAny_holding (cM (hi pins s1 σ H1 _ I1 q1) fun iv s2 ⟨y,H2,I2,r2,q2⟩=> ?_));refine wpAny_bind (wpAny_standAt (wpAny_bind (wpAny_holding (cM (hs pins s2 σ H2 x y v ov iv u _ I2 r1 r2 r q2) fun _ s3 ⟨H3,I3,q3⟩=> ?_))));exact wpAny_release ⟨σ,H3,I3,q3⟩
def LK (te:TE) (g:TG):TS:=fun D σ H=>te σ H fun x H1=>g x σ H1 D.nx
theorem jA {tg e:Expr} {te:TE} {g:TG} (he:PE X e te) (hg:PG X tg g) (hs:swapsWithSole [tg] e pos.line X.env=pure false:=by rfl) (hw:swappedStores [tg] e X.env=pure none:=by rfl)
 (h1:(assignEach [tg] X.env).map (·.2)=[assign tg X.env]:=by rfl):PS X (.Assign [tg] e pos) (LK te g):=by
 intro pins s σ H D I h;refine wpAny_Assign_stores (cM (he pins s σ H _ I h) fun v s1 ⟨x,H1,I1,r1,q1⟩=> ?_) hs hw;rw [h1];exact cM (hg pins s1 σ H1 x v _ I1 r1 q1) fun _ s2 q=>q
theorem aZ {i:Nat} {x:Str} {e:Expr} {te:TE} {pos':Pos} (hN:X.N.Nodup) (hi:X.N[i]? = some x) (hx:Loc X.env.scope x) (he:PE X e te) (hs:swapsWith e (some (.Name x pos')) pos.line X.env=pure false:=by rfl) (hf:X.fn x=true\/X.env.scope.names.lookup x=some .local:=by first |exact .inl rfl|exact .inr rfl|assumption):
 PS X (.Assign [.Name x pos'] e pos) (LK te (dZ i)):=by
 intro pins s σ H D I h;refine wpAny_Assign_Name (cM (he pins s σ H _ I h) fun v s1 ⟨y,H1,I1,r1,q1⟩=> ?_) hs;exact yp I1 hN hi hx r1 (fun s2 I2=>⟨_,H1,I2,q1⟩) hf
end
section
variable {X:Cx} {pos:Pos}
end
structure It where
 go:Nat->Hp->Prop
 Qa:Nat->Hp->V->Hp->Prop
 stop:Nat->Hp->Prop
def kI (X:Cx) (pins:List (Addr×Obj)) (H:Hp) (b:Addr):Prop:=
 H b=none/\b≠X.env.locals/\b∉X.fs/\(b∈X.ex\/X.s₀.heap.objs.size<=b)/\(∀x c,X.env.cells.lookup x=some c->c≠b) /\ ∀p∈X.pn++pins,p.1≠b
theorem Inv.xq {X:Cx} {pins:List (Addr×Obj)} {σ:St} {H H':Hp} {s:Shared} {b:Addr} (I:Inv X pins σ H s) (hb:s.heap.objs.size<=b) (hn:H' b=none):kI X pins H' b:=by
 refine ⟨hn,Nat.ne_of_gt (Nat.lt_of_lt_of_le I.lt hb),I.aaq hb,.inr (Nat.le_trans I.sz hb),fun x c e z=> ?_,fun p hp z=> ?_⟩
 ·obtain ⟨v,q⟩:=I.cell x c e
  exact absurd (Nat.lt_of_lt_of_le q.lt (by rw [z];exact hb)) (Nat.lt_irrefl _)
 ·exact absurd (Nat.lt_of_lt_of_le (Heap.lt_size (I.pin p hp).1) (by rw [z];exact hb)) (Nat.lt_irrefl _)
structure Turn (P:Program) (w:World) (K:PySem.W.Frag) (tg:Expr) (J:It) (fp:List Addr) (it:Addr) (tn:Nat->Heap->Prop):Prop where
 mem:it∈fp
 obj:∀i h,tn i h -> ∀b∈fp,∃o,h.get? b=some o /\ ∀v,o.data ≠ .cell v
 keep:∀i h h',tn i h->(∀b∈fp,∀o,h.get? b=some o->h'.get? b=some o)->tn i h'
 item:∀(X:Cx),X.prog=P->X.w=w->X.K=K->X.calm=true -> ∀(i:Nat) (pins:List (Addr×Obj)) (s:Shared) (σ:St) (H:Hp) (E:Value->Shared->Prop),Inv X pins σ H s->(∀b∈fp,kI X pins H b)->tn i s.heap->J.go i H ->
  wpAny (model P w) X.A (pyNext (.ref it)) (fun r s1=>∃u,r=some u /\
   wpAny (model P w) X.A (letOwnedTupleGo tg (.ref it) u) (fun _ s2=>∃x H',Inv X pins σ H' s2/\RelV x u/\J.Qa i H x H'/\tn (i+1) s2.heap /\ ∀b∈fp,H' b=none) E s1) E s
 done:∀(X:Cx),X.prog=P->X.w=w->X.K=K->X.calm=true -> ∀(i:Nat) (pins:List (Addr×Obj)) (s:Shared) (σ:St) (H:Hp) (E:Value->Shared->Prop),Inv X pins σ H s->(∀b∈fp,kI X pins H b)->tn i s.heap->J.stop i H ->
  wpAny (model P w) X.A (pyNext (.ref it)) (fun r s1=>r=none/\Inv X pins σ H s1) E s
 self:∀(A:Around) (i:Nat) (s:Shared) (Q:Value->Shared->Prop) (E:Value->Shared->Prop),tn i s.heap->Q (.ref it) s->wpAny (model P w) A (pyIter (.ref it)) Q E s
abbrev TI:=St->Hp->(It->Hp->Prop)->Prop
def PIE (X:Cx) (pins:List (Addr×Obj)) (σ:St) (tg:Expr) (R:It->Hp->Prop) (itv:Value) (s2:Shared):Prop:=
 ∃(it:Addr) (fp:List Addr) (tn:Nat->Heap->Prop) (J:It) (H':Hp),itv = .ref it/\Inv X pins σ H' s2/\Turn X.prog X.w X.K tg J fp it tn/\tn 0 s2.heap/\(∀b∈fp,kI X pins H' b)/\R J H'
def PI (X:Cx) (tg iter:Expr) (wi:TI):Prop:=
 ∀(pins:List (Addr×Obj)) (s:Shared) (σ:St) (H:Hp) (R:It->Hp->Prop),Inv X pins σ H s->wi σ H R ->
  wpAny (model X.prog X.w) X.A (eval iter X.env) (fun v s1=>wpAny (model X.prog X.w) X.A (pyIter v) (PIE X pins σ tg R) X.xe s1) X.xe s
theorem zL {M:Model} {A:Around} {E:Value->Shared->Prop} {s:Shared} {tg:Expr} {it:Addr} {u:Value} {o:Obj} {n:String} {vs:Array Value} {Q:Unit->Shared->Prop} (ho:s.heap.get? it=some o) (hc:o.cls = .type n) (hd:o.data = .fields vs)
 (hn:["enumerate","zip","dict_itemiterator","dict_reverseitemiterator","odict_iterator","itertools.zip_longest","itertools.pairwise"].contains n=false) (hQ:Q () s):wpAny M A (letOwnedTupleGo tg (.ref it) u) Q E s:=by
 unfold letOwnedTupleGo
 cases tg<;>first
  | exact wpAny_pure hQ
  | (cases u<;>first
      | exact wpAny_pure hQ
      | (refine wpAny_bind (wpAny_load ho ?_)
         rw [hc,hd];show wpAny M A (if (["enumerate","zip","dict_itemiterator","dict_reverseitemiterator","odict_iterator","itertools.zip_longest","itertools.pairwise"].contains n&&vs[0]? == some (rawInt _))=true then _ else _) Q E s;rw [if_neg (by intro h;rw [hn,Bool.false_and] at h;cases h)];exact wpAny_pure hQ))
def P_ (K:PySem.W.Frag) (a:Addr):It:=
 ⟨fun i H=>∃xs x,bw K H a xs/\xs[i]? = some x,fun i H x H'=>H'=H /\ ∀xs,bw K H a xs->xs[i]? = some x,fun i H=>∃xs,bw K H a xs/\xs.length<=i⟩
def Xo (K:PySem.W.Frag) (a:Addr):It:=
 ⟨fun i H=>∃xs x,fY K H a xs/\xs[i]? = some x,fun i H x H'=>H'=H /\ ∀xs,fY K H a xs->xs[i]? = some x,fun i H=>∃xs,fY K H a xs/\xs.length<=i⟩
def P0 (lo:Int) (n:Nat):It:=⟨fun i _=>i<n,fun i H x H'=>H'=H/\x = .int (lo+i),fun i _=>n<=i⟩
theorem FN {P:Program} {w:World} {K:PySem.W.Frag} {tg:Expr} (a it:Addr):Turn P w K tg (P_ K a) [it] it (fun i h=>h.IsListIter it a i) where
 mem:=by simp
 obj:=fun i h st b hb=>by
  have e:b=it:=by simpa using hb
  subst e;obtain ⟨o,e,c,d⟩:=st;exact ⟨o,e,fun v z=>by rw [d] at z;cases z⟩
 keep:=fun i h h' st k=>st.at fun o e=>k it (by simp) o e
 item:=by
  intro X hP hw hK hc i pins s σ H E I hf st hg;subst hP hw hK;obtain ⟨xs,x,hq,hx⟩:=hg;obtain ⟨its,rv,p,hz⟩:=I.list hq;obtain ⟨u,hu,ru⟩:=rv.get hx;obtain ⟨f0,f1,f2,f3,f4,f5⟩:=hf it (by simp);refine wpAny_pyNext_list_item st p.isList (x:=u) (by simpa using hu) fun h' st' sb=> ?_;have I1:Inv X pins σ H {s with heap:=h'}:=I.turned (t':=s.toks) (fun b o hb e=>(sb.2 b hb).trans e) f0 f1 f3 f4 f5;obtain ⟨o,e,c,d⟩:=id st';exact ⟨u,rfl,zL (s:={s with heap:=h'}) e c d (by decide) ⟨x,H,I1,ru,⟨rfl,fun ys hy=>by rw [I.tQ hy hq];exact hx⟩,st',fun b hb=>(hf b hb).1⟩⟩
 done:=by
  intro X hP hw hK hc i pins s σ H E I hf st hg;subst hP hw hK;obtain ⟨xs,hq,hx⟩:=hg;obtain ⟨its,rv,p,hz⟩:=I.list hq;obtain ⟨f0,f1,f2,f3,f4,f5⟩:=hf it (by simp);have hl:=rv.length;exact wpAny_pyNext_list_end (I.ok.hd hc) st p.isList (by simp;omega) fun h' eb=>⟨rfl,I.turned (t':=s.toks) (fun b o hb e=>eb b o hb e) f0 f1 f3 f4 f5⟩
 self:=fun _ _ _ _ _ st h=>wpAny_pyIter_listiter st h
theorem Ax {P:Program} {w:World} {K:PySem.W.Frag} {tg:Expr} (a it:Addr):Turn P w K tg (Xo K a) [it] it (fun i h=>h.IsTupleIter it a i) where
 mem:=by simp
 obj:=fun i h st b hb=>by
  have e:b=it:=by simpa using hb
  subst e;obtain ⟨o,e,c,d⟩:=st;exact ⟨o,e,fun v z=>by rw [d] at z;cases z⟩
 keep:=fun i h h' st k=>st.at fun o e=>k it (by simp) o e
 item:=by
  intro X hP hw hK hc i pins s σ H E I hf st hg;subst hP hw hK;obtain ⟨xs,x,hq,hx⟩:=hg;obtain ⟨its,rv,p,hz⟩:=I.tuple hq;obtain ⟨u,hu,ru⟩:=rv.get hx;obtain ⟨f0,f1,f2,f3,f4,f5⟩:=hf it (by simp);refine wpAny_pyNext_tuple_item st (show s.heap.IsTuple a its.toArray from p) (x:=u) (by simpa using hu) fun h' st' sb=> ?_;have I1:Inv X pins σ H {s with heap:=h'}:=I.turned (t':=s.toks) (fun b o hb e=>(sb.2 b hb).trans e) f0 f1 f3 f4 f5;obtain ⟨o,e,c,d⟩:=id st';exact ⟨u,rfl,zL (s:={s with heap:=h'}) e c d (by decide) ⟨x,H,I1,ru,⟨rfl,fun ys hy=>by rw [I.FT hy hq];exact hx⟩,st',fun b hb=>(hf b hb).1⟩⟩
 done:=by
  intro X hP hw hK hc i pins s σ H E I hf st hg;subst hP hw hK;obtain ⟨xs,hq,hx⟩:=hg;obtain ⟨its,rv,p,hz⟩:=I.tuple hq;obtain ⟨f0,f1,f2,f3,f4,f5⟩:=hf it (by simp);have hl:=rv.length;exact wpAny_pyNext_tuple_end (I.ok.hd hc) st (show s.heap.IsTuple a its.toArray from p) (by simp;omega) fun h' eb=>⟨rfl,I.turned (t':=s.toks) (fun b o hb e=>eb b o hb e) f0 f1 f3 f4 f5⟩
 self:=fun _ _ _ _ _ st h=>wpAny_pyIter_tupleiter st h
theorem Ay {P:Program} {w:World} {K:PySem.W.Frag} {tg:Expr} (it:Addr) (lo:Int) (n:Nat):Turn P w K tg (P0 lo n) [it] it (fun i h=>IsRangeIter h it (lo+(i:Nat)*1) ((n:Int) - (i:Nat)) 1) where
 mem:=by simp
 obj:=fun i h st b hb=>by
  have e:b=it:=by simpa using hb
  subst e
  exact ⟨_,st,fun v z=>by
   have z':Data.fields _=Data.cell v:=z;cases z'⟩
 keep:=fun i h h' st k=>k it (by simp) _ st
 item:=by
  intro X hP hw hK hc i pins s σ H E I hf st hg;subst hP hw hK;obtain ⟨f0,f1,f2,f3,f4,f5⟩:=hf it (by simp);have W:=Walks.range (prog:=X.prog) (w:=X.w) (I.ok.hd hc) it lo 1 n;refine W.item i s _ _ hg st fun v h' tk hv st' kk=> ?_;obtain ⟨t,rfl⟩:=hv;have I1:Inv X pins σ H {s with heap:=h',toks:=tk}:=I.turned (fun b o hb e=>kk b o (by simpa using hb) e) f0 f1 f3 f4 f5;refine ⟨_,rfl,zL (s:={s with heap:=h',toks:=tk}) (n:= "range_iterator") st' rfl rfl (by decide) ⟨.int (lo+i),H,I1,⟨t, ?_⟩,⟨rfl,rfl⟩,st',fun b hb=>(hf b hb).1⟩⟩;rw [Int.mul_one]
 done:=by
  intro X hP hw hK hc i pins s σ H E I hf st hg;subst hP hw hK;obtain ⟨f0,f1,f2,f3,f4,f5⟩:=hf it (by simp);exact wpAny_pyNext_range_end (I.ok.hd hc) st (by have:n<=i:=hg;omega) fun h' eb=>⟨rfl,I.turned (t':=s.toks) (fun b o hb e=>eb b o hb e) f0 f1 f3 f4 f5⟩
 self:=fun _ _ _ _ _ st h=>wpAny_pyIter_rangeiter st h
end L2
namespace L2
open PySem PySem.Spec PyProof.Rows
section
variable {X:Cx} {tg:Expr}
def Pr (K:PySem.W.Frag) (tl:TE):TI:=fun σ H R=>tl σ H fun x H1=>∃a,x = .ref a/\(∃xs,bw K H1 a xs)/\R (P_ K a) H1
def Uv (K:PySem.W.Frag) (tl:TE):TI:=fun σ H R=>tl σ H fun x H1=>∃a,x = .ref a/\(∃xs,fY K H1 a xs)/\R (Xo K a) H1
theorem Mw {l:Expr} {tl:TE} (hl:PE X l tl):PI X tg l (Pr X.K tl):=by
 intro pins s σ H R I h;refine cM (hl pins s σ H _ I h) fun v s1 ⟨x,H1,I1,r1,q1⟩=> ?_;obtain ⟨a,e,⟨xs,hq⟩,q⟩:=q1;subst e;cases r1;obtain ⟨its,rv,p,hz⟩:=I1.list hq;refine wpAny_pyIter_list p.isList ?_;refine ⟨s1.heap.objs.size,[s1.heap.objs.size],_,_,H1,rfl,I1.kept (t':=s1.toks) fun b o e=>Heap.get?_push_of_some _ e,FN a _,⟨_,Heap.get?_push_size _ rfl,rfl,rfl⟩,fun b hb=> ?_,q⟩;have e:b=s1.heap.objs.size:=by simpa using hb
 subst e;exact I1.xq (Nat.le_refl _) (I1.hok.fresh (Nat.le_refl _))
theorem Qx {l:Expr} {tl:TE} (hl:PE X l tl):PI X tg l (Uv X.K tl):=by
 intro pins s σ H R I h;refine cM (hl pins s σ H _ I h) fun v s1 ⟨x,H1,I1,r1,q1⟩=> ?_;obtain ⟨a,e,⟨xs,hq⟩,q⟩:=q1;subst e;cases r1;obtain ⟨its,rv,p,hz⟩:=I1.tuple hq;refine wpAny_pyIter_tuple (show s1.heap.IsTuple a its.toArray from p) ?_;refine ⟨s1.heap.objs.size,[s1.heap.objs.size],_,_,H1,rfl,I1.kept (t':=s1.toks) fun b o e=>Heap.get?_push_of_some _ e,Ax a _,⟨_,Heap.get?_push_size _ rfl,rfl,rfl⟩,fun b hb=> ?_,q⟩;have e:b=s1.heap.objs.size:=by simpa using hb
 subst e;exact I1.xq (Nat.le_refl _) (I1.hok.fresh (Nat.le_refl _))
theorem Ji {pins:List (Addr×Obj)} {σ:St} {H:Hp} {s:Shared} {R:It->Hp->Prop} {E:Value->Shared->Prop} {lo hi:Int} {t u v:Tok} {tk:Nat} (I:Inv X pins σ H s) (h1: -(2 ^ 62)<=lo) (h2:lo<2 ^ 62) (h3: -(2 ^ 62)<=hi) (h4:hi<2 ^ 62)
 (q:R (P0 lo (hi - lo).toNat) H):wpAny (model X.prog X.w) X.A (pyIter (.ref s.heap.objs.size)) (PIE X pins σ tg R) E {s with heap:=s.heap.push {cls:= .type "range",data:= .fields #[.int lo t,.int hi u,.int 1 v]},toks:=tk}:=by
 refine wpAny_pyIter_range (IsRange.new ..) (small_one h1 h2 h3 h4) ?_;have I1:Inv X pins σ H {s with heap:=s.heap.push {cls:= .type "range",data:= .fields #[.int lo t,.int hi u,.int 1 v]},toks:=tk}:=I.kept fun b o e=>Heap.get?_push_of_some _ e
 refine ⟨(s.heap.push {cls:= .type "range",data:= .fields #[.int lo t,.int hi u,.int 1 v]}).objs.size,[(s.heap.push {cls:= .type "range",data:= .fields #[.int lo t,.int hi u,.int 1 v]}).objs.size],_,_,H,rfl,
  I1.kept (t':=tk) fun b o e=>Heap.get?_push_of_some _ e,Ay _ lo (hi - lo).toNat, ?_,fun b hb=> ?_,q⟩
 ·have e1:lo+((0:Nat):Int)*1=lo:=by simp
  have e2:(((hi - lo).toNat:Nat):Int) - ((0:Nat):Int)=Builtin.Range.rangeSize lo hi 1:=by rw [rangeSize_one];split<;>omega
  show IsRangeIter _ _ (lo+((0:Nat):Int)*1) ((((hi - lo).toNat:Nat):Int) - ((0:Nat):Int)) 1;rw [e1,e2];exact Heap.get?_push_size _ rfl
 ·have e:b=(s.heap.push {cls:= .type "range",data:= .fields #[.int lo t,.int hi u,.int 1 v]}).objs.size:=by simpa using hb
  subst e;exact I1.xq (Nat.le_refl _) (I1.hok.fresh (Nat.le_refl _))
def Pq (ta:TA):TI:=fun σ H R=>ta σ H fun vs H1=>∃j:Int,vs=[.int j] /\ -(2 ^ 62)<=j/\j<2 ^ 62/\R (P0 0 j.toNat) H1
theorem dz {a:Expr} {ta:TA} {p pos:Pos} (hg:Gl X "range") (hm:X.mg "range" = none) (ha:PA X [a] ta) (hs:starEach [a] X.env=[(false,eval a X.env)]:=by rfl):PI X tg (.Call (.Name "range" p) [a] [] pos) (Pq ta):=by
 intro pins s σ H R I h;refine Call_ (lQ I hg hm boot_range (PyProof.Rows.callWith_type1 (cM (ha pos pins s σ H _ I h) fun us s1 ⟨vs,H1,I1,r1,q1⟩=> ?_) hs rfl));obtain ⟨j,e,q1,q2,q⟩:=q1;subst e;cases r1 with
 | cons r rr=>
   cases rr;obtain ⟨t,rfl⟩:=r;exact call_range_1 (Ji I1 (by omega) (by omega) q1 q2 (by simpa using q))
def XM (wi:TI) (g:TG) (tb:TS):TS:=fun D σ H=>wi σ H fun J H1=>∃W:Nat->Nat->St->Hp->Prop,(∃m,W 0 m σ H1) /\ ∀i m σ H,W i m σ H ->
 (J.stop i H/\D.nx σ H)\/(J.go i H /\ ∃N:St->Hp->Prop,(∀σ' H',N σ' H' -> ∃m',m'<m/\W (i+1) m' σ' H') /\ ∀x H',J.Qa i H x H'->g x σ H' fun σ2 H2=>tb {D with nx:=N,ct:=N,bk:=D.nx} σ2 H2)
def pR (fp:List Addr) (h:Heap):List (Addr×Obj):=fp.filterMap fun b=>(h.get? b).map fun o=>(b,o)
theorem gK {fp:List Addr} {h:Heap} {b:Addr} {o:Obj} (hb:b∈fp) (e:h.get? b=some o):(b,o)∈pR fp h:=List.mem_filterMap.mpr ⟨b,hb,by rw [e];rfl⟩
theorem Gq {fp:List Addr} {h:Heap} {p:Addr×Obj} (hp:p∈pR fp h):p.1∈fp/\h.get? p.1=some p.2:=by
 obtain ⟨b,hb,e⟩:=List.mem_filterMap.mp hp;cases q:h.get? b with
 | none=>rw [q] at e;cases e
 | some o=>
   rw [q] at e;have e':(b,o)=p:=Option.some.inj e;subst e';exact ⟨hb,q⟩
theorem Inv.pinned {pins:List (Addr×Obj)} {σ:St} {H:Hp} {s:Shared} {fp:List Addr} (I:Inv X pins σ H s) (hf:∀b∈fp,kI X pins H b) (ho:∀b∈fp,∃o,s.heap.get? b=some o /\ ∀v,o.data ≠ .cell v):Inv X (pins++pR fp s.heap) σ H s:=
 I.D_ fun p hp=>(List.mem_append.mp hp).elim (fun z=>I.pin p (List.mem_append_right _ z)) fun z=>by
  obtain ⟨hb,e⟩:=Gq z;obtain ⟨f0,f1,f2,_⟩:=hf p.1 hb;obtain ⟨o,e',d⟩:=ho p.1 hb;rw [e] at e';cases e';exact ⟨e,f0,f1,f2,d⟩
theorem Inv.lD {pins pl:List (Addr×Obj)} {σ:St} {H:Hp} {s:Shared} (I:Inv X (pins++pl) σ H s):Inv X pins σ H s:=I.D_ fun p hp=>I.pin p (List.mem_append_right _ (List.mem_append_left _ hp))
theorem j7 {iter:Expr} {body:List Stmt} {wi:TI} {g:TG} {tb:TS} {pos:Pos} (hp:PassesOwn (model X.prog X.w) X.A X.env X.xe) (hc:X.calm=true) (hi:PI X tg iter wi) (hg:PG X tg g) (hb:HF X body tb)
 (hs:∀x,foldedSetIterable iter X.env x=pure x:=by intro _;rfl):PS X (.For tg iter body [] pos) (XM wi g tb):=by
 intro pins s σ H D I h;refine wpAny_For (cM (hi pins s σ H _ I h) fun v s1 h1=>cM h1 fun itv s2 h2=> ?_) hs;obtain ⟨it,fp,tn,J,H2,e,I2,T,st2,f2,W,⟨m0,w0⟩,turn⟩:=h2;subst e;have stat:∀{H':Hp},(∀b∈fp,H' b=none) -> ∀b∈fp,kI X pins H' b:=fun hn b hb=>⟨hn b hb,(f2 b hb).2⟩;refine codeAny_forLoop_any (fun n s'=>∃i σ' H',Inv X pins σ' H' s'/\tn i s'.heap/\(∀b∈fp,H' b=none)/\W i n σ' H') ?_ m0 ⟨0,σ,H2,I2,st2,fun b hb=>(f2 b hb).1,w0⟩;rintro n s3 ⟨i,σ3,H3,I3,st3,PB,w3⟩;rcases turn i n σ3 H3 w3 with ⟨stop,qn⟩|⟨go,N,hN,step⟩
 ·refine wpAny_passesOwn hp (cM (T.done X rfl rfl rfl hc i pins s3 σ3 H3 X.xe I3 (stat PB) st3 stop) fun r s4 ⟨hr,I4⟩=> ?_)
  subst hr;exact wpAny_execs_nil ⟨σ3,H3,I4,qn⟩
 ·refine wpAny_passesOwn hp (cM (T.item X rfl rfl rfl hc i pins s3 σ3 H3 X.xe I3 (stat PB) st3 go) fun r s4 ⟨u,hr,h4⟩=> ?_)
  subst hr;refine wpAny_passesOwn hp (cM h4 fun _ s5 ⟨x,H5,I5,r5,y5,uV,Lp⟩=> ?_);have V9:=I5.pinned (stat Lp) (T.obj _ _ uV);refine wpAny_passesOwn hp (cM (hg _ s5 σ3 H5 x u _ V9 r5 (step x H5 y5)) fun _ s6 ⟨σ6,H6,I6,q6⟩=> ?_);refine wpAny_passesOwn hp (cM (hb _ s6 σ6 H6 _ I6 q6) fun f s7 q7=> ?_)
  have again:∀{σ7:St} {H7:Hp},Inv X (pins++pR fp s5.heap) σ7 H7 s7->N σ7 H7 -> ∃m,m<n /\ ∃i σ' H',Inv X pins σ' H' s7/\tn i s7.heap/\(∀b∈fp,H' b=none)/\W i m σ' H':=fun {σ7 H7} I7 n7=>by
   obtain ⟨m',hm,w7⟩:=hN σ7 H7 n7;refine ⟨m',hm,i+1,σ7,H7,I7.lD,T.keep _ _ _ uV fun b hb o e=>(I7.pin (b,o) (List.mem_append_right _ (List.mem_append_right _ (gK hb e)))).1,fun b hb=> ?_,w7⟩;obtain ⟨o,e,d⟩:=T.obj _ _ uV b hb;exact (I7.pin (b,o) (List.mem_append_right _ (List.mem_append_right _ (gK hb e)))).2.1
  cases f with
  | next=>obtain ⟨σ7,H7,I7,n7⟩:=q7;exact again I7 n7
  | cont=>obtain ⟨σ7,H7,I7,n7⟩:=q7;exact again I7 n7
  | brk=>obtain ⟨σ7,H7,I7,q7⟩:=q7;exact ⟨σ7,H7,I7.lD,q7⟩
  | ret v=>obtain ⟨x7,σ7,H7,I7,r7,q7⟩:=q7;exact ⟨x7,σ7,H7,I7.lD,r7,q7⟩
end
theorem ud {K:PySem.W.Frag} {a:Addr} {xs:List V} {g:TG} {tb:TS} {D:Ends} {σ:St} {H:Hp} (Pv:Nat->St->Hp->Prop) (h0:Pv 0 σ H) (hl:∀i σ H,i<=xs.length->Pv i σ H->bw K H a xs)
 (hs:∀i x σ H,xs[i]? = some x->Pv i σ H->g x σ H fun σ2 H2=>tb {D with nx:=Pv (i+1),ct:=Pv (i+1),bk:=D.nx} σ2 H2) (hd:∀σ H,Pv xs.length σ H->D.nx σ H):
 ∃W:Nat->Nat->St->Hp->Prop,(∃m,W 0 m σ H) /\ ∀i m σ H,W i m σ H ->
  ((P_ K a).stop i H/\D.nx σ H)\/((P_ K a).go i H /\ ∃N:St->Hp->Prop,(∀σ' H',N σ' H' -> ∃m',m'<m/\W (i+1) m' σ' H') /\ ∀x H',(P_ K a).Qa i H x H'->g x σ H' fun σ2 H2=>tb {D with nx:=N,ct:=N,bk:=D.nx} σ2 H2):=by
 refine ⟨fun i m σ H=>m=xs.length - i/\i<=xs.length/\Pv i σ H,⟨xs.length,by simp,Nat.zero_le _,h0⟩, ?_⟩;rintro i m σ H ⟨rfl,hi,p⟩;have q:=hl i σ H hi p
 by_cases hlt:i<xs.length
 ·refine .inr ⟨⟨xs,xs[i],q,by simp [hlt]⟩,Pv (i+1),fun σ' H' p'=>⟨xs.length - (i+1),by omega,rfl,hlt,p'⟩,fun x H' y=> ?_⟩
  obtain ⟨e,y⟩:=y;subst e;exact hs i x σ _ (y xs q) p
 ·have e:i=xs.length:=by omega
  subst e;exact .inl ⟨⟨xs,q,Nat.le_refl _⟩,hd σ H p⟩
theorem qg {lo:Int} {n:Nat} {g:TG} {tb:TS} {D:Ends} {σ:St} {H:Hp} (Pv:Nat->St->Hp->Prop) (h0:Pv 0 σ H)
 (hs:∀i σ H,i<n->Pv i σ H->g (.int (lo+i)) σ H fun σ2 H2=>tb {D with nx:=Pv (i+1),ct:=Pv (i+1),bk:=D.nx} σ2 H2) (hd:∀σ H,Pv n σ H->D.nx σ H):
 ∃W:Nat->Nat->St->Hp->Prop,(∃m,W 0 m σ H) /\ ∀i m σ H,W i m σ H ->
  ((P0 lo n).stop i H/\D.nx σ H)\/((P0 lo n).go i H /\ ∃N:St->Hp->Prop,(∀σ' H',N σ' H' -> ∃m',m'<m/\W (i+1) m' σ' H') /\ ∀x H',(P0 lo n).Qa i H x H'->g x σ H' fun σ2 H2=>tb {D with nx:=N,ct:=N,bk:=D.nx} σ2 H2):=by
 refine ⟨fun i m σ H=>m=n - i/\i<=n/\Pv i σ H,⟨n,by simp,Nat.zero_le _,h0⟩, ?_⟩;rintro i m σ H ⟨rfl,hi,p⟩
 by_cases hlt:i<n
 ·refine .inr ⟨hlt,Pv (i+1),fun σ' H' p'=>⟨n - (i+1),by omega,rfl,hlt,p'⟩,fun x H' y=> ?_⟩
  obtain ⟨e,y⟩:=y;subst e y;exact hs i σ _ hlt p
 ·have e:i=n:=by omega
  subst e;exact .inl ⟨Nat.le_refl _,hd σ H p⟩
end L2
namespace L2
open PySem PySem.Spec PyProof.Rows
abbrev R2:=V->V->Hp->VK->Prop
def nR (X:Cx) (f:Value->Value->Sem Value) (r:R2):Prop:=
 ∀(pins:List (Addr×Obj)) (s:Shared) (σ:St) (H:Hp) (x y:V) (v u:Value) (Q:VK),Inv X pins σ H s->RelV x v->RelV y u->r x y H Q ->
  wpAny (model X.prog X.w) X.A (f v u) (EP X pins σ Q) X.xe s
def UnR (X:Cx) (f:Value->Sem Value) (r:V->Hp->VK->Prop):Prop:=
 ∀(pins:List (Addr×Obj)) (s:Shared) (σ:St) (H:Hp) (x:V) (v:Value) (Q:VK),Inv X pins σ H s->RelV x v->r x H Q ->
  wpAny (model X.prog X.w) X.A (f v) (EP X pins σ Q) X.xe s
def gF (X:Cx) (f:Value) (r:List V->Hp->VK->Prop):Prop:=
 ∀(pins:List (Addr×Obj)) (s:Shared) (σ:St) (H:Hp) (xs:List V) (us:List Value) (Q:VK),Inv X pins σ H s->Vals xs us->r xs H Q ->
  wpAny (model X.prog X.w) X.A (call f us) (EP X pins σ Q) X.xe s
def ade (X:Cx) (r:V->Hp->(Bool->Hp->Prop)->Prop):Prop:=
 ∀(pins:List (Addr×Obj)) (s:Shared) (σ:St) (H:Hp) (x:V) (v:Value) (Q:Bool->Hp->Prop),Inv X pins σ H s->RelV x v->r x H Q ->
  wpAny (model X.prog X.w) X.A (truthy v) (TP X pins σ Q) X.xe s
def Dr (r:R2) (ta tb:TE):TE:=fun σ H Q=>ta σ H fun x H1=>tb σ H1 fun y H2=>r x y H2 Q
def tUn (r:V->Hp->VK->Prop) (ta:TE):TE:=fun σ H Q=>ta σ H fun x H1=>r x H1 Q
def rI (C:Int->Int->Prop) (g:Int->Int->V):R2:=fun x y H Q=>∃i j,x = .int i/\y = .int j/\C i j/\Q (g i j) H
def Qu (g:Int->Int->V):R2:=fun x y H Q=>∃i j,x = .int i/\y = .int j/\Q (g i j) H
def rU (g:Int->V):V->Hp->VK->Prop:=fun x H Q=>∃i,x = .int i/\Q (g i) H
section
variable {X:Cx} {a b c:Expr} {ta tb tc:TE} {pos:Pos}
theorem RT (ha:PE X a ta) (hb:PE X b tb) {pins:List (Addr×Obj)} {s:Shared} {σ:St} {H:Hp} {R:V->V->Hp->Prop} (I:Inv X pins σ H s)
 (h:ta σ H fun x H1=>tb σ H1 fun y H2=>R x y H2) {Q:Value->Shared->Prop} {f:Value->Value->Sem Value}
 (hf:∀v u s2 x y H2,Inv X pins σ H2 s2->RelV x v->RelV y u->R x y H2->wpAny (model X.prog X.w) X.A (f v u) Q X.xe s2):
 wpAny (model X.prog X.w) X.A (eval a X.env) (fun v s₁=>wpAny (model X.prog X.w) X.A (eval b X.env) (fun u s₂=>wpAny (model X.prog X.w) X.A (f v u) Q X.xe s₂) X.xe s₁) X.xe s:=by
 refine cM (ha pins s σ H _ I h) fun v s1 ⟨x,H1,I1,r1,q1⟩=> ?_;refine cM (hb pins s1 σ H1 _ I1 q1) fun u s2 ⟨y,H2,I2,r2,q2⟩=> ?_;exact hf v u s2 x y H2 I2 r1 r2 q2
theorem bI {op:Operator} {r:R2} (ho:nR X (binaryOp op) r) (ha:PE X a ta) (hb:PE X b tb):PE X (.BinOp a op b pos) (Dr r ta tb):=by
 intro pins s σ H Q I h;exact wpAny_BinOp (RT ha hb I h fun v u s2 x y H2 I2 rx ry q=>ho pins s2 σ H2 x y v u Q I2 rx ry q)
theorem yH {op:UnaryOp} {r:V->Hp->VK->Prop} (ho:UnR X (unaryOp op) r) (ha:PE X a ta):PE X (.UnaryOp op a pos) (tUn r ta):=by
 intro pins s σ H Q I h;exact UnaryOp_ (cM (ha pins s σ H _ I h) fun v s1 ⟨x,H1,I1,r1,q1⟩=>ho pins s1 σ H1 x v Q I1 r1 q1)
theorem T8 {f:Value->Value->Sem Value} {C:Int->Int->Prop} {g:Int->Int->Int}
 (rule:∀(i j:Int) (t u:Tok) (s:Shared) (Q:Value->Shared->Prop) (E:Value->Shared->Prop),C i j->Q (.int (g i j) s.toks) {s with toks:=s.toks+1}->wpAny (model X.prog X.w) X.A (f (.int i t) (.int j u)) Q E s):
 nR X f (rI C fun i j=> .int (g i j)):=by
 intro pins s σ H x y v u Q I rx ry h;obtain ⟨i,j,rfl,rfl,hc,q⟩:=h;obtain ⟨t,rfl⟩:=rx;obtain ⟨t',rfl⟩:=ry;exact rule i j t t' s _ _ hc ⟨.int (g i j),H,I.tok _,⟨_,rfl⟩,q⟩
theorem T6 {f:Value->Value->Sem Value} {g:Int->Int->Int}
 (rule:∀(i j:Int) (t u:Tok) (s:Shared) (Q:Value->Shared->Prop) (E:Value->Shared->Prop),Q (.int (g i j) s.toks) {s with toks:=s.toks+1}->wpAny (model X.prog X.w) X.A (f (.int i t) (.int j u)) Q E s):
 nR X f (Qu fun i j=> .int (g i j)):=by
 intro pins s σ H x y v u Q I rx ry h;obtain ⟨i,j,rfl,rfl,q⟩:=h;obtain ⟨t,rfl⟩:=rx;obtain ⟨t',rfl⟩:=ry;exact rule i j t t' s _ _ ⟨.int (g i j),H,I.tok _,⟨_,rfl⟩,q⟩
theorem QM {f:Value->Value->Sem Value} {g:Int->Int->Bool}
 (rule:∀(i j:Int) (t u:Tok) (s:Shared) (Q:Value->Shared->Prop) (E:Value->Shared->Prop),Q (.bool (g i j)) s->wpAny (model X.prog X.w) X.A (f (.int i t) (.int j u)) Q E s):
 nR X f (Qu fun i j=> .bl (g i j)):=by
 intro pins s σ H x y v u Q I rx ry h;obtain ⟨i,j,rfl,rfl,q⟩:=h;obtain ⟨t,rfl⟩:=rx;obtain ⟨t',rfl⟩:=ry;exact rule i j t t' s _ _ ⟨.bl (g i j),H,I,rfl,q⟩
def Lg (i j:Int):Prop:=0<j/\j<1073741824
def R5 (i j:Int):Prop:=0<=j/\j<=1000000/\i.natAbs<2 ^ 64
def R6 (i j:Int):Prop:=(-(2 ^ 64)<i/\i<2 ^ 64)\/(-(2 ^ 64)<j/\j<2 ^ 64)
theorem R6.ok {i j:Int} (h:R6 i j):IntMulOk i j:=by
 rcases h with ⟨h1,h2⟩|⟨h1,h2⟩
 ·exact .of_left (intBits_le_64 h1 h2)
 ·exact .of_right (intBits_le_64 h1 h2)
theorem gw:nR X (binaryOp .Add) (Qu fun i j=> .int (i+j)):=T6 fun _ _ _ _ _ _ _ q=>add_int q
theorem Bw:nR X (binaryOp .Sub) (Qu fun i j=> .int (i - j)):=T6 fun _ _ _ _ _ _ _ q=>sub_int q
theorem lN:nR X (binaryOp .Mult) (rI R6 fun i j=> .int (i*j)):=T8 fun _ _ _ _ _ _ _ hc q=>mul_int q hc.ok
theorem rG:nR X (binaryOp .FloorDiv) (rI Lg fun i j=> .int (i / j)):=T8 fun i j _ _ _ _ _ hc q=>by
 have h1:(0:Int)<j:=hc.1;have h2:j<1073741824:=hc.2;exact floordiv_int (by omega) (by rw [Int.fdiv_eq_ediv_of_nonneg i (by omega)];exact q) (.inl (PyProof.noPylong_small (by omega)))
theorem jB:nR X (binaryOp .Mod) (rI (fun _ j=>0<j) fun i j=> .int (i % j)):=T8 fun i j _ _ _ _ _ hc q=>by
 have h1:(0:Int)<j:=hc;exact mod_int' (by omega) (by rw [Int.fmod_eq_emod_of_nonneg i (by omega)];exact q)
theorem Jx:nR X (binaryOp .Pow) (rI R5 fun i j=> .int (i ^ j.toNat)):=T8 fun _ _ _ _ _ _ _ hc q=>pow_int_small hc.1 hc.2.1 hc.2.2 q
theorem unI {f:Value->Sem Value} {g:Int->Int}
 (rule:∀(i:Int) (t:Tok) (s:Shared) (Q:Value->Shared->Prop) (E:Value->Shared->Prop),Q (.int (g i) s.toks) {s with toks:=s.toks+1}->wpAny (model X.prog X.w) X.A (f (.int i t)) Q E s):
 UnR X f (rU fun i=> .int (g i)):=by
 intro pins s σ H x v Q I rx h;obtain ⟨i,rfl,q⟩:=h;obtain ⟨t,rfl⟩:=rx;exact rule i t s _ _ ⟨.int (g i),H,I.tok _,⟨_,rfl⟩,q⟩
theorem rY:UnR X (unaryOp .USub) (rU fun i=> .int (-i)):=unI fun _ _ _ _ _ q=>neg_int q
end
def Tf:V->V->Bool
 | .non,.non=>true | .non,.int _=>true | .int _,.non=>true | .non,.bl _=>true | .bl _,.non=>true | .non,.str _=>true | .str _,.non=>true
 | .int _,.int _=>true | .bl _,.bl _=>true | .str _,.str _=>true | .CQ _,.CQ _=>true
 | .int _,.str _=>true | .str _,.int _=>true | .bl _,.str _=>true | .str _,.bl _=>true
 | _,_=>false
def rEq:R2:=fun x y H Q=>Tf x y=true/\Q (.bl (decide (x=y))) H
def Wk:R2:=fun x y H Q=>Tf x y=true/\Q (.bl (!decide (x=y))) H
theorem E_ {i j:Int}:decide (V.int i=V.int j)=(i==j):=by
 rw [Bool.eq_iff_iff];simp
theorem Km {i j:Bool}:decide (V.bl i=V.bl j)=(i==j):=by
 rw [Bool.eq_iff_iff];simp
theorem EY {i j:Str}:decide (V.str i=V.str j)=(i==j):=by
 rw [Bool.eq_iff_iff];simp
theorem Fb {i j:Array UInt8}:decide (V.CQ i=V.CQ j)=(i.toList==j.toList):=by
 rw [Bool.eq_iff_iff];cases i;cases j;simp
section
variable {X:Cx} {a b c:Expr} {ta tb tc:TE} {pos:Pos}
theorem bW {pins:List (Addr×Obj)} {σ:St} {H:Hp} {s:Shared} {Q:VK} {k k':Bool} (I:Inv X pins σ H s) (q:Q (.bl k) H) (e:k=k'):EP X pins σ Q (.bool k') s:=by
 subst e;exact ⟨.bl k,H,I,rfl,q⟩
theorem m5:nR X (compareOp .Eq) rEq:=by
 intro pins s σ H x y v u Q I rx ry h;obtain ⟨hs,q⟩:=h;cases x with
 | non=>
   cases rx;cases y with
   | non=>cases ry;exact PySem.EqNone.eq_none_none (bW I q (by simp))
   | bl j=>cases ry;exact PySem.EqNone.eq_none_bool (bW I q (by simp))
   | int j=>obtain ⟨t',rfl⟩:=ry;exact PySem.EqNone.eq_none_int (bW I q (by simp))
   | str j=>obtain ⟨t',rfl⟩:=ry;exact PySem.EqNone.eq_none_str (bW I q (by simp))
   | _=>exact absurd (show false=true from hs) Bool.false_ne_true
 | bl i=>
   cases rx;cases y with
   | non=>cases ry;exact PySem.EqNone.eq_bool_none (bW I q (by simp))
   | bl j=>cases ry;exact eq_bool (bW I q Km)
   | str j=>obtain ⟨t',rfl⟩:=ry;exact PySem.EqMixed.eq_bool_str (bW I q (by simp))
   | _=>exact absurd (show false=true from hs) Bool.false_ne_true
 | int i=>
   obtain ⟨t,rfl⟩:=rx;cases y with
   | non=>cases ry;exact PySem.EqNone.eq_int_none (bW I q (by simp))
   | int j=>obtain ⟨t',rfl⟩:=ry;exact eq_int (bW I q E_)
   | str j=>obtain ⟨t',rfl⟩:=ry;exact PySem.EqMixed.eq_int_str (bW I q (by simp))
   | _=>exact absurd (show false=true from hs) Bool.false_ne_true
 | str i=>
   obtain ⟨t,rfl⟩:=rx;cases y with
   | non=>cases ry;exact PySem.EqNone.eq_str_none (bW I q (by simp))
   | bl j=>cases ry;exact PySem.EqMixed.eq_str_bool (bW I q (by simp))
   | int j=>obtain ⟨t',rfl⟩:=ry;exact PySem.EqMixed.eq_str_int (bW I q (by simp))
   | str j=>obtain ⟨t',rfl⟩:=ry;exact eq_str (bW I q EY)
   | _=>exact absurd (show false=true from hs) Bool.false_ne_true
 | CQ i=>
   obtain ⟨t,rfl⟩:=rx;cases y with
   | CQ j=>obtain ⟨t',rfl⟩:=ry;exact PySem.W.eq_bytes (bW I q Fb)
   | _=>exact absurd (show false=true from hs) Bool.false_ne_true
 | _=>cases y<;>exact absurd (show false=true from hs) Bool.false_ne_true
theorem kO:nR X (compareOp .NotEq) Wk:=by
 intro pins s σ H x y v u Q I rx ry h;obtain ⟨hs,q⟩:=h;cases x with
 | non=>
   cases rx;cases y with
   | non=>cases ry;exact PySem.EqNone.ne_none_none (bW I q (by simp))
   | bl j=>cases ry;exact PySem.EqNone.ne_none_bool (bW I q (by simp))
   | int j=>obtain ⟨t',rfl⟩:=ry;exact PySem.EqNone.ne_none_int (bW I q (by simp))
   | str j=>obtain ⟨t',rfl⟩:=ry;exact PySem.EqNone.ne_none_str (bW I q (by simp))
   | _=>exact absurd (show false=true from hs) Bool.false_ne_true
 | bl i=>
   cases rx;cases y with
   | non=>cases ry;exact PySem.EqNone.ne_bool_none (bW I q (by simp))
   | bl j=>cases ry;exact ne_bool (bW I q (congrArg not Km))
   | str j=>obtain ⟨t',rfl⟩:=ry;exact PySem.EqMixed.ne_bool_str (bW I q (by simp))
   | _=>exact absurd (show false=true from hs) Bool.false_ne_true
 | int i=>
   obtain ⟨t,rfl⟩:=rx;cases y with
   | non=>cases ry;exact PySem.EqNone.ne_int_none (bW I q (by simp))
   | int j=>obtain ⟨t',rfl⟩:=ry;exact ne_int (bW I q (congrArg not E_))
   | str j=>obtain ⟨t',rfl⟩:=ry;exact PySem.EqMixed.ne_int_str (bW I q (by simp))
   | _=>exact absurd (show false=true from hs) Bool.false_ne_true
 | str i=>
   obtain ⟨t,rfl⟩:=rx;cases y with
   | non=>cases ry;exact PySem.EqNone.ne_str_none (bW I q (by simp))
   | bl j=>cases ry;exact PySem.EqMixed.ne_str_bool (bW I q (by simp))
   | int j=>obtain ⟨t',rfl⟩:=ry;exact PySem.EqMixed.ne_str_int (bW I q (by simp))
   | str j=>obtain ⟨t',rfl⟩:=ry;exact ne_str (bW I q (congrArg not EY))
   | _=>exact absurd (show false=true from hs) Bool.false_ne_true
 | CQ i=>
   obtain ⟨t,rfl⟩:=rx;cases y with
   | CQ j=>obtain ⟨t',rfl⟩:=ry;exact PySem.W.ne_bytes (bW I q (congrArg not Fb))
   | _=>exact absurd (show false=true from hs) Bool.false_ne_true
 | _=>cases y<;>exact absurd (show false=true from hs) Bool.false_ne_true
theorem vI:nR X (compareOp .Lt) (Qu fun i j=> .bl (decide (i<j))):=QM fun _ _ _ _ _ _ _ q=>lt_int q
theorem Ed:nR X (compareOp .LtE) (Qu fun i j=> .bl (decide (i<=j))):=QM fun _ _ _ _ _ _ _ q=>le_int q
theorem Pa:nR X (compareOp .GtE) (Qu fun i j=> .bl (decide (j<=i))):=QM fun _ _ _ _ _ _ _ q=>ge_int q
def isObj:HO->Bool
 | .lst _=>true
 | .ins _ _ _=>true
 | _=>false
theorem bN (b:Expr) {op:CmpOp} (h:op ≠ .In:=by decide) (h2:op ≠ .NotIn:=by decide):behindInMarks op b=false:=by
 have e1:(op==CmpOp.In)=false:=by cases op<;>first |rfl|exact absurd rfl h
 have e2:(op==CmpOp.NotIn)=false:=by cases op<;>first |rfl|exact absurd rfl h2
 cases b<;>simp [behindInMarks,e1,e2]
theorem eX {op:CmpOp} {r:R2} (ho:nR X (compareOp op) r) (ha:PE X a ta) (hb:PE X b tb) (hm:behindInMarks op b=false):PE X (.Compare a [op] [b] pos) (Dr r ta tb):=by
 intro pins s σ H Q I h;exact wpAny_Compare1 (RT ha hb I h fun v u s2 x y H2 I2 rx ry q=>ho pins s2 σ H2 x y v u Q I2 rx ry q) hm
def Dq (t:TE):TT:=fun σ H Q=>t σ H fun x H'=>∃k,x = .bl k/\Q k H'
theorem cG {op:CmpOp} {r:R2} (ho:nR X (compareOp op) r) (ha:PE X a ta) (hb:PE X b tb) (hm:behindInMarks op b=false):PT X (.Compare a [op] [b] pos) (Dq (Dr r ta tb)):=by
 intro pins s σ H Q I h
 refine wpAny_isTrue_Compare1 (cM (ha pins s σ H _ I h) fun v s1 ⟨x,H1,I1,r1,q1⟩=>cM (hb pins s1 σ H1 _ I1 q1) fun u s2 ⟨y,H2,I2,r2,q2⟩=>
  cM (ho pins s2 σ H2 x y v u _ I2 r1 r2 q2) fun c s3 ⟨z,H3,I3,r3,k,e,q3⟩=> ?_) hm
 subst e;cases r3;exact wpAny_truthy_bool ⟨H3,I3,q3⟩
def Iv (r r':R2) (ta tb tc:TE):TE:=fun σ H Q=>ta σ H fun x H1=>tb σ H1 fun y H2=>r x y H2 fun z H3=>∃k,z = .bl k /\
 (if k=true then tc σ H3 fun w' H4=>r' y w' H4 Q else Q (.bl false) H3)
theorem Jw {op op':CmpOp} {r r':R2} (ho:nR X (compareOp op) r) (ho':nR X (compareOp op') r') (ha:PE X a ta) (hb:PE X b tb) (hc:PE X c tc)
 (hm:lastMarks [op,op'] [b,c]=false:=by with_unfolding_all rfl):PE X (.Compare a [op,op'] [b,c] pos) (Iv r r' ta tb tc):=by
 intro pins s σ H Q I h
 refine Compare_chain (cM (ha pins s σ H _ I h) fun v s1 ⟨x,H1,I1,r1,q1⟩=>chain_link (cM (hb pins s1 σ H1 _ I1 q1) fun u s2 ⟨y,H2,I2,r2,q2⟩=>
  cM (ho pins s2 σ H2 x y v u _ I2 r1 r2 q2) fun d s3 ⟨z,H3,I3,r3,k,e,q3⟩=> ?_)) hm
 subst e;cases r3;refine wpAny_truthy_bool ?_;cases k with
 | false=>exact ite_ff ⟨.bl false,H3,I3,rfl,q3⟩
 | true=>exact ite_tt (chain_last (cM (hc pins s3 σ H3 _ I3 q3) fun w' s4 ⟨z',H4,I4,r4,q4⟩=>ho' pins s4 σ H4 y z' u w' Q I4 r2 r4 q4))
theorem Jm {op op':CmpOp} {r r':R2} (ho:nR X (compareOp op) r) (ho':nR X (compareOp op') r') (ha:PE X a ta) (hb:PE X b tb) (hc:PE X c tc)
 (hm:lastMarks [op,op'] [b,c]=false:=by with_unfolding_all rfl):PT X (.Compare a [op,op'] [b,c] pos) (Dq (Iv r r' ta tb tc)):=by
 intro pins s σ H Q I h
 refine isTrue_chain (cM (ha pins s σ H _ I h) fun v s1 ⟨x,H1,I1,r1,q1⟩=>test_link (cM (hb pins s1 σ H1 _ I1 q1) fun u s2 ⟨y,H2,I2,r2,q2⟩=>
  cM (ho pins s2 σ H2 x y v u _ I2 r1 r2 q2) fun d s3 ⟨z,H3,I3,r3,k,e,q3⟩=> ?_)) hm
 subst e;cases r3;refine wpAny_truthy_bool ?_;cases k with
 | false=>
   obtain ⟨k',e',q'⟩:=q3;cases e';exact ite_ff ⟨H3,I3,q'⟩
 | true=>
   refine ite_tt (test_last (cM (hc pins s3 σ H3 _ I3 q3) fun w' s4 ⟨z',H4,I4,r4,q4⟩=>cM (ho' pins s4 σ H4 y z' u w' _ I4 r2 r4 q4) fun d' s5 ⟨z2,H5,I5,r5,k2,e2,q5⟩=> ?_));subst e2;cases r5;exact wpAny_truthy_bool ⟨H5,I5,q5⟩
def RV (K:PySem.W.Frag) (x:V) (H:Hp) (k:Bool):Prop:=
 match x with
 | .non=>k=false
 | .bl b=>k=b
 | .int i=>k=(i != 0)
 | .str y=>y.length<=sizeLine/\k=((y.length:Int) != 0)
 | .CQ y=>y.size<=sizeLine/\k=((y.size:Int) != 0)
 | .ref p=>(∃xs,bw K H p xs/\k = !xs.isEmpty)\/(∃xs,fY K H p xs/\k = !xs.isEmpty) \/ ∃kvs,H p=some (.dK kvs)/\k = !kvs.isEmpty
 | _=>False
theorem Cm {κ:Type} {kvs:List (κ×V)} {vs:List (κ×Value)} (r:KV kvs vs):(!vs.isEmpty) = !kvs.isEmpty:=by
 cases r<;>rfl
theorem tV {xs:List V} {its:List Value} (r:Vals xs its):(!its.toArray.isEmpty) = !xs.isEmpty:=by
 cases r<;>simp
theorem pY:(sizeLine:Nat)<2 ^ 63:=by rw [sizeLine_eq];decide
theorem Qd:ade X (fun x H Q=>∃k,RV X.K x H k/\Q k H):=by
 intro pins s σ H x v Q I rx h;obtain ⟨k,e,q⟩:=h;have hl:=pY;have hs:sizeLine=16777216:=sizeLine_eq;cases x with
 | non=>
   cases rx;have e':k=false:=e;subst e';exact truthy_none ⟨H,I,q⟩
 | bl b=>
   cases rx;have e':k=b:=e;subst e';exact wpAny_truthy_bool ⟨H,I,q⟩
 | int i=>
   obtain ⟨t,rfl⟩:=rx;have e':k=(i != 0):=e;subst e';exact PySem.P.truthy_int ⟨H,I,q⟩
 | str y=>
   obtain ⟨t,rfl⟩:=rx;obtain ⟨hy,e'⟩:y.length<=sizeLine/\k=((y.length:Int) != 0):=e;subst e';exact PySem.P.truthy_str (by omega) ⟨H,I.tok _,q⟩
 | CQ y=>
   obtain ⟨t,rfl⟩:=rx;obtain ⟨hy,e'⟩:y.size<=sizeLine/\k=((y.size:Int) != 0):=e;subst e';exact PySem.W.truthy_bytes (by omega) ⟨H,I.tok _,q⟩
 | ref p=>
   cases rx;have e':(∃xs,bw X.K H p xs/\k = !xs.isEmpty)\/(∃xs,fY X.K H p xs/\k = !xs.isEmpty) \/ ∃kvs,H p=some (.dK kvs)/\k = !kvs.isEmpty:=e;rcases e' with ⟨xs,hx,e'⟩|⟨xs,hx,e'⟩|⟨kvs,hx,e'⟩
   ·subst e'
    obtain ⟨its,r,pl,hz⟩:=I.list hx;have hlen:=r.length;exact wpAny_truthy_list pl.isList (by simp only [List.size_toArray];omega) ⟨H,I.tok _,by rw [tV r];exact q⟩
   ·subst e'
    obtain ⟨its,r,pl,hz⟩:=I.tuple hx;have hlen:=r.length;exact truthy_tuple pl (by simp only [List.size_toArray];omega) ⟨H,I.tok _,by rw [tV r];exact q⟩
   ·subst e'
    obtain ⟨hz,hS,vs,r,m⟩:kvs.length<=sizeLine/\(p==sysModules)=false /\ ∃vs,KV kvs vs/\s.heap.DictOf (cB X.prog X.w) p vs:=I.hok p _ hx;have hlen:kvs.length=vs.length:=Paired.length r;exact wpAny_truthy_dict hS m (by omega) ⟨H,I.tok _,by rw [Cm r];exact q⟩
 | _=>exact (show False from e).elim
theorem Jl (ha:PE X a ta) (he:∀whole,isTrue a X.env whole=(do let v ←whole;standAt a.pos;holding [v] (truthy v))):
 PT X a (fun σ H Q=>ta σ H fun x H'=>∃k,RV X.K x H' k/\Q k H'):=by
 intro pins s σ H Q I h;exact isTrue_plain (cM (ha pins s σ H _ I h) fun v s1 ⟨x,H1,I1,r1,q1⟩=>Qd pins s1 σ H1 x v Q I1 r1 q1) (he _)
theorem vals1 {x:V} {us:List Value} (r:Vals [x] us):∃u,us=[u]/\RelV x u:=by
 cases r with
 | cons r1 r2=>cases r2;exact ⟨_,rfl,r1⟩
theorem vals2 {x y:V} {us:List Value} (r:Vals [x,y] us):∃u w',us=[u,w']/\RelV x u/\RelV y w':=by
 cases r with
 | cons r1 r2=>
   cases r2 with
   | cons r3 r4=>cases r4;exact ⟨_,_,rfl,r1,r3⟩
theorem vU (hc:X.calm=true):gF X (.builtin "max") (fun xs H Q=>∃i j,xs=[.int i,.int j]/\Q (.int (if j>i then j else i)) H):=by
 intro pins s σ H xs us Q I r h;obtain ⟨i,j,rfl,q⟩:=h;obtain ⟨u,w',rfl,⟨t,rfl⟩,⟨t',rfl⟩⟩:=vals2 r;refine max_two_ints (I.ok.hd hc) fun h' tk k=>⟨_,H,I.kept k, ?_,q⟩
 by_cases hj:j>i
 ·rw [if_pos hj,if_pos hj];exact ⟨_,rfl⟩
 ·rw [if_neg hj,if_neg hj];exact ⟨_,rfl⟩
theorem kh:gF X (.type "str") (fun xs H Q=>∃i,xs=[.int i]/\i.natAbs.log2<1920/\Q (.str (toString i)) H):=by
 intro pins s σ H xs us Q I r h;obtain ⟨i,rfl,hz,q⟩:=h;obtain ⟨u,rfl,t,rfl⟩:=vals1 r;exact PySem.P.str_of_int hz ⟨.str _,H,I.tok _,⟨_,rfl⟩,q⟩
end
end L2
namespace L2
open PySem PySem.Spec PyProof.Rows
structure C_ (h:Heap) (x dx C:Addr) (mA:Str->Option Value):Prop where
 obj:h.get? x=some (PySem.W.instObj C dx)
 ns:h.Ns1 dx mA
 ne:dx≠x
theorem Gz {h:Heap} {dx:Addr} {mA:Str->Option Value} (n:h.Ns1 dx mA):∃od,h.get? dx=some od /\ ∀name,PySem.W.lookIn name od=some (mA name):=by
 obtain ⟨o,es,ep,ho,hd,hk,_,hm⟩:=n;refine ⟨o,ho,fun name=> ?_⟩;have e:=hm name;unfold nsFind findBy at e;rw [←Array.find?_toList] at e;unfold PySem.W.lookIn;rw [hd];dsimp only;split
 ·rename_i y q
  rw [q] at e;exact congrArg some e
 ·rename_i q
  rw [q] at e
  have a:es.toList.any (·.refKey)=false:=by
   rw [List.any_eq_false];intro y hy;obtain ⟨z,t,hkey⟩:=hk y (Array.mem_toList_iff.mp hy);simp [DictEntry.refKey,hkey]
  have a':¬es.toList.any (·.refKey)=true:=by rw [a];exact Bool.false_ne_true
  rw [if_neg a'];exact congrArg some e
theorem C_.look {h:Heap} {x dx C:Addr} {mA:Str->Option Value} (I:C_ h x dx C mA):∃od,PySem.W.InstAt h x (PySem.W.instObj C dx) C (some od) /\ ∀name,PySem.W.lookIn name od=some (mA name):=
 let ⟨od,ho,hl⟩:=Gz I.ns
 ⟨od,⟨I.obj,rfl,rfl,ho⟩,hl⟩
section
variable {prog:Program} {w:World} {A:Around} {E:Value->Shared->Prop} {s:Shared} {K:PySem.W.Frag} {x dx C f:Addr} {mA:Str->Option Value} {name:Str} {v:Value}
theorem get_map {expr:Bool} {Q:Value->Shared->Prop} (X:K.In s.heap) (I:C_ s.heap x dx C mA) (hg:PySem.W.plainGet K C name=true) (hh:PySem.W.hasDictIn K C=true)
 (ha:PySem.W.findIn K (.ref C) name=some none) (hv:mA name=some v) (hv':PySem.W.handedIn v=true) (h:Q v {s with toks:=s.toks+1}):
 wpAny (model prog w) A (getAttr (.ref x) name expr) Q E s:=by
 obtain ⟨od,J,hl⟩:=I.look;exact PySem.W.get_value X J (PySem.W.plainGet_of hg).1 (PySem.W.findObj_own hh ha rfl (by rw [hl,hv])) hv' h
theorem Kd {pl:Sem Bool} {Q:Value×List Value->Shared->Prop} (X:K.In s.heap) (I:C_ s.heap x dx C mA) (hg:PySem.W.plainGet K C name=true)
 (hf:PySem.W.findIn K (.ref C) name=some (some (.ref f))) (ht:PySem.W.isFn K (.ref f)=true) (hv:mA name=none) (h:Q (.ref f,[.ref x]) s):
 wpAny (model prog w) A (getMethod (.ref x) name pl) Q E s:=by
 obtain ⟨od,J,hl⟩:=I.look;exact PySem.W.method_fn X J (PySem.W.plainGet_of hg).1 (PySem.W.plainGet_of hg).2 hf (beq_iff_eq.mp ht) (by show (PySem.W.lookIn name od).map (·.isSome)=some false;rw [hl,hv];rfl) h
theorem L_ {ns:List Str} {Q:Unit->Shared->Prop} (X:K.In s.heap) (I:C_ s.heap x dx C mA)
 (hs:PySem.W.findIn K (.ref C) "__setattr__" = some (some (.builtin "object.__setattr__"))) (hp:PySem.W.plainOver K C=true) (ht:PySem.W.takerIn K C name=some none) (hh:PySem.W.hasDictIn K C=true)
 (hw:PySem.Within mA ns) (hsz:ns.length<=sizeLine)
 (h:∀h',C_ h' x dx C (fun y=>if y=name then some v else mA y)->Heap.SameBut dx s.heap h'->Q () {s with heap:=h',toks:=s.toks+2}):
 wpAny (model prog w) A (setAttr (.ref x) name v) Q E s:=by
 obtain ⟨od,J,hl⟩:=I.look;refine PySem.W.set_plain X J hs (PySem.W.osa_open (s:={s with toks:=s.toks+1}) (r:=none) X J hp ht fun b=> ?_);obtain ⟨cd,hc,hd'⟩:=PySem.W.any_some hh;have hx:s.heap.get? x=some ⟨.ref C,some dx,.plain, #[]⟩:=I.obj;refine wpAny_bind (wpAny_pure (wpAny_bind (wpAny_bind (wpAny_loadPart hx (wpAny_bind (PySem.W.Looks.here (s:={s with toks:=s.toks+1}) (PySem.W.looks_clsIn X hc) ?_))))));rw [hd'];refine wpAny_pure (a:=some dx) (wpAny_bind (wpAny_pure (wpAny_bind ?_)));refine wpAny_nsSet1 (s:={s with toks:=s.toks+1}) I.ns fun h' hn2 hs2=> ?_;obtain ⟨oD,esD,epD,hoD,hdD,hcD⟩:=hn2.count (PySem.Within.cons name v hw);refine wpAny_bind (wpAny_lookBehind hoD (by rw [hdD];exact pastItsLine_dict (Nat.le_trans hcD (by rw [List.length_cons];omega))) ?_);exact wpAny_pure (h _ ⟨(hs2.2 _ (Ne.symm I.ne)).trans I.obj,hn2,I.ne⟩ hs2)
theorem JR {R:Result->Shared->Prop} {vs:List Value} {kw:List (Str×Value)} (X:K.In s.heap) (hm:PySem.W.makesIn K C=true)
 (hi:PySem.W.findIn K (.ref C) "__init__" = some (some (.ref f))) (hf:PySem.W.typeIn K (.ref f)=some (.type "function"))
 (h:codeAny (model prog w) (A.under (.builtin "type.__call__" ⟨.ref C::vs,kw⟩)) (.call (.ref f) ⟨.ref (s.heap.objs.size+1)::vs,kw⟩) (PySem.W.InitBack (s.heap.objs.size+1) R)
   {s with heap:=(s.heap.push PySem.W.emptyDict).push (PySem.W.instObj C s.heap.objs.size)}):
 codeAny (model prog w) A (.call (.ref C) ⟨vs,kw⟩) R s:=by
 obtain ⟨hh,g,d,t,os⟩:=s;exact PySem.W.make_core (PySem.W.makes_of X hm) (PySem.W.looks_findIn X hi) (fun self=>PySem.W.bind_fn X self hf) (.inl rfl) h
end
def eV (f:Str) (v:V):List (Str×V)->List (Str×V)
 | []=>[(f,v)]
 | (g,x)::r=>if g=f then (g,v)::r else (g,x)::eV f v r
theorem qG (f g:Str) (v:V):∀fs:List (Str×V),(eV f v fs).lookup g=if g=f then some v else fs.lookup g
 | []=>by
   show List.lookup g [(f,v)]=_
   by_cases h:g=f
   ·have hb:(g==f)=true:=beq_iff_eq.mpr h
    simp only [List.lookup,hb,if_pos h]
   ·have hb:(g==f)=false:=beq_eq_false_iff_ne.mpr h
    simp only [List.lookup,hb,if_neg h]
 | (k,x)::r=>by
   have ih:=qG f g v r;rw [show eV f v ((k,x)::r)=(if k=f then (k,v)::r else (k,x)::eV f v r) from rfl]
   by_cases hk:k=f
   ·rw [if_pos hk]
    by_cases h:g=k
    ·have hb:(g==k)=true:=beq_iff_eq.mpr h
     simp only [List.lookup,hb,if_pos (h.trans hk)]
    ·have hb:(g==k)=false:=beq_eq_false_iff_ne.mpr h
     simp only [List.lookup,hb,if_neg (fun e:g=f=>h (e.trans hk.symm))]
   ·rw [if_neg hk]
    by_cases h:g=k
    ·have hb:(g==k)=true:=beq_iff_eq.mpr h
     simp only [List.lookup,hb,if_neg (fun e:g=f=>hk (h.symm.trans e))]
    ·have hb:(g==k)=false:=beq_eq_false_iff_ne.mpr h
     simp only [List.lookup,hb];exact ih
theorem pZ (f:Str) (v:V):∀fs:List (Str×V),f∈(eV f v fs).map (·.1) /\ ∀g,g∈fs.map (·.1)->g∈(eV f v fs).map (·.1)
 | []=>⟨by simp [eV],fun g h=>by simp at h⟩
 | (k,x)::r=>by
   obtain ⟨i1,i2⟩:=pZ f v r;rw [show eV f v ((k,x)::r)=(if k=f then (k,v)::r else (k,x)::eV f v r) from rfl]
   by_cases hk:k=f
   ·rw [if_pos hk]
    subst hk;exact ⟨by simp,fun g h=>by simpa using h⟩
   ·rw [if_neg hk]
    refine ⟨?_,fun g h=> ?_⟩
    ·rw [List.map_cons]
     exact List.mem_cons_of_mem _ i1
    ·rw [List.map_cons] at h ⊢
     rcases List.mem_cons.mp h with e|e
     ·exact List.mem_cons.mpr (.inl e)
     ·exact List.mem_cons_of_mem _ (i2 g e)
theorem qH (f:Str) (v:V):∀fs:List (Str×V),(eV f v fs).length<=fs.length+1
 | []=>by simp [eV]
 | (k,x)::r=>by
   have ih:=qH f v r;rw [show eV f v ((k,x)::r)=(if k=f then (k,v)::r else (k,x)::eV f v r) from rfl]
   by_cases hk:k=f
   ·rw [if_pos hk,List.length_cons,List.length_cons];omega
   ·rw [if_neg hk,List.length_cons,List.length_cons];omega
theorem k_.some_of {v:V} {o:Option Value} (r:k_ (some v) o):∃u,o=some u/\RelV v u:=by
 cases o with
 | none=>exact (show False from r).elim
 | some u=>exact ⟨u,rfl,r⟩
theorem k_.none_of {o:Option Value} (r:k_ none o):o=none:=by
 cases o with
 | none=>rfl
 | some u=>exact (show False from r).elim
theorem G3 {v:V} {u:Value} (r:RelV v u):PySem.W.handedIn u=true:=by
 cases v with
 | non=>cases (show u=Value.none from r);rfl
 | bl b=>cases (show u=Value.bool b from r);rfl
 | int i=>obtain ⟨t,e⟩:=(show ∃t,u=Value.int i t from r);cases e;rfl
 | str x=>obtain ⟨t,e⟩:=(show ∃t,u=Value.str x t from r);cases e;rfl
 | CQ b=>obtain ⟨t,e⟩:=(show ∃t,u=Value.bytes b t from r);cases e;rfl
 | flt b=>obtain ⟨t,e⟩:=(show ∃t,u=Value.float b t from r);cases e;rfl
 | ref a=>cases (show u=Value.ref a from r);rfl
 | ty n=>cases (show u=Value.type n from r);rfl
section
variable {P:Program} {w:World} {H H':Hp} {h h':Heap} {a C dx:Addr} {fs fs':List (Str×V)}
theorem gW (hok:nU P w H h) (e:H a=some (.ins C dx fs)):∃mA,C_ h a dx C mA/\(∀f,k_ (fs.lookup f) (mA f))/\PySem.Within mA (fs.map (·.1))/\fs.length<=1000/\H dx=some (.own a):=by
 obtain ⟨d,z,ne,ob,mA,n,r,q⟩:=(show cJ P w H h a (.ins C dx fs) from hok a _ e);exact ⟨mA,⟨ob,n,ne⟩,r,q,z,d⟩
end
structure Cls (K:PySem.W.Frag) (C:Addr):Prop where
 pg:PySem.W.plainGet K C Str.empty=true
 hd:PySem.W.hasDictIn K C=true
 po:PySem.W.plainOver K C=true
 sa:PySem.W.findIn K (.ref C) "__setattr__" = some (some (.builtin "object.__setattr__"))
theorem Cls.get {K:PySem.W.Frag} {C:Addr} (c:Cls K C) (f:Str):PySem.W.plainGet K C f=true:=c.pg
def jf (K:PySem.W.Frag) (C:Addr) (f:Str):Prop:=PySem.W.findIn K (.ref C) f=some none
theorem jf.taker {K:PySem.W.Frag} {C:Addr} {f:Str} (n:jf K C f):PySem.W.takerIn K C f=some none:=by
 unfold PySem.W.takerIn;rw [show PySem.W.findIn K (.ref C) f=some none from n];rfl
structure Meth (K:PySem.W.Frag) (C:Addr) (m:Str) (f:Addr):Prop where
 at_:PySem.W.findIn K (.ref C) m=some (some (.ref f))
 fn:PySem.W.isFn K (.ref f)=true
 kp:PySem.W.keepIn K (.ref f)=true
section
variable {X:Cx} {pins:List (Addr×Obj)} {σ:St} {H:Hp} {s:Shared} {a C dx:Addr} {fs:List (Str×V)} {f:Str} {v:V} {A:Around} {E:Value->Shared->Prop}
theorem Cv {b:Bool} {Q:Value->Shared->Prop} (I:Inv X pins σ H s) (e:H a=some (.ins C dx fs)) (c:Cls X.K C) (n:jf X.K C f) (l:fs.lookup f=some v)
 (h:∀u s',Inv X pins σ H s'->RelV v u->Q u s'):wpAny (model X.prog X.w) A (getAttr (.ref a) f b) Q E s:=by
 obtain ⟨mA,O,r,_,_,_⟩:=gW I.hok e;obtain ⟨u,hu,ru⟩:=k_.some_of (v:=v) (o:=mA f) (by rw [←l];exact r f);exact get_map I.nA O (c.get f) c.hd n hu (G3 ru) (h u _ (I.tok _) ru)
theorem tZ {m:Str} {g:Addr} {pl:Sem Bool} {Q:Value×List Value->Shared->Prop} (I:Inv X pins σ H s) (e:H a=some (.ins C dx fs)) (c:Cls X.K C) (k:Meth X.K C m g) (l:fs.lookup m=none)
 (h:Q (.ref g,[.ref a]) s):wpAny (model X.prog X.w) A (getMethod (.ref a) m pl) Q E s:=by
 obtain ⟨mA,O,r,_,_,_⟩:=gW I.hok e;have hn:mA m=none:=k_.none_of (by rw [←l];exact r m);exact Kd I.nA O (c.get m) k.at_ k.fn hn h
theorem Bo {y:V} {u:Value} {Q:Unit->Shared->Prop} (I:Inv X pins σ H s) (e:H a=some (.ins C dx fs)) (c:Cls X.K C) (n:jf X.K C f) (hl:fs.length<1000) (ry:RelV y u)
 (h:∀s',Inv X pins σ (upd H a (.ins C dx (eV f y fs))) s'->Q () s'):wpAny (model X.prog X.w) A (setAttr (.ref a) f u) Q E s:=by
 obtain ⟨mA,O,r,wi,_,ho⟩:=gW I.hok e;have hz:(fs.map (·.1)).length<=sizeLine:=by rw [List.length_map,sizeLine_eq];omega
 refine L_ I.nA O c.sa c.po n.taker c.hd wi hz fun h' O' sb=>h _ ?_;have hd:∃o,h'.get? dx=some o:=let ⟨o,_,_,e',_⟩:=O'.ns;⟨o,e'⟩
 refine I.write (x:=a) (e:=dx) (by rw [e];exact True.intro) (.inr ho) (fun b q hb z=>(sb.2 b hb).trans z) hd ?_;refine ⟨by rw [aR O.ne];exact ho, ?_,O.ne,O'.obj,_,O'.ns,fun g=> ?_,fun g hg=> ?_⟩
 ·have:=qH f y fs;omega
 ·show k_ ((eV f y fs).lookup g) (if g=f then some u else mA g)
  rw [qG]
  by_cases q:g=f
  ·rw [if_pos q,if_pos q];exact ry
  ·rw [if_neg q,if_neg q];exact r g
 ·by_cases q:g=f
  ·rw [q];exact (pZ f y fs).1
  ·refine (pZ f y fs).2 g (wi g fun z=>hg ?_)
   show (if g=f then some u else mA g)=none;rw [if_neg q];exact z
theorem Inv.made (I:Inv X pins σ H s):Inv X pins σ (upd (upd H s.heap.objs.size (.own (s.heap.objs.size+1))) (s.heap.objs.size+1) (.ins C s.heap.objs.size []))
 {s with heap:=(s.heap.push PySem.W.emptyDict).push (PySem.W.instObj C s.heap.objs.size)}:=by
 have e1:(s.heap.push PySem.W.emptyDict).get? s.heap.objs.size=some PySem.W.emptyDict:=Heap.get?_push_size s.heap rfl
 have e2:((s.heap.push PySem.W.emptyDict).push (PySem.W.instObj C s.heap.objs.size)).get? (s.heap.objs.size+1)=some (PySem.W.instObj C s.heap.objs.size):=by
  have:=Heap.get?_push_size (s.heap.push PySem.W.emptyDict) (o:=PySem.W.instObj C s.heap.objs.size) rfl;rwa [Heap.size_push] at this
 have e3:(s.heap.push PySem.W.emptyDict).Ns s.heap.objs.size (fun _=>none):=⟨PySem.W.emptyDict, #[],_,e1,rfl,(fun e he=>absurd he (by simp)),fun _=>rfl⟩;have I1:=I.laid (a:=s.heap.objs.size) (o:= .own (s.heap.objs.size+1)) (h':=s.heap.push PySem.W.emptyDict) (t':=s.toks) (fun b u q=>Heap.get?_push_of_some _ q) (Nat.le_refl _) ⟨_,e1⟩;refine I1.laid (a:=s.heap.objs.size+1) (o:= .ins C s.heap.objs.size []) (t':=s.toks) (fun b u q=>Heap.get?_push_of_some _ q) (Nat.le_of_eq (Heap.size_push _ _)) ?_;have ne:s.heap.objs.size≠s.heap.objs.size+1:=Nat.ne_of_lt (Nat.lt_succ_self _);refine ⟨by rw [aR ne,aq],Nat.zero_le _,ne,e2,fun _=>none,(Heap.Ns1.of_empty e3).at fun o q=>Heap.get?_push_of_some _ q,fun _=>True.intro,fun y hy=>absurd rfl hy⟩
theorem Oq {prog:Program} {w:World} {env:Env} {e:Expr} {f:Str} {pos:Pos} {s:Shared} {Q:Value->Shared->Prop} (hb:attributeBase e f env (eval e env)=eval e env)
 (h:wpAny (model prog w) A (eval e env) (fun o s₁=>wpAny (model prog w) A (getAttr o f true) Q E s₁) E s):wpAny (model prog w) A (eval (.Attribute e f pos) env) Q E s:=
 Attribute_any_ h (by rw [arm_eval_Attribute,hb])
end
def Qg (K:PySem.W.Frag) (ta:TE) (f:Str):TE:=fun σ H Q=>ta σ H fun x H1=>∃a C dx fs v,x = .ref a/\H1 a=some (.ins C dx fs)/\Cls K C/\jf K C f/\fs.lookup f=some v/\Q v H1
def Ti (K:PySem.W.Frag) (ta tv:TE) (f:Str):TS:=fun D σ H=>tv σ H fun y H1=>ta σ H1 fun x H2=>∃a C dx fs,x = .ref a/\H2 a=some (.ins C dx fs)/\Cls K C/\jf K C f/\fs.length<1000 /\
 D.nx σ (upd H2 a (.ins C dx (eV f y fs)))
section
variable {X:Cx} {o e value:Expr} {f:Str} {pos pos' tpos:Pos} {ta tv:TE}
theorem QC (he:PE X e ta) (hb:attributeBase e f X.env (eval e X.env)=eval e X.env):PE X (.Attribute e f pos) (Qg X.K ta f):=by
 intro pins s σ H Q I h;refine Oq hb (cM (he pins s σ H _ I h) fun u s1 ⟨x,H1,I1,rx,a,C,dx,fs,v,ex,ea,c,n,l,q⟩=> ?_);subst ex;obtain rfl:u=Value.ref a:=rx;exact Cv I1 ea c n l fun u' s2 I2 ru=>⟨v,H1,I2,ru,q⟩
theorem Qw (ha:PE X o ta) (hv:PE X value tv) (hs:swapsWith value (some (.Attribute o f pos')) pos.line X.env=pure false):PS X (.Assign [.Attribute o f pos'] value pos) (Ti X.K ta tv f):=by
 intro pins s σ H D I h;refine plainObj_wpAny_Assign_Attribute (cM (hv pins s σ H _ I h) fun u s1 ⟨y,H1,I1,ry,q⟩=>cM (ha pins s1 σ H1 _ I1 q) fun ov s2 ⟨x,H2,I2,rx,a,C,dx,fs,ex,ea,c,n,l,q2⟩=> ?_) hs;subst ex;obtain rfl:ov=Value.ref a:=rx;exact Bo I2 ea c n l ry fun s3 I3=>⟨σ,_,I3,q2⟩
end
section
variable {X:Cx} {pins:List (Addr×Obj)} {σ:St} {H:Hp} {s:Shared} {A:Around} {E:Value->Shared->Prop} {Q:Value->Shared->Prop} {c:Value} {b:Bool}
inductive nO (K:PySem.W.Frag) (H:Hp):V->Value->Prop where
 | non:nO K H .non (.type "NoneType")
 | bl (x:Bool):nO K H (.bl x) (.type "bool")
 | int (i:Int):nO K H (.int i) (.type "int")
 | str (x:Str):nO K H (.str x) (.type "str")
 | flt (x:UInt64):nO K H (.flt x) (.type "float")
 | lst {a:Addr} {xs:List V} (e:H a=some (.lst xs)):nO K H (.ref a) (.type "list")
 | lA {a:Addr} {o:Obj} {xs:List V} (e:H a=some (.lA o (.lst xs))):nO K H (.ref a) (.type "list")
 | tup {a:Addr} {xs:List V} (e:H a=some (.tup xs)):nO K H (.ref a) (.type "tuple")
 | dK {a:Addr} {kvs:List (Key×V)} (e:H a=some (.dK kvs)):nO K H (.ref a) (.type "dict")
 | dT {a:Addr} {kvs:List (List Key×V)} (e:H a=some (.dT kvs)):nO K H (.ref a) (.type "dict")
 | ins {a C dx:Addr} {fs:List (Str×V)} (e:H a=some (.ins C dx fs)) (cl:Cls K C) (ha:PySem.W.findIn K (.ref C) "__class__" = some (some (.builtin "object.__class__")))
    (hn:PySem.W.specialIn K (.builtin "object.__class__") "__get__" = some (some (.builtin "getset_descriptor.__get__"))) (htk:PySem.W.takesIn K (.builtin "object.__class__")=some true)
    (hm:PySem.W.mroIn K C (.type "object")=some true):nO K H (.ref a) (.ref C)
theorem GF {x:V} {u t:Value} (I:Inv X pins σ H s) (rx:RelV x u) (ty:nO X.K H x t) (e:PySem.W.kitOne X.K t c=some b) (h:∀tk,Q (.bool b) {s with toks:=tk}):
 wpAny (model X.prog X.w) A (call (.builtin "isinstance") [u,c]) Q E s:=by
 cases ty with
 | non=>cases (show u=Value.none from rx);exact PySem.W.kia_one PySem.W.kitx_none I.nA True.intro e (fun z=>nomatch z) h
 | bl y=>cases (show u=Value.bool y from rx);exact PySem.W.kia_one PySem.W.kitx_bool I.nA True.intro e (fun z=>nomatch z) h
 | int i=>obtain ⟨t,q⟩:=(show ∃t,u=Value.int i t from rx);cases q;exact PySem.W.kia_one PySem.W.kitx_int I.nA True.intro e (fun z=>nomatch z) h
 | str y=>obtain ⟨t,q⟩:=(show ∃t,u=Value.str y t from rx);cases q;exact PySem.W.kia_one PySem.W.kitx_str I.nA True.intro e (fun z=>nomatch z) h
 | flt y=>obtain ⟨t,q⟩:=(show ∃t,u=Value.float y t from rx);cases q;exact PySem.W.kia_one PySem.W.kitx_float I.nA True.intro e (fun z=>nomatch z) h
 | @lst a xs ea=>
   cases (show u=Value.ref a from rx);obtain ⟨_,_,n,_,h1⟩:=(show cJ X.prog X.w H s.heap a (.lst xs) from I.hok a _ ea);exact PySem.W.kia_one PySem.W.kitx_list I.nA ⟨_,h1,rfl⟩ e (fun z=>nomatch z) h
 | @lA a ob xs ea=>
   cases (show u=Value.ref a from rx);obtain ⟨_,_,_,n,_,h1⟩:=(show cJ X.prog X.w H s.heap a (.lA ob (.lst xs)) from I.hok a _ ea);exact PySem.W.kia_one PySem.W.kitx_list I.nA ⟨_,h1,rfl⟩ e (fun z=>nomatch z) h
 | @tup a xs ea=>
   cases (show u=Value.ref a from rx);obtain ⟨_,_,_,p⟩:=(show cJ X.prog X.w H s.heap a (.tup xs) from I.hok a _ ea);obtain ⟨o,h1,h2,_⟩:=p;exact PySem.W.kia_one PySem.W.kitx_tuple I.nA ⟨o,h1,h2⟩ e (fun z=>nomatch z) h
 | @dK a kvs ea=>
   cases (show u=Value.ref a from rx);obtain ⟨_,_,vs,_,p⟩:=(show cJ X.prog X.w H s.heap a (.dK kvs) from I.hok a _ ea);obtain ⟨o,es,ep,h1,h2,_⟩:=p;exact PySem.W.kia_one PySem.W.kitx_dict I.nA ⟨o,h1,h2.1⟩ e (fun z=>nomatch z) h
 | @dT a kvs ea=>
   cases (show u=Value.ref a from rx);obtain ⟨_,_,xs,_,o,es,ep,h1,h2,_⟩:=(show cJ X.prog X.w H s.heap a (.dT kvs) from I.hok a _ ea);exact PySem.W.kia_one PySem.W.kitx_dict I.nA ⟨o,h1,h2.1⟩ e (fun z=>nomatch z) h
 | @ins a C dx fs ea cl ha hn htk hm=>
   cases (show u=Value.ref a from rx);obtain ⟨mA,O,_⟩:=gW I.hok ea;obtain ⟨od,J,_⟩:=O.look;exact PySem.W.kia_one (PySem.W.kitx_own (cl.get _) cl.hd ha hn htk hm) I.nA J e (fun z=>nomatch z) h
end
end L2
namespace L2
open PySem PySem.Spec PyProof.Rows
structure cY (k:Nat) (A:Around):Prop where
 hd:A.handled=none
 dp:A.depth+3*k+5<recursionLimit
 un:A.units+16*k+200<cLine
theorem cY.mono {j k:Nat} {A:Around} (r:cY k A) (h:j<=k):cY j A:=⟨r.hd,by have:=r.dp;omega,by have:=r.un;omega⟩
theorem cY.deeper {k:Nat} {A:Around} (r:cY (k+1) A) (env:Env):cY k (A.deeper env):=
 ⟨r.hd,by have:=r.dp;show A.depth+1+3*k+5<_;omega,by have:=r.un;show A.units+3+16*k+200<_;omega⟩
theorem cY.in1 {k:Nat} {A:Around} (r:cY (k+1) A):cY k A.in1:=
 ⟨r.hd,by have:=r.dp;show A.depth+3*k+5<_;omega,by have:=r.un;show A.units+1+16*k+200<_;omega⟩
theorem Ck {A:Around} {C:Addr} {us:List Value} {kw:List (Str×Value)}:(A.under (.builtin "type.__call__" ⟨.ref C::us,kw⟩)).depth=A.depth+1:=by
 first |rfl|simp [Around.under,Code.weight,Code.isCreation,Code.isGuard,Code.isCaller,Code.frames,Code.isFrame,guardIds]
theorem Cj {A:Around} {C:Addr} {us:List Value} {kw:List (Str×Value)}:(A.under (.builtin "type.__call__" ⟨.ref C::us,kw⟩)).units=A.units+1:=by
 first |rfl|simp [Around.under,Code.cUnits,Code.frames,Code.isFrame]
theorem cY.make {k:Nat} {A:Around} (r:cY (k+1) A) (C:Addr) (us:List Value) (kw:List (Str×Value)):cY k (A.under (.builtin "type.__call__" ⟨.ref C::us,kw⟩)):=
 ⟨r.hd,by have:=r.dp;rw [Ck];omega,by have:=r.un;rw [Cj];omega⟩
theorem cY.depth {k:Nat} {A:Around} (r:cY k A):A.depth<recursionLimit:=by have:=r.dp;omega
theorem cY.units {k:Nat} {A:Around} (r:cY k A):A.units+64<cLine:=by have:=r.un;omega
theorem cY.Ii {k:Nat} {A:Around} (r:cY k A):A.units<cLine:=by have:=r.un;omega
def yj:TA:=fun _ H Q=>Q [] H
def Iu (ta:TE) (tr:TA):TA:=fun σ H Q=>ta σ H fun x H1=>tr σ H1 fun xs H2=>Q (x::xs) H2
section
variable {X:Cx} {e:Expr} {es:List Expr} {te:TE} {t:TA} {pos:Pos}
theorem aB:PA X [] yj:=fun _ _ _ _ H Q I h=>Calls.spliced_nil ⟨[],H,I,.nil,h⟩
theorem ao (ha:PE X e te) (hr:PA X es t) (hs:starEach (e::es) X.env=(false,eval e X.env)::starEach es X.env:=by rfl):PA X (e::es) (Iu te t):=by
 intro pos pins s σ H Q I h;rw [hs];show wpAny _ _ (spliced ((false,eval e X.env)::backTo pos (starEach es X.env))) _ _ s;refine Calls.spliced_cons (cM (ha pins s σ H _ I h) fun u s1 ⟨x,H1,I1,r1,q1⟩=> ?_);exact cM (hr pos pins s1 σ H1 _ I1 q1) fun us s2 ⟨xs,H2,I2,r2,q2⟩=>⟨x::xs,H2,I2,.cons r1 r2,q2⟩
def XC (t:TA):TE:=fun σ H Q=>t σ H fun xs H1=>xs.length<=sizeLine /\ ∀p,H1 p=none->Q (.ref p) (upd H1 p (.tup xs))
def XH (t:TA):TE:=fun σ H Q=>t σ H fun xs H1=>xs.length<=sizeLine /\ ∀p,H1 p=none->Q (.ref p) (upd H1 p (.lst xs))
theorem lM {x1} (h:PA X es t):PE X (.Tuple es x1 pos) (XC t):=by
 intro pins s σ H Q I hq;refine wpAny_Tuple_spliced (cM (h pos pins s σ H _ I hq) fun us s1 ⟨xs,H1,I1,r,z,q⟩=>⟨by rw [←r.length];exact z, ?_⟩);have hf:H1 s1.heap.objs.size=none:=I1.hok.fresh (Nat.le_refl _);refine ⟨.ref s1.heap.objs.size,upd H1 s1.heap.objs.size (.tup xs),I1.laid (t':=s1.toks) (fun b u e=>Heap.get?_push_of_some _ e) (Nat.le_refl _) ?_,rfl,q _ hf⟩;exact ⟨z,us,r,⟨_,Heap.get?_push_size _ rfl,rfl,_,rfl⟩⟩
theorem cC (h:PA X es t):PE X (.List es pos) (XH t):=by
 intro pins s σ H Q I hq;refine wpAny_List_spliced (cM (h pos pins s σ H _ I hq) fun us s1 ⟨xs,H1,I1,r,z,q⟩=>⟨by rw [←r.length];exact z, ?_⟩);have hf:H1 s1.heap.objs.size=none:=I1.hok.fresh (Nat.le_refl _);refine ⟨.ref s1.heap.objs.size,upd H1 s1.heap.objs.size (.lst xs),I1.laid (t':=s1.toks) (fun b u e=>Heap.get?_push_of_some _ e) (Nat.le_refl _) ?_,rfl,q _ hf⟩;exact ⟨z,us,0,r,Heap.get?_push_size _ rfl⟩
end
abbrev Sp:=List V->Hp->VK->XK->Prop
abbrev Lf:=List Env->Hp->Shared->XK->Value->Shared->Prop
structure vA (P:Program) (w:World) (K:PySem.W.Frag) (mg:Str->Option Value) (base:Heap) (A:Around) (outer:List Env) (s:Shared) (H:Hp):Prop where
 frames:A.frames=some outer
 mod:Mod K mg base
 bs:∀b o,base.get? b=some o->s.heap.get? b=some o/\H b=none
 Hl:base.objs.size<=s.heap.objs.size
 qd:s.heap.FunFrames base outer
 Pz:∀b∈frs outer,H b=none
 hok:nU P w H s.heap
 bare:AllBare s.gens
def CE (outer:List Env) (P:Program) (w:World) (H:Hp) (s:Shared) (Q:VK) (u:Value) (s':Shared):Prop:=
 ∃v H',s'.os=s.os/\AllBare s'.gens/\Un (frs outer) [] H H' s.heap s'.heap/\nU P w H' s'.heap/\RelV v u/\Q v H'
def CR (CX:Lf) (outer:List Env) (P:Program) (w:World) (H:Hp) (s:Shared) (Q:VK) (E:XK) (r:Result) (s':Shared):Prop:=
 match r with
 | .ok (.ret u)=>CE outer P w H s Q u s'
 | .ok _=>False
 | .error e=>CX outer H s E e s'
structure cU (P:Program) (w:World) (K:PySem.W.Frag) (mg:Str->Option Value) (base:Heap) (CX:Lf) (k:Nat) (f:Addr) (fd:FuncData) (ps:List Str) (sp:Sp):Prop where
 len:∀vs H Q E,sp vs H Q E->vs.length=ps.length
 run:∀(A:Around) (outer:List Env) (s:Shared) (H:Hp) (args:Args) (us:List Value) (vs:List V) (Q:VK) (E:XK),cY k A->vA P w K mg base A outer s H->BindsTo s fd args (ps.zip us)->Vals vs us->sp vs H Q E ->
  codeAny (model P w) A (.call (.ref f) args) (CR CX outer P w H s Q E) s
theorem vA.make {P:Program} {w:World} {K:PySem.W.Frag} {mg:Str->Option Value} {base:Heap} {A:Around} {outer:List Env} {s:Shared} {H:Hp} (e:vA P w K mg base A outer s H) (C:Addr) (us:List Value) (kw:List (Str×Value)):
 vA P w K mg base (A.under (.builtin "type.__call__" ⟨.ref C::us,kw⟩)) outer s H:=⟨by first |exact e.frames|(simpa [Around.under,Code.envs,Code.isFrame,pushEnvs] using e.frames),e.mod,e.bs,e.Hl,e.qd,e.Pz,e.hok,e.bare⟩
theorem vA.in1 {P:Program} {w:World} {K:PySem.W.Frag} {mg:Str->Option Value} {base:Heap} {A:Around} {outer:List Env} {s:Shared} {H:Hp} (e:vA P w K mg base A outer s H):
 vA P w K mg base A.in1 outer s H:=⟨e.frames,e.mod,e.bs,e.Hl,e.qd,e.Pz,e.hok,e.bare⟩
section
variable {X:Cx} {pins:List (Addr×Obj)} {σ:St} {H:Hp} {s s':Shared}
theorem Inv.env0 (I:Inv X pins σ H s):vA X.prog X.w X.K X.mg X.base X.A X.stack s H:=
 ⟨I.ok.frames,I.ok.mod,I.bs,Nat.le_trans I.ok.Hl I.sz,I.stack,I.wu,I.hok,I.bare⟩
theorem Inv.after {Q:VK} {u:Value} (I:Inv X pins σ H s) (h:CE X.stack X.prog X.w H s Q u s'):EP X pins σ Q u s':=by
 obtain ⟨v,H',os,bare,un,hok,r,q⟩:=h;obtain ⟨hh,g,d,t,os'⟩:=s';obtain rfl:os'=s.os:=os;exact ⟨v,H',I.call (h':=hh) (g':=g) (d':=d) (t':=t) (ch:=[]) un hok bare (fun b z=>absurd z (by simp)),r,q⟩
end
def O1 (sp:Sp) (pC:List V) (E:XK) (t:TA):TE:=fun σ H Q=>t σ H fun vs H1=>sp (vs++pC) H1 Q E
def Ds (C:Addr) (m:Str) (sp:Sp) (pC:List V) (E:XK) (ta:TE) (t:TA):TE:=fun σ H Q=>ta σ H fun x H1=>∃a dx fs,x = .ref a/\H1 a=some (.ins C dx fs)/\fs.lookup m=none /\
 t σ H1 fun vs H2=>sp (x::(vs++pC)) H2 Q E
def OJ (C:Addr) (sp:Sp) (pC:List V) (E:XK) (t:TA):TE:=fun σ H Q=>t σ H fun vs H1=>∀x dx,H1 x=none->H1 dx=none->dx≠x ->
 sp (.ref x::(vs++pC)) (upd (upd H1 dx (.own x)) x (.ins C dx [])) (fun v H2=>v = .non/\Q (.ref x) H2) E
def Binds (K:PySem.W.Frag) (fd:FuncData) (ps:List Str) (ds:List Value):Prop:=
 ∀(s:Shared) (us:List Value),K.In s.heap->(us++ds).length=ps.length->BindsTo s fd ⟨us,[]⟩ (ps.zip (us++ds))
theorem Binds.all {K:PySem.W.Frag} {fd:FuncData} {ps:List Str} (h:∀us:List Value,us.length=ps.length->bindArgs fd ⟨us,[]⟩=pure (ps.zip us)):Binds K fd ps []:=fun s us _ hl=>by
 rw [List.append_nil] at hl ⊢;exact .of_eq (h us hl)
def Passes (CX:Lf) (X:Cx) (E:XK):Prop:=∀(pins:List (Addr×Obj)) (σ:St) (H:Hp) (s:Shared) (e:Value) (s':Shared),Inv X pins σ H s->CX X.stack H s E e s'->X.xe e s'
section
variable {X:Cx} {CX:Lf} {k:Nat} {f C:Addr} {fd:FuncData} {ps:List Str} {sp:Sp} {pC:List V} {ds:List Value} {E:XK} {x m:Str} {p pos apos:Pos} {e o:Expr} {es:List Expr} {ta:TE} {t:TA}
theorem wI {pins:List (Addr×Obj)} {σ:St} {H:Hp} {s:Shared} {Q:VK} {us:List Value} {vs:List V} (F:cU X.prog X.w X.K X.mg X.base CX k f fd ps sp) (hr:cY k X.A) (hb:Binds X.K fd ps ds) (hd:Vals pC ds) (hx:Passes CX X E)
 (I:Inv X pins σ H s) (r:Vals vs us) (h:sp (vs++pC) H Q E):wpAny (model X.prog X.w) X.A (call (.ref f) us) (EP X pins σ Q) X.xe s:=by
 have r2:Vals (vs++pC) (us++ds):=r.append hd;have hl:(us++ds).length=ps.length:=by rw [←r2.length];exact F.len _ _ _ _ h
 refine wpAny_call (codeAny_mono (F.run X.A X.stack s H ⟨us,[]⟩ (us++ds) (vs++pC) Q E hr I.env0 (hb s us I.nA hl) r2 h) fun r s' hq=> ?_);cases r with
 | error e=>exact hx pins σ H s e s' I hq
 | ok fl=>
   cases fl with
   | ret u=>exact I.after hq
   | next=>exact False.elim hq
   | brk=>exact False.elim hq
   | cont=>exact False.elim hq
theorem MN (F:cU X.prog X.w X.K X.mg X.base CX k f fd ps sp) (hr:cY k X.A) (hg:Gl X x) (hm:X.mg x=some (.ref f)) (hk:PySem.W.keepIn X.K (.ref f)=true) (hb:Binds X.K fd ps ds) (hd:Vals pC ds) (hx:Passes CX X E)
 (ha:PA X (e::es) t) (hdb:(x==("__debug__" :Str))=false:=by decide) (he:starEach (e::es) X.env=(false,eval e X.env)::starEach es X.env:=by rfl) (hpl:(backTo pos (starEach es X.env)).any (·.1)=false:=by rfl):
 PE X (.Call (.Name x p) (e::es) [] pos) (O1 sp pC E t):=by
 intro pins s σ H Q I h;refine wpAny_Call_Name_kw (wV I hg hm ?_ hdb);refine PySem.W.callWith_K (h₀:=X.base) I.ok.mod.Pk hk (cM (ha pos pins s σ H _ I h) fun us s1 ⟨vs,H1,I1,r,q⟩=>⟨I1.nA, ?_⟩) he hpl;exact wI F hr hb hd hx I1 r q
theorem Mz {pl:Sem Bool} (he:PE X o ta) (c:Cls X.K C) (hm:Meth X.K C m f) (F:cU X.prog X.w X.K X.mg X.base CX k f fd ps sp) (hr:cY k X.A) (hb:Binds X.K fd ps ds) (hd:Vals pC ds) (hx:Passes CX X E) (ha:PA X (e::es) t)
 (hst:starEach (e::es) X.env=(false,eval e X.env)::starEach es X.env:=by rfl) (hpl:(backTo pos (starEach es X.env)).any (·.1)=false:=by rfl)
 (ht:eval (.Call (.Attribute o m apos) (e::es) [] pos) X.env=(do
   let ov ←eval o X.env
   standAt apos.atName
   let (f,first) ←holding [ov] (getMethod ov m pl)
   callWith pos f first (backTo pos (starEach (e::es) X.env)) (backToKw pos (keywordEach [] X.env))):=by rfl):
 PE X (.Call (.Attribute o m apos) (e::es) [] pos) (Ds C m sp pC E ta t):=by
 intro pins s σ H Q I h;refine PySem.W.methodCall_KW (pl:=pl) (cM (he pins s σ H _ I h) fun u s1 ⟨x,H1,I1,rx,a,dx,fs,ex,ea,l,q⟩=> ?_) ht;subst ex;obtain rfl:u=Value.ref a:=rx;refine tZ I1 ea c hm l ?_;refine PySem.W.callWith_K (first:=[.ref a]) (h₀:=X.base) I.ok.mod.Pk hm.kp (cM (ha pos pins s1 σ H1 _ I1 q) fun us s2 ⟨vs,H2,I2,r,q2⟩=>⟨I2.nA, ?_⟩) hst hpl;exact wI (us:= .ref a::us) (vs:= .ref a::vs) F hr hb hd hx I2 (.cons rfl r) q2
theorem Ju {pl:Sem Bool} (he:PE X o ta) (c:Cls X.K C) (hm:Meth X.K C m f) (F:cU X.prog X.w X.K X.mg X.base CX k f fd ps sp) (hr:cY k X.A) (hb:Binds X.K fd ps ds) (hd:Vals pC ds) (hx:Passes CX X E)
 (ht:eval (.Call (.Attribute o m apos) [] [] pos) X.env=(do
   let ov ←eval o X.env
   standAt apos.atName
   let (f,first) ←holding [ov] (getMethod ov m pl)
   callWith pos f first (backTo pos (starEach [] X.env)) (backToKw pos (keywordEach [] X.env))):=by rfl):
 PE X (.Call (.Attribute o m apos) [] [] pos) (Ds C m sp pC E ta yj):=by
 intro pins s σ H Q I h;refine PySem.W.methodCall_KW (pl:=pl) (cM (he pins s σ H _ I h) fun u s1 ⟨x,H1,I1,rx,a,dx,fs,ex,ea,l,q⟩=> ?_) ht;subst ex;obtain rfl:u=Value.ref a:=rx;refine tZ I1 ea c hm l ?_;exact PySem.W.callWith_K0 (first:=[.ref a]) I1.nA hm.kp (wI (us:=[.ref a]) (vs:=[.ref a]) F hr hb hd hx I1 (.cons rfl .nil) q)
structure Mk (K:PySem.W.Frag) (C f:Addr):Prop where
 makes:PySem.W.makesIn K C=true
 init:PySem.W.findIn K (.ref C) "__init__" = some (some (.ref f))
 fn:PySem.W.isFn K (.ref f)=true
 kp:PySem.W.keepIn K (.ref C)=true
theorem Jb {pins:List (Addr×Obj)} {σ:St} {H:Hp} {s:Shared} {Q:VK} {us:List Value} {vs:List V} (M:Mk X.K C f) (F:cU X.prog X.w X.K X.mg X.base CX k f fd ps sp) (hr:cY (k+1) X.A) (hb:Binds X.K fd ps ds) (hd:Vals pC ds)
 (hx:Passes CX X E) (I:Inv X pins σ H s) (r:Vals vs us)
 (h:∀x dx,H x=none->H dx=none->dx≠x->sp (.ref x::(vs++pC)) (upd (upd H dx (.own x)) x (.ins C dx [])) (fun v H2=>v = .non/\Q (.ref x) H2) E):
 wpAny (model X.prog X.w) X.A (call (.ref C) us) (EP X pins σ Q) X.xe s:=by
 have hq:=h (s.heap.objs.size+1) s.heap.objs.size (I.hok.fresh (Nat.le_succ _)) (I.hok.fresh (Nat.le_refl _)) (Nat.ne_of_lt (Nat.lt_succ_self _));have I2:=Inv.made (C:=C) I;have r2:Vals (V.ref (s.heap.objs.size+1)::(vs++pC)) (Value.ref (s.heap.objs.size+1)::(us++ds)):= .cons rfl (r.append hd)
 have hl:(Value.ref (s.heap.objs.size+1)::us++ds).length=ps.length:=by
  have e:=r2.length;rw [F.len _ _ _ _ hq] at e;exact e.symm
 refine wpAny_call (JR (f:=f) I.nA M.makes M.init (beq_iff_eq.mp M.fn) (codeAny_mono (F.run _ X.stack _ _ ⟨Value.ref (s.heap.objs.size+1)::us,[]⟩ (Value.ref (s.heap.objs.size+1)::(us++ds)) _ _ E (hr.make C us [])
  (I2.env0.make C us []) (hb _ (Value.ref (s.heap.objs.size+1)::us) I2.nA hl) r2 hq) fun r s' hq'=> ?_))
 cases r with
 | error e=>exact hx pins σ _ _ e s' I2 hq'
 | ok fl=>
   cases fl with
   | ret u=>
     obtain ⟨v,H',I3,rv,ev,q3⟩:=I2.after hq';subst ev;exact ⟨rv,⟨V.ref (s.heap.objs.size+1),H',I3,rfl,q3⟩⟩
   | next=>exact False.elim hq'
   | brk=>exact False.elim hq'
   | cont=>exact False.elim hq'
theorem MF (M:Mk X.K C f) (F:cU X.prog X.w X.K X.mg X.base CX k f fd ps sp) (hr:cY (k+1) X.A) (hg:Gl X x) (hm:X.mg x=some (.ref C)) (hb:Binds X.K fd ps ds) (hd:Vals pC ds) (hx:Passes CX X E)
 (ha:PA X (e::es) t) (hdb:(x==("__debug__" :Str))=false:=by decide) (he:starEach (e::es) X.env=(false,eval e X.env)::starEach es X.env:=by rfl) (hpl:(backTo pos (starEach es X.env)).any (·.1)=false:=by rfl):
 PE X (.Call (.Name x p) (e::es) [] pos) (OJ C sp pC E t):=by
 intro pins s σ H Q I h;refine wpAny_Call_Name_kw (wV I hg hm ?_ hdb);refine PySem.W.callWith_K (h₀:=X.base) I.ok.mod.Pk M.kp (cM (ha pos pins s σ H _ I h) fun us s1 ⟨vs,H1,I1,r,q⟩=>⟨I1.nA, ?_⟩) he hpl;exact Jb M F hr hb hd hx I1 r q
end
section
variable {X:Cx} {CX:Lf} {k:Nat} {f C:Addr} {fd:FuncData} {ps ks:List Str} {sp:Sp} {E:XK} {x m:Str} {p pos apos kpos:Pos} {e o:Expr} {es:List Expr} {kws:List Keyword} {te ta:TE} {t tk:TA} {nm:Option Str}
variable {g:List Value->List Value->List Value} {gV:List V->List V->List V}
end
structure bf (N P:List Str) (sc:Scope):Prop where
 kind:sc.kind = .function
 co:sc.isCoroutine=false
 gen:sc.isGenerator=false
 nd:N.Nodup
 pre:N.take P.length=P
 par:∀x∈P,sc.names.lookup x=some .local\/sc.names.lookup x=some .cell
 QX:∀y∈sc.names,y.2 ≠ .free
theorem vW {kindOf:Str->Option NameKind} {x:Str}:∀{binds:List (Str×Value)} {m:Str->Option Value},(∀v,(x,v)∉binds)->bindL kindOf binds m x=m x
 | [],_,_=>rfl
 | (n,v)::r,m,h=>by
   unfold bindL;rw [vW fun w hw=>h w (List.mem_cons_of_mem _ hw)];split
   ·have:x≠n:=by rintro rfl;exact h v List.mem_cons_self
    simp [this]
   ·rfl
theorem vY {kindOf:Str->Option NameKind} {x:Str}:∀{binds:List (Str×Value)} {m:Str->Option Value},(∀v,(x,v)∉binds)->bindC kindOf binds m x=m x
 | [],_,_=>rfl
 | (n,v)::r,m,h=>by
   unfold bindC;rw [vY fun w hw=>h w (List.mem_cons_of_mem _ hw)];split
   ·rfl
   ·have:x≠n:=by rintro rfl;exact h v List.mem_cons_self
    simp [this]
theorem vX {kindOf:Str->Option NameKind} {x:Str} {v:Value}:∀{P:List Str} {vs:List Value} {i:Nat} {m:Str->Option Value},P.Nodup->P[i]? = some x->vs[i]? = some v->kindOf x=some .local ->
 bindL kindOf (P.zip vs) m x=some v
 | [],_,_,_,_,h,_,_=>by simp at h
 | _::_,[],_,_,_,_,h,_=>by simp at h
 | p::P,w::vs,0,m,nd,h1,h2,hk=>by
   simp at h1 h2;subst h1;subst h2;show bindL kindOf ((p,w)::P.zip vs) m p=_;unfold bindL;rw [vW fun v hv=>(List.nodup_cons.mp nd).1 (List.of_mem_zip hv).1,if_pos hk];simp
 | p::P,w::vs,i+1,m,nd,h1,h2,hk=>by
   show bindL kindOf ((p,w)::P.zip vs) m x=_;unfold bindL;exact vX (i:=i) (List.nodup_cons.mp nd).2 (by simpa using h1) (by simpa using h2) hk
theorem vZ {kindOf:Str->Option NameKind} {x:Str} {v:Value}:∀{P:List Str} {vs:List Value} {i:Nat} {m:Str->Option Value},P.Nodup->P[i]? = some x->vs[i]? = some v->kindOf x≠some .local ->
 bindC kindOf (P.zip vs) m x=some v
 | [],_,_,_,_,h,_,_=>by simp at h
 | _::_,[],_,_,_,_,h,_=>by simp at h
 | p::P,w::vs,0,m,nd,h1,h2,hk=>by
   simp at h1 h2;subst h1;subst h2;show bindC kindOf ((p,w)::P.zip vs) m p=_;unfold bindC;rw [vY fun v hv=>(List.nodup_cons.mp nd).1 (List.of_mem_zip hv).1,if_neg hk];simp
 | p::P,w::vs,i+1,m,nd,h1,h2,hk=>by
   show bindC kindOf ((p,w)::P.zip vs) m x=_;unfold bindC;exact vZ (i:=i) (List.nodup_cons.mp nd).2 (by simpa using h1) (by simpa using h2) hk
def start (N:List Str) (vs:List V):St:=vs.map some++List.replicate (N.length - vs.length) none
def G7 (CX:Lf) (P:Program) (w:World) (K:PySem.W.Frag) (mg:Str->Option Value) (base:Heap) (N:List Str) (qual:Str) (scope:Scope) (f:Addr) (cd:Value) (A:Around) (outer:List Env) (s:Shared) (H:Hp) (E:XK):Cx where
 prog:=P
 w:=w
 K:=K
 mg:=mg
 base:=base
 A:=A.deeper (envOfC qual scope s.heap.objs.size f cd)
 N:=N
 s₀:=s
 H₀:=H
 env:=envOfC qual scope s.heap.objs.size f cd
 outer:=outer
 stack:=envOfC qual scope s.heap.objs.size f cd::outer
 ex:=[]
 calm:=true
 fn:=fun _=>true
 pn:=[]
 xe:=fun e s'=>wpAny (model P w) (A.deeper (envOfC qual scope s.heap.objs.size f cd)) (leaving (envOfC qual scope s.heap.objs.size f cd) e) (fun _ s''=>CX outer H s E e s'') (fun e' s''=>CX outer H s E e' s'') s'
theorem zZ {sc:Scope} {n:Nat} {x:Str} (h:sc.names.lookup x=some .cell):∃c,(cellsFrom n sc.names []).lookup x=some c:=by
 have q:=PySem.W.cellsFrom_some sc.names n [] (.inl h);exact Option.isSome_iff_exists.mp q
theorem GK {CX:Lf} {P:Program} {w:World} {K:PySem.W.Frag} {mg:Str->Option Value} {base:Heap} {N ps:List Str} {qual:Str} {scope:Scope} {f:Addr} {cd:Value} {A:Around} {outer:List Env} {s s1:Shared} {H:Hp} {E:XK} {us:List Value} {vs:List V}
 (S:bf N ps scope) (hd:A.handled=none) (e0:vA P w K mg base A outer s H) (hl:vs.length=ps.length) (r:Vals vs us)
 (x:InCallC s s.heap.objs.size (bindL (envOfC qual scope s.heap.objs.size f cd).kindOf (ps.zip us) fun _=>none) (cellsFrom (s.heap.objs.size+1) scope.names []) (bindC (envOfC qual scope s.heap.objs.size f cd).kindOf (ps.zip us) fun _=>none) s1):
 Inv (G7 CX P w K mg base N qual scope f cd A outer s H E) [] (start N vs) H s1:=by
 have hpl:ps.length<=N.length:=by have:=congrArg List.length S.pre;rw [List.length_take] at this;omega
 obtain ⟨h1,tk,rfl,hk⟩:=x.done;have Ud:∀b:Addr,b∉(G7 CX P w K mg base N qual scope f cd A outer s H E).ex:=fun b z=>absurd (show b∈([]:List Addr) from z) (by simp)
 refine ⟨⟨e0.mod,S.kind,rfl,rfl,Nat.le_refl _,fun y z c h1 h2=> ?_,fun y hy=> ?_,fun y c _ h=> ?_,fun _=>hd,Around.frames_deeper e0.frames,.inr ⟨rfl,rfl⟩,fun b z=>absurd z (Ud b),e0.bs,e0.Hl,fun b _ _=>Ud b,fun b z=>absurd z (Ud b),e0.qd,e0.Pz⟩,
  rfl,e0.bare,Un.kept hk,⟨_,x.toInCall.ns,fun i y v h1 h2 h3=> ?_⟩,fun y c h=>⟨_,x.cell y c h⟩,e0.hok.fresh (Nat.le_refl _),fun y c h=> ?_,fun p hp=>absurd (show p∈([]:List (Addr×Obj)) from hp) (by simp),e0.hok.kept hk, ?_⟩
 ·exact name_of_addr x.apart (PySem.mem_of_lookup h1) (PySem.mem_of_lookup h2)
 ·have hy:scope.names.lookup y=some .cell\/scope.names.lookup y=some .free:=hy
  rcases hy with hy|hy
  ·exact zZ hy
  ·exact absurd rfl (S.QX _ (PySem.mem_of_lookup hy))
 ·exact Nat.le_of_lt (x.above y c (PySem.mem_of_lookup h))
 ·have hi:i<vs.length:=by
   unfold start at h2
   by_cases hi:i<vs.length
   ·exact hi
   ·rw [List.getElem?_append_right (by simpa using hi)] at h2
    rw [List.getElem?_replicate] at h2;split at h2<;>cases h2
  have ha:vs[i]? = some v:=by
   unfold start at h2;rw [List.getElem?_append_left (by simpa using hi),List.getElem?_map] at h2;cases e:vs[i]? with
   | none=>rw [e] at h2;cases h2
   | some a=>rw [e] at h2;cases h2;rfl
  obtain ⟨u,hu,rv⟩:=r.get ha
  have hp:ps[i]? = some y:=by
   rw [←S.pre,List.getElem?_take_of_lt (by omega)];exact h1
  have ndP:ps.Nodup:=by rw [←S.pre];exact S.nd.sublist (List.take_sublist _ _)
  refine ⟨u,rv, ?_⟩;rcases S.par y (List.mem_of_getElem? hp) with k|k
  ·exact .inl ⟨k,vX ndP hp hu k⟩
  ·obtain ⟨c,e⟩:=zZ (n:=s.heap.objs.size+1) k
   refine .inr ⟨.inl k,c,e, ?_⟩;have q:=x.cell y c e;rw [vZ ndP hp hu (by show scope.names.lookup y≠_;rw [k];decide)] at q;exact q
 ·exact e0.hok.fresh (Nat.le_of_lt (x.above y c (PySem.mem_of_lookup h)))
 ·unfold start
  show _=N.length;rw [List.length_append,List.length_map,List.length_replicate];omega
theorem U0 {CX:Lf} {P:Program} {w:World} {K:PySem.W.Frag} {mg:Str->Option Value} {base:Heap} {k:Nat} {f:Addr} {name qual:Str} {params:Arguments} {body:List Stmt} {scope:Scope} {dV kV doc pm cdv ct oc:Value} {an od:Option Addr}
 {osl:Array (Option Value)} {N ps:List Str} {sp:Sp} (lk:K.lookup f=some ⟨oc,od,.func (PySem.W.fnOf name qual params body scope dV kV doc pm an cdv ct),osl⟩) (hcd:PySem.W.codeIn K cdv qual=true) (S:bf N ps scope)
 (len:∀vs H Q E,sp vs H Q E->vs.length=ps.length)
 (hbody:∀(A:Around) (outer:List Env) (s:Shared) (H:Hp) (vs:List V) (Q:VK) (E:XK),cY k (A.deeper (envOfC qual scope s.heap.objs.size f cdv))->sp vs H Q E ->
   ∃t,HF (G7 CX P w K mg base N qual scope f cdv A outer s H E) body t/\t {nx:=fun _ H'=>Q .non H',rt:=Q} (start N vs) H):
 cU P w K mg base CX (k+1) f (PySem.W.fnOf name qual params body scope dV kV doc pm an cdv ct) ps sp:=by
 refine ⟨len,fun A outer s H args us vs Q E hr e0 hb r hsp=> ?_⟩;have hl:=len _ _ _ _ hsp;have KX:K.In s.heap:=e0.mod.Pk.keeps fun b o e=>(e0.bs b o e).1;have lim:s.heap.NoLimit:=e0.mod.nolimit.keeps fun b o e=>(e0.bs b o e).1
 have hkind:∀y∈ps.zip us,scope.names.lookup y.1=some .local\/(scope.names.lookup y.1=some .cell/\((cellsFrom (s.heap.objs.size+1) scope.names []).lookup y.1).isSome=true):=fun ⟨n,v⟩ hy=>by
  rcases S.par n (List.of_mem_zip hy).1 with q|q
  ·exact .inl q
  ·exact .inr ⟨q,PySem.W.cellsFrom_some _ _ _ (.inl q)⟩
 refine codeAny_call_function hr.depth (KX _ _ lk) rfl S.co S.gen rfl (PySem.W.codeRec_of KX hcd) (hb _ _ _ _ ?_);refine wpAny_newFunctionEnv_cells S.kind hkind fun env he s1 x=> ?_;subst he;refine ⟨lim.keeps x.toInCall.keep,codeAny_func ?_⟩;obtain ⟨t,ht,hq⟩:=hbody A outer s H vs Q E (hr.deeper _) hsp;have I:Inv (G7 CX P w K mg base N qual scope f cdv A outer s H E) [] (start N vs) H s1:=GK S hr.hd e0 hl r x;refine wpAny_mono (ht [] s1 (start N vs) H _ I hq) (fun fl s' hs=> ?_) fun e s' hs=>hs
 have fin:∀{σ':St} {H':Hp} {v:V} {u:Value},Inv (G7 CX P w K mg base N qual scope f cdv A outer s H E) [] σ' H' s'->RelV v u->Q v H'->CE outer P w H s Q u s':=
  fun {σ' H' v u} J rv q=>⟨v,H',J.os,J.bare,J.base,J.hok,rv,q⟩
 cases fl with
 | ret u=>
   obtain ⟨v,σ',H',J,rv,q⟩:=hs;exact fin J rv q
 | next=>
   obtain ⟨σ',H',J,q⟩:=hs;exact fin (v:=V.non) (u:=Value.none) J rfl q
 | brk=>
   obtain ⟨_,_,_,q⟩:=hs;exact False.elim q
 | cont=>
   obtain ⟨_,_,_,q⟩:=hs;exact False.elim q
end L2
namespace L2
open PySem PySem.Spec PyProof.Rows
section
variable {X:Cx} {x:Str} {p pos:Pos} {e:Expr} {es:List Expr} {t:TA} {id T:String} {r:List V->Hp->VK->Prop}
def XQ (r:List V->Hp->VK->Prop) (t:TA):TE:=fun σ H Q=>t σ H fun vs H1=>r vs H1 Q
theorem aQ (hc:gF X (.builtin id) r) (hg:Gl X x) (hm:X.mg x=none) (hv:bootBuiltins x=some (.builtin id)) (ha:PA X (e::es) t) (hn:x ≠ "__name__" :=by decide) (hdb:(x==("__debug__" :Str))=false:=by decide)
 (he:starEach (e::es) X.env=(false,eval e X.env)::starEach es X.env:=by rfl) (hpl:(backTo pos (starEach es X.env)).any (·.1)=false:=by rfl):PE X (.Call (.Name x p) (e::es) [] pos) (XQ r t):=by
 intro pins s σ H Q I h;refine wpAny_Call_Name_kw (lQ I hg hm hv ?_ hn hdb);exact PyProof.Rows.callWith_builtin1 (cM (ha pos pins s σ H _ I h) fun us s1 ⟨vs,H1,I1,r1,q1⟩=>hc pins s1 σ H1 vs us Q I1 r1 q1) he hpl
theorem iR (hc:gF X (.type T) r) (hg:Gl X x) (hm:X.mg x=none) (hv:bootBuiltins x=some (.type T)) (ha:PA X (e::es) t) (hn:x ≠ "__name__" :=by decide) (hdb:(x==("__debug__" :Str))=false:=by decide)
 (he:starEach (e::es) X.env=(false,eval e X.env)::starEach es X.env:=by rfl) (hpl:(backTo pos (starEach es X.env)).any (·.1)=false:=by rfl):PE X (.Call (.Name x p) (e::es) [] pos) (XQ r t):=by
 intro pins s σ H Q I h;refine wpAny_Call_Name_kw (lQ I hg hm hv ?_ hn hdb);exact PyProof.Rows.callWith_type1 (cM (ha pos pins s σ H _ I h) fun us s1 ⟨vs,H1,I1,r1,q1⟩=>hc pins s1 σ H1 vs us Q I1 r1 q1) he hpl
end
end L2
namespace HT
open PySem PyProof.Rows
section
open PySem.SeqAt
open PySem.AutoSeq1 (wpAny_loadPart')
open PySem.MeetsSeq PySem.MeetsSeq2 PySem.MeetsSeq3
end
section
variable {prog:Program} {w:World} {A:Around} {E:Value->Shared->Prop} {s:Shared}
theorem Oj {t b:Addr} {vs ws:List Value} {Q:Value->Shared->Prop} (ht:IsTup s.heap t vs.toArray) (hb:IsTup s.heap b ws.toArray) (hv:vs≠[])
 (h1:ws=[]->Q (.ref t) s) (h2:ws≠[]->Q (.ref s.heap.objs.size) {s with heap:=s.heap.push {cls:= .type "tuple",data:= .seq (vs++ws).toArray}})
 (hsz:vs.length+ws.length<=sizeLine):wpAny (model prog w) A (binaryOp .Add (.ref t) (.ref b)) Q E s:=by
 obtain ⟨⟨cls,dd,data,sl⟩,ho,hc,n,hd⟩:=id ht;obtain ⟨⟨cls2,dd2,data2,sl2⟩,ho2,hc2,n2,hd2⟩:=id hb;simp only at hc hd hc2 hd2;subst hc hd hc2 hd2;have e:vs.toArray++ws.toArray=(vs++ws).toArray:=by simp
 by_cases hw:ws=[]
 ·exact concat_meets ⟨_,ho,rfl⟩ ⟨_,ho2,rfl⟩ noFill_tuple_add seq_tuple_add PySem.F.slot_tuple_add PySem.F.entry_tuple_add (PySem.F.args_tuple_add_2 _ _)
   (tuple_addW1 t b vs.toArray ws.toArray n n2 dd dd2 sl sl2 (by simpa using hv) (by simp [hw])) ⟨ho,ho2,h1 hw⟩
 ·refine concat_meets ⟨_,ho,rfl⟩ ⟨_,ho2,rfl⟩ noFill_tuple_add seq_tuple_add PySem.F.slot_tuple_add PySem.F.entry_tuple_add (PySem.F.args_tuple_add_2 _ _)
   (tuple_addW2 t b vs.toArray ws.toArray n n2 dd dd2 sl sl2 (by simpa using hv) (by simpa using hw) (by rw [List.size_toArray,List.size_toArray];exact hsz)) ⟨ho,ho2, ?_⟩
  rw [e];exact h2 hw
def jk (n d:Nat):Option Int->Nat
 | none=>d
 | some v=>if v<0 then (v+(n:Int)).toNat else min v.toNat n
theorem yC (n d:Nat):jk n d none=d:=rfl
theorem Dz (n d k:Nat):jk n d (some (k:Int))=min k n:=by
 show (if (k:Int)<0 then ((k:Int)+(n:Int)).toNat else min (k:Int).toNat n)=min k n;rw [if_neg (by omega),Int.toNat_natCast]
theorem Qn (n d:Nat) (hd:d<=n) (o:Option Int):jk n d o<=n:=by
 cases o with
 | none=>exact hd
 | some v=>
   show (if v<0 then (v+(n:Int)).toNat else min v.toNat n)<=n
   by_cases hv:v<0
   ·rw [if_pos hv];omega
   ·rw [if_neg hv];exact Nat.min_le_right _ _
theorem Fl (v:Int) (n d:Nat):(if v<0 then max (v+(n:Int)) 0 else min v (n:Int))=((jk n d (some v):Nat):Int):=by
 show (if v<0 then max (v+(n:Int)) 0 else min v (n:Int))=(((if v<0 then (v+(n:Int)).toNat else min v.toNat n):Nat):Int)
 by_cases hv:v<0
 ·simp only [if_pos hv];omega
 ·simp only [if_neg hv];omega
theorem CZ (lo hi:Option Int) (n:Nat):Builtin.Slice.sliceAdjust lo hi 1 (n:Int)=(((jk n 0 lo:Nat):Int),((jk n n hi:Nat):Int)):=by
 have h1:¬((1:Int)<0):=by omega
 unfold Builtin.Slice.sliceAdjust;simp only [h1,if_false];refine Prod.ext ?_ ?_
 ·cases lo with
  | none=>rfl
  | some v=>exact Fl v n 0
 ·cases hi with
  | none=>rfl
  | some v=>exact Fl v n n
theorem Bv (i j:Nat):Builtin.Slice.slicePlaces (i:Int) (j:Int) 1=j - i:=by
 unfold Builtin.Slice.slicePlaces;have h1:(1:Int)>0:=by omega
 simp only [h1,if_true,Int.ediv_one];split<;>omega
theorem sO {v:Value} {o:Option Int} {Q:Option Int->Shared->Prop} (p:IsPart v o) (h:Q o s):wpAny (model prog w) A (Builtin.Slice.slicePartIndex v) Q E s:=by
 cases p with
 | none=>exact slicePart_none h
 | int i t=>exact slicePart_int h
theorem pN {sl:Addr} {vl vu:Value} {lo hi:Option Int} {n:Nat} {Q:Int×Int×Nat->Shared->Prop} (hs:s.heap.IsSliceOf sl vl vu .none) (pl:IsPart vl lo) (pu:IsPart vu hi)
 (h:Q (((jk n 0 lo:Nat):Int),1,jk n n hi - jk n 0 lo) s):wpAny (model prog w) A (Builtin.Slice.sliceApplied (.ref sl) (pure (n:Int))) Q E s:=by
 obtain ⟨os,hos,hcs,hds⟩:=id hs;unfold Builtin.Slice.sliceApplied Builtin.Slice.sliceFields;refine wpAny_bind (wpAny_bind (wpAny_field hos hds (x:=vl) rfl (wpAny_bind (wpAny_field hos hds (x:=vu) rfl (wpAny_bind (wpAny_field hos hds (x:= .none) rfl (wpAny_pure ?_)))))));refine wpAny_bind (slicePart_none ?_);show wpAny _ _ (if ((1:Int)==0)=true then _ else _) _ _ s;rw [if_neg (by decide)];refine wpAny_bind (sO pl (wpAny_bind (sO pu (wpAny_bind (wpAny_pure ?_)))));show wpAny _ _ (match Builtin.Slice.sliceAdjust lo hi 1 (n:Int) with |(lo,hi)=>pure (lo,(1:Int),Builtin.Slice.slicePlaces lo hi 1)) _ _ s;rw [CZ lo hi n];show wpAny _ _ (pure (((jk n 0 lo:Nat):Int),(1:Int),Builtin.Slice.slicePlaces ((jk n 0 lo:Nat):Int) ((jk n n hi:Nat):Int) 1)) _ _ s;rw [Bv];exact wpAny_pure h
theorem Js (xs:Array Value) (i k:Nat):((List.range k).filterMap fun (m:Nat)=>xs[((i:Int)+(m:Int)*1).toNat]?).toArray=((xs.toList.drop i).take k).toArray:=by
 have e:(fun (m:Nat)=>xs[((i:Int)+(m:Int)*1).toNat]?)=fun m=>xs[i+m]? :=by
  funext m;have:((i:Int)+(m:Int)*1).toNat=i+m:=by omega
  rw [this]
 rw [e];have:=pick_run xs i k;rw [List.filterMap_map] at this;have e2:((fun x=>xs[x]?)∘fun x=>i+x)=fun m=>xs[i+m]? :=rfl;rw [e2] at this;rw [this]
theorem oU {t sl:Addr} {items:Array Value} {vl vu:Value} {lo hi:Option Int} {Q:Value->Shared->Prop} (ht:IsTup s.heap t items) (hs:s.heap.IsSliceOf sl vl vu .none) (pl:IsPart vl lo) (pu:IsPart vu hi)
 (hw:¬(jk items.size 0 lo=0/\jk items.size items.size hi=items.size))
 (h:Q (.ref s.heap.objs.size) {s with heap:=s.heap.push {cls:= .type "tuple",data:= .seq ((items.toList.drop (jk items.size 0 lo)).take (jk items.size items.size hi - jk items.size 0 lo)).toArray}})
 (hsz:items.size<=sizeLine):wpAny (model prog w) A (getItem (.ref t) (.ref sl)) Q E s:=by
 have Eu:sizeOk (.seq ((items.toList.drop (jk items.size 0 lo)).take (jk items.size items.size hi - jk items.size 0 lo)).toArray):=by
  show ((items.toList.drop (jk items.size 0 lo)).take (jk items.size items.size hi - jk items.size 0 lo)).toArray.size<=sizeLine;rw [List.size_toArray,List.length_take,List.length_drop,Array.length_toList];omega
 have hj:jk items.size items.size hi<=items.size:=Qn _ _ (Nat.le_refl _) hi;obtain ⟨os,hos,hcs,hds⟩:=id hs;have hTs:s.TypeIs (.ref sl) "slice" :=⟨os,hos,hcs⟩;unfold getItem
 try with_reducible refine wpAny_holding ?_
 first |refine wpAny_bind (wpAny_pure ?_)|skip
 refine wpAny_bind (wpAny_sequenceKey ht.typeIs (by decide) ?_)
 refine wpAny_bind (wpAny_callSpecial?_slot (name:=Str.ofString "__getitem__") ht.typeIs PyProof.Rows.slot_tuple_getitem
  (wpAny_call_entry PyProof.Rows.slot_tuple_getitem ht.typeIs entry_tuple_getitem ?_ (args_tuple_getitem _ _)))
 show wpAny _ _ (Builtin.Tuple.tupleItemsOf (.ref t) >>= _) _ _ s;refine wpAny_bind (tupleItemsOf_ ht ?_);refine wpAny_bind (wpAny_typeOf hTs ?_);rw [if_pos (by decide)];refine wpAny_bind (pN hs pl pu ?_)
 have hno:¬((((jk items.size 0 lo:Nat):Int)==0&&(1:Int)==1&&(jk items.size items.size hi - jk items.size 0 lo)==items.size)=true):=by
  intro q;rw [Bool.and_eq_true,Bool.and_eq_true] at q;have q1:((jk items.size 0 lo:Nat):Int)=0:=eq_of_beq q.1.1;have q2:jk items.size items.size hi - jk items.size 0 lo=items.size:=eq_of_beq q.2;exact hw ⟨by omega,by omega⟩
 show wpAny _ _ (if (((jk items.size 0 lo:Nat):Int)==0&&(1:Int)==1&&(jk items.size items.size hi - jk items.size 0 lo)==items.size)=true then _ else _) _ _ s;rw [if_neg hno,Js]
 first
  | exact wpAny_bind (m:=Builtin.Tuple.tupleExact _) (wpAny_newObj_type (wpAny_pure ⟨_,rfl,wpAny_pure h⟩) Eu)
  | exact wpAny_bind (m:=Builtin.Tuple.tupleExact _) (wpAny_newObj_type (wpAny_bind (wpAny_pure (wpAny_pure ⟨_,rfl,wpAny_pure h⟩))) Eu)
  | exact wpAny_bind (wpAny_bind (m:=Builtin.Tuple.tupleExact _) (wpAny_newObj_type (wpAny_pure (wpAny_pure ⟨_,rfl,wpAny_pure h⟩)) Eu))
  | exact wpAny_bind (wpAny_bind (m:=Builtin.Tuple.tupleExact _) (wpAny_newObj_type (wpAny_pure ⟨_,rfl,wpAny_pure h⟩) Eu))
end
end HT
namespace L2
open PySem PySem.Spec PyProof.Rows
abbrev TO:=St->Hp->(Option Int->Hp->Prop)->Prop
def PO (X:Cx) (e:Option Expr) (t:TO):Prop:=
 ∀(pins:List (Addr×Obj)) (s:Shared) (σ:St) (H:Hp) (Q:Option Int->Hp->Prop),Inv X pins σ H s->t σ H Q ->
  wpAny (model X.prog X.w) X.A (evalPart e X.env) (fun u s'=>∃o H',Inv X pins σ H' s'/\IsPart u o/\Q o H') X.xe s
def LC:TO:=fun _ H Q=>Q none H
def SX (t:TE):TO:=fun σ H Q=>t σ H fun x H1=>∃i,x = .int i/\Q (some i) H1
section
variable {X:Cx} {e:Expr} {te:TE} {lo hi:Option Expr} {tl th:TO} {pos p2:Pos}
theorem DX:PO X none LC:=by
 intro pins s σ H Q I h;rw [evalPart_none];exact wpAny_pure ⟨none,H,I,.none,h⟩
theorem DW (h:PE X e te):PO X (some e) (SX te):=by
 intro pins s σ H Q I hw;rw [evalPart_some];refine cM (h pins s σ H _ I hw) fun u s1 ⟨x,H1,I1,r1,q1⟩=> ?_;obtain ⟨i,rfl,q⟩:=q1;obtain ⟨t,rfl⟩:=r1;exact ⟨some i,H1,I1,.int i t,q⟩
def SlR (X:Cx) (r:V->Option Int->Option Int->Hp->VK->Prop):Prop:=
 ∀(pins:List (Addr×Obj)) (s:Shared) (σ:St) (H:Hp) (x:V) (v vl vu:Value) (lo hi:Option Int) (sl:Addr) (Q:VK),Inv X pins σ H s->RelV x v->s.heap.IsSliceOf sl vl vu .none->IsPart vl lo->IsPart vu hi->r x lo hi H Q ->
  ∃T id,typeLookup (.type T) "__getitem__" = pure (some (.builtin id))/\s.TypeIs v T/\wpAny (model X.prog X.w) X.A (getItem v (.ref sl)) (EP X pins σ Q) X.xe s
def tSl (r:V->Option Int->Option Int->Hp->VK->Prop) (te:TE) (tl th:TO):TE:=fun σ H Q=>te σ H fun x H1=>tl σ H1 fun l H2=>th σ H2 fun u H3=>r x l u H3 Q
theorem yI {r:V->Option Int->Option Int->Hp->VK->Prop} (hr:SlR X r) (he:PE X e te) (hl:PO X lo tl) (hu:PO X hi th):PE X (.Subscript e (.Slice lo hi none p2) pos) (tSl r te tl th):=by
 intro pins s σ H Q I h;refine Subscript_ (cM (he pins s σ H _ I h) fun v s1 ⟨x,H1,I1,r1,q1⟩=> ?_);refine wpAny_Slice (cM (hl pins s1 σ H1 _ I1 q1) fun vl s2 ⟨l,H2,I2,pl,q2⟩=>cM (hu pins s2 σ H2 _ I2 q2) fun vu s3 ⟨u,H3,I3,pu,q3⟩=> ?_);rw [evalPart_none];refine wpAny_pure ?_;have I4:Inv X pins σ H3 {s3 with heap:=s3.heap.push {cls:= .type "slice",data:= .fields #[vl,vu,.none]}}:=I3.kept (t':=s3.toks) fun b ob q=>Heap.get?_push_of_some _ q;obtain ⟨T,id,hT,ht,hg⟩:=hr pins {s3 with heap:=s3.heap.push {cls:= .type "slice",data:= .fields #[vl,vu,.none]}} σ H3 x v vl vu l u s3.heap.objs.size Q I4 r1 (Heap.IsSliceOf.new ..) pl pu q3;show wpAny (model X.prog X.w) X.A (subscriptTail e (.Slice lo hi none p2) v (.ref s3.heap.objs.size)) (EP X pins σ Q) X.xe {s3 with heap:=s3.heap.push {cls:= .type "slice",data:= .fields #[vl,vu,.none]}};exact tail_any (ops:=[.ref s3.heap.objs.size,v]) ht hT hg (by with_unfolding_all rfl)
def qY (xs:List V) (lo hi:Option Int):List V:=(xs.drop (HT.jk xs.length 0 lo)).take (HT.jk xs.length xs.length hi - HT.jk xs.length 0 lo)
theorem zW (xs:List V) (lo hi:Option Int):(qY xs lo hi).length<=xs.length:=by
 unfold qY;rw [List.length_take,List.length_drop];omega
def Tr (K:PySem.W.Frag):V->Option Int->Option Int->Hp->VK->Prop:=fun x lo hi H Q=>∃a xs,x = .ref a/\fY K H a xs /\
 ¬(HT.jk xs.length 0 lo=0/\HT.jk xs.length xs.length hi=xs.length) /\ ∀p,H p=none->Q (.ref p) (upd H p (.tup (qY xs lo hi)))
theorem Qm:SlR X (Tr X.K):=by
 intro pins s σ H x v vl vu lo hi sl Q I rx hs pl pu h;obtain ⟨a,xs,rfl,hx,hw,q⟩:=h;cases rx;obtain ⟨its,r,ht,hz⟩:=I.tuple hx;have hlen:its.toArray.size=xs.length:=by rw [List.size_toArray];exact r.length.symm
 refine ⟨"tuple",_,PyProof.Rows.slot_tuple_getitem.lookup,ht.typeIs, ?_⟩;refine HT.oU ht hs pl pu (by rw [hlen];exact hw) ?_ (by rw [hlen];exact hz);rw [hlen];refine ⟨.ref s.heap.objs.size,_,I.laid (t':=s.toks) (o:= .tup (qY xs lo hi)) (fun b ob q=>Heap.get?_push_of_some _ q) (Nat.le_refl _) ?_,rfl,q _ (I.hok.fresh (Nat.le_refl _))⟩;exact ⟨Nat.le_trans (zW xs lo hi) hz,_,(r.drop (HT.jk xs.length 0 lo)).take (HT.jk xs.length xs.length hi - HT.jk xs.length 0 lo),IsTup.new _ _⟩
def O8 (K:PySem.W.Frag):R2:=fun x y H Q=>∃a b xs ys,x = .ref a/\y = .ref b/\fY K H a xs/\fY K H b ys/\xs≠[]/\xs.length+ys.length<=sizeLine /\
 (ys=[]->Q (.ref a) H)/\(ys≠[] -> ∀p,H p=none->Q (.ref p) (upd H p (.tup (xs++ys))))
theorem Vals.wQ {xs:List V} {us:List Value} (r:Vals xs us):us=[]↔xs=[]:=by
 cases r with
 | nil=>simp
 | cons _ _=>simp
theorem MP:nR X (binaryOp .Add) (O8 X.K):=by
 intro pins s σ H x y v u Q I rx ry h;obtain ⟨a,b,xs,ys,rfl,rfl,ha,hb,hx,hz,q1,q2⟩:=h;cases rx;cases ry;obtain ⟨its,r1,p1,_⟩:=I.tuple ha;obtain ⟨its2,r2,p2,_⟩:=I.tuple hb;refine HT.Oj p1 p2 (fun z=>hx (r1.wQ.mp z)) (fun z=>⟨.ref a,H,I,rfl,q1 (r2.wQ.mp z)⟩) (fun z=> ?_) (by rw [←r1.length,←r2.length];exact hz);refine ⟨.ref s.heap.objs.size,_,I.laid (t':=s.toks) (o:= .tup (xs++ys)) (fun b ob q=>Heap.get?_push_of_some _ q) (Nat.le_refl _) ?_,rfl,q2 (fun w=>z (r2.wQ.mpr w)) _ (I.hok.fresh (Nat.le_refl _))⟩;exact ⟨by rw [List.length_append];exact hz,_,r1.append r2,IsTup.new _ _⟩
end
end L2
namespace L2
open PySem PySem.Spec PyProof.Rows
def J3 (n:Nat) (i:Int):Option Nat:=if 0<=i then (if i<n then some i.toNat else none) else if -(n:Int)<=i then some (i+n).toNat else none
def rm {α:Type} (xs:List α) (i:Int):Option α:=(J3 xs.length i).bind fun j=>xs[j]?
theorem Ep {n:Nat} {i:Int} {j:Nat} (h:J3 n i=some j):seqIndex? i n=some j/\j<n /\ -(n:Int)<=i/\i<n:=by
 unfold J3 at h
 by_cases h0:0<=i
 ·rw [if_pos h0] at h
  by_cases h1:i<n
  ·rw [if_pos h1] at h
   have e:i.toNat=j:=Option.some.inj h;exact ⟨by rw [seqIndex_of h0 h1,e],by omega,by omega,h1⟩
  ·rw [if_neg h1] at h;cases h
 ·rw [if_neg h0] at h
  by_cases h1: -(n:Int)<=i
  ·rw [if_pos h1] at h
   have e:(i+n).toNat=j:=Option.some.inj h;exact ⟨by rw [seqIndex_neg (by omega) h1,e],by omega,h1,by omega⟩
  ·rw [if_neg h1] at h;cases h
theorem xM {α:Type} {xs:List α} {i:Int} {v:α} (h:rm xs i=some v):∃j,seqIndex? i xs.length=some j/\xs[j]? = some v/\j<xs.length /\ -(xs.length:Int)<=i/\i<xs.length:=by
 unfold rm at h;cases e:J3 xs.length i with
 | none=>rw [e] at h;cases h
 | some j=>
   rw [e] at h;obtain ⟨h1,h2,h3,h4⟩:=Ep e;exact ⟨j,h1,h,h2,h3,h4⟩
theorem aW {α:Type} {xs:List α} {j:Nat} {v:α} (h:xs[j]? = some v):rm xs (j:Int)=some v:=by
 have hj:j<xs.length:=(List.getElem?_eq_some_iff.mp h).1
 have e:J3 xs.length (j:Int)=some j:=by
  unfold J3;rw [if_pos (by omega),if_pos (by omega)];simp
 unfold rm;rw [e];exact h
theorem KY {α:Type} (xs:List α) (v:α):rm (xs++[v]) (-1)=some v:=by
 have hl:(xs++[v]).length=xs.length+1:=by simp
 have e:J3 (xs++[v]).length (-1)=some xs.length:=by
  unfold J3;rw [hl,if_neg (by decide),if_pos (by omega)];congr 1;omega
 unfold rm;rw [e];show (xs++[v])[xs.length]? = some v;simp
def Ow (b:Expr):Prop:=∀o i,subscripted b false o i=operate [o,i] (getItem o i)
def HJ (X:Cx) (r:R2):Prop:=
 ∀(value slice:Expr) (pins:List (Addr×Obj)) (s:Shared) (σ:St) (H:Hp) (x y:V) (v u:Value) (Q:VK),Inv X pins σ H s->RelV x v->RelV y u->r x y H Q ->
  subscripted slice false v u=operate [v,u] (getItem v u)->wpAny (model X.prog X.w) X.A (subscriptTail value slice v u) (EP X pins σ Q) X.xe s
def MtR (X:Cx) (id:String) (r:V->List V->Hp->VK->Prop):Prop:=
 ∀(pins:List (Addr×Obj)) (s:Shared) (σ:St) (H:Hp) (x:V) (xs:List V) (v:Value) (us:List Value) (Q:VK),Inv X pins σ H s->RelV x v->Vals xs us->r x xs H Q ->
  wpAny (model X.prog X.w) X.A (call (.builtin id) (v::us)) (EP X pins σ Q) X.xe s
section
variable {X:Cx} {a b:Expr} {ta tb:TE} {pos:Pos}
theorem HJ.or {r r':R2} (h:HJ X r) (h':HJ X r'):HJ X (fun x y H Q=>r x y H Q\/r' x y H Q):=by
 intro value slice pins s σ H x y v u Q I rx ry q hs;rcases q with q|q
 ·exact h value slice pins s σ H x y v u Q I rx ry q hs
 ·exact h' value slice pins s σ H x y v u Q I rx ry q hs
theorem aP {r:R2} (hr:HJ X r) (ha:PE X a ta) (hb:PE X b tb) (hs:Ow b):PE X (.Subscript a b pos) (Dr r ta tb):=by
 intro pins s σ H Q I h;exact Subscript_ (RT ha hb I h fun v u s2 x y H2 I2 rx ry q=>hr a b pins s2 σ H2 x y v u Q I2 rx ry q (hs _ _))
def Qt (K:PySem.W.Frag):R2:=fun x y H Q=>∃p xs i v,x = .ref p/\y = .int i/\bw K H p xs/\rm xs i=some v/\Q v H
def wJ (K:PySem.W.Frag):R2:=fun x y H Q=>∃p xs i v,x = .ref p/\y = .int i/\fY K H p xs/\rm xs i=some v/\Q v H
def Tz:R2:=fun x y H Q=>∃z i c,x = .str z/\y = .int i/\z.length<=sizeLine/\rm z.cps.toList i=some c/\Q (.str ⟨#[c]⟩) H
theorem Eo:HJ X (Qt X.K):=by
 intro value slice pins s σ H x y v u Q I rx ry h hs;obtain ⟨p,xs,i,z,rfl,rfl,hq,he,q⟩:=h;cases rx;obtain ⟨t,rfl⟩:=ry;obtain ⟨its,r,pl,hz⟩:=I.list hq;obtain ⟨j,h1,h2,h3,h4,h5⟩:=xM he;obtain ⟨w,ew,rw'⟩:=r.get h2;have hl:=r.length;have hn:=pY;have fin:EP X pins σ Q w s:=⟨z,H,I,rw',q⟩
 by_cases h0:0<=i
 ·have hj:i.toNat=j:=by
   rw [seqIndex_of h0 h5] at h1;exact Option.some.inj h1
  exact item_listR pl.isList h0 (by omega) (by rw [hj];simpa using ew) fin hs
 ·have hj:(i+(its.toArray.size:Int)).toNat=j:=by
   rw [seqIndex_neg (by omega) h4] at h1;rw [List.size_toArray,←hl];exact Option.some.inj h1
  exact subscriptTail_builtinR (x:=w) pl.isList.typeIs slot_list_getitem.lookup
   (wpAny_getItem_list_neg (Q:=fun r s'=>r=w/\EP X pins σ Q r s') pl.isList (by omega) (by rw [List.size_toArray]<;>omega) (by omega) (by rw [hj];simpa using ew) ⟨rfl,fin⟩) hs
theorem J1:HJ X (wJ X.K):=by
 intro value slice pins s σ H x y v u Q I rx ry h hs;obtain ⟨p,xs,i,z,rfl,rfl,hq,he,q⟩:=h;cases rx;obtain ⟨t,rfl⟩:=ry;obtain ⟨its,r,pl,hz⟩:=I.tuple hq;obtain ⟨j,h1,h2,h3,h4,h5⟩:=xM he;obtain ⟨w,ew,rw'⟩:=r.get h2;have hl:=r.length;have hn:=pY;have fin:EP X pins σ Q w s:=⟨z,H,I,rw',q⟩
 exact subscriptTail_builtinR (x:=w) pl.typeIs slot_tuple_getitem.lookup
  (getItem_tuple (j:=j) (Q:=fun r s'=>r=w/\EP X pins σ Q r s') pl (by omega) (by omega) (by rw [List.size_toArray,←hl];exact h1) (by simpa using ew) ⟨rfl,fin⟩) hs
theorem Rm:HJ X Tz:=by
 intro value slice pins s σ H x y v u Q I rx ry h hs;obtain ⟨z,i,c,rfl,rfl,hz,he,q⟩:=h;obtain ⟨t,rfl⟩:=rx;obtain ⟨t',rfl⟩:=ry;obtain ⟨j,h1,h2,h3,h4,h5⟩:=xM he;have hl:z.cps.toList.length=z.length:=by simp [Str.length]
 rw [hl] at h1 h4 h5;have hn:=pY
 exact tail_any (typeIs_str s z t) slot_str_getitem.lookup (getItem_str (c:=c) (by
  have e1:decide (i < -(2 ^ 63:Int))=false:=decide_eq_false (by omega);have e2:decide (i≥2 ^ 63)=false:=decide_eq_false (by omega);rw [e1,e2,Bool.or_false]) (by rw [h1];simpa using h2) ⟨.str ⟨#[c]⟩,H,I.tok _,⟨_,rfl⟩,q⟩) hs
def rIx (K:PySem.W.Frag):R2:=fun x y H Q=>Qt K x y H Q\/wJ K x y H Q\/Tz x y H Q
theorem Rn:HJ X (rIx X.K):=Eo.or (J1.or Rm)
theorem Ci (its:List Value) (n j:Nat) (u:Value):Obj.mapSeq (·.setIfInBounds j u) {cls:= .type "list",data:= .seq its.toArray n}={cls:= .type "list",data:= .seq (its.set j u).toArray n}:=by
 simp [Obj.mapSeq]
theorem Inv.lst {pins:List (Addr×Obj)} {σ:St} {H:Hp} {s:Shared} {p:Addr} {xs:List V} (I:Inv X pins σ H s) (h:H p=some (.lst xs)):
 ∃(its:List Value) (n:Nat),Vals xs its/\s.heap.get? p=some {cls:= .type "list",data:= .seq its.toArray n}/\xs.length<=sizeLine:=by
 obtain ⟨z,its,n,r,e⟩:=I.hok p _ h;exact ⟨its,n,r,e,z⟩
theorem Inv.Ra {pins:List (Addr×Obj)} {σ:St} {H:Hp} {s:Shared} {p:Addr} {xs ys:List V} {its its':List Value} {n n':Nat} {f:Obj->Obj} (I:Inv X pins σ H s) (h:H p=some (.lst xs))
 (ho:s.heap.get? p=some {cls:= .type "list",data:= .seq its.toArray n}) (hf:f {cls:= .type "list",data:= .seq its.toArray n}={cls:= .type "list",data:= .seq its'.toArray n'}) (r:Vals ys its') (hz:ys.length<=sizeLine) (t:Nat):
 Inv X pins σ (upd H p (.lst ys)) {s with heap:=s.heap.update p f,toks:=t}:=by
 have e:(s.heap.update p f).get? p=some {cls:= .type "list",data:= .seq its'.toArray n'}:=by
  rw [Heap.get?_update_self f ho (by rw [hf]<;>rfl),hf]
 refine I.write (x:=p) (e:=p) (by rw [h];trivial) (.inl rfl) (fun b u hb q=>(Heap.get?_update_other _ _ (Ne.symm hb)).trans q) ⟨_,e⟩ ?_;exact ⟨hz,its',n',r,e⟩
def Tt:V->V->V->Hp->(Hp->Prop)->Prop:=fun o i v H Q=>∃p xs k j,o = .ref p/\i = .int k/\H p=some (.lst xs)/\J3 xs.length k=some j/\Q (upd H p (.lst (xs.set j v)))
theorem set_list:V3 X Tt:=by
 intro pins s σ H o i v ov iv u Q I ro ri rv h;obtain ⟨p,xs,k,j,rfl,rfl,hp,hj,q⟩:=h;cases ro;obtain ⟨t,rfl⟩:=ri;obtain ⟨its,n,r,ho,hz⟩:=I.lst hp;obtain ⟨h1,h2,h3,h4⟩:=Ep hj;have hl:=r.length;have hn:=pY
 have I':Inv X pins σ (upd H p (.lst (xs.set j v))) {s with heap:=s.heap.update p (Obj.mapSeq (·.setIfInBounds j u))}:=
  I.Ra hp ho (Ci its n j u) (r.set rv j) (by rw [List.length_set];exact hz) s.toks
 by_cases h0:0<=k
 ·have hk:k.toNat=j:=by
   rw [seqIndex_of h0 h4] at h1;exact Option.some.inj h1
  exact PySem.W.ki_setAt ho h0 (by omega) (by rw [List.size_toArray,←hl];exact h4) (by rw [hk];exact ⟨_,I',q⟩)
 ·have hk:(k+(its.toArray.size:Int)).toNat=j:=by
   rw [seqIndex_neg (by omega) h3] at h1;rw [List.size_toArray,←hl];exact Option.some.inj h1
  exact PySem.W.ki_setBack ho (by omega) (by rw [List.size_toArray,←hl];exact h3) (by omega) (by rw [hk];exact ⟨_,I',q⟩)
theorem xH:gF X (.builtin "len") (fun xs H Q=>∃p ys,xs=[.ref p]/\(bw X.K H p ys\/fY X.K H p ys)/\Q (.int ys.length) H):=by
 intro pins s σ H xs us Q I r h;obtain ⟨p,ys,rfl,hq,q⟩:=h;obtain ⟨u,rfl,rx⟩:=vals1 r;cases rx;have hn:=pY;rcases hq with hq|hq
 ·obtain ⟨its,r',pl,hz⟩:=I.list hq
  have hlen:=r'.length;exact Calls.call_len_list pl.isList (by simp only [List.size_toArray]<;>omega) ⟨.int ys.length,H,I.tok _,⟨s.toks+1,by rw [List.size_toArray,hlen]⟩,q⟩
 ·obtain ⟨its,r',pl,hz⟩:=I.tuple hq
  have hlen:=r'.length;exact len_tuple pl (by simp only [List.size_toArray]<;>omega) ⟨.int ys.length,H,I.tok _,⟨s.toks+1,by rw [List.size_toArray,hlen]⟩,q⟩
theorem xG:gF X (.type "list") (fun xs H Q=>∃p ys,xs=[.ref p]/\(bw X.K H p ys\/fY X.K H p ys) /\ ∀l,H l=none->Q (.ref l) (upd H l (.lst ys))):=by
 intro pins s σ H xs us Q I r h;obtain ⟨p,ys,rfl,hq,q⟩:=h;obtain ⟨u,rfl,rx⟩:=vals1 r;cases rx
 have fin:∀(its:List Value),Vals ys its->ys.length<=sizeLine -> ∀(h':Heap) (c':Nat),(∀b o',s.heap.get? b=some o'->h'.get? b=some o') ->
  h'.get? s.heap.objs.size=some {cls:= .type "list",dict:=none,data:= .seq its.toArray c',slots:= #[]}->EP X pins σ Q (.ref s.heap.objs.size) {s with heap:=h'}:=fun its r' hz h' c' kp e=>
  ⟨.ref s.heap.objs.size,_,I.laid (t':=s.toks) kp (Nat.le_refl _) (show cJ X.prog X.w _ h' _ (.lst ys) from ⟨hz,its,c',r',e⟩),rfl,q _ (I.hok.fresh (Nat.le_refl _))⟩
 rcases hq with hq|hq
 ·obtain ⟨its,r',pl,hz⟩:=I.list hq
  have hlen:=r'.length;obtain ⟨o,ho,hc,n,hd⟩:=pl.isList;exact call_list_seq p (.inl rfl) ho hc hd (fun h' c' kp e=>fin its r' hz h' c' kp e) (by simp only [List.size_toArray]<;>omega)
 ·obtain ⟨its,r',pl,hz⟩:=I.tuple hq
  have hlen:=r'.length;obtain ⟨o,ho,hc,n,hd⟩:=pl;exact call_list_seq p (.inr rfl) ho hc hd (fun h' c' kp e=>fin its r' hz h' c' kp e) (by simp only [List.size_toArray]<;>omega)
def tyV (K:PySem.W.Frag) (T:String) (x:V) (H:Hp):Prop:=match x with
 | .str _=>T = "str"
 | .int _=>T = "int"
 | .ref p=>(T = "list" /\ ∃xs,bw K H p xs)\/(T = "tuple" /\ ∃o,K.lookup p=some o/\o.cls = .type "tuple" /\ o.dict=none) \/
    (T = "dict" /\ ((∃kvs,H p=some (.dK kvs)) \/ ∃kvs,H p=some (.dT kvs)))\/(T = "set" /\ ∃S n,H p=some (.set S n))
 | _=>False
theorem Qc {pins:List (Addr×Obj)} {σ:St} {H:Hp} {s:Shared} {T:String} {x:V} {v:Value} (I:Inv X pins σ H s) (r:RelV x v) (ty:tyV X.K T x H):
 s.TypeIs v T /\ ∀a,v = .ref a -> ∃ob,s.heap.get? a=some ob/\ob.dict=none:=by
 cases x with
 | str z=>
   obtain ⟨t,rfl⟩:=r;cases (show T = "str" from ty);exact ⟨typeIs_str s z t,fun _ e=>nomatch e⟩
 | int i=>
   obtain ⟨t,rfl⟩:=r;cases (show T = "int" from ty);exact ⟨typeIs_int s i t,fun _ e=>nomatch e⟩
 | ref p=>
   cases r;rcases ty with ⟨rfl,xs,hq⟩|⟨rfl,o,hk,hc,hd⟩|⟨rfl,hk⟩|⟨rfl,S,n,hk⟩
   ·obtain ⟨its,_,pl,_⟩:=I.list hq
    refine ⟨pl.isList.typeIs,fun a e=> ?_⟩;cases e;obtain ⟨o,n,e,c,hd,_⟩:=pl;exact ⟨o,e,hd⟩
   ·refine ⟨⟨o,I.nA p o hk,hc⟩,fun a e=> ?_⟩
    cases e;exact ⟨o,I.nA _ o hk,hd⟩
   ·have z:∃o,s.heap.get? p=some o/\o.ExactDict:=by
     rcases hk with ⟨kvs,hk⟩|⟨kvs,hk⟩
     ·obtain ⟨_,_,_,_,o,_,_,e,ex,_⟩:=I.hok p _ hk
      exact ⟨o,e,ex⟩
     ·obtain ⟨_,_,_,_,o,_,_,e,ex,_⟩:=I.hok p _ hk
      exact ⟨o,e,ex⟩
    obtain ⟨o,e,ex⟩:=z;refine ⟨⟨o,e,ex.1⟩,fun a e2=> ?_⟩;cases e2;exact ⟨o,e,ex.2.1⟩
   ·obtain ⟨o,_,_,_,e,ex,_⟩:=I.hok p _ hk
    refine ⟨⟨o,e,ex.1⟩,fun a e2=> ?_⟩;cases e2;exact ⟨o,e,ex.2.1⟩
 | _=>exact False.elim ty
def XR (K:PySem.W.Frag) (T:String) (r:V->List V->Hp->VK->Prop) (to:TE) (t:TA):TE:=fun σ H Q=>to σ H fun x H1=>tyV K T x H1/\t σ H1 fun xs H2=>r x xs H2 Q
variable {o e:Expr} {es:List Expr} {to:TE} {t:TA} {name:Str} {apos cpos:Pos} {T id:String} {r:V->List V->Hp->VK->Prop}
theorem O_ (pa:PlainAttrs T) (slot:Slot T name id) (hty:typeOf (.builtin id)=pure (.type "method_descriptor")) (hm:MtR X id r) (ho:PE X o to) (ha:PA X (e::es) t)
 (hbase:attributeBase o name X.env (eval o X.env)=eval o X.env:=by rfl)
 (hfew:((backTo cpos (starEach (e::es) X.env)).all (fun x=> !x.1)&&(backToKw cpos (keywordEach [] X.env)).all (fun x=>x.1.isSome)
   && decide ((e::es).length+([]:List Keyword).length+(if ([]:List Keyword).isEmpty then 0 else 1)<30))=true:=by rfl)
 (hline:(apos.endLine==cpos.line)=true:=by rfl) (hs:starEach (e::es) X.env=(false,eval e X.env)::starEach es X.env:=by rfl) (hplain:(backTo cpos (starEach es X.env)).any (·.1)=false:=by rfl):
 PE X (.Call (.Attribute o name apos) (e::es) [] cpos) (XR X.K T r to t):=by
 intro pins s σ H Q I h;refine wpAny_Call_method_late hbase hfew hline rfl (cM (ho pins s σ H _ I h) fun v s1 ⟨x,H1,I1,r1,ty,q1⟩=> ?_);obtain ⟨h1,h2⟩:=Qc I1 r1 ty;refine ⟨T,id,pa,slot,hty,h1,h2, ?_⟩;have hA:=ha cpos pins s1 σ H1 _ I1 q1;rw [hs] at hA ⊢;refine Calls.callWith_builtin (by show (false||(backTo cpos (starEach es X.env)).any (·.1))=false;rw [hplain]<;>rfl) (Calls.evalArgs_plain ?_);exact cM hA fun us s2 ⟨vs,H2,I2,r2,q2⟩=>hm pins s2 σ H2 x vs v us Q I2 r1 r2 q2
end
end L2
namespace L2
open PySem PySem.Spec PyProof.Rows
def MtM (X:Cx) (id:String) (r:V->List V->Hp->VK->Prop):Prop:=
 ∀(pins:List (Addr×Obj)) (s:Shared) (σ:St) (H:Hp) (x:V) (xs:List V) (v:Value) (us:List Value) (Q:VK),Inv X pins σ H s->RelV x v->Vals xs us->r x xs H Q ->
  wpAny (model X.prog X.w) X.A (call (.builtin id) (v::us)) (EP X pins σ Q) X.xe s
theorem Vals.one {x:V} {us:List Value} (h:Vals [x] us):∃u,us=[u]/\RelV x u:=by
 cases h with
 | cons r t=>cases t;exact ⟨_,rfl,r⟩
theorem Vals.rep {xs:List V} {us:List Value} (h:Vals xs us):∀k:Nat,Vals (List.replicate k xs).flatten (List.replicate k us).flatten
 | 0=> .nil
 | k+1=>by
   rw [List.replicate_succ,List.replicate_succ,List.flatten_cons,List.flatten_cons];exact Vals.append h (Vals.rep h k)
theorem foldl_rep (its:List Value):∀(k:Nat) (acc:List Value),
 List.foldl (fun x1 x2=>x1++x2) acc.toArray (List.replicate k its.toArray)=(acc++(List.replicate k its).flatten).toArray
 | 0,acc=>by simp
 | k+1,acc=>by
   have e:acc.toArray++its.toArray=(acc++its).toArray:=by simp
   have e2:(acc++its)++(List.replicate k its).flatten=acc++(List.replicate (k+1) its).flatten:=by
    rw [List.replicate_succ,List.flatten_cons,List.append_assoc]
   rw [←e2,←foldl_rep its k (acc++its),←e,List.replicate_succ,List.foldl_cons]
section
variable {X:Cx} {pins:List (Addr×Obj)} {σ:St} {H:Hp} {s:Shared} {l b:Addr} {xs ys zs:List V}
theorem Inv.Uk {its its':List Value} {n:Nat} {f:Array Value->Array Value} {t':Nat} (I:Inv X pins σ H s) (hH:H l=some (.lst xs))
 (e:s.heap.get? l=some {cls:= .type "list",data:= .seq its.toArray n}) (hf:f its.toArray=its'.toArray) (hv:Vals ys its') (hz:ys.length<=sizeLine):
 Inv X pins σ (upd H l (.lst ys)) {s with heap:=s.heap.update l (Obj.mapSeq f),toks:=t'}:=by
 have q:=PySem.IsL.update e f;rw [hf] at q;refine I.write (x:=l) (e:=l) (by rw [hH];exact trivial) (.inl rfl) (fun b' u hb hu=>(Heap.get?_update_other s.heap (Obj.mapSeq f) (Ne.symm hb)).trans hu) ⟨_,q⟩ ?_;exact ⟨hz,its',_,hv,q⟩
theorem Inv.Ul {its:List Value} {t':Nat} (I:Inv X pins σ H s) (hv:Vals ys its) (hz:ys.length<=sizeLine):
 Inv X pins σ (upd H s.heap.objs.size (.lst ys)) {s with heap:=s.heap.push {cls:= .type "list",data:= .seq its.toArray},toks:=t'}:=
 I.laid (fun _ _ q=>Heap.get?_push_of_some _ q) (Nat.le_refl _) ⟨hz,its,0,hv,Heap.get?_push_size _ rfl⟩
theorem Inv.fresh (I:Inv X pins σ H s):H s.heap.objs.size=none:=I.hok.fresh (Nat.le_refl _)
theorem Inv.Gy (I:Inv X pins σ H s) (hH:H l=some (.lst xs)):xs.length<=sizeLine /\ ∃(its:List Value) (n:Nat),Vals xs its/\xs.length=its.length/\s.heap.get? l=some {cls:= .type "list",data:= .seq its.toArray n}:=by
 obtain ⟨z,its,n,r,e⟩:=I.hok l _ hH;exact ⟨z,its,n,r,r.length,e⟩
theorem yV {n:Nat} (h:n<=sizeLine):Builtin.List.listTooLong n=false:=by
 unfold Builtin.List.listTooLong;exact decide_eq_false (by omega)
end
section
variable {X:Cx}
def DP:V->List V->Hp->VK->Prop:=fun x vs H Q=>∃l xs y,x = .ref l/\vs=[y]/\H l=some (.lst xs)/\xs.length<sizeLine/\Q .non (upd H l (.lst (xs++[y])))
theorem pW:MtM X "list.append" DP:=by
 intro pins s σ H x vs v us Q I rx rv h;obtain ⟨l,xs,y,rfl,rfl,hH,hz,q⟩:=h;cases rx;obtain ⟨u,rfl,ru⟩:=rv.one;obtain ⟨z,its,n,r,hl,e⟩:=I.Gy hH;refine call_meets F.slot_list_append ⟨_,e,rfl⟩ F.entry_list_append (F.args_list_append_2 _ _) (PySem.list_append l its.toArray n u (by rw [List.size_toArray];omega)) ⟨e, ?_⟩;refine ⟨.non,_,I.Uk (its':=its++[u]) hH e (by simp) (r.append (.cons ru .nil)) ?_,rfl,q⟩;rw [List.length_append,List.length_singleton];omega
def Mp:V->List V->Hp->VK->Prop:=fun x vs H Q=>∃l b xs zs,x = .ref l/\vs=[.ref b]/\H l=some (.lst xs)/\H b=some (.lst zs)/\xs.length+zs.length<=sizeLine/\Q .non (upd H l (.lst (xs++zs)))
theorem vL:MtM X "list.extend" Mp:=by
 intro pins s σ H x vs v us Q I rx rv h;obtain ⟨l,b,xs,zs,rfl,rfl,hH,hB,hz,q⟩:=h;cases rx;obtain ⟨u,rfl,ru⟩:=rv.one;cases ru;obtain ⟨z,its,n,r,hl,e⟩:=I.Gy hH;obtain ⟨z2,its2,n2,r2,hl2,e2⟩:=I.Gy hB;have hsz:its.toArray.size+its2.toArray.size<=sizeLine:=by rw [List.size_toArray,List.size_toArray];omega
 have J6:¬(!its.toArray.isEmpty&&Builtin.List.listTooLong (its.toArray.size+its2.toArray.size))=true:=by
  rw [yV hsz,Bool.and_false];exact Bool.false_ne_true
 refine call_meets F.slot_list_extend ⟨_,e,rfl⟩ F.entry_list_extend (F.args_list_extend_2 _ _)
  (AutoSeq1.list_extend_list_list_0 l its.toArray n b its2.toArray n2 J6 (by rw [List.size_toArray];omega) (by omega)) ⟨e,e2, ?_⟩
 refine ⟨.non,_,I.Uk (its':=its++its2) hH e (by simp) (r.append r2) ?_,rfl,q⟩;rw [List.length_append];omega
def YL:R2:=fun x y H Q=>∃l b xs zs,x = .ref l/\y = .ref b/\H l=some (.lst xs)/\H b=some (.lst zs)/\xs.length+zs.length<=sizeLine /\ ∀p,H p=none->Q (.ref p) (upd H p (.lst (xs++zs)))
theorem QL:nR X (binaryOp .Add) YL:=by
 intro pins s σ H x y v u Q I rx ry h;obtain ⟨l,b,xs,zs,rfl,rfl,hH,hB,hz,q⟩:=h;cases rx;cases ry;obtain ⟨z,its,n,r,hl,e⟩:=I.Gy hH;obtain ⟨z2,its2,n2,r2,hl2,e2⟩:=I.Gy hB;refine PySem.P.add_list e e2 ?_ (by rw [List.size_toArray,List.size_toArray];omega);have ea:its.toArray++its2.toArray=(its++its2).toArray:=by simp
 rw [ea];exact ⟨.ref _,_,I.Ul (t':=s.toks) (r.append r2) (by rw [List.length_append];omega),rfl,q _ I.fresh⟩
def YG:R2:=fun x y H Q=>∃l k xs,x = .ref l/\y = .int k/\H l=some (.lst xs) /\ -(2 ^ 63)<=k/\k<2 ^ 63/\xs.length*k.toNat<=sizeLine /\
 ∀p,H p=none->Q (.ref p) (upd H p (.lst (List.replicate k.toNat xs).flatten))
theorem len_rep {α:Type} (xs:List α) (k:Nat):(List.replicate k xs).flatten.length=k*xs.length:=by
 induction k with
 | zero=>simp
 | succ k ih=>rw [List.replicate_succ,List.flatten_cons,List.length_append,ih,Nat.succ_mul,Nat.add_comm]
theorem wM:nR X (binaryOp .Mult) YG:=by
 intro pins s σ H x y v u Q I rx ry h;obtain ⟨l,k,xs,rfl,rfl,hH,h1,h2,hz,q⟩:=h;cases rx;obtain ⟨t,rfl⟩:=ry;obtain ⟨z,its,n,r,hl,e⟩:=I.Gy hH;have hlen:its.toArray.size*k.toNat<=sizeLine:=by rw [List.size_toArray,←hl];exact hz
 have hcap:¬its.toArray.size*k.toNat>(2 ^ 63 - 1) / 8:=by
  have:(sizeLine:Nat)<=(2 ^ 63 - 1) / 8:=by decide
  omega
 have hfit:¬(!Builtin.List.listFitsIndex k)=true:=by
  rw [fitsIndex_both h1 h2];exact Bool.false_ne_true
 have J6:¬Builtin.List.listTooLong (its.toArray.size*k.toNat)=true:=by
  rw [yV hlen];exact Bool.false_ne_true
 have hnew:List.foldl (fun x1 x2=>x1++x2) #[] (List.replicate (if its.toArray.isEmpty=true then 0 else k.toNat) its.toArray)=(List.replicate k.toNat its).flatten.toArray:=by
  have f0:∀m:Nat,List.foldl (fun x1 x2=>x1++x2) #[] (List.replicate m its.toArray)=(List.replicate m its).flatten.toArray:=fun m=>by
   have:=foldl_rep its m [];rw [List.nil_append] at this;exact this
  rw [f0];cases its with
  | nil=>simp
  | cons a r'=>rw [if_neg (by simp)]
 refine wpAny_binaryOp_repeat_ref (T:= "list") (U:= "int") (by decide) ⟨_,e,rfl⟩ (fun s'=>typeIs_int s' k t) noFill_list_mul F.fills_int_mul F.slot_int_rmul repeat_list F.slot_int_index.lookup
  (call_meets F.slot_int_rmul (typeIs_int s k t) F.entry_int_rmul (F.args_int_rmul_2 _ _) (int___rmul___int_list k t l its.toArray n)
    ⟨e,rfl,⟨_,e,rfl⟩,call_meets F.slot_list_mul ⟨_,e,rfl⟩ F.entry_list_mul (F.args_list_mul_2 _ _) (AutoListH.list___mul___list_int_3 l its.toArray n k t hfit hcap J6) ⟨e, ?_⟩⟩)
 rw [hnew];exact ⟨.ref _,_,I.Ul (t':=s.toks) (r.rep k.toNat) (by rw [len_rep,Nat.mul_comm];exact hz),rfl,q _ I.fresh⟩
end
section
variable {prog:Program} {w:World} {A:Around} {E:Value->Shared->Prop} {s:Shared}
end
section
variable {X:Cx}
end
end L2
namespace L2
open PySem PySem.Spec PyProof.Rows
section
variable {κ:Type} [DecidableEq κ]
def n_ (kvs:List (κ×V)) (k:κ):Option V:=(kvs.find? fun kv=>decide (kv.1=k)).map (·.2)
def putK (kvs:List (κ×V)) (k:κ) (v:V):List (κ×V):=
 if (kvs.any fun kv=>decide (kv.1=k))=true then kvs.map (fun kv=>if kv.1=k then (kv.1,v) else kv) else kvs++[(k,v)]
theorem nY {p:κ×V} {r:List (κ×V)} {k:κ} (e:p.1=k):n_ (p::r) k=some p.2:=by simp [n_,List.find?_cons,e]
theorem nZ {p:κ×V} {r:List (κ×V)} {k:κ} (e:¬p.1=k):n_ (p::r) k=n_ r k:=by simp [n_,List.find?_cons,e]
theorem rW (k:κ):∀kvs:List (κ×V),(kvs.any fun kv=>decide (kv.1=k))=(n_ kvs k).isSome
 | []=>rfl
 | p::r=>by
   rw [List.any_cons]
   by_cases e:p.1=k
   ·simp only [nY e,decide_eq_true e,Bool.true_or,Option.isSome_some]
   ·rw [nZ e,decide_eq_false e,Bool.false_or];exact rW k r
theorem lO (kvs:List (κ×V)) (k:κ) (v:V):(putK kvs k v).length<=kvs.length+1:=by
 unfold putK;split
 ·rw [List.length_map];omega
 ·rw [List.length_append,List.length_cons,List.length_nil];omega
theorem k_.GJ {o:Option V} {u:Option Value} (r:k_ o u):o.isSome=u.isSome:=by
 cases o with
 | none=>cases u with
   | none=>rfl
   | some _=>exact (show False from r).elim
 | some _=>cases u with
   | none=>exact (show False from r).elim
   | some _=>rfl
theorem k_.getD {o:Option V} {u:Option Value} {d:V} {d':Value} (r:k_ o u) (rd:RelV d d'):RelV (o.getD d) (u.getD d'):=by
 cases o with
 | none=>cases u with
   | none=>exact rd
   | some _=>exact (show False from r).elim
 | some _=>cases u with
   | none=>exact (show False from r).elim
   | some _=>exact r
theorem KV.val {kvs:List (κ×V)} {vs:List (κ×Value)} (r:KV kvs vs) (k:κ):k_ (n_ kvs k) (valueAt vs k):=by
 unfold KV at r
 induction r with
 | nil=>exact True.intro
 | @cons p q ps qs h t ih=>
   obtain ⟨h1,h2⟩:=h
   by_cases e:p.1=k
   ·have e':q.1=k:=h1.symm.trans e
    have b:valueAt (q::qs) k=some q.2:=by simp [valueAt,List.find?_cons,e']
    rw [nY e,b];exact h2
   ·have e':¬q.1=k:=fun z=>e (h1.trans z)
    have b:valueAt (q::qs) k=valueAt qs k:=by simp [valueAt,List.find?_cons,e']
    rw [nZ e,b];exact ih
theorem KV.any {kvs:List (κ×V)} {vs:List (κ×Value)} (r:KV kvs vs) (k:κ):(kvs.any fun kv=>decide (kv.1=k))=vs.any fun kv=>decide (kv.1=k):=by
 unfold KV at r
 induction r with
 | nil=>rfl
 | cons h t ih=>rw [List.any_cons,List.any_cons,ih,h.1]
theorem KV.repl {kvs:List (κ×V)} {vs:List (κ×Value)} (r:KV kvs vs) (k:κ) {y:V} {u:Value} (ry:RelV y u):
 KV (kvs.map fun kv=>if kv.1=k then (kv.1,y) else kv) (vs.map fun kv=>if kv.1=k then (kv.1,u) else kv):=by
 unfold KV at r ⊢
 induction r with
 | nil=>exact .nil
 | @cons p q ps qs h t ih=>
   rw [List.map_cons,List.map_cons];refine .cons ?_ ih;obtain ⟨h1,h2⟩:=h
   by_cases e:p.1=k
   ·rw [if_pos e,if_pos (h1.symm.trans e)];exact ⟨h1,ry⟩
   ·rw [if_neg e,if_neg (fun z=>e (h1.trans z))];exact ⟨h1,h2⟩
theorem KV.put {kvs:List (κ×V)} {vs:List (κ×Value)} (r:KV kvs vs) (k:κ) {y:V} {u:Value} (ry:RelV y u):KV (putK kvs k y) (stored vs k u):=by
 unfold putK stored;rw [r.any k]
 by_cases e:(vs.any fun kv=>decide (kv.1=k))=true
 ·rw [if_pos e,if_pos e];exact r.repl k ry
 ·rw [if_neg e,if_neg e];exact Paired.snoc r ⟨rfl,ry⟩
theorem KV.length {kvs:List (κ×V)} {vs:List (κ×Value)} (r:KV kvs vs):kvs.length=vs.length:=Paired.length r
end
theorem zE {P:Program} {w:World} {k:Key} {u:Value} (r:RelV (kV k) u):(cB P w).is k u=true:=by
 cases k with
 | inl i=>obtain ⟨t,e⟩:=(show ∃t,u=Value.int i t from r);subst e;exact zf P w i t
 | inr x=>obtain ⟨t,e⟩:=(show ∃t,u=Value.str x t from r);subst e;exact zc P w x t
theorem vM {P:Program} {w:World}:∀{ks:List Key} {us:List Value},Vals (ks.map kV) us->ItemsAre (cB P w) ks us
 | [],_,r=>by rw [List.map_nil] at r;cases r;exact .nil
 | k::ks,_,r=>by
   rw [List.map_cons] at r;cases r with
   | cons h t=>exact .cons (zE h) (vM t)
abbrev KT (H:Hp):List (List Key×V)->List (List Key×Addr×Value)->Prop:=Paired fun p q=>p.1=q.1/\H q.2.1=some (.tup (p.1.map kV))/\RelV p.2 q.2.2
theorem KT.val {H:Hp} {kvs:List (List Key×V)} {xs:List (List Key×Addr×Value)} (r:KT H kvs xs) (k:List Key):k_ (n_ kvs k) ((atKey xs k).map (·.2)):=by
 induction r with
 | nil=>exact True.intro
 | @cons p q ps qs h t ih=>
   obtain ⟨h1,_,h2⟩:=h
   by_cases e:p.1=k
   ·have e':q.1=k:=h1.symm.trans e
    have b:atKey (q::qs) k=some q.2:=by simp [atKey,List.find?_cons,e']
    rw [nY e,b];exact h2
   ·have e':¬q.1=k:=fun z=>e (h1.trans z)
    have b:atKey (q::qs) k=atKey qs k:=by simp [atKey,List.find?_cons,e']
    rw [nZ e,b];exact ih
theorem KT.repl {H:Hp} {kvs:List (List Key×V)} {xs:List (List Key×Addr×Value)} (r:KT H kvs xs) (k:List Key) {y:V} {u:Value} (ry:RelV y u):
 KT H (kvs.map fun kv=>if kv.1=k then (kv.1,y) else kv) (xs.map (putAt k u)):=by
 induction r with
 | nil=>exact .nil
 | @cons p q ps qs h t ih=>
   rw [List.map_cons,List.map_cons];refine .cons ?_ ih;obtain ⟨h1,h2,h3⟩:=h;unfold putAt
   by_cases e:p.1=k
   ·rw [if_pos e,if_pos (h1.symm.trans e)];exact ⟨h1,h2,ry⟩
   ·rw [if_neg e,if_neg (fun z=>e (h1.trans z))];exact ⟨h1,h2,h3⟩
theorem KT.put {H:Hp} {kvs:List (List Key×V)} {xs:List (List Key×Addr×Value)} (r:KT H kvs xs) (k:List Key) {b:Addr} {y:V} {u:Value} (hb:H b=some (.tup (k.map kV))) (ry:RelV y u):
 KT H (putK kvs k y) (storedH xs k b u):=by
 have e:(kvs.any fun kv=>decide (kv.1=k))=(atKey xs k).isSome:=by
  rw [rW,(r.val k).GJ,Option.isSome_map]
 unfold putK storedH;rw [e]
 by_cases q:(atKey xs k).isSome=true
 ·rw [if_pos q,if_pos q];exact r.repl k ry
 ·rw [if_neg q,if_neg q];exact Paired.snoc r ⟨rfl,hb,ry⟩
theorem KT.keeps {H H':Hp} {kvs:List (List Key×V)} {xs:List (List Key×Addr×Value)} (r:KT H kvs xs) (ht:∀b ys,H b=some (.tup ys)->H' b=some (.tup ys)):KT H' kvs xs:=
 Paired.Uj r fun _ _ z=>⟨z.1,ht _ _ z.2.1,z.2.2⟩
section
variable {P:Program} {w:World} {H:Hp} {h:Heap} {a:Addr}
theorem O7 {u:HO} (ok:nU P w H h) (e:Rd H a u):cJ P w H h a u:=e.ok ok
theorem zQ {kvs:List (Key×V)} (ok:nU P w H h) (e:Rd H a (.dK kvs)):kvs.length<=sizeLine/\(a==sysModules)=false /\ ∃vs,KV kvs vs/\h.DictOf (cB P w) a vs:=
 show cJ P w H h a (.dK kvs) from O7 ok e
theorem Kh {kvs:List (Key×V)} (ok:nU P w H h) (e:H a=some (.dK kvs)):kvs.length<=sizeLine/\(a==sysModules)=false /\ ∃vs,KV kvs vs/\h.DictOf (cB P w) a vs:=zQ ok (.inl e)
theorem wY {ks:List Key} (ok:nU P w H h) (e:H a=some (.tup (ks.map kV))):(tupleKind (cB P w)).is h ks a:=by
 obtain ⟨_,its,r,o,h1,h2,n,h3⟩:=(show cJ P w H h a (.tup (ks.map kV)) from ok a _ e);exact ⟨o,its.toArray,n,h1,h2,h3,by simpa using vM r⟩
theorem zP {kvs:List (List Key×V)} (ok:nU P w H h) (e:Rd H a (.dT kvs)):kvs.length<=sizeLine/\(a==sysModules)=false /\
 ∃xs,KT H kvs xs/\h.DictOfH (tupleKind (cB P w)) a xs:=by
 obtain ⟨z,y,xs,r,o,es,ep,h1,h2,h3,h4,h5⟩:=(show cJ P w H h a (.dT kvs) from O7 ok e);refine ⟨z,y,xs,r,o,es,ep,h1,h2,h3,h4,fun x hx=> ?_,h5⟩
 have all:∀{l:List (List Key×V)} {m:List (List Key×Addr×Value)},KT H l m -> ∀x∈m,(tupleKind (cB P w)).is h x.1 x.2.1:=by
  intro l m q
  induction q with
  | nil=>intro x hx;exact nomatch hx
  | @cons p q ps qs hq t ih=>
    intro x hx;rcases List.mem_cons.mp hx with e|hx
    ·subst e
     exact wY ok (by rw [←hq.1];exact hq.2.1)
    ·exact ih x hx
 exact all r x hx
theorem Vd {kvs:List (List Key×V)} (ok:nU P w H h) (e:H a=some (.dT kvs)):kvs.length<=sizeLine/\(a==sysModules)=false /\
 ∃xs,KT H kvs xs/\h.DictOfH (tupleKind (cB P w)) a xs:=zP ok (.inl e)
end
def uT (H:Hp) (a:Addr) (y:V) (r:Option V):Prop:=
 (∃kvs k,Rd H a (.dK kvs)/\y=kV k/\r=n_ kvs k) \/ ∃kvs k b,Rd H a (.dT kvs)/\y = .ref b/\H b=some (.tup (k.map kV))/\r=n_ kvs k
def Lb (H:Hp) (a:Addr) (y v:V) (H':Hp):Prop:=
 (∃kvs k,H a=some (.dK kvs)/\y=kV k/\kvs.length<sizeLine/\H'=upd H a (.dK (putK kvs k v))) \/
 ∃kvs k b,H a=some (.dT kvs)/\y = .ref b/\H b=some (.tup (k.map kV))/\kvs.length<sizeLine/\H'=upd H a (.dT (putK kvs k v))
theorem uT.k {H:Hp} {a:Addr} {kvs:List (Key×V)} {k:Key} (e:H a=some (.dK kvs)):uT H a (kV k) (n_ kvs k):= .inl ⟨kvs,k,.inl e,rfl,rfl⟩
theorem Lb.k {H:Hp} {a:Addr} {kvs:List (Key×V)} {k:Key} {v:V} (e:H a=some (.dK kvs)) (hl:kvs.length<sizeLine):Lb H a (kV k) v (upd H a (.dK (putK kvs k v))):= .inl ⟨kvs,k,e,rfl,hl,rfl⟩
section
variable {X:Cx} {pins:List (Addr×Obj)} {σ:St} {H:Hp} {s:Shared} {a:Addr} {y v:V} {u r:Value} {o:Option V} {A:Around} {E:Value->Shared->Prop}
theorem Inv.big (I:Inv X pins σ H s):sysModules<s.heap.objs.size:=by
 have h:mainGlobals<s.heap.objs.size:=(I.mod.glob.keeps I.bk).lt;exact Nat.lt_trans (by decide) h
theorem G6 {Q:Value->Shared->Prop} (hu:A.units+1<cLine) (I:Inv X pins σ H s) (g:uT H a y (some v)) (ry:RelV y u) (h:∀w' s',Inv X pins σ H s'->RelV v w'->Q w' s'):
 wpAny (model X.prog X.w) A (getItem (.ref a) u) Q E s:=by
 rcases g with ⟨kvs,k,e,ey,l⟩|⟨kvs,k,b,e,ey,eb,l⟩
 ·subst ey
  obtain ⟨z,hd,vs,rel,dd⟩:=zQ I.hok e;obtain ⟨w',hw,rw'⟩:=k_.some_of (v:=v) (o:=valueAt vs k) (by rw [l];exact rel.val k);exact wpAny_getItem_of (zE ry) dd.mapOf hw (h w' _ (I.tok _) rw')
 ·subst ey
  cases (show u=Value.ref b from ry);obtain ⟨z,hd,xs,rel,dd⟩:=zP I.hok e;obtain ⟨w',hw,rw'⟩:=k_.some_of (v:=v) (o:=(atKey xs k).map (·.2)) (by rw [l];exact rel.val k);obtain ⟨p,hp,hp2⟩:=Option.map_eq_some_iff.mp hw;refine wpAny_getItem_heap (tupleKind_room_in1 hu) (wY I.hok eb) dd hp ?_;rw [hp2];exact h w' _ (I.tok _) rw'
theorem xu {h':Heap} {t':Nat} {ob:HO} (I:Inv X pins σ H s) (mu:V6 (H a)) (hs:Heap.SameBut a s.heap h') (he:∃q,h'.get? a=some q) (new:cJ X.prog X.w (upd H a ob) h' a ob):
 Inv X pins σ (upd H a ob) {s with heap:=h',toks:=t'}:=
 I.write (x:=a) (e:=a) mu (.inl rfl) (fun b q hb z=>(hs.2 b hb).trans z) he new
theorem Kl {P:Program} {w:World} {H':Hp} {h':Heap} {kvs:List (Key×V)} {vs:List (Key×Value)} (z:kvs.length<=sizeLine) (hd:(a==sysModules)=false) (rel:KV kvs vs) (dd:h'.DictOf (cB P w) a vs):
 cJ P w H' h' a (.dK kvs):=⟨z,hd,vs,rel,dd⟩
theorem G5 {H':Hp} {Q:Unit->Shared->Prop} (hu:A.units+1<cLine) (I:Inv X pins σ H s) (g:Lb H a y v H') (ry:RelV y u) (rv:RelV v r) (h:∀s',Inv X pins σ H' s'->Q () s'):
 wpAny (model X.prog X.w) A (setItem (.ref a) u r) Q E s:=by
 rcases g with ⟨kvs,k,e,ey,l,eH⟩|⟨kvs,k,b,e,ey,eb,l,eH⟩
 ·subst ey eH
  obtain ⟨z,hd,vs,rel,dd⟩:=Kh I.hok e;have hz:vs.length<=sizeLine:=by rw [←rel.length];exact z
  have hl:(putK kvs k v).length<=sizeLine:=by have:=lO kvs k v;omega
  refine wpAny_setItem_pairs (hsz:=hz) (zE ry) dd fun h' RM hs=>h _ ?_;have he:∃q,h'.get? a=some q:=let ⟨q,_,_,hq,_⟩:=RM;⟨q,hq⟩
  exact xu I (by rw [e];exact True.intro) hs he (Kl hl hd (rel.put k rv) RM)
 ·subst ey eH
  cases (show u=Value.ref b from ry);obtain ⟨z,hd,xs,rel,dd⟩:=Vd I.hok e;have hz:xs.length<=sizeLine:=by rw [←Paired.length rel];exact z
  have hl:(putK kvs k v).length<=sizeLine:=by have:=lO kvs k v;omega
  refine wpAny_setItem_heap (hsz:=hz) (tupleKind_room_in1 hu) (wY I.hok eb) dd fun h' RM hs=>h _ ?_;obtain ⟨q,es,ep,hq,h2,h3,h4,_,h5⟩:=RM;refine xu I (by rw [e];exact True.intro) hs ⟨q,hq⟩ ⟨hl,hd,_,(rel.put k eb rv).keeps fun c ys ec=> ?_,q,es,ep,hq,h2,h3,h4,h5⟩;rw [aR (qF ec e (fun z=>nomatch z))];exact ec
end
section
variable {X:Cx} {pins:List (Addr×Obj)} {σ:St} {H:Hp} {s:Shared} {a:Addr} {kvs:List (Key×V)} {k:Key} {u:Value} {A:Around} {E:Value->Shared->Prop}
end
def V5 (i:Expr):Prop:=∀ov iv,subscripted i false ov iv=operate [ov,iv] (getItem ov iv)
theorem LQ {prog:Program} {w:World} {A:Around} {E:Value->Shared->Prop} {s:Shared} {env:Env} {value slice:Expr} {pos:Pos} {T id:String} {Q:Value->Shared->Prop}
 (hl:typeLookup (.type T) "__getitem__" = pure (some (.builtin id))) (hs:V5 slice)
 (h:wpAny (model prog w) A (eval value env) (fun o s₁=>wpAny (model prog w) A (eval slice env) (fun i s₂=>s₂.TypeIs o T/\wpAny (model prog w) A (getItem o i) Q E s₂) E s₁) E s):
 wpAny (model prog w) A (eval (.Subscript value slice pos) env) Q E s:=by
 refine Subscript_ (wpAny_mono h (fun o s₁ h₁=>wpAny_mono h₁ (fun i s₂ h₂=> ?_) fun _ _ x=>x) fun _ _ x=>x);obtain ⟨hT,h₂⟩:=h₂;unfold subscriptTail;refine wpAny_bind ?_;rw [getitemInPython_of_ne hT.not_modules];refine wpAny_bind (wpAny_specialOf hT hl ?_)
 have fin:wpAny (model prog w) A (subscripted slice false o i) (fun r s₃=>wpAny (model prog w) A (letTemporaryGo value o r >>= fun _=>pure r) Q E s₃) E s₂:=by
  rw [hs o i];exact wpAny_operating (wpAny_mono h₂ (fun r s₃ h₃=>wpAny_bind (wpAny_letTemporaryGo (wpAny_pure h₃))) fun _ _ x=>x)
 first
  | exact wpAny_pure (wpAny_bind fin)
  | exact wpAny_bind (wpAny_pure (wpAny_bind fin))
  | exact wpAny_bind fin
theorem zT {X:Cx} {pins:List (Addr×Obj)} {σ:St} {H:Hp} {s:Shared} {a:Addr} {y:V} {o:Option V} (I:Inv X pins σ H s) (g:uT H a y o):s.TypeIs (.ref a) "dict" :=by
 rcases g with ⟨kvs,k,e,_,_⟩|⟨kvs,k,b,e,_,_,_⟩
 ·obtain ⟨_,_,vs,_,dd⟩:=zQ I.hok e
  exact dd.typeIs
 ·obtain ⟨_,_,xs,_,dd⟩:=zP I.hok e
  exact dd.typeIs
def Tc (td ty:TE):TE:=fun σ H Q=>td σ H fun x H1=>ty σ H1 fun y H2=>∃a v,x = .ref a/\uT H2 a y (some v)/\Q v H2
def Tj (td ty tv:TE):TS:=fun D σ H=>tv σ H fun v H1=>td σ H1 fun x H2=>ty σ H2 fun y H3=>∃a H4,x = .ref a/\Lb H3 a y v H4/\D.nx σ H4
section
variable {X:Cx} {o i e value:Expr} {pos pos' tpos:Pos} {td ty tv:TE}
theorem MK (hu:X.A.units+1<cLine) (ho:PE X o td) (hi:PE X i ty) (hs:V5 i):PE X (.Subscript o i pos) (Tc td ty):=by
 intro pins s σ H Q I h;refine LQ PySem.F.slot_dict_getitem.lookup hs (cM (ho pins s σ H _ I h) fun u s1 ⟨x,H1,I1,rx,q1⟩=>cM (hi pins s1 σ H1 _ I1 q1) fun iv s2 ⟨y,H2,I2,ry,a,v,ex,g,q2⟩=> ?_);subst ex;obtain rfl:u=Value.ref a:=rx;exact ⟨zT I2 g,G6 hu I2 g ry fun w' s3 I3 rw'=>⟨v,H2,I3,rw',q2⟩⟩
theorem Ms (hu:X.A.units+1<cLine) (ho:PE X o td) (hi:PE X i ty) (hv:PE X value tv) (hs:swapsWith value (some (.Subscript o i pos')) pos.line X.env=pure false):
 PS X (.Assign [.Subscript o i pos'] value pos) (Tj td ty tv):=by
 intro pins s σ H D I h;refine wpAny_Assign_Subscript (cM (hv pins s σ H _ I h) fun r s1 ⟨v,H1,I1,rv,q1⟩=>cM (ho pins s1 σ H1 _ I1 q1) fun u s2 ⟨x,H2,I2,rx,q2⟩=>cM (hi pins s2 σ H2 _ I2 q2) fun iv s3 ⟨y,H3,I3,ry,a,H4,ex,g,q3⟩=> ?_) hs;subst ex;obtain rfl:u=Value.ref a:=rx;exact G5 hu I3 g ry rv fun s4 I4=>⟨σ,H4,I4,q3⟩
end
theorem zR {P:Program} {w:World} {H:Hp} (h:Heap) (hb:sysModules<h.objs.size):cJ P w H (h.push {cls:= .type "dict",data:= .dict #[]}) h.objs.size (.dK []):=
 ⟨Nat.zero_le _,beq_eq_false_iff_ne.mpr (Ne.symm (Nat.ne_of_lt hb)),[],.nil,Heap.DictOf.new h⟩
def Qh:TE:=fun _ H Q=>∀p,H p=none->Q (.ref p) (upd H p (.dK []))
section
variable {X:Cx} {pos:Pos}
theorem yL:PE X (.Dict [] [] pos) Qh:=fun pins s σ H Q I h=>
 wpAny_Dict_empty ⟨.ref s.heap.objs.size,_,I.laid (a:=s.heap.objs.size) (o:= .dK []) (t':=s.toks) (fun _ _ q=>Heap.get?_push_of_some _ q) (Nat.le_refl _) (zR s.heap I.big),rfl,h _ (I.hok.fresh (Nat.le_refl _))⟩
end
def A_:List (TE×TE)->St->Hp->(List (V×V)->Hp->Prop)->Prop
 | [],_,H,Q=>Q [] H
 | (tk,tv)::r,σ,H,Q=>tk σ H fun x H1=>tv σ H1 fun y H2=>A_ r σ H2 fun ps H3=>Q ((x,y)::ps) H3
abbrev VV:List (V×V)->List (Value×Value)->Prop:=Paired fun p q=>RelV p.1 q.1/\RelV p.2 q.2
def Xk (X:Cx) (pos:Pos) (keys:List (Option Expr)) (values:List Expr) (Ly:List (TE×TE)):Prop:=
 ∀(pins:List (Addr×Obj)) (s:Shared) (σ:St) (H:Hp) (Q:List (V×V)->Hp->Prop),Inv X pins σ H s->A_ Ly σ H Q ->
  wpAny (model X.prog X.w) X.A (evalPairs (pairTrees keys values X.env pos)) (fun vs s'=>∃ps H',Inv X pins σ H' s'/\VV ps vs/\Q ps H') X.xe s
theorem Mt {X:Cx} {pos:Pos}:Xk X pos [] [] []:=fun pins s σ H Q I h=>pairTrees_nil_walk ⟨[],H,I,.nil,h⟩
theorem Jp {X:Cx} {pos:Pos} {k v:Expr} {ks:List (Option Expr)} {vs:List Expr} {tk tv:TE} {Ly:List (TE×TE)} (hk:PE X k tk) (hv:PE X v tv) (hr:Xk X pos ks vs Ly):
 Xk X pos (some k::ks) (v::vs) ((tk,tv)::Ly):=fun pins s σ H Q I h=>
 pairTrees_cons_walk (cM (hk pins s σ H _ I h) fun u s1 ⟨x,H1,I1,rx,q1⟩=>cM (hv pins s1 σ H1 _ I1 q1) fun w2 s2 ⟨y,H2,I2,ry,q2⟩=>
  cM (hr pins s2 σ H2 _ I2 q2) fun ws s3 ⟨ps,H3,I3,rel,q3⟩=>⟨(x,y)::ps,H3,I3,.cons ⟨rx,ry⟩ rel,q3⟩)
def pX (kvs more:List (Key×V)):List (Key×V):=more.foldl (fun acc kv=>putK acc kv.1 kv.2) kvs
theorem KV.merge:∀{more:List (Key×V)} {rs:List (Key×Value)} {kvs:List (Key×V)} {vs:List (Key×Value)},KV more rs->KV kvs vs->KV (pX kvs more) (merged vs rs):=by
 intro more rs kvs vs r;unfold KV at r
 induction r generalizing kvs vs with
 | nil=>intro q;exact q
 | @cons p q ps qs h t ih=>
   intro r0
   have e:KV (putK kvs p.1 p.2) (stored vs q.1 q.2):=by
    have:=r0.put p.1 h.2;rw [←h.1];exact this
   exact ih e
theorem m6:∀(more kvs:List (Key×V)),(pX kvs more).length<=kvs.length+more.length
 | [],kvs=>by show kvs.length<=kvs.length+0;omega
 | p::r,kvs=>by
   have h1:=m6 r (putK kvs p.1 p.2);have h2:=lO kvs p.1 p.2;show (pX (putK kvs p.1 p.2) r).length<=_;rw [List.length_cons];omega
theorem uy {P:Program} {w:World}:∀{kvs:List (Key×V)} {ws:List (Value×Value)},VV (kvs.map fun kv=>(kV kv.1,kv.2)) ws -> ∃rs,Carries (cB P w) ws rs/\KV kvs rs
 | [],_,r=>by rw [List.map_nil] at r;cases r;exact ⟨[],True.intro,.nil⟩
 | p::kvs,_,r=>by
   rw [List.map_cons] at r;cases r with
   | @cons a b as bs h t=>
     obtain ⟨rs,c,q⟩:=uy (P:=P) (w:=w) t;obtain ⟨b1,b2⟩:=b;exact ⟨(p.1,b2)::rs,⟨zE h.1,rfl,c⟩,.cons ⟨rfl,h.2⟩ q⟩
def S_ (Ly:List (TE×TE)):TE:=fun σ H Q=>∀p,H p=none->A_ Ly σ (upd H p (.dK [])) fun ps H2=>H2 p=some (.dK []) /\ ∃kvs:List (Key×V),ps=kvs.map (fun kv=>(kV kv.1,kv.2))/\kvs.length<=15/\Q (.ref p) (upd H2 p (.dK (pX [] kvs)))
theorem MJ {X:Cx} {pos:Pos} {keys:List (Option Expr)} {values:List Expr} {Ly:List (TE×TE)} (h:Xk X pos keys values Ly) (hall:keys.all (·.isSome)=true) (hl:keys.length=values.length) (h0:keys≠[])
 (h15:keys.length<=15):PE X (.Dict keys values pos) (S_ Ly):=by
 intro pins s σ H Q I q;have hn:=I.hok.fresh (Nat.le_refl s.heap.objs.size);have I1:=I.laid (a:=s.heap.objs.size) (o:= .dK []) (h':=s.heap.push {cls:= .type "dict",data:= .dict #[]}) (t':=s.toks) (fun _ _ q=>Heap.get?_push_of_some _ q) (Nat.le_refl _) (zR s.heap I.big);refine wpAny_Dict_walk (knd:=cB X.prog X.w) hall hl h0 h15 (cM (h pins _ σ _ _ I1 (q _ hn)) fun ws s2 ⟨ps,H2,I2,rel,e,kvs,ep,lk,q2⟩=> ?_);subst ep;obtain ⟨rs,c,rk⟩:=uy (P:=X.prog) (w:=X.w) rel;obtain ⟨z,hd,vs0,r0,dd⟩:=Kh I2.hok e;cases r0;refine ⟨rs,c,dd,fun h' RM hs=>⟨.ref s.heap.objs.size,_, ?_,rfl,q2⟩⟩
 have hz:(pX [] kvs).length<=sizeLine:=by
  have h1:=m6 kvs [];rw [List.length_nil] at h1;rw [sizeLine_eq];omega
 have he:∃q,h'.get? s.heap.objs.size=some q:=let ⟨q,_,_,hq,_⟩:=RM;⟨q,hq⟩
 exact xu I2 (by rw [e];exact True.intro) hs he (Kl hz hd (rk.merge .nil) RM)
structure M2 (X:Cx) (o:Expr) (m:Str) (apos:Pos) (e f:Expr) (cpos:Pos):Prop where
 base:attributeBase o m X.env (eval o X.env)=eval o X.env
 few:((backTo cpos (starEach [e,f] X.env)).all (fun x=> !x.1)&&(backToKw cpos (keywordEach [] X.env)).all (fun x=>x.1.isSome)
  && decide (([e,f]:List Expr).length+([]:List Keyword).length+(if ([]:List Keyword).isEmpty then 0 else 1)<30))=true
 line:(apos.endLine==cpos.line)=true
 trees:backTo cpos (starEach [e,f] X.env)=[(false,eval e X.env),(false,eval f X.env)]
def IsD (H:Hp) (a:Addr):Prop:=(∃kvs,Rd H a (.dK kvs)) \/ ∃kvs,Rd H a (.dT kvs)
theorem Ro {X:Cx} {pins:List (Addr×Obj)} {σ:St} {H:Hp} {s:Shared} {a:Addr} (I:Inv X pins σ H s) (d:IsD H a):
 s.TypeIs (.ref a) "dict" /\ (∀b,Value.ref a = .ref b -> ∃ob,s.heap.get? b=some ob/\ob.dict=none)/\(a==sysModules)=false:=by
 rcases d with ⟨kvs,e⟩|⟨kvs,e⟩
 ·obtain ⟨_,hd,vs,_,dd⟩:=zQ I.hok e
  refine ⟨dd.typeIs,fun b q=> ?_,hd⟩;cases q;obtain ⟨ob,_,_,h1,h2,_⟩:=dd;exact ⟨ob,h1,h2.2.1⟩
 ·obtain ⟨_,hd,xs,_,dd⟩:=zP I.hok e
  refine ⟨dd.typeIs,fun b q=> ?_,hd⟩;cases q;obtain ⟨ob,_,_,h1,h2,_⟩:=dd;exact ⟨ob,h1,h2.2.1⟩
section
variable {X:Cx} {pins:List (Addr×Obj)} {σ:St} {H:Hp} {s:Shared} {a:Addr} {y d:V} {u r:Value} {o:Option V} {A:Around} {E:Value->Shared->Prop}
theorem RN {Q:Value->Shared->Prop} (hu:A.units+1<cLine) (I:Inv X pins σ H s) (g:uT H a y o) (ry:RelV y u) (rd:RelV d r) (h:∀w' s',Inv X pins σ H s'->RelV (o.getD d) w'->Q w' s'):
 wpAny (model X.prog X.w) A (call (.builtin "dict.get") [.ref a,u,r]) Q E s:=by
 rcases g with ⟨kvs,k,e,ey,l⟩|⟨kvs,k,b,e,ey,eb,l⟩
 ·subst ey
  obtain ⟨z,hd,vs,rel,dd⟩:=zQ I.hok e;refine call_meetsIn PySem.F.slot_dict_get dd.typeIs PySem.F.entry_dict_get (PySem.F.args_dict_get_3 _ _ _) (meets_dict_get_default (cB X.prog X.w) a (zE ry) hd r) ⟨_,dd.mapOf,h _ _ (I.tok _) ?_⟩;rw [l];exact (rel.val k).getD rd
 ·subst ey
  cases (show u=Value.ref b from ry);obtain ⟨z,hd,xs,rel,dd⟩:=zP I.hok e;refine call_meetsIn PySem.F.slot_dict_get dd.typeIs PySem.F.entry_dict_get (PySem.F.args_dict_get_3 _ _ _) (meetsH_dict_get_default (tupleKind (cB X.prog X.w)) a b hd r) ⟨tupleKind_room_in1 hu,k,xs,wY I.hok eb,dd,h _ _ (I.tok _) ?_⟩;rw [l];exact (rel.val k).getD rd
end
def Ir (td ty tx:TE):TE:=fun σ H Q=>td σ H fun x H1=>∃a,x = .ref a/\IsD H1 a/\ty σ H1 fun y H2=>tx σ H2 fun z H3=>∃o,uT H3 a y o/\Q (o.getD z) H3
section
variable {X:Cx} {o e f:Expr} {apos cpos:Pos} {td ty tx:TE}
theorem tG (hu:X.A.units+1<cLine) (ho:PE X o td) (he:PE X e ty) (hf:PE X f tx) (m:M2 X o "get" apos e f cpos):PE X (.Call (.Attribute o "get" apos) [e,f] [] cpos) (Ir td ty tx):=by
 intro pins s σ H Q I h;refine wpAny_Call_method m.base m.few m.line PySem.F.plainAttrs_dict PySem.F.slot_dict_get PySem.F.type_dict_get (cM (ho pins s σ H _ I h) fun u s1 ⟨x,H1,I1,rx,a,ex,d,q1⟩=> ?_);subst ex;obtain rfl:u=Value.ref a:=rx;obtain ⟨t1,t2,_⟩:=Ro I1 d;refine ⟨t1,t2, ?_⟩;rw [m.trees]
 refine Calls.callWith_builtin rfl (Calls.evalArgs_plain (Calls.spliced_cons (cM (he pins s1 σ H1 _ I1 q1) fun iv s2 ⟨y,H2,I2,ry,q2⟩=>
  Calls.spliced_cons (cM (hf pins s2 σ H2 _ I2 q2) fun fv s3 ⟨z,H3,I3,rz,ov,g,q3⟩=>Calls.spliced_nil ?_))))
 exact RN hu I3 g ry rz fun w' s4 I4 rw'=>⟨_,H3,I4,rw',q3⟩
end
section
variable {X:Cx} {pins:List (Addr×Obj)} {σ:St} {H:Hp} {s:Shared} {a:Addr} {kvs:List (Key×V)} {A:Around} {E:Value->Shared->Prop}
end
section
variable {X:Cx} {pins:List (Addr×Obj)} {σ:St} {H:Hp} {s:Shared} {a:Addr} {y:V} {u:Value} {A:Around} {E:Value->Shared->Prop}
end
end L2
namespace Att
open PySem PySem.W PySem.Calls PyProof.Rows
theorem qU {P:Params} {h:Heap}:∀(ns:List Int) (vs:List Value),WellAll P h vs (ns.map WData.int)->IntsAre vs ns:=by
 intro ns
 induction ns with
 | nil=>
   intro vs w;rw [List.map_nil] at w;cases w;exact .nil
 | cons n ns ih=>
   intro vs w;rw [List.map_cons] at w;cases w with
   | cons a b=>
     cases a;exact .cons _ _ (ih _ b)
theorem FZ {l:OpenLaw} {n:Nat} (hn:l.most=some n) {P:Params} {h:Heap} {args:List WData} {vals:List Value}
 (hpre:l.row.toRowW.claim.pre args=true) (hwl:WellAll P h vals args):
 ∃a vs ns,vals=[Value.ref a]/\args=[WData.list (ns.map WData.int)]/\h.get? a=some {cls:= .type "list",data:= .seq vs.toArray}/\IntsAre vs ns/\ns.length<=n:=by
 have hsh:WShape.hasAll [] args [.list .int]=true:=(pre_splitW hpre).1;have hc:l.pre.holds [] {args:=args}=true:=(pre_splitW hpre).2;obtain ⟨d,r,rfl,h1,h2⟩:=hasAllW_cons hsh;obtain rfl:=hasAllW_nil h2;obtain ⟨xs,rfl,h3⟩:=hasW_list h1;obtain ⟨ns,rfl⟩:=items_int h3
 have hlen:ns.length<=n:=by
  unfold OpenLaw.pre at hc
  have h4:(WTm.not (.lt (.lit (.int (n:Int))) (.len (.arg 0)))).holds [] {args:=[.list (ns.map .int)]}=true:=by
   have h4:=(holds_andW hc).1;rw [hn] at h4;exact h4
  have h5:=condW_of h4 (w_not (w_lt w_lit (w_len_list (w_arg rfl))));rw [List.length_map] at h5;refine Nat.le_of_not_lt fun q=> ?_;have q':(n:Int)<((ns.length:Nat):Int):=by omega
  first
   | (rw [decide_eq_true q'] at h5;exact absurd h5 (by decide))
   | (simp at h5;omega)
 cases hwl with
 | cons w1 w2=>
   cases w2;cases w1 with
   | list ho hall=>exact ⟨_,_,ns,rfl,rfl,ho,qU ns _ hall,hlen⟩
theorem Ge (l:OpenLaw) (args:List WData):l.row.toRowW.claim.post args (.bool true) args=true:=
 postW_of (r:=l.row.toRowW) (X:=(true==true))
  (show WShape.has [] (.bool true) .bool=true by first |rfl|decide|simp [WShape.has,WShape.arms,WShape.armsAll])
  (show (WTm.eq .res (.lit (.bool true))).value [] {args:=args,res:=some (.bool true),after:=args}=some (.bool (true==true)) from w_eq_bool (w_res rfl) w_lit) rfl
theorem Ac {l:OpenLaw} {n:Nat} {q:Program} {loose:List Str} {XP:(Str->Option Value)->Heap->Prop} {YP:World->Heap->Prop} {d:DefRec}
 (hn:l.most=some n) (hdf:d.params.defaults=[])
 (call:∀(w:World) (s₀ s₁:Shared) (mg mb:Str->Option Value) (fa:Addr) (o:Obj) (pm cd doc:Value) (a:Addr) (vs:List Value) (ns:List Int),
   Ground q loose [] XP w s₀ mg mb s₁.heap->YP w s₁.heap ->
   s₁.heap.get? fa=some o->o.data = .func (docDef d.name d.params d.body d.scope pm cd doc)->s₁.heap.CodeRec cd d.name->mg d.name=some (.ref fa) ->
   s₁.heap.get? a=some {cls:= .type "list",data:= .seq vs.toArray}->IntsAre vs ns->ns.length<=n->s₁.gens = #[] ->
   codeAny (model l.prog w) callerA (.call (.ref fa) ⟨[.ref a],[]⟩) (fun r s'=>r = .ok (.ret (.bool true))/\OldK s₁.heap s'.heap/\s'.os=s₁.os/\AllBare s'.gens) s₁):
 WalkO q loose XP YP l.row.toRowW d [] (fun f vs=>PySem.call f vs):=by
 intro w s₀ s₁ mg mb G Y fa o pm cd doc dV kV ho hd hcd hD hmg hg args vals as hpre hlay hrd hwl hlo;obtain rfl:dV = .none:=Dflts.none hD hdf;obtain rfl:kV = .none:=Dflts.noKw hD;obtain ⟨a,vs,ns,rfl,rfl,hobj,hints,hlen⟩:=FZ hn hpre hwl;refine enter_call (codeAny_mono (call w s₀ s₁ mg mb fa o pm cd doc a vs ns G Y ho (fd_plain hd) hcd hmg hobj hints hlen hg) fun r s' hq=> ?_);obtain ⟨rfl,h2,h3,h4⟩:=hq;exact ⟨.inl ⟨.bool true,.bool true,[],rfl,fun _=>rfl,.bool true,Ge l _,fun _=>⟨List.Pairwise.nil,fun _ hm=>(nomatch hm)⟩⟩,h2,h3,h4⟩
section
variable {prog:Program} {w:World} {A:Around} {E:Value->Shared->Prop} {s:Shared} {K:Frag}
def ledger (h:Heap) (L d:Addr):List (Addr×Obj):=(List.range h.objs.size).filterMap fun a=>if a=L\/a=d then none else (h.get? a).map fun o=>(a,o)
end
end Att
namespace L2
open PySem PySem.Spec PyProof.Rows
theorem FJ {vs:List Value} {ns:List Int} (h:IntsAre vs ns):Vals (ns.map V.int) vs:=by
 induction h with
 | nil=>exact .nil
 | cons n t h ih=>exact .cons ⟨t,rfl⟩ ih
def Only (H:Hp):Prop:=∀b,H b=none \/ ∃o xs,H b=some (.lA o (.lst xs))
theorem JV {P:Program} {w:World} {K:PySem.W.Frag} {mg mb:Str->Option Value} {CX:Lf} {k:Nat} {fa a:Addr} {fd:FuncData} {x:Str} {sp:Sp} {s₁:Shared} {vs:List Value} {ns:List Int}
 (KX:K.In s₁.heap) (hns:s₁.heap.Ns mainGlobals mg) (hb:s₁.heap.Ns builtinsNs mb) (hbb:∀x:Str,x ≠ "__name__" -> mb x=bootBuiltins x) (hlim:s₁.heap.NoLimit) (hg:s₁.gens = #[])
 (ha:s₁.heap.get? a=some {cls:= .type "list",data:= .seq vs.toArray}) (hi:IntsAre vs ns) (hl:ns.length<=sizeLine) (hr:cY k callerA)
 (F:∀base:Heap,K.In base->base.Ns mainGlobals mg->cU P w K mg base CX k fa fd [x] sp) (hbind:∀(s:Shared) (u:Value),BindsTo s fd ⟨[u],[]⟩ [(x,u)])
 (hsp:∀H:Hp,Only H->bw K H a (ns.map V.int)->sp [.ref a] H (fun v _=>v = .bl true) fun _ _ _=>False)
 (hCX:∀H e s',CX [] H s₁ (fun _ _ _=>False) e s'->False):
 codeAny (model P w) callerA (.call (.ref fa) ⟨[.ref a],[]⟩) (fun r s'=>r = .ok (.ret (.bool true))/\OldK s₁.heap s'.heap/\s'.os=s₁.os/\AllBare s'.gens) s₁:=by
 have rv:=FJ hi;have lenV:=hi.length
 have core:∀H:Hp,Only H->bw K H a (ns.map V.int)->nU P w H s₁.heap->(∀b,H b≠none->b=a)->(H a≠none->K.lookup a=none) ->
  codeAny (model P w) callerA (.call (.ref fa) ⟨[.ref a],[]⟩) (fun r s'=>r = .ok (.ret (.bool true))/\OldK s₁.heap s'.heap/\s'.os=s₁.os/\AllBare s'.gens) s₁:=by
  intro H hO hS hok hA hK;have Fq:∀{b:Addr} {o:Obj},s₁.heap.get? b=some o->H b=none->(w6 s₁.heap H).get? b=some o:=fun e n=>J7 e n
  have Ud:∀{b:Addr} {o:Obj} {es:Array DictEntry} {ep:Nat},s₁.heap.get? b=some o->o.data = .dict es ep->H b=none:=fun {b o es ep} e d=>by
   cases q:H b with
   | none=>rfl
   | some u=>
     have e':b=a:=hA b (by rw [q];simp);subst e';rw [ha] at e;cases e;have d':Data.seq vs.toArray _=Data.dict es ep:=d;cases d'
  have Wn:∀{b:Addr} {m:Str->Option Value},s₁.heap.Ns b m->(w6 s₁.heap H).Ns b m:=fun {b m} ⟨o,es,ep,e,d,r⟩=>⟨o,es,ep,Fq e (Ud e d),d,r⟩
  have hKb:K.In (w6 s₁.heap H):=fun b o e=>Fq (KX b o e) (by
   cases q:H b with
   | none=>rfl
   | some u=>
     have e':b=a:=hA b (by rw [q];simp);subst e';rw [hK (by rw [q];simp)] at e;cases e)
  have hM:Mod K mg (w6 s₁.heap H):=⟨hKb,Wn hns,⟨mb,Wn hb,hbb⟩,let ⟨mc,h1,h2⟩:=hlim;⟨mc,Wn h1,h2⟩⟩;have e0:vA P w K mg (w6 s₁.heap H) callerA [] s₁ H:=⟨rfl,hM,fun b o e=>M9 e,Nat.le_of_eq (GZ _ _),trivial,fun b hb=>absurd (show b∈([]:List Addr) from hb) (by simp),hok,.of_eq hg⟩;refine codeAny_mono ((F _ hKb (Wn hns)).run callerA [] s₁ H ⟨[.ref a],[]⟩ [.ref a] [.ref a] _ _ hr e0 (hbind s₁ (.ref a)) (.cons rfl .nil) (hsp H hO hS)) fun r s' h=> ?_;cases r with
  | error e=>exact (hCX H e s' h).elim
  | ok fl=>
    cases fl with
    | next=>exact False.elim h
    | brk=>exact False.elim h
    | cont=>exact False.elim h
    | ret u=>
      obtain ⟨v,H',os,bare,un,hok',r',q⟩:=h;have q':v = .bl true:=q;subst q';obtain rfl:u=Value.bool true:=r';refine ⟨rfl,OldK.of_keep fun b o e=> ?_,os,bare⟩;cases q:H b with
      | none=>exact un.keep b o e q (by intro z;exact absurd (show b∈([]:List Addr) from z) (by simp)) (by simp)
      | some u=>
        rcases hO b with z|⟨ob,xs,z⟩
        ·rw [q] at z;cases z
        ·have z2:=un.qe b ob _ z
         obtain ⟨e1,_⟩:=hok b _ z;obtain ⟨e2,_⟩:=hok' b _ z2;rw [e] at e1;cases e1;exact e2
 cases hk:K.lookup a with
 | some o=>
   have e:=KX a o hk;rw [ha] at e;cases e;refine core (fun _=>none) (fun _=> .inl rfl) (.inr ⟨_,vs.toArray,_,hk,rfl,rfl,rfl,by rw [List.size_toArray,lenV];exact hl,by simpa using rv⟩) (fun b u z=>by have z':(none:Option HO)=some u:=z;cases z') (fun b z=>absurd rfl z) fun z=>absurd rfl z
 | none=>
   refine core (fun b=>if b=a then some (.lA {cls:= .type "list",data:= .seq vs.toArray} (.lst (ns.map V.int))) else none) (fun b=> ?_) (.inl (.inr ⟨{cls:= .type "list",data:= .seq vs.toArray},if_pos rfl⟩)) (fun b u z=> ?_) (fun b z=> ?_) fun _=>hk
   ·by_cases hb:b=a
    ·exact .inr ⟨_,_,if_pos hb⟩
    ·exact .inl (if_neg hb)
   ·by_cases hb:b=a
    ·have z':=(if_pos hb).symm.trans z
     cases z';subst hb;exact ⟨ha,by rw [List.length_map];exact hl,vs,_,rv,ha⟩
    ·have z':=(if_neg hb).symm.trans z
     cases z'
   ·by_cases hb:b=a
    ·exact hb
    ·exact absurd (if_neg hb) z
end L2
namespace L2
open PySem PySem.Spec PyProof.Rows
abbrev KOf {K:PySem.W.Frag} {h:Heap} (_:K.In h):PySem.W.Frag:=K
theorem Lw {l:PySem.W.OpenLaw} {n k:Nat} {q:Program} {loose:List Str} {XP:(Str->Option Value)->Heap->Prop} {YP:World->Heap->Prop} {d:DefRec} {K:Params->PySem.W.Frag} {CX:World->Lf} {sp:World->Sp} {x:Str}
 (hn:l.most=some n) (hn2:n<=sizeLine) (hdf:d.params.defaults=[]) (hr:cY k callerA)
 (hY:∀(w:World) (h:Heap),YP w h->(K w.params).In h)
 (F:∀(w:World) (mg:Str->Option Value) (fa:Addr) (h:Heap),(K w.params).In h->h.Ns mainGlobals mg->mg d.name=some (.ref fa) ->
   ∃fd:FuncData,(∀(s:Shared) (u:Value),BindsTo s fd ⟨[u],[]⟩ [(x,u)]) /\
    ∀base:Heap,(K w.params).In base->base.Ns mainGlobals mg->cU l.prog w (K w.params) mg base (CX w) k fa fd [x] (sp w))
 (hsp:∀(w:World) (H:Hp) (a:Addr) (ns:List Int),ns.length<=n->Only H->bw (K w.params) H a (ns.map V.int)->sp w [.ref a] H (fun v _=>v = .bl true) fun _ _ _=>False)
 (hCX:∀(w:World) (H:Hp) (s:Shared) (e:Value) (s':Shared),CX w [] H s (fun _ _ _=>False) e s'->False):
 PySem.W.WalkO q loose XP YP l.row.toRowW d [] (fun f vs=>PySem.call f vs):=by
 refine Att.Ac hn hdf fun w s₀ s₁ mg mb fa o pm cd doc a vs ns G Y ho hd hcd hmg hobj hints hlen hg=> ?_;have KX:=hY w _ Y;obtain ⟨fd,hb,hF⟩:=F w mg fa _ KX G.T.g hmg;exact JV KX G.T.g G.T.b G.T.builtins G.T.nolimit hg hobj hints (Nat.le_trans hlen hn2) hr hF hb (fun H hO hS=>hsp w H a ns hlen hO hS) fun H e s'=>hCX w H s₁ e s'
end L2
namespace L2
open PySem PySem.Spec PyProof.Rows
def inClass (s:Stmt) (j:Nat):Stmt:=match s with
 | .ClassDef _ _ _ body _ _ _ _ _ _ _=>body.getD j (.Pass ⟨0,0,0,0⟩)
 | _=> .Pass ⟨0,0,0,0⟩
def aK (s:Stmt):Arguments:=match s with
 | .FunctionDef _ a _ _ _ _ _ _ _ _=>a
 | _=>{posonlyargs:=[],args:=[],vararg:=none,kwonlyargs:=[],kw_defaults:=[],kwarg:=none,defaults:=[]}
def aJ (s:Stmt):List Stmt:=match s with
 | .FunctionDef _ _ b _ _ _ _ _ _ _=>b
 | _=>[]
def aC (s:Stmt):Scope:=match s with
 | .FunctionDef _ _ _ _ _ _ sc _ _ _=>sc
 | _=>{kind:= .function,names:=[],isGenerator:=false,isCoroutine:=false}
abbrev jC:Lf:=fun _ _ _ _ _ _=>False
abbrev E0:XK:=fun _ _ _=>False
theorem yN {X:Cx}:Passes jC X E0:=fun _ _ _ _ _ _ _ h=>h.elim
structure lq (K:PySem.W.Frag) (x qual:Str) (st:Stmt) (f:Addr) (fd:FuncData):Prop where
 ex:∃(oc:Value) (od:Option Addr) (kV doc pm:Value) (an:Option Addr) (cdv ct:Value) (osl:Array (Option Value)),
  fd=PySem.W.fnOf x qual (aK st) (aJ st) (aC st) .none kV doc pm an cdv ct/\K.lookup f=some ⟨oc,od,.func fd,osl⟩/\PySem.W.codeIn K cdv qual=true
 kp:PySem.W.keepIn K (.ref f)=true
section
variable {P:Program} {w:World} {K:PySem.W.Frag} {mg:Str->Option Value} {base:Heap}
theorem lq.ok {x qual:Str} {st:Stmt} {f:Addr} {fd:FuncData} {N ps:List Str} {k:Nat} {sp:Sp} (F:lq K x qual st f fd) (S:bf N ps (aC st)) (len:∀vs H Q E,sp vs H Q E->vs.length=ps.length)
 (hbody:∀(cdv:Value) (A:Around) (outer:List Env) (s:Shared) (H:Hp) (vs:List V) (Q:VK) (E:XK),cY k (A.deeper (envOfC qual (aC st) s.heap.objs.size f cdv))->sp vs H Q E ->
   ∃t,HF (G7 jC P w K mg base N qual (aC st) f cdv A outer s H E).Wq (aJ st) t/\t {nx:=fun _ H'=>Q .non H',rt:=Q} (start N vs) H):cU P w K mg base jC (k+1) f fd ps sp:=by
 obtain ⟨oc,od,kV,doc,pm,an,cdv,ct,osl,rfl,lk,hcd⟩:=F.ex;refine U0 lk hcd S len fun A outer s H vs Q E hr hsp=> ?_;obtain ⟨t,h,q⟩:=hbody cdv A outer s H vs Q E hr hsp;exact ⟨t,h.Wq,q⟩
theorem lq.binds {x qual:Str} {st:Stmt} {f:Addr} {fd:FuncData} {ps:List Str} (F:lq K x qual st f fd)
 (h:∀(kV doc pm:Value) (an:Option Addr) (cdv ct:Value) (us:List Value),us.length=ps.length->bindArgs (PySem.W.fnOf x qual (aK st) (aJ st) (aC st) .none kV doc pm an cdv ct) ⟨us,[]⟩=pure (ps.zip us)):Binds K fd ps []:=by
 obtain ⟨oc,od,kV,doc,pm,an,cdv,ct,osl,rfl,lk,hcd⟩:=F.ex;exact .all (h kV doc pm an cdv ct)
theorem bR {x qual:Str} {st:Stmt} {f:Addr} {oc:Value} {od an:Option Addr} {osl:Array (Option Value)} {kV doc pm cdv ct:Value} (l:K.lookup f=some ⟨oc,od,.func (PySem.W.fnOf x qual (aK st) (aJ st) (aC st) .none kV doc pm an cdv ct),osl⟩)
 (c:PySem.W.codeIn K cdv qual=true) (k:PySem.W.keepIn K (.ref f)=true):lq K x qual st f (PySem.W.fnOf x qual (aK st) (aJ st) (aC st) .none kV doc pm an cdv ct):=⟨⟨oc,od,kV,doc,pm,an,cdv,ct,osl,rfl,l,c⟩,k⟩
end
theorem Et {A:Around} {k:Nat} (hr:cY k A):A.units+1<cLine:=Nat.lt_of_le_of_lt (Nat.add_le_add_left (by decide:1<=64) _) hr.units
section
variable {X:Cx}
theorem pv (i:Nat) {x:Str} {pos:Pos} (hN:X.N[i]? = some x:=by rfl) (hv:Vis X.env.scope x:=by first |exact Or.inl rfl|exact Or.inr (Or.inl rfl)|exact Or.inr (Or.inr rfl)) (hd:(x==("__debug__" :Str))=false:=by decide)
 (hcd:(x==("__classdict__" :Str))=false:=by decide):PE X (.Name x pos) (su i):=Qz hN hv hd hcd
end
theorem fO {A B:Prop} (h:B):if false=true then A else B:=by
 rw [if_neg Bool.false_ne_true];exact h
theorem iK {A B:Prop} (h:A):if true=true then A else B:=by
 rw [if_pos rfl];exact h
theorem qT {c A B:Prop} [Decidable c] (h1:c->A) (h2:¬c->B):if c then A else B:=by
 by_cases h:c
 ·rw [if_pos h]
  exact h1 h
 ·rw [if_neg h]
  exact h2 h
theorem qI {c A B:Prop} [Decidable c] (hc:c) (h:B):if (!decide c)=true then A else B:=by
 rw [decide_eq_true hc];exact fO h
def Same (H H':Hp):Prop:=∀b o,H b=some o->H' b=some o
theorem Same.refl (H:Hp):Same H H:=fun _ _ h=>h
theorem Same.trans {H H1 H2:Hp} (a:Same H H1) (b:Same H1 H2):Same H H2:=fun c o h=>b c o (a c o h)
theorem Same.free {H H':Hp} (e:Same H H') {l:Addr} (h:H' l=Option.none):H l=Option.none:=by
 cases q:H l with
 | none=>rfl
 | some o=>
   rw [e l o q] at h;cases h
theorem Same.seq {K:PySem.W.Frag} {H H':Hp} {a:Addr} {xs:List V} (e:Same H H') (h:bw K H a xs):bw K H' a xs:=by
 rcases h with (h|⟨o,h⟩)|h
 ·exact .inl (.inl (e _ _ h))
 ·exact .inl (.inr ⟨o,e _ _ h⟩)
 ·exact .inr h
section
variable {κ:Type} [DecidableEq κ]
end
end L2
set_option Elab.async false
set_option linter.all false
set_option maxRecDepth 100000
set_option maxHeartbeats 4000000
namespace L2
open PySem PySem.Spec PyProof.Rows
theorem ju {a n:Addr} (h:a<n): @LT.lt Nat _ a n:=h
def je (env:Env):List (Str×NameKind)->List (Str×Addr)->List (Str×Addr)
 | [],acc=>acc
 | (n,k)::r,acc=>if k == .free then je env r ((n,(env.cells.lookup n).getD 0)::acc) else je env r acc
theorem uw {env:Env} {scope:Scope} (h:∀y∈scope.names,y.2 = .free->(env.cells.lookup y.1).isSome=true):closureFor scope env=pure (je env scope.names []):=by
 have go:∀(ns:List (Str×NameKind)) (acc:List (Str×Addr)),(∀y∈ns,y.2 = .free->(env.cells.lookup y.1).isSome=true) ->
  (forIn ns acc (fun x cs=>match x with |(name,kind)=>if (kind == .free)=true then do let c ←cellOf env name;pure (ForInStep.yield ((name,c)::cs)) else pure (ForInStep.yield cs)):Sem (List (Str×Addr)))=pure (je env ns acc):=by
  intro ns
  induction ns with
  | nil=>intro acc _;rfl
  | cons y r ih=>
    intro acc hy;obtain ⟨n,k⟩:=y;rw [List.forIn_cons]
    by_cases hk:k = .free
    ·subst hk
     have hs:=hy (n,.free) List.mem_cons_self rfl;obtain ⟨c,hc⟩:=Option.isSome_iff_exists.mp hs;have e:cellOf env n=pure c:=by unfold cellOf;rw [hc]
     show _=pure (je env r ((n,(env.cells.lookup n).getD 0)::acc));rw [←ih _ fun y hm=>hy y (List.mem_cons_of_mem _ hm)];simp only [beq_self_eq_true,if_true,e,pure_bind,hc,Option.getD_some]
    ·have hb:(k==NameKind.free)=false:=by simpa using hk
     have hc:je env ((n,k)::r) acc=je env r acc:=by
      show (if (k==NameKind.free)=true then _ else _)=_;rw [if_neg (by rw [hb];decide)]
     rw [hc,←ih _ fun y hm=>hy y (List.mem_cons_of_mem _ hm)];simp only [hb,Bool.false_eq_true,if_false,pure_bind]
 have q:=go scope.names [] h;unfold closureFor;show (forIn scope.names [] _ >>= fun r=>pure r)=_;rw [bind_pure];exact q
theorem dF {env:Env}:∀(ns:List (Str×NameKind)) (acc:List (Str×Addr)) (x:Str),(∀y∈ns,y.2 = .free->(env.cells.lookup y.1).isSome=true) ->
 (je env ns acc).lookup x=if (x,NameKind.free)∈ns then env.cells.lookup x else acc.lookup x
 | [],acc,x,_=>by simp [je]
 | (n,k)::r,acc,x,h=>by
   have hr:∀y∈r,y.2 = .free->(env.cells.lookup y.1).isSome=true:=fun y hm=>h y (List.mem_cons_of_mem _ hm)
   by_cases hk:k = .free
   ·subst hk
    show (je env r ((n,(env.cells.lookup n).getD 0)::acc)).lookup x=_;rw [dF r _ x hr];obtain ⟨c,hc⟩:=Option.isSome_iff_exists.mp (h (n,.free) List.mem_cons_self rfl);have hc:env.cells.lookup n=some c:=hc
    by_cases hm:(x,NameKind.free)∈r
    ·rw [if_pos hm,if_pos (List.mem_cons_of_mem _ hm)]
    ·rw [if_neg hm]
     by_cases e:x=n
     ·subst e
      rw [if_pos List.mem_cons_self,List.lookup_cons,hc];simp
     ·rw [if_neg (fun z=>(List.mem_cons.mp z).elim (fun q=>e (congrArg Prod.fst q)) hm),List.lookup_cons]
      have:(x==n)=false:=by simpa using e
      rw [this]
   ·have hb:(k==NameKind.free)=false:=by simpa using hk
    have hc:je env ((n,k)::r) acc=je env r acc:=by
     show (if (k==NameKind.free)=true then _ else _)=_;rw [if_neg (by rw [hb];decide)]
    rw [hc,dF r acc x hr]
    have:((x,NameKind.free)∈(n,k)::r)↔(x,NameKind.free)∈r:=by
     constructor
     ·intro z
      rcases List.mem_cons.mp z with q|q
      ·exact absurd (congrArg Prod.snd q).symm hk
      ·exact q
     ·exact List.mem_cons_of_mem _
    simp only [this]
theorem eE (env:Env):∀(ns:List (Str×NameKind)) (x:Str),
 (ns.map fun (n,k)=>if (k == .free&&env.scope.kind == .function&&env.kindOf n==some .cell) then (n,NameKind.cell) else (n,k)).lookup x =
   (ns.lookup x).map fun k=>if (k == .free&&env.scope.kind == .function&&env.kindOf x==some .cell)=true then NameKind.cell else k
 | [],x=>rfl
 | (n,k)::r,x=>by
   show List.lookup x ((if (k==NameKind.free&&env.scope.kind == .function&&env.kindOf n==some .cell)=true then (n,NameKind.cell) else (n,k))::_)=_;cases hx:x==n with
   | true=>
     have e:x=n:=by simpa using hx
     subst e
     by_cases hc:(k==NameKind.free&&env.scope.kind == .function&&env.kindOf x==some .cell)=true
     ·rw [if_pos hc];simp only [List.lookup_cons,hx,Option.map_some,if_pos hc]
     ·rw [if_neg hc];simp only [List.lookup_cons,hx,Option.map_some,if_neg hc]
   | false=>
     have ih:=eE env r x
     by_cases hc:(k==NameKind.free&&env.scope.kind == .function&&env.kindOf n==some .cell)=true
     ·rw [if_pos hc];simp only [List.lookup_cons,hx];exact ih
     ·rw [if_neg hc];simp only [List.lookup_cons,hx];exact ih
structure aX (N own:List Str) (caps:List Nat) (XN:List Str) (outer scope:Scope):Prop where
 kind:scope.kind = .function
 JM:∀y∈scope.names,y.2 ≠ .cell
 names:∀y∈scope.names,y.2 = .local->scope.names.lookup y.1=some .local
 free:∀y∈scope.names,y.2 = .free->outer.names.lookup y.1=some .cell\/outer.names.lookup y.1=some .free
 nd:N.Nodup
 len:N.length=own.length+caps.length
 cap:∀(j:Nat),j<caps.length->N[own.length+j]? = XN[caps.getD j 0]? /\ ∃x,N[own.length+j]? = some x/\(x,NameKind.free)∈scope.names/\scope.names.lookup x=some .free
def st0 (own:List Str) (caps:List Nat) (σ:St):St:=own.map (fun _=>none)++caps.map (fun i=>(σ[i]?).join)
def dY (X:Cx) (scope:Scope) (C:Addr) (N:List Str) (s:Shared) (H:Hp) (fp:List Addr):Cx:=
 {X with N:=N,s₀:=s,H₀:=H,env:=compEnvC scope (je X.env scope.names []) C X.env,outer:=X.stack,ex:=fp,fn:=fun _=>false,pn:=[],xe:=fun _ _=>False}
section
variable {X:Cx} {pins:List (Addr×Obj)} {σ:St} {H:Hp} {s:Shared} {scope:Scope} {N own:List Str} {caps:List Nat} {fp:List Addr} {C:Nat}
theorem aX.uo (S:aX N own caps X.N X.env.scope scope) (ok:X.Ok):∀y∈scope.names,y.2 = .free->(X.env.cells.lookup y.1).isSome=true:=fun y hy hf=>by
 obtain ⟨c,e⟩:=ok.has y.1 (S.free y hy hf);rw [e];rfl
theorem aX.csub (S:aX N own caps X.N X.env.scope scope) (ok:X.Ok) {x:Str} {c:Addr} (h:(je X.env scope.names []).lookup x=some c):X.env.cells.lookup x=some c:=by
 rw [dF _ _ _ (S.uo ok)] at h;split at h
 ·exact h
 ·simp at h
theorem aX.tO {S:aX N own caps X.N X.env.scope scope} {x:Str} (h:(relabel scope X.env).names.lookup x=some .cell\/(relabel scope X.env).names.lookup x=some .free):(x,NameKind.free)∈scope.names:=by
 have e:=eE X.env scope.names x;have e':(relabel scope X.env).names.lookup x=(scope.names.lookup x).map fun k=>if (k == .free&&X.env.scope.kind == .function&&X.env.kindOf x==some .cell)=true then NameKind.cell else k:=e;rw [e'] at h;cases q:scope.names.lookup x with
 | none=>rw [q] at h;simp at h
 | some k=>
   have hm:=PySem.mem_of_lookup q
   by_cases hk:k = .free
   ·subst hk;exact hm
   ·rw [q] at h
    have hb:(k==NameKind.free)=false:=by simpa using hk
    simp only [Option.map_some,hb,Bool.false_and,Bool.false_eq_true,if_false] at h;rcases h with h|h
    ·exact absurd (Option.some.inj h) (S.JM _ hm)
    ·exact absurd (Option.some.inj h) hk
theorem Inv.comp {h1:Heap} {D:Nat} (I:Inv X pins σ H s) (S:aX N own caps X.N X.env.scope scope) (hfp:∀b∈fp,kI X pins H b) (hfo:∀b∈fp,∃o,s.heap.get? b=some o)
 (hD:D=s.heap.objs.size) (hC:C=s.heap.objs.size+1) (old:∀b o,s.heap.get? b=some o->h1.get? b=some o) (hns:h1.Ns C (fun _=>none)) (hl:h1.get? D=some {cls:= .type "list",data:= .seq #[]}) {t:Nat}:
 Inv (dY X scope C N s H fp) [] (st0 own caps σ) (upd H D (.lst [])) {s with heap:=h1,toks:=t}:=by
 have some':=S.uo I.ok;have sub:∀{x c},(je X.env scope.names []).lookup x=some c->X.env.cells.lookup x=some c:=fun h=>S.csub I.ok h;have freshD:H D=none:=I.hok.fresh (by rw [hD];exact Nat.le_refl _);have Cy:H C=none:=I.hok.fresh (by rw [hC];exact Nat.le_succ _)
 have ux:∀x c,X.env.cells.lookup x=some c->c<s.heap.objs.size:=fun x c e=>by
  obtain ⟨v,z⟩:=I.cell x c e;exact z.lt
 have N6:∀b∈fp,b<s.heap.objs.size:=fun b hb=>by
  obtain ⟨o,e⟩:=hfo b hb;exact Heap.lt_size e
 have DC:D≠C:=by omega
 refine ⟨⟨I.ok.mod,S.kind,I.ok.glob,I.ok.blt,by show s.heap.objs.size<=C;omega,fun x y c e1 e2=>I.ok.inj x y c (sub e1) (sub e2),fun x h=> ?_,fun x c h=>(by cases h),I.ok.hd,I.ok.frames,Or.inl rfl,fun b hb=>⟨?_,fun x c e=> ?_⟩,I.bs,Nat.le_trans I.ok.Hl I.sz,fun b o e hb=> ?_,fun b hb z=> ?_,I.stack,I.wu⟩,
  rfl,I.bare,Un.laid old (by show s.heap.objs.size<=D;omega) freshD,⟨_,hns,fun j x v e1 e2 e3=> ?_⟩,fun x c e=> ?_, ?_,fun x c e=> ?_,fun p hp=> ?_,I.hok.laid old (by omega) ?_, ?_⟩
 ·have hm:=aX.tO (S:=S) (X:=X) h
  obtain ⟨c,e⟩:=Option.isSome_iff_exists.mp (some' _ hm rfl);exact ⟨c,by show (je X.env scope.names []).lookup x=_;rw [dF _ _ _ some',if_pos hm];exact e⟩
 ·exact Nat.ne_of_lt (show @LT.lt Nat _ b C by have:=ju (N6 b hb);omega)
 ·exact (hfp b hb).2.2.2.2.1 x c (sub e)
 ·rcases (hfp b hb).2.2.2.1 with z|z
  ·exact I.ok.Gu b o e z
  ·exact absurd (Nat.lt_of_lt_of_le (Heap.lt_size e) (Nat.le_trans I.ok.Hl z)) (Nat.lt_irrefl _)
 ·rcases List.mem_cons.mp (I.pG b z) with q|q
  ·exact (hfp b hb).2.1 q
  ·exact (hfp b hb).2.2.1 q
 ·have e1:N[j]? = some x:=e1
  have hj:own.length<=j:=by
   by_cases q:own.length<=j
   ·exact q
   ·exfalso
    unfold st0 at e2;rw [List.getElem?_append_left (by simp;omega),List.getElem?_map] at e2;cases r:own[j]? with
    | none=>rw [r] at e2;cases e2
    | some a=>rw [r] at e2;cases e2
  have hjl:j<N.length:=(List.getElem?_eq_some_iff.mp e1).1;have hjc:j - own.length<caps.length:=by have:=S.len;omega
  obtain ⟨c1,x',c2,c3,c4⟩:=S.cap (j - own.length) hjc;rw [show own.length+(j - own.length)=j by omega] at c1 c2;rw [e1] at c2;cases c2
  have e2':(σ[caps.getD (j - own.length) 0]?).join=some v:=by
   unfold st0 at e2;rw [List.getElem?_append_right (by simp;omega),List.getElem?_map,List.length_map] at e2;rw [List.getD_eq_getElem?_getD];cases r:caps[j - own.length]? with
   | none=>rw [r] at e2;cases e2
   | some a=>rw [r] at e2;exact Option.some.inj e2
  have RK:σ[caps.getD (j - own.length) 0]? = some (some v):=by
   cases r:σ[caps.getD (j - own.length) 0]? with
   | none=>rw [r] at e2';cases e2'
   | some a=>rw [r] at e2';exact congrArg Option.some e2'
  have kx:X.env.kindOf x=some .cell\/X.env.kindOf x=some .free:=S.free _ c3 rfl;obtain ⟨m,hn,hl'⟩:=I.loc;obtain ⟨u,r,l⟩:=hl' _ x v (by rw [←c1];exact e1) RK (by rcases kx with z|z;exact .inr (.inl z);exact .inr (.inr z));refine ⟨u,r,.inr ⟨?_, ?_⟩⟩
  ·show (relabel scope X.env).names.lookup x=some .cell\/(relabel scope X.env).names.lookup x=some .free
   have e:(relabel scope X.env).names.lookup x=(scope.names.lookup x).map fun k=>if (k == .free&&X.env.scope.kind == .function&&X.env.kindOf x==some .cell)=true then NameKind.cell else k:=eE X.env scope.names x;rw [e,c4,Option.map_some];split
   ·exact .inl rfl
   ·exact .inr rfl
  ·rcases l with ⟨hk,_⟩|⟨_,c,hc,z⟩
   ·rcases kx with q|q<;>rw [hk] at q<;>cases q
   ·refine ⟨c, ?_, ?_⟩
    ·show (je X.env scope.names []).lookup x=_
     rw [dF _ _ _ some',if_pos c3];exact hc
    ·obtain ⟨o,ho,hd⟩:=z
     exact ⟨o,old c o ho,hd⟩
 ·obtain ⟨v,o,ho,hd⟩:=I.cell x c (sub e)
  exact ⟨v,o,old c o ho,hd⟩
 ·show upd H D (.lst []) C=none
  rw [aR DC.symm];exact Cy
 ·show upd H D (.lst []) c=none
  rw [aR (Nat.ne_of_lt (by have:=ju (ux x c (sub e));omega))];exact I.jH x c (sub e)
 ·cases hp
 ·exact ⟨Nat.zero_le _,[],0,.nil,hl⟩
 ·show (own.map (fun _=>none)++caps.map _).length=N.length
  rw [List.length_append,List.length_map,List.length_map,S.len]
theorem Inv.Ij {vG:List (Addr×Obj)} {σ':St} {H':Hp} {s':Shared} {h':Heap} (I:Inv X pins σ H s) (hfp:∀b∈fp,kI X pins H b) (hC:s.heap.objs.size<=C) (J:Inv (dY X scope C N s H fp) vG σ' H' s') (hs:Heap.SameBut C s'.heap h'):
 Inv X pins σ H' {s' with heap:=h'}:=by
 have nC:∀b o,s.heap.get? b=some o->b≠C:=fun b o e=>Nat.ne_of_lt (by have:=ju (Heap.lt_size e);omega);have u:=J.base;have frC:H' C=none:=J.free;refine I.call' (ch:=fp) (s':={s' with heap:=h'}) J.os ⟨fun b o e n hb hx=> ?_,fun b o e n hb hx=> ?_,u.free,fun b o e hx=> ?_,u.tups,u.qe,u.rZ⟩ (fun a o e=>(J.hok a o e).stay (fun b v hb q=> ?_) (fun _ q=>q) fun _ _ q=>q) J.bare fun b hb=> ?_
 ·exact (hs.2 b (nC b o e)).trans (u.keep b o e n hb hx)
 ·obtain ⟨sl,q⟩:=u.slot b o e n hb hx
  exact ⟨sl,(hs.2 b (nC b o e)).trans q⟩
 ·obtain ⟨o',q⟩:=u.there b o e hx
  exact ⟨o',(hs.2 b (nC b o e)).trans q⟩
 ·refine (hs.2 b ?_).trans q
  intro z;subst z;rcases hb with z|z
  ·subst z;rw [frC] at e;cases e
  ·rw [frC] at z;cases z
 ·exact ⟨(hfp b hb).2.2.2.1,(hfp b hb).2.1,(hfp b hb).2.2.2.2.1,(hfp b hb).2.2.2.2.2⟩
end
section
variable {prog:Program} {w:World} {A:Around} {R:Result->Shared->Prop} {s:Shared}
theorem oW {elt target iter:Expr} {ifs:List Expr} {scope:Scope} {pos:Pos} {it acc:Value} {env:Env} (I:Nat->Shared->Prop)
 (turn:∀n s,I n s->wpAny (model prog w) A (pyNext it) (fun r s1=>match r with
   | none=>R (.ok .next) s1
   | some v=>wpAny (model prog w) A (letOwnedTupleGo target it v) (fun _ s1'=>wpAny (model prog w) A (assign target env v) (fun _ s2=>
      wpAny (model prog w) A (forIn ifs true fun c r=>if r=true then do let ok ←isTrue c env (eval c env);pure (ForInStep.yield ok) else pure (ForInStep.yield r)) (fun ok s3=>
       if ok=true then wpAny (model prog w) A (eval elt env) (fun x s4=>
        wpAny (model prog w) A (call (.builtin "list.append") [acc,x]) (fun _ s5=>∃m,m<n/\I m s5) (fun _ _=>False) s4) (fun _ _=>False) s3
       else ∃m,m<n/\I m s3) (fun _ _=>False) s2) (fun _ _=>False) s1') (fun _ _=>False) s1) (fun _ _=>False) s)
 (n:Nat) (h:I n s):
 codeAny (model prog w) A (.compLoop (.ListComp elt [⟨target,iter,ifs,0⟩] scope pos) 0 it acc env) R s:=by
 refine codeAny_loop rfl I (fun n s hI=> ?_) n h;show wpAny _ A ((compTurn (.ListComp elt [⟨target,iter,ifs,0⟩] scope pos) 0 it acc env).onRaise (fun x=>do noteFrame x env;theTreesLotGoes x)) _ _ s;refine wpAny_noted ?_;rw [compTurn_list];refine wpAny_bind (wpAny_standAt (wpAny_bind (wpAny_mono (turn n s hI) (fun r s1 h1=> ?_) fun _ _ h'=>h'.elim)));cases r with
 | none=>exact wpAny_pure h1
 | some v=>
   refine wpAny_bind (wpAny_mono h1 (fun _ s1' h1'=> ?_) fun _ _ h'=>h'.elim);refine wpAny_bind (wpAny_mono h1' (fun _ s2 h2=>wpAny_bind (wpAny_mono h2 (fun ok s3 h3=> ?_) fun _ _ h'=>h'.elim)) fun _ _ h'=>h'.elim);cases ok with
   | false=>exact wpAny_pure ⟨rfl,h3⟩
   | true=>
     exact wpAny_bind (wpAny_bind (wpAny_mono h3 (fun x s4 h4=>wpAny_bind (wpAny_mono h4 (fun _ s5 h5=>wpAny_pure (wpAny_pure ⟨rfl,h5⟩)) fun _ _ h'=>h'.elim)) fun _ _ h'=>h'.elim))
end
def RZ (X:Cx) (ifs:List Expr) (t:TT):Prop:=
 ∀(pins:List (Addr×Obj)) (s:Shared) (σ:St) (H:Hp) (Q:Bool->Hp->Prop),Inv X pins σ H s->t σ H Q ->
  wpAny (model X.prog X.w) X.A (forIn ifs true fun c r=>if r=true then do let ok ←isTrue c X.env (eval c X.env);pure (ForInStep.yield ok) else pure (ForInStep.yield r)) (TP X pins σ Q) X.xe s
def Qi:TT:=fun _ H Q=>Q true H
theorem fG {X:Cx}:RZ X [] Qi:=fun _ _ _ H _ I h=>wpAny_tests_nil ⟨H,I,h⟩
theorem DR {X:Cx} {c:Expr} {t:TT} (h:PT X c t):RZ X [c] t:=fun pins s σ H Q I q=>wpAny_tests_one (h pins s σ H Q I q)
def m9 (J:It) (g:TG) (tc:TT) (te:TE) (Q:VK) (D:Addr) (σ0:St) (H1:Hp):Prop:=
 ∃W:Nat->Nat->St->Hp->Prop,(∃m,W 0 m σ0 (upd H1 D (.lst []))) /\ ∀i m σ H,W i m σ H ->
  (J.stop i H/\Q (.ref D) H)\/(J.go i H /\ ∃N:St->Hp->Prop,(∀σ' H',N σ' H' -> ∃m',m'<m/\W (i+1) m' σ' H') /\ ∀x H',J.Qa i H x H'->g x σ H' fun σ2 H2=>tc σ2 H2 fun b H3=>
    if b=true then te σ2 H3 fun y H4=>∃acc,H4 D=some (.lst acc)/\acc.length<sizeLine/\N σ2 (upd H4 D (.lst (acc++[y]))) else N σ2 H3)
def vC (own:List Str) (caps:List Nat) (wi:TI) (g:TG) (tc:TT) (te:TE):TE:=fun σ H Q=>wi σ H fun J H1=>∀D,H1 D=none->m9 J g tc te Q D (st0 own caps σ) H1
section
variable {X:Cx} {elt tg iter:Expr} {ifs:List Expr} {scope:Scope} {pos:Pos} {N own:List Str} {caps:List Nat} {wi:TI} {g:TG} {tc:TT} {te:TE}
theorem zY {use:Option (Value->Sem Unit)} {Qv:Value->Shared->Prop} {pins:List (Addr×Obj)} {σ:St} {H:Hp} {s:Shared} {Q:VK} (hc:X.calm=true) (S:aX N own caps X.N X.env.scope scope)
 (hg:∀C s H fp,PG (dY X scope C N s H fp) tg g) (hcs:∀C s H fp,RZ (dY X scope C N s H fp) ifs tc) (he:∀C s H fp,PE (dY X scope C N s H fp) elt te)
 (hi:PI X tg iter wi) (hs:∀x,foldedSetIterable iter X.env x=pure x)
 (I:Inv X pins σ H s) (h:vC own caps wi g tc te σ H Q)
 (fin:∀(D C:Addr) (H':Hp) (s':Shared),(∃m,s'.heap.Ns C m)->Inv X pins σ H' s'->(∀h',Heap.SameBut C s'.heap h'->Inv X pins σ H' {s' with heap:=h'})->kI X pins H' C->Q (.ref D) H' ->
   compPost (model X.prog X.w) X.A X.xe use Qv (.ref D) C (.ok .next) s'):
 wpAny (model X.prog X.w) X.A (comprehension (.ListComp elt [⟨tg,iter,ifs,0⟩] scope pos) scope X.env (firstIterPos [⟨tg,iter,ifs,0⟩] pos) (newList []) false (eval iter X.env) use) Qv X.xe s:=by
 refine wpAny_comprehension_free (use:=use) rfl hs (uw (S.uo I.ok)) S.kind S.names (cM (hi pins s σ H _ I h) fun xv s1 h1=>cM h1 fun itv s2 h2=> ?_);obtain ⟨it,fp,tn,J,H2,e,I2,T,st2,f2,q2⟩:=h2;subst e;refine wpAny_newList ?_;refine wpAny_newFunctionEnv S.JM (by intro y hy;simp at hy) (fun h1 NK hsb1=> ?_) S.kind;dsimp only at NK hsb1 ⊢;have hD:H2 s2.heap.objs.size=none:=I2.hok.fresh (Nat.le_refl _);have hsz:(s2.heap.push {cls:= .type "list",data:= .seq ([]:List Value).toArray}).objs.size=s2.heap.objs.size+1:=Heap.size_push ..
 have old:∀b o,s2.heap.get? b=some o->h1.get? b=some o:=fun b o e=>by
  refine hsb1.extBut b o (Nat.ne_of_lt (by have:=ju (Heap.lt_size e);rw [hsz];omega)) (Heap.get?_push_of_some _ (Heap.get?_push_of_some _ e))
 have hl:h1.get? s2.heap.objs.size=some {cls:= .type "list",data:= .seq #[]}:=
  hsb1.extBut _ _ (Nat.ne_of_lt (by rw [hsz];omega)) (Heap.get?_push_of_some _ (Heap.get?_push_size _ rfl))
 have hfo:∀b∈fp,∃o,s2.heap.get? b=some o:=fun b hb=>let ⟨o,e,_⟩:=T.obj _ _ st2 b hb;⟨o,e⟩
 have I4:=Inv.comp (C:=(s2.heap.push {cls:= .type "list",data:= .seq ([]:List Value).toArray}).objs.size) (t:=s2.toks+([]:List (Str×Value)).length) I2 S f2 hfo rfl hsz old NK hl;obtain ⟨W,⟨m0,w0⟩,turn⟩:=q2 _ hD;generalize hCe:(s2.heap.push {cls:= .type "list",data:= .seq ([]:List Value).toArray}).objs.size=C at *;generalize hDe:s2.heap.objs.size=D at *;have hDC:D≠C:=by omega
 have loop:∀s3:Shared,s3={s2 with heap:=h1,toks:=s2.toks+([]:List (Str×Value)).length} ->
  codeAny (model X.prog X.w) X.A (.compLoop (.ListComp elt [⟨tg,iter,ifs,0⟩] scope pos) 0 (.ref it) (.ref D) (dY X scope C N s2 H2 fp).env) (compPost (model X.prog X.w) X.A X.xe use Qv (.ref D) C) s3:=by
  rintro s3 rfl
  have lA:∀b∈fp,(upd H2 D (.lst [])) b=none:=fun b hb=>by
   obtain ⟨o,e⟩:=hfo b hb;rw [aR (Nat.ne_of_lt (by have:=ju (Heap.lt_size e);omega))];exact (f2 b hb).1
  have stat:∀{H':Hp},(∀b∈fp,H' b=none) -> ∀b∈fp,kI (dY X scope C N s2 H2 fp) [] H' b:=fun hn b hb=>by
   obtain ⟨o,e⟩:=hfo b hb;have hlt:=ju (Heap.lt_size e);refine ⟨hn b hb, ?_,fun z=> ?_,.inl hb,fun x c e'=>(f2 b hb).2.2.2.2.1 x c (S.csub I2.ok e'),fun p hp=>(by cases hp)⟩
   ·exact Nat.ne_of_lt (show @LT.lt Nat _ b C by omega)
   ·rcases List.mem_cons.mp (I2.pG b z) with q|q
    ·exact (f2 b hb).2.1 q
    ·exact (f2 b hb).2.2.1 q
  refine oW (fun n s'=>∃i σ' H',Inv (dY X scope C N s2 H2 fp) [] σ' H' s'/\tn i s'.heap/\(∀b∈fp,H' b=none)/\W i n σ' H') ?_ m0
   ⟨0,_,_,I4,T.keep _ _ _ st2 fun b _ o e=>old b o e,lA,w0⟩
  rintro n s3 ⟨i,σ3,H3,I3,st3,PB,w3⟩;rcases turn i n σ3 H3 w3 with ⟨stop,qn⟩|⟨go,Nx,hNx,step⟩
  ·refine cM (T.done (dY X scope C N s2 H2 fp) rfl rfl rfl hc i [] s3 σ3 H3 _ I3 (stat PB) st3 stop) fun r s4 ⟨hr,J4⟩=> ?_
   subst hr;obtain ⟨m4,zJ,_⟩:=J4.loc;exact fin D C H3 s4 ⟨m4,zJ⟩ (I2.Ij f2 (by omega) J4 (Heap.SameBut.refl _ _)) (fun h' hs'=>I2.Ij f2 (by omega) J4 hs') (I2.xq (show s2.heap.objs.size<=C by omega) J4.free) qn
  ·refine cM (T.item (dY X scope C N s2 H2 fp) rfl rfl rfl hc i [] s3 σ3 H3 _ I3 (stat PB) st3 go) fun r s4 ⟨u,hr,h4⟩=> ?_
   subst hr;refine cM h4 fun _ s5 ⟨x,H5,I5,r5,y5,uV,Lp⟩=> ?_;have V9:=I5.pinned (stat Lp) (T.obj _ _ uV);refine cM (hg C s2 H2 fp _ s5 σ3 H5 x u _ V9 r5 (step x H5 y5)) fun _ s6 ⟨σ6,H6,I6,q6⟩=> ?_;refine cM (hcs C s2 H2 fp _ s6 σ6 H6 _ I6 q6) fun ok s7 ⟨H7,I7,q7⟩=> ?_
   have again:∀{σ8:St} {H8:Hp} {s8:Shared},Inv (dY X scope C N s2 H2 fp) ([]++pR fp s5.heap) σ8 H8 s8->Nx σ8 H8 -> ∃m,m<n /\ ∃i σ' H',Inv (dY X scope C N s2 H2 fp) [] σ' H' s8/\tn i s8.heap/\(∀b∈fp,H' b=none)/\W i m σ' H':=fun {σ8 H8 s8} I8 n8=>by
    obtain ⟨m',hm,w8⟩:=hNx _ _ n8;refine ⟨m',hm,i+1,σ8,H8,I8.lD,T.keep _ _ _ uV fun b hb o e=>(I8.pin (b,o) (List.mem_append_right _ (List.mem_append_right _ (gK hb e)))).1,fun b hb=> ?_,w8⟩;obtain ⟨o,e,d⟩:=T.obj _ _ uV b hb;exact (I8.pin (b,o) (List.mem_append_right _ (List.mem_append_right _ (gK hb e)))).2.1
   cases ok with
   | false=>
     rw [if_neg (by decide)] at q7;exact again I7 q7
   | true=>
     rw [if_pos rfl] at q7;refine cM (he C s2 H2 fp _ s7 σ6 H7 _ I7 q7) fun y s8 ⟨yv,H8,I8,r8,acc,ha,hlen,q8⟩=> ?_;exact cM (pW _ s8 σ6 H8 (.ref D) [yv] (.ref D) [y] (fun v H9=>Nx σ6 H9) I8 rfl (.cons r8 .nil) ⟨D,acc,yv,rfl,rfl,ha,hlen,q8⟩) fun _ s9 ⟨_,H9,I9,_,q9⟩=>again I9 q9
 exact codeAny_compStart_list (loop _ rfl) (T.self _ 0 _ _ _ (T.keep _ _ _ st2 fun b _ o e=>old b o e) (loop _ rfl))
theorem fH (hc:X.calm=true) (S:aX N own caps X.N X.env.scope scope) (hi:PI X tg iter wi)
 (hg:∀C s H fp,PG (dY X scope C N s H fp) tg g) (hcs:∀C s H fp,RZ (dY X scope C N s H fp) ifs tc) (he:∀C s H fp,PE (dY X scope C N s H fp) elt te)
 (hs:∀x,foldedSetIterable iter X.env x=pure x:=by intro _;rfl):PE X (.ListComp elt [⟨tg,iter,ifs,0⟩] scope pos) (vC own caps wi g tc te):=by
 intro pins s σ H Q I h;rw [eval_ListComp];refine zY (use:=none) hc S hg hcs he hi hs I h ?_;intro D C H' s' hn I' hk _ q;obtain ⟨m,hn⟩:=hn;exact ⟨m,hn,fun h' hs'=>⟨.ref D,H',hk h' hs',rfl,q⟩⟩
theorem Mr {i:Nat} {x:Str} {px sp:Pos} (hc:X.calm=true) (hN:X.N.Nodup) (hx:X.N[i]? = some x) (hl:Loc X.env.scope x) (S:aX N own caps X.N X.env.scope scope) (hi:PI X tg iter wi)
 (hg:∀C s H fp,PG (dY X scope C N s H fp) tg g) (hcs:∀C s H fp,RZ (dY X scope C N s H fp) ifs tc) (he:∀C s H fp,PE (dY X scope C N s H fp) elt te)
 (hsw:swapsWith (.ListComp elt [⟨tg,iter,ifs,0⟩] scope pos) (some (.Name x px)) sp.line X.env=pure true:=by rfl)
 (hs:∀x,foldedSetIterable iter X.env x=pure x:=by intro _;rfl) (hf:X.fn x=true\/X.env.scope.names.lookup x=some .local:=by first |exact .inl rfl|exact .inr rfl|assumption):
 PS X (.Assign [.Name x px] (.ListComp elt [⟨tg,iter,ifs,0⟩] scope pos) sp) (LK (vC own caps wi g tc te) (dZ i)):=by
 intro pins s σ H D I h;rw [exec_Assign_Name_used _ _ _ _ hsw];refine wpAny_bind (wpAny_standAt (wpAny_bind ?_));show wpAny _ X.A (do let _ ←comprehension (.ListComp elt [⟨tg,iter,ifs,0⟩] scope pos) scope X.env (firstIterPos [⟨tg,iter,ifs,0⟩] pos) (newList []) false (eval iter X.env) (some (assign (.Name x px) X.env))) _ _ s;refine wpAny_bind (wpAny_mono (zY (use:=some (assign (.Name x px) X.env)) (Qv:=fun _ s'=>SP X pins D .next s') hc S hg hcs he hi hs I h ?_) (fun _ s' hq=>wpAny_pure (wpAny_pure hq)) fun _ _ e=>e);intro E C H' s' hn I' hk fC q;obtain ⟨m,hn⟩:=hn;obtain ⟨f0,f1,f2,f3,f4,f5⟩:=fC;show wpAny _ X.A (assign (.Name x px) X.env (.ref E)) _ _ _;refine wpAny_assign_Name (pF I' hN hx hl (v:= .ref E) rfl (fun s2 I2 k=> ?_) hf);refine ⟨m, ?_,fun h' hs'=> ?_⟩
 ·obtain ⟨o,es,ep,ho,r⟩:=hn
  obtain ⟨a,ks,ka⟩:=k
  have hCa:C≠a:=fun z=>by
   rcases ka with q'|q'
   ·exact f1 (z.trans q')
   ·exact f4 x a q' z.symm
  exact ⟨o,es,ep,(ks.2 C hCa).trans ho,r⟩
 ·exact ⟨_,H',I2.turned (t':=s2.toks) (fun b o hb e=>(hs'.2 b hb).trans e) f0 f1 f3 f4 f5,q⟩
end
def Ku (N own:List Str) (caps:List Nat) (XN:List Str) (outer scope:Scope):Bool:=
 decide (scope.kind = .function)&&scope.names.all (fun y=>decide (y.2 ≠ .cell))&&scope.names.all (fun y=>decide (y.2 ≠ .local)||decide (scope.names.lookup y.1=some .local)) &&
 scope.names.all (fun y=>decide (y.2 ≠ .free)||decide (outer.names.lookup y.1=some .cell)||decide (outer.names.lookup y.1=some .free))&&decide N.Nodup&&decide (N.length=own.length+caps.length) &&
 (List.range caps.length).all (fun j=>match N[own.length+j]? with |some x=>decide (XN[caps.getD j 0]? = some x)&&decide ((x,NameKind.free)∈scope.names)&&decide (scope.names.lookup x=some .free)|none=>false)
theorem aX.of {N own:List Str} {caps:List Nat} {XN:List Str} {outer scope:Scope} (h:Ku N own caps XN outer scope=true):aX N own caps XN outer scope:=by
 unfold Ku at h;simp only [Bool.and_eq_true,decide_eq_true_eq,List.all_eq_true,Bool.or_eq_true] at h;obtain ⟨⟨⟨⟨⟨⟨h1,h2⟩,h3⟩,h4⟩,h5⟩,h6⟩,h7⟩:=h;refine ⟨h1,h2,fun y hy e=> ?_,fun y hy e=> ?_,h5,h6,fun j hj=> ?_⟩
 ·rcases h3 y hy with z|z
  ·exact absurd e z
  ·exact z
 ·rcases h4 y hy with (z|z)|z
  ·exact absurd e z
  ·exact .inl z
  ·exact .inr z
 ·have q:=h7 j (List.mem_range.mpr hj)
  cases e:N[own.length+j]? with
  | none=>rw [e] at q;cases q
  | some x=>
    rw [e] at q;simp only [Bool.and_eq_true,decide_eq_true_eq] at q;exact ⟨q.1.1.symm,x,rfl,q.1.2,q.2⟩
end L2
set_option Elab.async false
set_option linter.all false
set_option maxRecDepth 100000
set_option maxHeartbeats 4000000
namespace L2
open PySem PySem.Spec PyProof.Rows
mutual
def Dat (H:Hp):V->PyData->Prop
 | v,.none=>v = .non
 | v,.bool b=>v = .bl b
 | v,.int i=>v = .int i
 | v,.str x=>v = .str x
 | v,.list ds=>∃a vs,v = .ref a/\H a=some (.lst vs)/\aM H vs ds
 | v,.tuple ds=>∃a vs,v = .ref a/\H a=some (.tup vs)/\aM H vs ds
 | _,.dict _=>False
def aM (H:Hp):List V->List PyData->Prop
 | [],[]=>True
 | v::vs,d::ds=>Dat H v d/\aM H vs ds
 | [],_::_=>False
 | _::_,[]=>False
end
section
variable {H H':Hp}
theorem aM.length:∀{vs:List V} {ds:List PyData},aM H vs ds->vs.length=ds.length
 | [],[],_=>rfl
 | _::_,_::_,h=>by simp only [aM] at h;simp [aM.length h.2]
 | [],_::_,h=>by simp only [aM] at h
 | _::_,[],h=>by simp only [aM] at h
theorem aM.get:∀{vs:List V} {ds:List PyData} {i:Nat} {v:V},aM H vs ds->vs[i]? = some v -> ∃d,ds[i]? = some d/\Dat H v d
 | _::_,_::_,0,_,h,e=>by simp only [aM] at h;simp at e;subst e;exact ⟨_,rfl,h.1⟩
 | _::_,_::_,i+1,_,h,e=>by simp only [aM] at h;simp at e;obtain ⟨d,q,r⟩:=aM.get h.2 e;exact ⟨d,by simpa using q,r⟩
 | [],[],_,_,_,e=>by simp at e
 | [],_::_,_,_,h,_=>by simp only [aM] at h
 | _::_,[],_,_,h,_=>by simp only [aM] at h
theorem aM.getD:∀{vs:List V} {ds:List PyData} {i:Nat} {d:PyData},aM H vs ds->ds[i]? = some d -> ∃v,vs[i]? = some v/\Dat H v d
 | _::_,_::_,0,_,h,e=>by simp only [aM] at h;simp at e;subst e;exact ⟨_,rfl,h.1⟩
 | _::_,_::_,i+1,_,h,e=>by simp only [aM] at h;simp at e;obtain ⟨d,q,r⟩:=aM.getD h.2 e;exact ⟨d,by simpa using q,r⟩
 | [],[],_,_,_,e=>by simp at e
 | [],_::_,_,_,h,_=>by simp only [aM] at h
 | _::_,[],_,_,h,_=>by simp only [aM] at h
theorem aM.append:∀{vs ws:List V} {ds es:List PyData},aM H vs ds->aM H ws es->aM H (vs++ws) (ds++es)
 | [],_,[],_,_,g=>g
 | _::_,_,_::_,_,h,g=>by simp only [aM,List.cons_append] at h ⊢;exact ⟨h.1,aM.append h.2 g⟩
 | [],_,_::_,_,h,_=>by simp only [aM] at h
 | _::_,_,[],_,h,_=>by simp only [aM] at h
theorem aM.ints (ns:List Int):aM H (ns.map V.int) (ns.map PyData.int):=by
 induction ns with
 | nil=>simp only [List.map_nil,aM]
 | cons n r ih=>simp only [List.map_cons,aM,Dat];exact ⟨trivial,ih⟩
mutual
theorem Dat.mono (hl:∀a xs,H a=some (HO.lst xs)->H' a=some (HO.lst xs)) (ht:∀a xs,H a=some (HO.tup xs)->H' a=some (HO.tup xs)):∀(d:PyData) {v:V},Dat H v d->Dat H' v d
 | .none,_,h=>by simp only [Dat] at h ⊢;exact h
 | .bool _,_,h=>by simp only [Dat] at h ⊢;exact h
 | .int _,_,h=>by simp only [Dat] at h ⊢;exact h
 | .str _,_,h=>by simp only [Dat] at h ⊢;exact h
 | .list ds,_,h=>by simp only [Dat] at h ⊢;obtain ⟨a,vs,e,q,r⟩:=h;exact ⟨a,vs,e,hl _ _ q,aM.mono hl ht ds r⟩
 | .tuple ds,_,h=>by simp only [Dat] at h ⊢;obtain ⟨a,vs,e,q,r⟩:=h;exact ⟨a,vs,e,ht _ _ q,aM.mono hl ht ds r⟩
 | .dict _,_,h=>by simp only [Dat] at h
theorem aM.mono (hl:∀a xs,H a=some (HO.lst xs)->H' a=some (HO.lst xs)) (ht:∀a xs,H a=some (HO.tup xs)->H' a=some (HO.tup xs)):∀(ds:List PyData) {vs:List V},aM H vs ds->aM H' vs ds
 | [],[],_=>by simp only [aM]
 | d::ds,v::vs,h=>by simp only [aM] at h ⊢;exact ⟨Dat.mono hl ht d h.1,aM.mono hl ht ds h.2⟩
 | _::_,[],h=>by simp only [aM] at h
 | [],_::_,h=>by simp only [aM] at h
end
mutual
def Ln:PyData->Bool
 | .tuple ds=>zF ds
 | .list _ | .dict _=>false
 | .none | .bool _ | .int _ | .str _=>true
def zF:List PyData->Bool
 | []=>true
 | d::ds=>Ln d&&zF ds
end
mutual
theorem Dat.keep (ht:∀a xs,H a=some (HO.tup xs)->H' a=some (HO.tup xs)):∀(d:PyData) {v:V},Ln d=true->Dat H v d->Dat H' v d
 | .none,_,_,h=>by simp only [Dat] at h ⊢;exact h
 | .bool _,_,_,h=>by simp only [Dat] at h ⊢;exact h
 | .int _,_,_,h=>by simp only [Dat] at h ⊢;exact h
 | .str _,_,_,h=>by simp only [Dat] at h ⊢;exact h
 | .list ds,_,i,h=>by simp only [Ln] at i;cases i
 | .tuple ds,_,i,h=>by simp only [Dat] at h ⊢;simp only [Ln] at i;obtain ⟨a,vs,e,q,r⟩:=h;exact ⟨a,vs,e,ht _ _ q,aM.keep ht ds i r⟩
 | .dict _,_,_,h=>by simp only [Dat] at h
theorem aM.keep (ht:∀a xs,H a=some (HO.tup xs)->H' a=some (HO.tup xs)):∀(ds:List PyData) {vs:List V},zF ds=true->aM H vs ds->aM H' vs ds
 | [],[],_,_=>by simp only [aM]
 | d::ds,v::vs,i,h=>by simp only [aM] at h ⊢;simp only [zF,Bool.and_eq_true] at i;exact ⟨Dat.keep ht d i.1 h.1,aM.keep ht ds i.2 h.2⟩
 | _::_,[],_,h=>by simp only [aM] at h
 | [],_::_,_,h=>by simp only [aM] at h
end
theorem cg {α:Type} (f:α->PyData) (h:∀x,Ln (f x)=true):∀l:List α,zF (l.map f)=true
 | []=>rfl
 | a::l=>by simp only [List.map_cons,zF,h a,cg f h l,Bool.and_self]
end
section
variable {X:Cx} {pins:List (Addr×Obj)} {σ:St} {H:Hp} {s:Shared}
mutual
theorem Inv.reads (I:Inv X pins σ H s):∀(d:PyData) {v:V} {u:Value},Dat H v d->RelV v u -> ∃as,Reads s.heap u d as
 | .none,v,u,h,r=>by
   simp only [Dat] at h;subst h;cases (show u=Value.none from r);exact ⟨_,.none⟩
 | .bool b,v,u,h,r=>by
   simp only [Dat] at h;subst h;cases (show u=Value.bool b from r);exact ⟨_,.bool b⟩
 | .int i,v,u,h,r=>by
   simp only [Dat] at h;subst h;obtain ⟨t,q⟩:=(show ∃t,u=Value.int i t from r);cases q;exact ⟨_,.int i t⟩
 | .str x,v,u,h,r=>by
   simp only [Dat] at h;subst h;obtain ⟨t,q⟩:=(show ∃t,u=Value.str x t from r);cases q;exact ⟨_,.str x t⟩
 | .list ds,v,u,h,r=>by
   simp only [Dat] at h;obtain ⟨a,vs,rfl,q,g⟩:=h;cases (show u=Value.ref a from r);obtain ⟨its,rv,p,hz⟩:=I.list (bw.of q);obtain ⟨o,ho,hc,n,hd⟩:=p.isList;obtain ⟨as,ra⟩:=Inv.readsAll I ds g rv;exact ⟨_,.list ho hc hd (by simpa using ra)⟩
 | .tuple ds,v,u,h,r=>by
   simp only [Dat] at h;obtain ⟨a,vs,rfl,q,g⟩:=h;cases (show u=Value.ref a from r);obtain ⟨its,rv,p,hz⟩:=I.tuple (fY.of q);obtain ⟨o,ho,hc,n,hd⟩:=p;obtain ⟨as,ra⟩:=Inv.readsAll I ds g rv;exact ⟨_,.tuple ho hc hd (by simpa using ra)⟩
 | .dict _,_,_,h,_=>by simp only [Dat] at h
theorem Inv.readsAll (I:Inv X pins σ H s):∀(ds:List PyData) {vs:List V} {us:List Value},aM H vs ds->Vals vs us -> ∃as,ReadsAll s.heap us ds as
 | [],[],_,_,.nil=>⟨_,.nil⟩
 | d::ds,v::vs,_,h,.cons r rs=>by
   simp only [aM] at h;obtain ⟨as,ra⟩:=Inv.reads I d h.1 r;obtain ⟨bs,rb⟩:=Inv.readsAll I ds h.2 rs;exact ⟨_,.cons ra rb⟩
 | _::_,[],_,h,_=>by simp only [aM] at h
 | [],_::_,_,h,_=>by simp only [aM] at h
end
def TJ (neg:Bool):R2:=fun x y H Q=>∃d e,Dat H x d/\Dat H y e/\SeqAt.shaped d=true/\SeqAt.shaped e=true/\Q (.bl (if neg then !PyData.eqv d e else PyData.eqv d e)) H
theorem QK (hu:X.A.units+64<cLine):nR X (compareOp .Eq) (TJ false):=by
 intro pins s σ H x y v u Q I rx ry h;obtain ⟨d,e,h1,h2,s1,s2,q⟩:=h;obtain ⟨as,ra⟩:=I.reads d h1 rx;obtain ⟨bs,rb⟩:=I.reads e h2 ry;exact SeqAt.compareEq_shaped ra rb s1 s2 hu ⟨.bl _,H,I,rfl,q⟩
theorem Kw {c:Value} {cv:V} (rc:RelV cv c):gF X (.builtin "isinstance") (fun xs H Q=>∃x t b,xs=[x,cv]/\nO X.K H x t/\PySem.W.kitOne X.K t c=some b/\Q (.bl b) H):=by
 intro pins s σ H xs us Q I r h;obtain ⟨x,t,b,rfl,ty,e,q⟩:=h;obtain ⟨u,w',rfl,r1,r2⟩:=vals2 r
 have:w'=c:=by
  cases cv with
  | non=>exact (show w'=Value.none from r2).trans (show c=Value.none from rc).symm
  | bl b=>exact (show w'=Value.bool b from r2).trans (show c=Value.bool b from rc).symm
  | ref a=>exact (show w'=Value.ref a from r2).trans (show c=Value.ref a from rc).symm
  | ty n=>exact (show w'=Value.type n from r2).trans (show c=Value.type n from rc).symm
  | int i=>obtain ⟨t1,rfl⟩:=(show ∃t,c=Value.int i t from rc);unfold PySem.W.kitOne at e;exact absurd e (by cases ty<;>simp [PySem.W.kitCls])
  | str i=>obtain ⟨t1,rfl⟩:=(show ∃t,c=Value.str i t from rc);unfold PySem.W.kitOne at e;exact absurd e (by cases ty<;>simp [PySem.W.kitCls])
  | CQ i=>obtain ⟨t1,rfl⟩:=(show ∃t,c=Value.bytes i t from rc);unfold PySem.W.kitOne at e;exact absurd e (by cases ty<;>simp [PySem.W.kitCls])
  | flt i=>obtain ⟨t1,rfl⟩:=(show ∃t,c=Value.float i t from rc);unfold PySem.W.kitOne at e;exact absurd e (by cases ty<;>simp [PySem.W.kitCls])
 subst this;exact GF I r1 ty e fun tk=>⟨.bl b,H,I.tok _,rfl,q⟩
end
section
variable {prog:Program} {w:World} {A:Around}
theorem Ar (hh:A.handled=none) (it a:Addr) (hne:it≠a) (its:List Value):Walks prog w A it [it,a] [it] its.length (fun i v=>its[i]? = some v) (fun i h=>h.IsListIter it a i/\h.IsList a its.toArray) where
 sub:=by simp
 frame:=fun i h h' ⟨s1,o,ho,hc⟩ k=>⟨s1.at fun o e=>k it (by simp) o e,o,k a (by simp) o ho,hc⟩
 item:=fun i s Q E hi ⟨s1,s2⟩ hQ=>wpAny_pyNext_list_item s1 s2 (x:=its[i]) (by simp [hi]) fun h' st' sb=>
  hQ _ h' s.toks (by simp [hi]) ⟨st',s2.extBut sb.extBut hne.symm⟩ fun b o hb e=>(sb.2 b (by simpa using hb)).trans e
 done:=fun s Q E ⟨s1,s2⟩ hQ=>wpAny_pyNext_list_end hh s1 s2 (by simp) fun h' eb=>hQ h' s.toks fun b o hb e=>eb b o (by simpa using hb) e
 self:=fun i s Q E ⟨s1,_⟩ hQ=>wpAny_pyIter_listiter s1 hQ
end
section
variable {X:Cx}
theorem u5 (bs:List Bool):(List.range bs.length).all (fun i=>(bs[i]?).getD false)=bs.all id:=by
 rw [Bool.eq_iff_iff,List.all_eq_true,List.all_eq_true];constructor
 ·intro h b hb
  obtain ⟨i,hi,rfl⟩:=List.getElem_of_mem hb;have:=h i (by simpa using hi);simpa [hi] using this
 ·intro h i hi
  have hi':i<bs.length:=by simpa using hi
  simpa [hi'] using h bs[i] (List.getElem_mem hi')
theorem Aw {bs:List Bool}:∀{us:List Value},Vals (bs.map V.bl) us->us=bs.map Value.bool:=by
 induction bs with
 | nil=>intro us r;cases r;rfl
 | cons b bs ih=>
   intro us r;cases r with
   | cons r rs=>cases (show _=Value.bool b from r);rw [ih rs];rfl
theorem uD (hc:X.calm=true):gF X (.builtin "all") (fun xs H Q=>∃(p:Addr) (bs:List Bool),xs=[.ref p]/\bw X.K H p (bs.map V.bl)/\Q (.bl (bs.all id)) H):=by
 intro pins s σ H xs us Q I r h;obtain ⟨p,bs,rfl,hq,q⟩:=h;obtain ⟨u,rfl,rx⟩:=vals1 r;cases rx;obtain ⟨its,rv,pl,hz⟩:=I.list hq;have e:=Aw rv;have hlen:its.length=bs.length:=by rw [e,List.length_map]
 refine call_all_walk (wpAny_pyIter_list pl.isList ⟨s.heap.objs.size,[s.heap.objs.size,p],[s.heap.objs.size],its.length,_,_,fun i=>(bs[i]?).getD false,rfl,
  Ar (show X.A.in1.handled=none from I.ok.hd hc) s.heap.objs.size p ?_ its,⟨⟨_,Heap.get?_push_size _ rfl,rfl,rfl⟩, ?_⟩, ?_, ?_⟩)
 ·intro z
  obtain ⟨o,ho,_⟩:=pl.isList;have:=Heap.lt_size ho;rw [←z] at this;exact Nat.lt_irrefl _ this
 ·obtain ⟨o,ho,hcl⟩:=pl.isList
  exact ⟨o,Heap.get?_push_of_some _ ho,hcl⟩
 ·intro i v s1 Q1 E1 hP hQ
  rw [e,List.getElem?_map] at hP;cases r:bs[i]? with
  | none=>rw [r] at hP;cases hP
  | some b=>
    rw [r] at hP;cases hP;simp only [r,Option.getD_some] at hQ;exact wpAny_truthy_bool hQ
 ·intro h' tk k
  rw [hlen,u5];have f:=I.xq (H':=H) (b:=s.heap.objs.size) (Nat.le_refl _) (I.hok.fresh (Nat.le_refl _));have I2:Inv X pins σ H {s with heap:=h',toks:=tk}:=I.turned (h':=h') (t':=tk) (it:=s.heap.objs.size) (fun b o hb e=>k b o (by simpa using hb) (Heap.get?_push_of_some _ e)) f.1 f.2.1 f.2.2.2.1 f.2.2.2.2.1 f.2.2.2.2.2;exact ⟨.bl _,H,I2,rfl,q⟩
end
end L2
set_option Elab.async false
set_option linter.all false
set_option maxRecDepth 100000
set_option maxHeartbeats 4000000
namespace L2
open PySem PySem.Spec PyProof.Rows
def FnAt (P:Program) (w:World) (K:PySem.W.Frag) (mg:Str->Option Value) (base:Heap) (k:Nat) (x:Str) (ps:List Str) (sp:Sp):Prop:=
 ∃f fd,cU P w K mg base jC k f fd ps sp/\mg x=some (.ref f)/\PySem.W.keepIn K (.ref f)=true/\Binds K fd ps []
section
variable {X:Cx} {k j:Nat} {x:Str} {ps:List Str} {sp:Sp} {e:Expr} {es:List Expr} {t:TA} {p pos:Pos}
theorem bO (F:FnAt X.prog X.w X.K X.mg X.base k x ps sp) (hr:cY k X.A) (hg:Gl X x) (ha:PA X (e::es) t) (hd:(x==("__debug__" :Str))=false:=by decide)
 (he:starEach (e::es) X.env=(false,eval e X.env)::starEach es X.env:=by rfl) (hpl:(backTo pos (starEach es X.env)).any (·.1)=false:=by rfl):
 PE X (.Call (.Name x p) (e::es) [] pos) (O1 sp [] E0 t):=by
 obtain ⟨f,fd,G,hm,hk,hb⟩:=F;exact MN G hr hg hm hk hb .nil yN ha (hdb:=hd) (he:=he) (hpl:=hpl)
end
theorem CT:bootBuiltins "all" = some (.builtin "all"):=by kernel_rfl
theorem dD:bootBuiltins "len" = some (.builtin "len"):=by kernel_rfl
theorem Ky:bootBuiltins "max" = some (.builtin "max"):=by kernel_rfl
theorem qp:bootBuiltins "sorted" = some (.builtin "sorted"):=by kernel_rfl
theorem bY:bootBuiltins "isinstance" = some (.builtin "isinstance"):=by kernel_rfl
theorem Kz:bootBuiltins "int" = some (.type "int"):=by kernel_rfl
theorem Fp:bootBuiltins "bool" = some (.type "bool"):=by kernel_rfl
theorem oY:bootBuiltins "list" = some (.type "list"):=by kernel_rfl
theorem uE:bootBuiltins "tuple" = some (.type "tuple"):=by kernel_rfl
theorem uF:bootBuiltins "str" = some (.type "str"):=by kernel_rfl
section
variable {X:Cx}
end
def Kp (r:Addr) (H H':Hp):Prop:=∀b o,H b=some o->b≠r->H' b=some o
theorem Kp.of_same {r:Addr} {H H':Hp} (h:Same H H'):Kp r H H':=fun b o e _=>h b o e
theorem Kp.trans {r:Addr} {H H1 H2:Hp} (a:Kp r H H1) (b:Kp r H1 H2):Kp r H H2:=fun c o h n=>b c o (a c o h n) n
theorem Kp.refl (r:Addr) (H:Hp):Kp r H H:=fun _ _ h _=>h
theorem Kp.set {r:Addr} {H:Hp} {o:HO}:Kp r H (upd H r o):=fun b u e n=>by rw [aR n];exact e
theorem aG {H:Hp} {p:Addr} {o:HO} (h:H p=none):Same H (upd H p o):=fun b u e=>by rw [aR (aA e h)];exact e
theorem Same.tups {H H':Hp} (e:Same H H'):∀a xs,H a=some (HO.tup xs)->H' a=some (HO.tup xs):=fun a xs h=>e _ _ h
theorem Same.Wf {K:PySem.W.Frag} {H H':Hp} (e:Same H H'):∀a xs,bw K H a xs->bw K H' a xs:=fun a xs h=>e.seq h
theorem Kp.tups {H H':Hp} {r:Addr} {ys:List V} (e:Kp r H H') (hr:H r=some (.lst ys)):∀a xs,H a=some (HO.tup xs)->H' a=some (HO.tup xs):=fun a xs h=>e _ _ h (qF h hr (by intro z;cases z))
end L2
namespace L2
open PySem PySem.Spec PyProof.Rows
section
variable {X:Cx} {K:PySem.W.Frag}
theorem aH (h:X.K=K):HJ X (Qt K):=by subst h;exact Eo
theorem cO (h:X.K=K):HJ X (wJ K):=by subst h;exact J1
theorem En (h:X.K=K):HJ X (rIx K):=by subst h;exact Rn
theorem Dy (h:X.K=K):SlR X (Tr K):=by subst h;exact Qm
def Tw (K:PySem.W.Frag):List V->Hp->VK->Prop:=fun xs H Q=>∃(p:Addr) (ys:List V),xs=[.ref p]/\(bw K H p ys\/fY K H p ys)/\Q (.int ys.length) H
theorem aU (h:X.K=K):gF X (.builtin "len") (Tw K):=by subst h;exact xH
def Ml (K:PySem.W.Frag):List V->Hp->VK->Prop:=fun xs H Q=>∃(p:Addr) (ys:List V),xs=[.ref p]/\(bw K H p ys\/fY K H p ys) /\ ∀l,H l=none->Q (.ref l) (upd H l (.lst ys))
theorem vh (h:X.K=K):gF X (.type "list") (Ml K):=by subst h;exact xG
def TQ (K:PySem.W.Frag):List V->Hp->VK->Prop:=fun xs H Q=>∃(p:Addr) (bs:List Bool),xs=[.ref p]/\bw K H p (bs.map V.bl)/\Q (.bl (bs.all id)) H
theorem iy (h:X.K=K) (hc:X.calm=true):gF X (.builtin "all") (TQ K):=by subst h;exact uD hc
theorem Ef (h:X.K=K) (hu:X.A.units+64<cLine):nR X (compareOp .Eq) (TJ false):=by subst h;exact QK hu
theorem iY {tg l:Expr} {tl:TE} (h:X.K=K) (hl:PE X l tl):PI X tg l (Pr K tl):=by subst h;exact Mw hl
theorem Mv {tg l:Expr} {tl:TE} (h:X.K=K) (hl:PE X l tl):PI X tg l (Uv K tl):=by subst h;exact Qx hl
def YJ (K:PySem.W.Frag) (c:Value) (cv:V):List V->Hp->VK->Prop:=fun xs H Q=>∃x t b,xs=[x,cv]/\nO K H x t/\PySem.W.kitOne K t c=some b/\Q (.bl b) H
theorem eY {c:Value} {cv:V} (h:X.K=K) (rc:RelV cv c):gF X (.builtin "isinstance") (YJ K c cv):=by subst h;exact Kw rc
theorem cW {o e:Expr} {to:TE} {t:TA} {apos cpos:Pos} (h:X.K=K) (ho:PE X o to) (ha:PA X [e] t)
 (hbase:attributeBase o "append" X.env (eval o X.env)=eval o X.env:=by rfl)
 (hfew:((backTo cpos (starEach [e] X.env)).all (fun x=> !x.1)&&(backToKw cpos (keywordEach [] X.env)).all (fun x=>x.1.isSome)
   && decide (([e]:List Expr).length+([]:List Keyword).length+(if ([]:List Keyword).isEmpty then 0 else 1)<30))=true:=by rfl)
 (hline:(apos.endLine==cpos.line)=true:=by rfl) (hs:starEach [e] X.env=(false,eval e X.env)::starEach [] X.env:=by rfl) (hplain:(backTo cpos (starEach [] X.env)).any (·.1)=false:=by rfl):
 PE X (.Call (.Attribute o "append" apos) [e] [] cpos) (XR K "list" DP to t):=by
 subst h;exact O_ PySem.F.plainAttrs_list PySem.F.slot_list_append PySem.F.type_list_append pW ho ha hbase hfew hline hs hplain
end
end L2
namespace L2
open PySem
section
variable {K:PySem.W.Frag} {a D:Addr} {xs:List V} {g:TG} {tc:TT} {te:TE} {Q:VK} {σ0:St} {H1:Hp}
theorem vQ (Pv:Nat->St->Hp->Prop) (h0:Pv 0 σ0 (upd H1 D (.lst []))) (hl:∀i σ H,i<=xs.length->Pv i σ H->bw K H a xs)
 (hs:∀i x σ H,xs[i]? = some x->Pv i σ H->g x σ H fun σ2 H2=>tc σ2 H2 fun b H3=>
   if b=true then te σ2 H3 fun y H4=>∃acc,H4 D=some (.lst acc)/\acc.length<sizeLine/\Pv (i+1) σ2 (upd H4 D (.lst (acc++[y]))) else Pv (i+1) σ2 H3)
 (hd:∀σ H,Pv xs.length σ H->Q (.ref D) H):m9 (P_ K a) g tc te Q D σ0 H1:=by
 refine ⟨fun i m σ H=>m=xs.length - i/\i<=xs.length/\Pv i σ H,⟨xs.length,by simp,Nat.zero_le _,h0⟩, ?_⟩;rintro i m σ H ⟨rfl,hi,p⟩;have q:=hl i σ H hi p
 by_cases hlt:i<xs.length
 ·refine .inr ⟨⟨xs,xs[i],q,by simp [hlt]⟩,Pv (i+1),fun σ' H' p'=>⟨xs.length - (i+1),by omega,rfl,hlt,p'⟩,fun x H' y=> ?_⟩
  obtain ⟨e,y⟩:=y;subst e;exact hs i x σ _ (y xs q) p
 ·have e:i=xs.length:=by omega
  subst e;exact .inl ⟨⟨xs,q,Nat.le_refl _⟩,hd σ H p⟩
theorem Ks (Pv:Nat->St->Hp->Prop) (h0:Pv 0 σ0 (upd H1 D (.lst []))) (hl:∀i σ H,i<=xs.length->Pv i σ H->fY K H a xs)
 (hs:∀i x σ H,xs[i]? = some x->Pv i σ H->g x σ H fun σ2 H2=>tc σ2 H2 fun b H3=>
   if b=true then te σ2 H3 fun y H4=>∃acc,H4 D=some (.lst acc)/\acc.length<sizeLine/\Pv (i+1) σ2 (upd H4 D (.lst (acc++[y]))) else Pv (i+1) σ2 H3)
 (hd:∀σ H,Pv xs.length σ H->Q (.ref D) H):m9 (Xo K a) g tc te Q D σ0 H1:=by
 refine ⟨fun i m σ H=>m=xs.length - i/\i<=xs.length/\Pv i σ H,⟨xs.length,by simp,Nat.zero_le _,h0⟩, ?_⟩;rintro i m σ H ⟨rfl,hi,p⟩;have q:=hl i σ H hi p
 by_cases hlt:i<xs.length
 ·refine .inr ⟨⟨xs,xs[i],q,by simp [hlt]⟩,Pv (i+1),fun σ' H' p'=>⟨xs.length - (i+1),by omega,rfl,hlt,p'⟩,fun x H' y=> ?_⟩
  obtain ⟨e,y⟩:=y;subst e;exact hs i x σ _ (y xs q) p
 ·have e:i=xs.length:=by omega
  subst e;exact .inl ⟨⟨xs,q,Nat.le_refl _⟩,hd σ H p⟩
theorem j_ {lo:Int} {n:Nat} (Pv:Nat->St->Hp->Prop) (h0:Pv 0 σ0 (upd H1 D (.lst [])))
 (hs:∀i σ H,i<n->Pv i σ H->g (.int (lo+i)) σ H fun σ2 H2=>tc σ2 H2 fun b H3=>
   if b=true then te σ2 H3 fun y H4=>∃acc,H4 D=some (.lst acc)/\acc.length<sizeLine/\Pv (i+1) σ2 (upd H4 D (.lst (acc++[y]))) else Pv (i+1) σ2 H3)
 (hd:∀σ H,Pv n σ H->Q (.ref D) H):m9 (P0 lo n) g tc te Q D σ0 H1:=by
 refine ⟨fun i m σ H=>m=n - i/\i<=n/\Pv i σ H,⟨n,by simp,Nat.zero_le _,h0⟩, ?_⟩;rintro i m σ H ⟨rfl,hi,p⟩
 by_cases hlt:i<n
 ·refine .inr ⟨hlt,Pv (i+1),fun σ' H' p'=>⟨n - (i+1),by omega,rfl,hlt,p'⟩,fun x H' y=> ?_⟩
  obtain ⟨e,y⟩:=y;subst e y;exact hs i σ _ hlt p
 ·have e:i=n:=by omega
  subst e;exact .inl ⟨Nat.le_refl _,hd σ H p⟩
end
end L2
set_option Elab.async false
set_option linter.all false
set_option maxRecDepth 100000
set_option maxHeartbeats 4000000
namespace L2
open PySem PySem.Spec PyProof.Rows
section
variable {α:Type} (f:α->PyData)
theorem uz:∀(l:List α),(∀x∈l,(f x).canLay0=true)->PyData.canLayAll0 (l.map f)=true
 | [],_=>rfl
 | a::l,h=>by
   show (PyData.canLay0 (f a)&&PyData.canLayAll0 (l.map f))=true;rw [h a List.mem_cons_self,uz l fun x hx=>h x (List.mem_cons_of_mem _ hx)];rfl
theorem oV (k:Nat):∀(l:List α),(∀x∈l,(f x).depth<=k)->PyData.depthAll (l.map f)<=k
 | [],_=>Nat.zero_le _
 | a::l,h=>by
   show max (PyData.depth (f a)) (PyData.depthAll (l.map f))<=k;exact Nat.max_le.mpr ⟨h a List.mem_cons_self,oV k l fun x hx=>h x (List.mem_cons_of_mem _ hx)⟩
theorem qx {l:List α} (k:Nat) (hk:k<64) (h1:∀x∈l,(f x).canLay0=true) (h2:∀x∈l,(f x).depth<=k):SeqAt.shaped (.list (l.map f))=true:=by
 unfold SeqAt.shaped;have e1:PyData.canLay0 (.list (l.map f))=true:=uz f l h1
 have e2:PyData.depth (.list (l.map f))<=64:=by
  show PyData.depthAll (l.map f)+1<=64;have:=oV f k l h2;omega
 rw [e1,decide_eq_true e2];rfl
theorem ug [DecidableEq α] (h:∀x y,PyData.eqv (f x) (f y)=decide (x=y)):∀(l m:List α),PyData.eqvAll (l.map f) (m.map f)=decide (l=m)
 | [],[]=>rfl
 | [],_::_=>by simp only [List.map_nil,List.map_cons,PyData.eqvAll];exact (decide_eq_false (by intro z;cases z)).symm
 | _::_,[]=>by simp only [List.map_nil,List.map_cons,PyData.eqvAll];exact (decide_eq_false (by intro z;cases z)).symm
 | a::l,b::m=>by
   simp only [List.map_cons,PyData.eqvAll];rw [h a b,ug h l m]
   by_cases e1:a=b
   ·subst e1
    by_cases e2:l=m
    ·subst e2;simp
    ·simp [e2]
   ·simp [e1]
theorem zO [DecidableEq α] (h:∀x y,PyData.eqv (f x) (f y)=decide (x=y)) (l m:List α):PyData.eqv (.list (l.map f)) (.list (m.map f))=decide (l=m):=by
 simp only [PyData.eqv];exact ug f h l m
end
theorem jc {H:Hp} {a:Addr} {vs:List V} {ds:List PyData} (h:H a=some (.lst vs)) (d:aM H vs ds):Dat H (.ref a) (.list ds):=by
 simp only [Dat];exact ⟨a,vs,rfl,h,d⟩
theorem qJ (K:PySem.W.Frag):PySem.W.kitOne K (.type "int") (.type "int")=some true:=rfl
theorem oO (K:PySem.W.Frag):PySem.W.kitOne K (.type "int") (.type "bool")=some false:=by kernel_rfl
theorem m7 (K:PySem.W.Frag):PySem.W.kitOne K (.type "list") (.type "list")=some true:=rfl
theorem kW (K:PySem.W.Frag):PySem.W.kitOne K (.type "tuple") (.type "tuple")=some true:=rfl
end L2
namespace L2
open PySem
theorem Ko (xs:List V) (k:Nat):qY xs none (some (k:Int))=xs.take k:=by
 unfold qY;rw [HT.yC,HT.Dz,List.drop_zero,Nat.sub_zero]
 by_cases h:k<=xs.length
 ·rw [Nat.min_eq_left h]
 ·rw [Nat.min_eq_right (by omega),List.take_of_length_le (Nat.le_refl _),List.take_of_length_le (by omega)]
theorem Kq (xs:List V) (k:Nat):qY xs (some (k:Int)) none=xs.drop k:=by
 unfold qY;rw [HT.yC,HT.Dz]
 by_cases h:k<=xs.length
 ·rw [Nat.min_eq_left h,List.take_of_length_le (by rw [List.length_drop];exact Nat.le_refl _)]
 ·rw [Nat.min_eq_right (by omega),Nat.sub_self,List.take_zero,List.drop_of_length_le (by omega)]
end L2
set_option Elab.async false
set_option linter.all false
set_option maxRecDepth 100000
set_option maxHeartbeats 4000000
namespace PySem.W
open PySem PySem.Spec PySem.Calls PyProof.Rows
section
variable {prog:Program} {w:World} {A:Around} {E:Value->Shared->Prop} {s:Shared} {K:Frag} {x D:Addr} {ox:Obj} {odo:Option Obj} {name:Str}
end
end PySem.W
set_option Elab.async false
set_option linter.all false
set_option maxRecDepth 100000
set_option maxHeartbeats 4000000
namespace L2
open PySem PySem.Spec PyProof.Rows
section
variable {M:Model} {A:Around} {E:Value->Shared->Prop} {s:Shared} {base:Heap} {env:Env} {outer:List Env} {L e:Addr}
end
section
variable {X:Cx} {pins:List (Addr×Obj)} {σ:St} {H:Hp} {s:Shared} {e:Addr}
end
end L2
set_option Elab.async false
set_option linter.all false
set_option maxRecDepth 100000
set_option maxHeartbeats 4000000
namespace L2
open PySem PySem.Spec PyProof.Rows
section
variable {X:Cx} {k:Nat} {x:Str} {ps:List Str} {sp:Sp} {e:Expr} {es:List Expr} {t:TA} {p pos:Pos} {E:St->XK}
end
section
variable {P:Program} {w:World} {K:PySem.W.Frag} {mg:Str->Option Value} {base:Heap}
end
section
variable {X:Cx} {E:St->XK} {x:Str} {C:Addr} {B newId initId:String} {bmB:List Value} {e0:Expr} {rest:List Expr} {ta:TA} {np cpos pos:Pos}
end
section
variable {X:Cx} {pins:List (Addr×Obj)} {σ:St} {H:Hp} {s:Shared}
end
section
variable {M:Model} {A:Around} {Er:Value->Shared->Prop} {s:Shared} {K:PySem.W.Frag} {e C D:Addr}
end
end L2
set_option Elab.async false
set_option linter.all false
set_option maxRecDepth 100000
set_option maxHeartbeats 4000000
namespace L2
open PySem PySem.Spec PyProof.Rows
section
variable {X:Cx} {pins:List (Addr×Obj)} {σ:St} {H:Hp} {s:Shared}
end
section
variable {X:Cx} {body suite:List Stmt} {b0:Stmt} {n cn:Str} {i:Nat} {Dc:Addr} {tb:(St->XK)->TS} {th:TS} {cp hpos pos:Pos}
end
section
variable {X:Cx} {K:PySem.W.Frag}
end
end L2
set_option Elab.async false
set_option linter.all false
set_option maxRecDepth 100000
set_option maxHeartbeats 4000000
namespace L2
open PySem PySem.Spec PyProof.Rows
section
variable {X:Cx} {K:PySem.W.Frag}
end
end L2
namespace L2
open PySem
end L2
set_option Elab.async false
set_option linter.all false
set_option maxRecDepth 100000
set_option maxHeartbeats 4000000
namespace L2
open PySem PySem.Spec PyProof.Rows
section
variable {X:Cx} {pins:List (Addr×Obj)} {σ:St} {H:Hp} {s:Shared} {h':Heap}
theorem Inv.Dp {t':Nat} {fp:List Addr} (I:Inv X pins σ H s) (hf:∀b∈fp,kI X pins H b) (k:∀b o,b∉fp->s.heap.get? b=some o->h'.get? b=some o):Inv X pins σ H {s with heap:=h',toks:=t'}:=by
 have Q0:∀b u,H b=some u->b∉fp:=fun b u e z=>by rw [(hf b z).1] at e;cases e
 refine I.step (g':=s.gens) (d':=s.drawn) (ch:=fp) (fun b hb=> ?_) (fun b o _ _ hc e _=>k b o hc e) (fun b o _ _ hc e _=>⟨o.slots,k b o hc e⟩) (fun _ _ _ _ n=>n)
  (fun b o hc e=>⟨o,k b o hc e⟩) (fun _ _ e=>e) (fun _ _ _ e=>e) (fun b ps e=>⟨#[],by rw [e];simp⟩) (fun m hm=> ?_) (fun b u e=> ?_) I.bare
 ·obtain ⟨f0,f1,f2,f3,f4,f5⟩:=hf b hb
  exact ⟨f3,f1,f4,f5⟩
 ·obtain ⟨o,es,ep,ho,r⟩:=hm
  exact ⟨o,es,ep,k _ o (fun z=>(hf _ z).2.1 rfl) ho,r⟩
 ·refine (I.hok b u e).stay (fun c v hc q=>k c v ?_ q) (fun _ q=>q) fun _ _ q=>q
  rcases hc with z|z
  ·rw [z];exact Q0 b u e
  ·exact Q0 c _ z
theorem kI.upd {b p:Addr} {o:HO} (h:kI X pins H b) (n:b≠p):kI X pins (upd H p o) b:=by
 obtain ⟨f0,r⟩:=h;exact ⟨by rw [aR n];exact f0,r⟩
theorem Kc {h:Heap} {o u:Obj} {b:Addr} (ho:o.isFreed=false) (e:(h.push o).get? b=some u):(b=h.objs.size/\u=o)\/h.get? b=some u:=by
 by_cases hb:b=h.objs.size
 ·subst hb
  rw [Heap.get?_push_size _ ho] at e;exact .inl ⟨rfl,(Option.some.inj e).symm⟩
 ·refine .inr ?_
  have lt:=Heap.lt_size e
  have Ww:b<h.objs.size:=by
   have:(h.push o).objs.size=h.objs.size+1:=by simp [Heap.push]
   rw [this] at lt;exact Nat.lt_of_le_of_ne (Nat.le_of_lt_succ lt) hb
  have:(h.push o).get? b=h.get? b:=by
   simp only [Heap.get?,Heap.push];rw [Array.getElem?_push_lt Ww,Array.getElem?_eq_getElem Ww]
  rw [←this];exact e
end
section
variable {X:Cx}
end
def Xn (K:PySem.W.Frag) (l1 l2:Addr):It:=
 ⟨fun i H=>∃xs ys x y,bw K H l1 xs/\bw K H l2 ys/\xs[i]? = some x/\ys[i]? = some y,
  fun i H x H'=>∃(p:Addr) (y z:V),x = .ref p/\H p=none/\(∀xs,bw K H l1 xs->xs[i]? = some y)/\(∀ys,bw K H l2 ys->ys[i]? = some z)/\H'=upd H p (.tup [y,z]),
  fun i H=>∃xs ys,bw K H l1 xs/\bw K H l2 ys/\(xs.length<=i\/ys.length<=i)⟩
theorem Ik {P:Program} {w:World} {K:PySem.W.Frag} {elts:List Expr} {x1:Nat} {pos:Pos} (z TI TO i1 i2 l1 l2:Addr) (ap:ZipApart z TI TO i1 i2 l1 l2):Turn P w K (.Tuple elts x1 pos) (Xn K l1 l2) [z,TI,TO,i1,i2] z
 (fun i h=>IsZip h z TI TO .none/\IsPair h TI (.ref i1) (.ref i2)/\(∃a b,IsPair h TO a b)/\h.IsListIter i1 l1 i/\h.IsListIter i2 l2 i) where
 mem:=by simp
 obj:=fun i h st b hb=>by
  obtain ⟨hz,hTI,⟨a,c,hTO⟩,⟨o1,h1,c1,d1⟩,⟨o2,h2,c2,d2⟩⟩:=st;have hb':b=z\/b=TI\/b=TO\/b=i1\/b=i2:=by simpa using hb
  rcases hb' with rfl|rfl|rfl|rfl|rfl
  ·exact ⟨_,hz,fun v z=>by cases z⟩
  ·exact ⟨_,hTI,fun v z=>by cases z⟩
  ·exact ⟨_,hTO,fun v z=>by cases z⟩
  ·exact ⟨_,h1,fun v z=>by rw [d1] at z;cases z⟩
  ·exact ⟨_,h2,fun v z=>by rw [d2] at z;cases z⟩
 keep:=fun i h h' st k=>by
  obtain ⟨hz,hTI,⟨a,c,hTO⟩,⟨o1,h1,c1,d1⟩,⟨o2,h2,c2,d2⟩⟩:=st;exact ⟨k z (by simp) _ hz,k TI (by simp) _ hTI,⟨a,c,k TO (by simp) _ hTO⟩,⟨o1,k i1 (by simp) _ h1,c1,d1⟩,⟨o2,k i2 (by simp) _ h2,c2,d2⟩⟩
 item:=by
  intro X hP hw hK hc i pins s σ H E I hf st hg;subst hP hw hK;obtain ⟨xs,ys,x,y,hq1,hq2,hx,hy⟩:=hg;obtain ⟨Us,Wj,p1,hz1⟩:=I.list hq1;obtain ⟨its2,Wi,p2,hz2⟩:=I.list hq2;obtain ⟨u1,hu1,ru1⟩:=Wj.get hx;obtain ⟨u2,hu2,ru2⟩:=Wi.get hy;obtain ⟨hz,hTI,⟨a,c,hTO⟩,hi1,hi2⟩:=st;have zlt:=Heap.lt_size hz;have adh:=Heap.lt_size hTI;have adg:=Heap.lt_size hTO;have abf:i1<s.heap.objs.size:=by obtain ⟨o,ho,_⟩:=id hi1;exact Heap.lt_size ho
  have abe:i2<s.heap.objs.size:=by obtain ⟨o,ho,_⟩:=id hi2;exact Heap.lt_size ho
  refine wpAny_pyNext_zip_item ap hz hTI hTO hi1 hi2 p1.isList p2.isList (x:=u1) (y:=u2) (by simpa using hu1) (by simpa using hu2) fun h' hz' abq abp hi2' hnew hsz hk=> ?_;refine ⟨_,rfl, ?_⟩;refine wpAny_letOwnedTupleGo_zip hz' fun h2 abg sb=> ?_;have hfr:H s.heap.objs.size=none:=I.hok.fresh (Nat.le_refl _)
  have I0:Inv X pins σ (upd H s.heap.objs.size (.tup [x,y])) {s with heap:=s.heap.push {cls:= .type "tuple",data:= .seq #[u1,u2]}}:=
   I.laid (t':=s.toks) (fun b u e=>Heap.get?_push_of_some _ e) (Nat.le_refl _) ⟨by show 2<=sizeLine;decide,[u1,u2],.cons ru1 (.cons ru2 .nil),⟨_,Heap.get?_push_size _ rfl,rfl,_,rfl⟩⟩
  have hf0:∀b∈[z,TI,TO,i1,i2],kI X pins (upd H s.heap.objs.size (.tup [x,y])) b:=fun b hb=>by
   refine (hf b hb).upd ?_;have hb':b=z\/b=TI\/b=TO\/b=i1\/b=i2:=by simpa using hb
   rcases hb' with rfl|rfl|rfl|rfl|rfl
   ·exact Nat.ne_of_lt zlt
   ·exact Nat.ne_of_lt adh
   ·exact Nat.ne_of_lt adg
   ·exact Nat.ne_of_lt abf
   ·exact Nat.ne_of_lt abe
  have I1:=I0.Dp (h':=h2) (t':=s.toks) hf0 (fun b o hb eb=>by
   have b1:b≠z:=fun e=>hb (by simp [e]);have b2:b≠TO:=fun e=>hb (by simp [e]);have b3:b≠i1:=fun e=>hb (by simp [e]);have b4:b≠i2:=fun e=>hb (by simp [e]);rw [sb.2 b b1];rcases Kc rfl eb with ⟨rfl,rfl⟩|eb
   ·exact hnew
   ·exact hk b o b1 b2 b3 b4 eb)
  refine ⟨.ref s.heap.objs.size,_,I1,rfl,⟨s.heap.objs.size,x,y,rfl,hfr,fun ys hy=>by rw [I.tQ hy hq1];exact hx,fun ys' hy'=>by rw [I.tQ hy' hq2];exact hy,rfl⟩, ?_,fun b hb=>(hf0 b hb).1⟩;obtain ⟨o1,ho1,c1,d1⟩:=abp;obtain ⟨o2,ho2,c2,d2⟩:=hi2';exact ⟨abg,(sb.2 TI ap.TIz).trans (hk TI _ ap.TIz ap.TITO ap.TIi1 ap.TIi2 hTI),⟨_,_,(sb.2 TO ap.TOz).trans abq⟩,⟨o1,(sb.2 i1 ap.i1z).trans ho1,c1,d1⟩,⟨o2,(sb.2 i2 ap.i2z).trans ho2,c2,d2⟩⟩
 done:=by
  intro X hP hw hK hc i pins s σ H E I hf st hg;subst hP hw hK;obtain ⟨xs,ys,hq1,hq2,hx⟩:=hg;obtain ⟨Us,Wj,p1,hz1⟩:=I.list hq1;obtain ⟨its2,Wi,p2,hz2⟩:=I.list hq2;obtain ⟨hz,hTI,⟨a,c,hTO⟩,hi1,hi2⟩:=st;have hl1:=Wj.length;have hl2:=Wi.length;refine wpAny_pyNext_zip_end (I.ok.hd hc) ap hz hTI hTO hi1 hi2 p1.isList p2.isList ?_ fun h' eb=>⟨rfl,I.Dp (t':=s.toks) hf (fun b o hb e=>eb b o (fun z=>hb (by simp [z])) (fun z=>hb (by simp [z])) (fun z=>hb (by simp [z])) (fun z=>hb (by simp [z])) e)⟩;rcases hx with hx|hx
  ·exact .inl (by simp;omega)
  ·exact .inr (by simp;omega)
 self:=fun _ _ _ _ _ st h=>wpAny_pyIter_zip st.1 h
section
variable {X:Cx}
def abd (K:PySem.W.Frag) (ta:TA):TI:=fun σ H R=>ta σ H fun vs H1=>∃l1 l2 xs ys,vs=[.ref l1,.ref l2]/\bw K H1 l1 xs/\bw K H1 l2 ys/\R (Xn K l1 l2) H1
theorem Mu {K:PySem.W.Frag} {a b:Expr} {ta:TA} {p pos:Pos} {elts:List Expr} {x1:Nat} {tpos:Pos} (hK:X.K=K) (hg:Gl X "zip") (hm:X.mg "zip" = none) (ha:PA X [a,b] ta) (hs:starEach [a,b] X.env=[(false,eval a X.env),(false,eval b X.env)]:=by rfl) (hs2:starEach [b] X.env=[(false,eval b X.env)]:=by rfl):PI X (.Tuple elts x1 tpos) (.Call (.Name "zip" p) [a,b] [] pos) (abd K ta):=by
 subst hK;intro pins s σ H R I h;refine Call_ (lQ I hg hm boot_zip (PyProof.Rows.callWith_type1 (cM (ha pos pins s σ H _ I h) fun us s1 ⟨vs,H1,I1,r1,q1⟩=> ?_) (by rw [hs,hs2]) (by rw [hs2];rfl)));obtain ⟨l1,l2,xs,ys,e,hq1,hq2,q⟩:=q1;subst e;cases r1 with
 | cons r rr=>
   cases rr with
   | cons r' rr=>
     cases rr;cases r;cases r';obtain ⟨Us,Wj,oH,hz1⟩:=I1.list hq1;obtain ⟨its2,Wi,pl2,hz2⟩:=I1.list hq2;have lt1:l1<s1.heap.objs.size:=by obtain ⟨o,ho,_⟩:=oH.isList;exact Heap.lt_size ho
     have Ww:l2<s1.heap.objs.size:=by obtain ⟨o,ho,_⟩:=pl2.isList;exact Heap.lt_size ho
     refine call_zip_2 oH.isList pl2.isList fun h' hZ hTI hTO hi1 hi2 hsz hk=> ?_;refine wpAny_pyIter_zip hZ ?_;have I2:Inv X pins σ H1 {s1 with heap:=h'}:=I1.kept (t':=s1.toks) hk;refine ⟨s1.heap.objs.size+4,[s1.heap.objs.size+4,s1.heap.objs.size+2,s1.heap.objs.size+3,s1.heap.objs.size,s1.heap.objs.size+1],_,_,H1,rfl,I2,Ik _ _ _ _ _ l1 l2 (zipApart_new lt1 Ww),⟨hZ,hTI,⟨_,_,hTO⟩,hi1,hi2⟩,fun b hb=> ?_,q⟩
     have hb':s1.heap.objs.size<=b:=by
      have:b=s1.heap.objs.size+4\/b=s1.heap.objs.size+2\/b=s1.heap.objs.size+3\/b=s1.heap.objs.size\/b=s1.heap.objs.size+1:=by simpa using hb
      rcases this with rfl|rfl|rfl|rfl|rfl
      ·exact Nat.le_add_right _ _
      ·exact Nat.le_add_right _ _
      ·exact Nat.le_add_right _ _
      ·exact Nat.le_refl _
      ·exact Nat.le_add_right _ _
     exact I1.xq hb' (I1.hok.fresh hb')
end
end L2
set_option Elab.async false
set_option linter.all false
set_option maxRecDepth 100000
set_option maxHeartbeats 4000000
namespace L2
open PySem PySem.Spec PyProof.Rows
section
variable {K:PySem.W.Frag} {a l1 l2 D:Addr} {xs ys:List V} {g:TG} {tc:TT} {te:TE} {Q:VK} {σ0:St} {H1:Hp}
theorem Kr {n:Nat} (hn1:xs.length=n) (hn2:ys.length=n) (Pv:Nat->St->Hp->Prop) (h0:Pv 0 σ0 (upd H1 D (.lst []))) (hl:∀i σ H,i<=n->Pv i σ H->bw K H l1 xs/\bw K H l2 ys)
 (hs:∀i x y σ H p,xs[i]? = some x->ys[i]? = some y->Pv i σ H->H p=none->g (.ref p) σ (upd H p (.tup [x,y])) fun σ2 H2=>tc σ2 H2 fun b H3=>
   if b=true then te σ2 H3 fun y H4=>∃acc,H4 D=some (.lst acc)/\acc.length<sizeLine/\Pv (i+1) σ2 (upd H4 D (.lst (acc++[y]))) else Pv (i+1) σ2 H3)
 (hd:∀σ H,Pv n σ H->Q (.ref D) H):m9 (Xn K l1 l2) g tc te Q D σ0 H1:=by
 refine ⟨fun i m σ H=>m=n - i/\i<=n/\Pv i σ H,⟨n,by simp,Nat.zero_le _,h0⟩, ?_⟩;rintro i m σ H ⟨rfl,hi,p⟩;obtain ⟨q1,q2⟩:=hl i σ H hi p
 by_cases hlt:i<n
 ·refine .inr ⟨⟨xs,ys,xs[i],ys[i],q1,q2,by simp [hn1,hlt],by simp [hn2,hlt]⟩,Pv (i+1),fun σ' H' p'=>⟨n - (i+1),by omega,rfl,hlt,p'⟩,fun x H' y=> ?_⟩
  obtain ⟨t,z,u,rfl,ht,hz,hu,rfl⟩:=y;exact hs i z u σ _ t (hz xs q1) (hu ys q2) p ht
 ·have e:i=n:=by omega
  subst e;exact .inl ⟨⟨xs,ys,q1,q2,.inl (by omega)⟩,hd σ H p⟩
end
section
variable {K:PySem.W.Frag} {a l1 l2:Addr} {xs ys:List V} {g:TG} {tb:TS} {D:Ends} {σ:St} {H:Hp}
end
section
variable {X:Cx}
theorem pU {K:PySem.W.Frag} {T name id:String} {r:V->List V->Hp->VK->Prop} {o e:Expr} {es:List Expr} {to:TE} {t:TA} {apos cpos:Pos} (h:X.K=K) (pa:PlainAttrs T) (slot:Slot T name id) (hty:typeOf (.builtin id)=pure (.type "method_descriptor")) (hm:MtR X id r) (ho:PE X o to) (ha:PA X (e::es) t)
 (hbase:attributeBase o name X.env (eval o X.env)=eval o X.env:=by rfl)
 (hfew:((backTo cpos (starEach (e::es) X.env)).all (fun x=> !x.1)&&(backToKw cpos (keywordEach [] X.env)).all (fun x=>x.1.isSome)
   && decide ((e::es).length+([]:List Keyword).length+(if ([]:List Keyword).isEmpty then 0 else 1)<30))=true:=by rfl)
 (hline:(apos.endLine==cpos.line)=true:=by rfl) (hs:starEach (e::es) X.env=(false,eval e X.env)::starEach es X.env:=by rfl) (hplain:(backTo cpos (starEach es X.env)).any (·.1)=false:=by rfl):
 PE X (.Call (.Attribute o name apos) (e::es) [] cpos) (XR K T r to t):=by
 subst h;exact O_ pa slot hty hm ho ha hbase hfew hline hs hplain
theorem rE {K:PySem.W.Frag} {es:List Expr} {k:Nat} {t:PX} {n:Nat} {pos:Pos} (hK:X.K=K) (hc:X.calm=true) (h:V4 X es t)
 (hn:(assignEach es X.env).length=n:=by rfl) (hst:(assignEach es X.env).findIdx? (·.1)=none:=by rfl):PG X (.Tuple es k pos) (Rw K n t):=by subst hK;exact Qy hc h hn hst
end
end L2
set_option Elab.async false
set_option linter.all false
set_option maxRecDepth 100000
set_option maxHeartbeats 4000000
namespace L2
open PySem
section
variable {K:PySem.W.Frag} {a D:Addr} {xs:List V} {tc:TT} {te:TE} {Q:VK} {rest:St} {H1:Hp}
theorem fJ {α:Type} (f:Nat->Option α) (n:Nat):(List.range (n+1)).filterMap f=(List.range n).filterMap f++(f n).toList:=by
 rw [List.range_succ,List.filterMap_append];cases h:f n<;>simp [h]
theorem uf {α:Type} (f:Nat->Option α) (n:Nat):((List.range n).filterMap f).length<=n:=by
 have:=List.length_filterMap_le f (List.range n);simpa using this
theorem Same.newly {H H1:Hp} {D:Addr} {o:HO} (h:Same H H1) (n:H D=none):Same H (upd H1 D o):=fun b u e=>by rw [aR (aA e n)];exact h b u e
theorem uq (f:Nat->Option V) (hD:H1 D=none) (hq:bw K H1 a xs) (hx:xs.length<=100000)
 (hs:∀i x H (G:Hp->Prop) (F:VK),xs[i]? = some x->Same H1 H->(∀H',Same H H'->f i=none->G H')->(∀y H',Same H H'->f i=some y->F y H')->tc (some x::rest) H fun b H3=>if b=true then te (some x::rest) H3 F else G H3)
 (hd:∀H,Same H1 H->H D=some (.lst ((List.range xs.length).filterMap f))->Q (.ref D) H):m9 (P_ K a) (dZ 0) tc te Q D (none::rest) H1:=by
 refine vQ (K:=K) (xs:=xs) (fun i σ H=>(∃v,σ=v::rest)/\Same H1 H/\H D=some (.lst ((List.range i).filterMap f))) ⟨⟨none,rfl⟩,aG hD,aq⟩ (fun i σ H _ ⟨_,sm,_⟩=>sm.Wf _ _ hq) ?_ (fun σ H ⟨_,sm,e⟩=>hd H sm e);rintro i x σ H hi ⟨⟨v,rfl⟩,sm,e⟩;have hil:i<xs.length:=(List.getElem?_eq_some_iff.mp hi).1;refine hs i x H _ _ hi sm (fun H3 s3 ef=>⟨⟨_,rfl⟩,sm.trans s3,by rw [s3 _ _ e,fJ,ef];simp⟩) (fun y H4 s4 ef=> ?_);refine ⟨_,s4 _ _ e, ?_,⟨_,rfl⟩,(sm.trans s4).newly hD, ?_⟩
 ·have:=uf f i
  rw [sizeLine_eq];omega
 ·rw [aq,fJ,ef];rfl
theorem G_ (f:Nat->Option V) (hD:H1 D=none) (hq:H1 a=some (.tup xs)) (hx:xs.length<=100000)
 (hs:∀i x H (G:Hp->Prop) (F:VK),xs[i]? = some x->Same H1 H->(∀H',Same H H'->f i=none->G H')->(∀y H',Same H H'->f i=some y->F y H')->tc (some x::rest) H fun b H3=>if b=true then te (some x::rest) H3 F else G H3)
 (hd:∀H,Same H1 H->H D=some (.lst ((List.range xs.length).filterMap f))->Q (.ref D) H):m9 (Xo K a) (dZ 0) tc te Q D (none::rest) H1:=by
 refine Ks (K:=K) (xs:=xs) (fun i σ H=>(∃v,σ=v::rest)/\Same H1 H/\H D=some (.lst ((List.range i).filterMap f))) ⟨⟨none,rfl⟩,aG hD,aq⟩ (fun i σ H _ ⟨_,sm,_⟩=>fY.of (sm.tups _ _ hq)) ?_ (fun σ H ⟨_,sm,e⟩=>hd H sm e);rintro i x σ H hi ⟨⟨v,rfl⟩,sm,e⟩;have hil:i<xs.length:=(List.getElem?_eq_some_iff.mp hi).1;refine hs i x H _ _ hi sm (fun H3 s3 ef=>⟨⟨_,rfl⟩,sm.trans s3,by rw [s3 _ _ e,fJ,ef];simp⟩) (fun y H4 s4 ef=> ?_);refine ⟨_,s4 _ _ e, ?_,⟨_,rfl⟩,(sm.trans s4).newly hD, ?_⟩
 ·have:=uf f i
  rw [sizeLine_eq];omega
 ·rw [aq,fJ,ef];rfl
theorem iU {n:Nat} (f:Nat->Option V) (hD:H1 D=none) (hx:n<=100000)
 (hs:∀i H (G:Hp->Prop) (F:VK),i<n->Same H1 H->(∀H',Same H H'->f i=none->G H')->(∀y H',Same H H'->f i=some y->F y H')->tc (some (.int (0+i))::rest) H fun b H3=>if b=true then te (some (.int (0+i))::rest) H3 F else G H3)
 (hd:∀H,Same H1 H->H D=some (.lst ((List.range n).filterMap f))->Q (.ref D) H):m9 (P0 0 n) (dZ 0) tc te Q D (none::rest) H1:=by
 refine j_ (lo:=0) (n:=n) (fun i σ H=>(∃v,σ=v::rest)/\Same H1 H/\H D=some (.lst ((List.range i).filterMap f))) ⟨⟨none,rfl⟩,aG hD,aq⟩ ?_ (fun σ H ⟨_,sm,e⟩=>hd H sm e);rintro i σ H hi ⟨⟨v,rfl⟩,sm,e⟩;refine hs i H _ _ hi sm (fun H3 s3 ef=>⟨⟨_,rfl⟩,sm.trans s3,by rw [s3 _ _ e,fJ,ef];simp⟩) (fun y H4 s4 ef=> ?_);refine ⟨_,s4 _ _ e, ?_,⟨_,rfl⟩,(sm.trans s4).newly hD, ?_⟩
 ·have:=uf f i
  rw [sizeLine_eq];omega
 ·rw [aq,fJ,ef];rfl
theorem G9 {l1 l2:Addr} {ys:List V} {n:Nat} (hn1:xs.length=n) (hn2:ys.length=n) (f:Nat->Option V) (hD:H1 D=none) (hq1:bw K H1 l1 xs) (hq2:bw K H1 l2 ys) (hx:n<=100000)
 (hs:∀i x y H (G:Hp->Prop) (F:VK),xs[i]? = some x->ys[i]? = some y->Same H1 H->(∀H',Same H H'->f i=none->G H')->(∀y H',Same H H'->f i=some y->F y H')->tc (some x::some y::rest) H fun b H3=>if b=true then te (some x::some y::rest) H3 F else G H3)
 (hd:∀H,Same H1 H->H D=some (.lst ((List.range n).filterMap f))->Q (.ref D) H):m9 (Xn K l1 l2) (Rw K 2 (Kf (dZ 0) (Kf (dZ 1) UG))) tc te Q D (none::none::rest) H1:=by
 refine Kr (K:=K) (xs:=xs) (ys:=ys) hn1 hn2 (fun i σ H=>(∃u v,σ=u::v::rest)/\Same H1 H/\H D=some (.lst ((List.range i).filterMap f))) ⟨⟨none,none,rfl⟩,aG hD,aq⟩ (fun i σ H _ ⟨_,sm,_⟩=>⟨sm.Wf _ _ hq1,sm.Wf _ _ hq2⟩) ?_ (fun σ H ⟨_,sm,e⟩=>hd H sm e);rintro i x y σ H p hix hiy ⟨⟨u,v,rfl⟩,sm,e⟩ hp;have sp:=aG (o:=HO.tup [x,y]) hp;refine ⟨p,[x,y],rfl,fY.of aq,rfl,_,_,rfl,_,_,rfl,rfl, ?_⟩;have hil:i<xs.length:=(List.getElem?_eq_some_iff.mp hix).1;refine hs i x y _ _ _ hix hiy (sm.trans sp) (fun H3 s3 ef=>⟨⟨_,_,rfl⟩,(sm.trans sp).trans s3,by rw [s3 _ _ (sp _ _ e),fJ,ef];simp⟩) (fun y H4 s4 ef=> ?_);refine ⟨_,s4 _ _ (sp _ _ e), ?_,⟨_,_,rfl⟩,((sm.trans sp).trans s4).newly hD, ?_⟩
 ·have:=uf f i
  rw [sizeLine_eq];omega
 ·rw [aq,fJ,ef];rfl
theorem zN {α β:Type} {f g:α->Option β}:∀(l:List α) (_:True) (h:∀x∈l,f x=g x),l.filterMap f=l.filterMap g
 | [],_,_=>rfl
 | x::l,_,h=>by
   rw [List.filterMap_cons,List.filterMap_cons,h x (by simp),zN l trivial fun y hy=>h y (by simp [hy])]
theorem snocInd {α:Type} {P:List α->Prop} (h0:P []) (hs:∀xs x,P xs->P (xs++[x])) (xs:List α):P xs:=by
 rw [←List.reverse_reverse xs]
 induction xs.reverse with
 | nil=>exact h0
 | cons x l ih=>rw [List.reverse_cons];exact hs _ _ ih
theorem Ez {α β:Type} (xs:List α) (g:α->β):(List.range xs.length).filterMap (fun i=>(xs[i]?).map g)=xs.map g:=by
 refine snocInd (P:=fun xs=>(List.range xs.length).filterMap (fun i=>(xs[i]?).map g)=xs.map g) rfl (fun xs x ih=> ?_) xs
 ·show (List.range (xs++[x]).length).filterMap (fun i=>((xs++[x])[i]?).map g)=(xs++[x]).map g
  rw [List.length_append,List.length_singleton,fJ,List.map_append];congr 1
  ·rw [←ih]
   refine zN _ trivial fun i hi=> ?_;have:i<xs.length:=by simpa using hi
   rw [List.getElem?_append_left this]
  ·simp
end
end L2
namespace L2
open PySem
section
variable {X:Cx} {K:PySem.W.Frag}
theorem Jz (h:X.K=K):nR X (binaryOp .Add) (O8 K):=by subst h;exact MP
end
end L2
namespace L2
open PySem
theorem iD {a b:TS} {D:Ends} {σ:St} {H:Hp} (P:St->Hp->Prop) (h1:∀D':Ends,(∀σ' H',P σ' H'->D'.nx σ' H')->D'.rt=D.rt->a D' σ H) (h2:∀σ' H',P σ' H'->b D σ' H'):Qe a b D σ H:=h1 _ h2 rfl
end L2
namespace L2
open PySem PySem.Spec PyProof.Rows
section
variable {X:Cx} {K:PySem.W.Frag} {a:Expr} {ta:TE} {pos:Pos}
def XD (K:PySem.W.Frag) (ta:TE):TT:=fun σ H Q=>ta σ H fun x H'=>∃k,RV K x H' k/\Q k H'
theorem Gd (h:X.K=K) (ha:PE X a ta) (he:∀whole,isTrue a X.env whole=(do let v ←whole;standAt a.pos;holding [v] (truthy v)):=by intro _;rfl):PT X a (XD K ta):=by
 subst h;exact Jl ha he
end
end L2
set_option Elab.async false
set_option linter.all false
set_option maxRecDepth 100000
set_option maxHeartbeats 4000000
namespace L2
open PySem PySem.Spec PyProof.Rows
section
variable {X:Cx} {K:PySem.W.Frag}
end
section
variable {K:PySem.W.Frag} {a D:Addr} {xs:List V} {te:TE} {Q:VK} {rest:St} {H1:Hp}
theorem G4 {H:Hp} {vs:List V} {ds:List PyData} {v:V} {d:PyData} (h:aM H vs ds) (hd:Dat H v d):aM H (vs++[v]) (ds++[d]):=aM.append h (by simp only [aM,and_true];exact hd)
end
end L2
set_option Elab.async false
set_option linter.all false
namespace L2
open PySem
def Gv (mg:Str->Option Value) (x:Str) (v:V):Prop:=∃u,mg x=some u/\RelV v u
end L2
set_option Elab.async false
set_option linter.all false
set_option maxRecDepth 100000
set_option maxHeartbeats 4000000
namespace L2
open PySem PySem.Spec PyProof.Rows
section
variable {prog:Program} {w:World} {K:Type} [DecidableEq K] {knd:HeapKind prog w K}
end
section
variable {X:Cx} {o e f:Expr} {td ty tx:TE} {apos cpos:Pos}
end
end L2
namespace L2
open PySem PySem.Spec PyProof.Rows
section
variable {X:Cx} {K:PySem.W.Frag}
end
end L2
namespace L2
open PySem
end L2
set_option Elab.async false
set_option linter.all false
set_option maxRecDepth 100000
set_option maxHeartbeats 4000000
namespace L2
open PySem PySem.Spec PyProof.Rows
section
variable {X:Cx} {K:PySem.W.Frag}
theorem yg:∀{ys:List Str} {us:List Value},Vals (ys.map V.str) us->StrsAre us ys
 | [],us,r=>by cases r;exact .nil
 | y::ys,us,r=>by
   cases r with
   | cons r rs=>
     obtain ⟨t,rfl⟩:=r;exact .cons y t (yg rs)
def rJoin (K:PySem.W.Frag):V->List V->Hp->VK->Prop:=fun x vs H Q=>∃(sep:Str) (l:Addr) (ys:List Str),x = .str sep/\vs=[.ref l]/\bw K H l (ys.map V.str)/\(ys.map (·.length)).sum+ys.length*sep.length<=16777216/\Q (.str (Txt.join sep ys)) H
theorem oM (h:X.K=K):MtR X "str.join" (rJoin K):=by
 subst h;intro pins s σ H x vs v us Q I rx rv h;obtain ⟨sep,l,ys,rfl,rfl,hq,hz,q⟩:=h;obtain ⟨t,rfl⟩:=rx;obtain ⟨u,rfl,ru⟩:=rv.one;cases ru;obtain ⟨its,r',pl,hz'⟩:=I.list hq;exact join_list pl.isList (by simpa using yg r') hz fun t' k=>⟨.str _,H,I.tok _,⟨_,rfl⟩,q⟩
end
def cat:List Str->Str
 | []=>Str.empty
 | x::xs=>x++cat xs
theorem gH (a:Str):a++Str.empty=a:=by
 cases a;show (⟨_ ++ #[]⟩:Str)=_;simp
theorem glued_cons (sep x:Str) (xs:List Str):Txt.join sep (x::xs)=x++cat (xs.map (sep ++ ·)):=by
 have key:∀(xs:List Str) (a:Str),(⟨xs.foldl (fun acc p=>acc++sep.cps++p.cps) a.cps⟩:Str)=a++cat (xs.map (sep ++ ·)):=by
  intro xs
  induction xs with
  | nil=>intro a;exact (gH a).symm
  | cons y ys ih=>
    intro a;have:=ih ⟨a.cps++sep.cps++y.cps⟩;rw [List.foldl_cons,this,List.map_cons,cat,←Str.append_assoc,←Str.append_assoc];rfl
 exact key xs x
theorem M_:∀n:Fin 1001,(Str.ofString (toString (n.val:Int))).length<=4:=by decide +kernel
theorem dU {i:Int} (h0:0<=i) (h1:i<=1000):(Str.ofString (toString i)).length<=4:=by
 have:=M_ ⟨i.toNat,by omega⟩;simp only at this;rwa [show ((i.toNat:Nat):Int)=i by omega] at this
theorem Eh {i:Int} (h0:0<=i) (h1:i<=1000):i.natAbs.log2<1920:=by
 have:i.natAbs.log2<=i.natAbs:=Nat.log2_le_self _;omega
end L2
set_option Elab.async false
set_option linter.all false
set_option maxRecDepth 100000
set_option maxHeartbeats 4000000
namespace L2
open PySem PySem.Spec PyProof.Rows
section
variable {X:Cx} {body suite:List Stmt} {b0:Stmt} {cn:Str} {Dc:Addr} {tb:(St->XK)->TS} {th:TS} {cp hpos pos:Pos}
end
end L2
namespace L2
open PySem PySem.Spec PyProof.Rows
section
variable {X:Cx}
def V_ (i j:Int):Prop:=0<j/\j<1329227995784915872903807060280344576
theorem Jy:nR X (binaryOp .FloorDiv) (rI V_ fun i j=> .int (i / j)):=T8 fun i j _ _ _ _ _ hc q=>by
 have h1:(0:Int)<j:=hc.1;have h2:j<1329227995784915872903807060280344576:=hc.2;refine floordiv_int (by omega) (by rw [Int.fdiv_eq_ediv_of_nonneg i (by omega)];exact q) (.inl ?_);unfold Builtin.divisionGoesByPylong;have hn:j.natAbs<2 ^ 120:=by omega
 have hl:j.natAbs.log2<120:=(Nat.log2_lt (by omega)).mpr hn
 have hz:(j==0)=false:=by
  rw [beq_eq_false_iff_ne];omega
 simp only [hz,Bool.false_eq_true,if_false];have:¬j.natAbs.log2 / 30+1>300:=by omega
 rw [decide_eq_false this,Bool.false_and]
end
end L2
set_option Elab.async false
set_option linter.all false
set_option maxRecDepth 100000
set_option maxHeartbeats 4000000
namespace L2
open PySem PySem.Spec PyProof.Rows
section
variable {X:Cx} {pins:List (Addr×Obj)} {σ:St} {H:Hp} {s:Shared} {d:Addr} {u u':HO}
theorem Inv.O6 (I:Inv X pins σ H s) (e:H d=some u) (h1:∀xs,u ≠ .tup xs) (h2:∀a,u ≠ .own a) (h3:∀ps,u ≠ .OD ps) (hz:∀o v,X.H₀ d≠some (.lA o v)) (ok:cJ X.prog X.w (upd H d u') s.heap d u'):Inv X pins σ (upd H d u') s:=by
 have nd:∀{b:Addr},H b=none->b≠d:=fun q z=>by rw [z,e] at q;cases q
 have ht:∀b xs,H b=some (HO.tup xs)->(upd H d u') b=some (HO.tup xs):=fun b xs q=>by
  have:b≠d:=fun z=>by rw [z,e] at q;exact h1 xs (Option.some.inj q)
  rw [aR this];exact q
 refine ⟨I.ok,I.os,I.bare,⟨I.base.keep,I.base.slot,fun b o q n hx=> ?_,I.base.there,fun b xs q=>ht b xs (I.base.tups b xs q),fun b o v q=> ?_,fun b ps q=> ?_⟩,I.loc,I.cell, ?_,fun x c q=> ?_,fun p hp=> ?_,fun b v q=> ?_,I.len⟩
 ·have:=I.base.free b o q n hx
  rw [aR (nd this)];exact this
 ·have:=I.base.qe b o v q
  have nb:b≠d:=fun z=>by rw [z] at q;exact hz o v q
  rw [aR nb];exact this
 ·obtain ⟨more,r⟩:=I.base.rZ b ps q
  have nb:b≠d:=fun z=>by rw [z,e] at r;exact h3 _ (Option.some.inj r)
  exact ⟨more,by rw [aR nb];exact r⟩
 ·rw [aR (nd I.free)];exact I.free
 ·rw [aR (nd (I.jH x c q))];exact I.jH x c q
 ·obtain ⟨q1,q2,q3⟩:=I.pin p hp
  exact ⟨q1,by rw [aR (nd q2)];exact q2,q3⟩
 ·by_cases hb:b=d
  ·subst hb
   rw [aq] at q;cases q;exact ok
  ·rw [aR hb] at q
   refine (I.hok b v q).stay (fun _ _ _ r=>r) (fun c r=> ?_) ht;have:c≠d:=fun z=>by rw [z,e] at r;exact h2 _ (Option.some.inj r)
   rw [aR this];exact r
theorem Inv.Pb {kvs:List (Key×V)} (I:Inv X pins σ H s) (e:H d=some (.dK kvs)):∀o v,X.H₀ d≠some (.lA o v):=fun o v q=>by
 have:=I.base.qe d o v q;rw [e] at this;cases this
theorem Inv.freeze {kvs:List (Key×V)} {o:Obj} (I:Inv X pins σ H s) (e:H d=some (.dK kvs)) (ho:s.heap.get? d=some o):Inv X pins σ (upd H d (.lA o (.dK kvs))) s:=by
 refine I.O6 e (fun _ z=>by cases z) (fun _ z=>by cases z) (fun _ z=>by cases z) (I.Pb e) ⟨ho, ?_⟩;obtain ⟨z,y,vs,r,dd⟩:=(show cJ X.prog X.w H s.heap d (.dK kvs) from I.hok d _ e);exact ⟨z,y,vs,r,dd⟩
theorem Inv.Xz {kvs:List (Key×V)} {o:Obj} (I:Inv X pins σ H s) (e:H d=some (.lA o (.dK kvs))) (hz:∀o v,X.H₀ d≠some (.lA o v)):Inv X pins σ (upd H d (.dK kvs)) s:=by
 refine I.O6 e (fun _ z=>by cases z) (fun _ z=>by cases z) (fun _ z=>by cases z) hz ?_;obtain ⟨_,z,y,vs,r,dd⟩:=(show cJ X.prog X.w H s.heap d (.lA o (.dK kvs)) from I.hok d _ e);exact ⟨z,y,vs,r,dd⟩
end
def V8 (d:Addr) (o:Obj) (kvs:List (Key×V)):It:=
 ⟨fun i H=>i<kvs.length/\H d=some (.lA o (.dK kvs)),fun i H x H'=>H'=H /\ ∃k v,kvs[i]? = some (k,v)/\x=kV k,fun i H=>kvs.length<=i/\H d=some (.lA o (.dK kvs))⟩
theorem Rf {kvs:List (Key×V)} {vs:List (Key×Value)} (r:KV kvs vs):∀(i:Nat) (k:Key) (v:V),kvs[i]? = some (k,v) -> ∃u,vs[i]? = some (k,u):=by
 induction r with
 | nil=>intro i k v h;cases h
 | cons h r ih=>
   intro i k v e;cases i with
   | zero=>
     have e':=Option.some.inj e;rename_i p q _ _;obtain ⟨h1,h2⟩:=h;obtain ⟨q1,q2⟩:=q;refine ⟨q2, ?_⟩;have:q1=k:=by rw [e'] at h1;exact h1.symm
     subst this;rfl
   | succ i=>exact ih i k v (by simpa using e)
theorem FP {P:Program} {w:World} {K:PySem.W.Frag} {tg:Expr} (d it:Addr) (o:Obj) (kvs:List (Key×V)) (es:Array DictEntry) (ep:Nat) (hd:o.data = .dict es ep):Turn P w K tg (V8 d o kvs) [it] it (fun i h=>h.IsKeyIter it d i kvs.length ep) where
 mem:=by simp
 obj:=fun i h st b hb=>by
  have e:b=it:=by simpa using hb
  subst e;obtain ⟨o,e,c,d⟩:=st;exact ⟨o,e,fun v z=>by rw [d] at z;cases z⟩
 keep:=fun i h h' st k=>by
  obtain ⟨o,e,c,d⟩:=st;exact ⟨o,k it (by simp) o e,c,d⟩
 item:=by
  intro X hP hw hK hc i pins s σ H E I hf st hg;subst hP hw hK;obtain ⟨hi,hH⟩:=hg;obtain ⟨ho,z,y,vs,r,o',es',ep',q1,q2,q3,q4,q5,q6⟩:=(show cJ X.prog X.w H s.heap d (.lA o (.dK kvs)) from I.hok d _ hH);rw [ho] at q1;cases q1;rw [hd] at q3;cases q3;have hl:kvs.length=vs.length:=r.length;obtain ⟨k,v,ekv⟩:∃k v,kvs[i]? = some (k,v):=⟨kvs[i].1,kvs[i].2,by simp [hi]⟩;obtain ⟨u,eu⟩:=Rf r i k v ekv;obtain ⟨f0,f1,f2,f3,f4,f5⟩:=hf it (by simp);refine wpAny_pyNext_dict_item (knd:=cB X.prog X.w) (by rw [←hl];exact st) ⟨o,es,ho,q2,hd,q4,q5,q6⟩ eu fun key h' hk st' sb=> ?_;have I1:Inv X pins σ H {s with heap:=h'}:=I.turned (t':=s.toks) (fun b o hb e=>(sb.2 b hb).trans e) f0 f1 f3 f4 f5;obtain ⟨ob,e,c,dd⟩:=id st'
  have rk:RelV (kV k) key:=by
   rw [Cg] at hk;rcases cV hk with ⟨j,t,e1,e2⟩|⟨x,t,e1,e2⟩
   ·subst e1;subst e2;exact ⟨t,rfl⟩
   ·subst e1;subst e2;exact ⟨t,rfl⟩
  exact ⟨key,rfl,zL (s:={s with heap:=h'}) e c dd (by decide) ⟨kV k,H,I1,rk,⟨rfl,k,v,ekv,rfl⟩,by rw [hl];exact st',fun b hb=>(hf b hb).1⟩⟩
 done:=by
  intro X hP hw hK hc i pins s σ H E I hf st hg;subst hP hw hK;obtain ⟨hi,hH⟩:=hg;obtain ⟨ho,z,y,vs,r,o',es',ep',q1,q2,q3,q4,q5,q6⟩:=(show cJ X.prog X.w H s.heap d (.lA o (.dK kvs)) from I.hok d _ hH);rw [ho] at q1;cases q1;rw [hd] at q3;cases q3;have hl:kvs.length=vs.length:=r.length;obtain ⟨f0,f1,f2,f3,f4,f5⟩:=hf it (by simp);exact wpAny_pyNext_dict_end (knd:=cB X.prog X.w) (I.ok.hd hc) (by rw [←hl];exact st) ⟨o,es,ho,q2,hd,q4,q5,q6⟩ (by simp;omega) fun h' eb=>⟨rfl,I.turned (t':=s.toks) (fun b o hb e=>eb b o hb e) f0 f1 f3 f4 f5⟩
 self:=fun _ _ _ _ _ st h=>wpAny_pyIter_keyiter st h
section
variable {X:Cx} {tg:Expr}
def Ux (tl:TE):TI:=fun σ H R=>tl σ H fun x H1=>∃d kvs,x = .ref d/\H1 d=some (.dK kvs) /\ ∀o,R (V8 d o kvs) (upd H1 d (.lA o (.dK kvs)))
theorem Mx {l:Expr} {tl:TE} (hl:PE X l tl):PI X tg l (Ux tl):=by
 intro pins s σ H R I h;refine cM (hl pins s σ H _ I h) fun v s1 ⟨x,H1,I1,r1,q1⟩=> ?_;obtain ⟨d,kvs,e,hH,q⟩:=q1;subst e;cases r1;obtain ⟨z,hd,vs,r,o,es,ep,ho,q2,q3,q4,q5,q6⟩:=Kh I1.hok hH;refine wpAny_pyIter_dict (knd:=cB X.prog X.w) hd ⟨o,es,ho,q2,q3,q4,q5,q6⟩ ?_;have If:=I1.freeze hH ho;have hl:kvs.length=vs.length:=r.length
 have Q0:(upd H1 d (HO.lA o (.dK kvs))) s1.heap.objs.size=none:=by
  rw [aR (Ne.symm (Nat.ne_of_lt (Heap.lt_size ho)))];exact I1.hok.fresh (Nat.le_refl _)
 refine ⟨s1.heap.objs.size,[s1.heap.objs.size],_,_,upd H1 d (.lA o (.dK kvs)),rfl,If.kept (t':=s1.toks) fun b o e=>Heap.get?_push_of_some _ e,FP d _ o kvs es ep q3,⟨_,Heap.get?_push_size _ rfl,rfl,by rw [hl];rfl⟩,fun b hb=> ?_,q o⟩;have e:b=s1.heap.objs.size:=by simpa using hb
 subst e;exact If.xq (Nat.le_refl _) Q0
end
section
variable {d D:Addr} {o:Obj} {kvs:List (Key×V)} {tc:TT} {te:TE} {Q:VK} {rest:St} {H1:Hp}
end
def adf (H H' Xu:Hp):Prop:=∃d Uo o kvs,H d=some (.dK Uo)/\H' d=some (.lA o (.dK kvs))/\Xu=upd H' d (.dK kvs)
def Tg (t:TS):TS:=fun D σ H=>t {D with nx:=fun σ' H'=>∃Xu,adf H H' Xu/\D.nx σ' Xu} σ H
theorem Mq {X:Cx} {st:Stmt} {t:TS} (h:PS X st t):PS X st (Tg t):=by
 intro pins s σ H D I q;refine wpAny_mono (h pins s σ H _ I q) (fun f s1 q1=> ?_) fun _ _ z=>z;cases f with
 | next=>
   obtain ⟨σ1,H1,I1,H2,⟨d,Uo,o,kvs,e1,e2,rfl⟩,q2⟩:=q1;exact ⟨σ1,_,I1.Xz e2 (I.Pb e1),q2⟩
 | brk=>exact q1
 | cont=>exact q1
 | ret u=>exact q1
end L2
set_option Elab.async false
set_option linter.all false
set_option maxRecDepth 100000
set_option maxHeartbeats 4000000
namespace L2
open PySem PySem.Spec PyProof.Rows
theorem Kg {d:Addr} {o:Obj} {kvs:List (Key×V)} {g:TG} {tb:TS} {D:Ends} {σ:St} {H:Hp} (Pv:Nat->St->Hp->Prop) (h0:Pv 0 σ H) (hl:∀i σ H,i<=kvs.length->Pv i σ H->H d=some (.lA o (.dK kvs)))
 (hs:∀i k v σ H,kvs[i]? = some (k,v)->Pv i σ H->g (kV k) σ H fun σ2 H2=>tb {D with nx:=Pv (i+1),ct:=Pv (i+1),bk:=D.nx} σ2 H2) (hd:∀σ H,Pv kvs.length σ H->D.nx σ H):
 ∃W:Nat->Nat->St->Hp->Prop,(∃m,W 0 m σ H) /\ ∀i m σ H,W i m σ H ->
  ((V8 d o kvs).stop i H/\D.nx σ H)\/((V8 d o kvs).go i H /\ ∃N:St->Hp->Prop,(∀σ' H',N σ' H' -> ∃m',m'<m/\W (i+1) m' σ' H') /\ ∀x H',(V8 d o kvs).Qa i H x H'->g x σ H' fun σ2 H2=>tb {D with nx:=N,ct:=N,bk:=D.nx} σ2 H2):=by
 refine ⟨fun i m σ H=>m=kvs.length - i/\i<=kvs.length/\Pv i σ H,⟨kvs.length,by simp,Nat.zero_le _,h0⟩, ?_⟩;rintro i m σ H ⟨rfl,hi,p⟩;have q:=hl i σ H hi p
 by_cases hlt:i<kvs.length
 ·refine .inr ⟨⟨hlt,q⟩,Pv (i+1),fun σ' H' p'=>⟨kvs.length - (i+1),by omega,rfl,hlt,p'⟩,fun x H' y=> ?_⟩
  obtain ⟨rfl,k,v,e,rfl⟩:=y;exact hs i k v σ _ e p
 ·have e:i=kvs.length:=by omega
  subst e;exact .inl ⟨⟨Nat.le_refl _,q⟩,hd σ H p⟩
def u9 (hs:List Int) (g:Int->Int):List (Key×V):=hs.map fun h=>(Sum.inl h,V.int (g h))
theorem wW {hs:List Int} {g:Int->Int}:∀(h:Int),n_ (u9 hs g) (Sum.inl h)=if h∈hs then some (V.int (g h)) else none:=by
 intro h
 induction hs with
 | nil=>rfl
 | cons x hs ih=>
   show n_ ((Sum.inl x,V.int (g x))::u9 hs g) _=_
   by_cases e:x=h
   ·subst e
    rw [nY rfl,if_pos (List.mem_cons_self ..)]
   ·rw [nZ (fun z=>e (Sum.inl.inj z)),ih]
    by_cases m:h∈hs
    ·rw [if_pos m,if_pos (List.mem_cons_of_mem _ m)]
    ·rw [if_neg m,if_neg (fun z=>(List.mem_cons.mp z).elim (fun z=>e z.symm) m)]
def zM (g:Int->Int) (h v:Int):Int->Int:=fun x=>if x=h then v else g x
def hAdd (hs:List Int) (h:Int):List Int:=if h∈hs then hs else hs++[h]
theorem Nk {hs:List Int} {g:Int->Int} (h v:Int):putK (u9 hs g) (Sum.inl h) (V.int v)=u9 (hAdd hs h) (zM g h v):=by
 unfold putK hAdd;rw [rW,wW]
 by_cases m:h∈hs
 ·rw [if_pos m,Option.isSome_some,if_pos rfl,if_pos m]
  unfold u9;rw [List.map_map];refine List.map_congr_left fun x _=> ?_;simp only [Function.comp,zM]
  by_cases e:x=h
  ·subst e;simp
  ·rw [if_neg (fun z=>e (Sum.inl.inj z)),if_neg e]
 ·rw [if_neg m,if_neg (by simp),if_neg m]
  unfold u9;rw [List.map_append];congr 1
  ·refine List.map_congr_left fun x hx=> ?_
   have:x≠h:=fun z=>m (z▸hx);simp only [zM,if_neg this]
  ·simp [zM]
theorem tK:∀(n:Nat) (hs:List Int),hs.Nodup->(∀h∈hs,0<=h/\h<(n:Int))->hs.length<=n
 | 0,hs,_,hr=>by
   cases hs with
   | nil=>exact Nat.le_refl _
   | cons x hs=>have:=hr x (List.mem_cons_self ..);omega
 | n+1,hs,nd,hr=>by
   have ih:=tK n (hs.erase (n:Int)) (nd.erase _) fun h hh=>by
    have h1:=(nd.mem_erase_iff).mp hh;have h2:=hr h h1.2;have:=h1.1;omega
   by_cases m:(n:Int)∈hs
   ·rw [List.length_erase_of_mem m] at ih;omega
   ·rw [List.erase_of_not_mem m] at ih;omega
theorem NZ {hs:List Int} {h:Int} (nd:hs.Nodup):(hAdd hs h).Nodup:=by
 unfold hAdd
 by_cases m:h∈hs
 ·rw [if_pos m];exact nd
 ·rw [if_neg m]
  rw [List.nodup_append];exact ⟨nd,by simp,fun a ha b hb e=>by simp at hb;subst hb;subst e;exact m ha⟩
theorem tY {hs:List Int} {h x:Int}:x∈hAdd hs h↔x∈hs\/x=h:=by
 unfold hAdd
 by_cases m:h∈hs
 ·rw [if_pos m]
  exact ⟨.inl,fun z=>z.elim id fun e=>e▸m⟩
 ·rw [if_neg m];simp
structure iz (H:Hp) (d:Addr) (g:Int->Int):Prop where
 ex:∃hs:List Int,H d=some (.dK (u9 hs g))/\hs.Nodup/\(∀h∈hs,0<=h/\h<8) /\ ∀h,h∉hs->g h=0
 nn:∀h,0<=g h
theorem iz.get {H:Hp} {d:Addr} {g:Int->Int} (k:iz H d g):∃kvs,H d=some (.dK kvs)/\kvs.length<=8 /\ ∀h:Int,(n_ kvs (Sum.inl h)).getD (.int 0) = .int (g h):=by
 obtain ⟨hs,e,nd,r,z⟩:=k.ex;refine ⟨_,e,by rw [u9,List.length_map];exact tK 8 hs nd r,fun h=> ?_⟩;rw [wW]
 by_cases m:h∈hs
 ·rw [if_pos m];rfl
 ·rw [if_neg m,z h m];rfl
theorem iz.put {H:Hp} {d:Addr} {g:Int->Int} {h v:Int} (k:iz H d g) (h0:0<=h) (h1:h<8) (v0:0<=v):∃kvs,H d=some (.dK kvs)/\kvs.length<sizeLine /\ ∀H',H' d=some (.dK (putK kvs (Sum.inl h) (.int v)))->iz H' d (zM g h v):=by
 obtain ⟨hs,e,nd,r,z⟩:=k.ex;refine ⟨_,e, ?_,fun H' e'=>⟨⟨hAdd hs h,by rw [e',Nk],NZ nd,fun x hx=> ?_,fun x hx=> ?_⟩,fun x=> ?_⟩⟩
 ·have:=tK 8 hs nd r
  rw [u9,List.length_map,sizeLine_eq];omega
 ·rcases tY.mp hx with hx|rfl
  ·exact r x hx
  ·exact ⟨h0,h1⟩
 ·have n1:x∉hs:=fun z=>hx (tY.mpr (.inl z))
  have n2:x≠h:=fun z=>hx (tY.mpr (.inr z));unfold zM;rw [if_neg n2];exact z x n1
 ·unfold zM
  split
  ·exact v0
  ·exact k.nn x
theorem iz.kp {H H':Hp} {d r:Addr} {g:Int->Int} (k:iz H d g) (kp:Kp r H H') (n:d≠r):iz H' d g:=by
 obtain ⟨hs,e,q⟩:=k.ex;exact ⟨⟨hs,kp _ _ e n,q⟩,k.nn⟩
theorem iz.same {H H':Hp} {d:Addr} {g:Int->Int} (k:iz H d g) (s:Same H H'):iz H' d g:=by
 obtain ⟨hs,e,q⟩:=k.ex;exact ⟨⟨hs,s _ _ e,q⟩,k.nn⟩
theorem iz.ext {H:Hp} {d:Addr} {g g':Int->Int} (k:iz H d g) (e:∀h,g h=g' h):iz H d g':=by
 have:g=g':=funext e;rw [←this];exact k
end L2
set_option Elab.async false
set_option linter.all false
set_option maxRecDepth 100000
set_option maxHeartbeats 4000000
namespace L2
open PySem PySem.Spec PyProof.Rows
def K6 (hi:Int) (n:Nat):It:=⟨fun i _=>i<n,fun i H x H'=>H'=H/\x = .int (hi - i),fun i _=>n<=i⟩
theorem yh {P:Program} {w:World} {K:PySem.W.Frag} {tg:Expr} (it:Addr) (hi:Int) (n:Nat):Turn P w K tg (K6 hi n) [it] it (fun i h=>IsRangeIter h it (hi+(i:Nat)*(-1)) ((n:Int) - (i:Nat)) (-1)) where
 mem:=by simp
 obj:=fun i h st b hb=>by
  have e:b=it:=by simpa using hb
  subst e
  exact ⟨_,st,fun v z=>by
   have z':Data.fields _=Data.cell v:=z;cases z'⟩
 keep:=fun i h h' st k=>k it (by simp) _ st
 item:=by
  intro X hP hw hK hc i pins s σ H E I hf st hg;subst hP hw hK;obtain ⟨f0,f1,f2,f3,f4,f5⟩:=hf it (by simp);have W:=Walks.range (prog:=X.prog) (w:=X.w) (I.ok.hd hc) it hi (-1) n;refine W.item i s _ _ hg st fun v h' tk hv st' kk=> ?_;obtain ⟨t,rfl⟩:=hv;have I1:Inv X pins σ H {s with heap:=h',toks:=tk}:=I.turned (fun b o hb e=>kk b o (by simpa using hb) e) f0 f1 f3 f4 f5;refine ⟨_,rfl,zL (s:={s with heap:=h',toks:=tk}) (n:= "range_iterator") st' rfl rfl (by decide) ⟨.int (hi - i),H,I1,⟨t, ?_⟩,⟨rfl,rfl⟩,st',fun b hb=>(hf b hb).1⟩⟩;congr 1;omega
 done:=by
  intro X hP hw hK hc i pins s σ H E I hf st hg;subst hP hw hK;obtain ⟨f0,f1,f2,f3,f4,f5⟩:=hf it (by simp);exact wpAny_pyNext_range_end (I.ok.hd hc) st (by have:n<=i:=hg;omega) fun h' eb=>⟨rfl,I.turned (t':=s.toks) (fun b o hb e=>eb b o hb e) f0 f1 f3 f4 f5⟩
 self:=fun _ _ _ _ _ st h=>wpAny_pyIter_rangeiter st h
section
variable {X:Cx} {tg:Expr}
theorem O5 (a b:Int):Builtin.Range.rangeSize a b (-1)=if a>b then a - b else 0:=by
 unfold Builtin.Range.rangeSize;rw [if_neg (by decide)];split
 ·simp
 ·rfl
theorem FW {a b:Int} (h1: -(2 ^ 61)<=a) (h2:a<2 ^ 61) (h3: -(2 ^ 61)<=b) (h4:b<2 ^ 61):Builtin.Range.small a b (-1)=true:=by
 unfold Builtin.Range.small;rw [O5]
 have fits:∀z:Int, -(2 ^ 63)<=z->z<2 ^ 63->Builtin.Range.rangeFitsLong z=true:=fun z l1 l2=>by
  unfold Builtin.Range.rangeFitsLong;rw [decide_eq_true l1,decide_eq_true l2];rfl
 have f1:=fits (if a>b then a - b else 0) (by split<;>omega) (by split<;>omega);have f2:=fits (b+(-1+1)) (by omega) (by omega);simp only [fits a (by omega) (by omega),fits b (by omega) (by omega),fits (-1) (by decide) (by decide),f1,f2,Bool.and_self,Bool.true_and,show ¬((-1:Int)>0) by decide,if_false,Bool.or_true]
def Uw (ta:TA):TI:=fun σ H R=>ta σ H fun vs H1=>∃i j:Int,vs=[.int i,.int j,.int (-1)]/\(-(2 ^ 61)<=i/\i<2 ^ 61 /\ -(2 ^ 61)<=j/\j<2 ^ 61)/\R (K6 i (i - j).toNat) H1
theorem vH {a b c:Expr} {ta:TA} {p pos:Pos} (hg:Gl X "range") (hm:X.mg "range" = none) (ha:PA X [a,b,c] ta) (hs:starEach [a,b,c] X.env=[(false,eval a X.env),(false,eval b X.env),(false,eval c X.env)]:=by rfl) (hs2:starEach [b,c] X.env=[(false,eval b X.env),(false,eval c X.env)]:=by rfl):
 PI X tg (.Call (.Name "range" p) [a,b,c] [] pos) (Uw ta):=by
 intro pins s σ H R I h;refine Call_ (lQ I hg hm boot_range (PyProof.Rows.callWith_type1 (cM (ha pos pins s σ H _ I h) fun us s1 ⟨vs,H1,I1,r1,q1⟩=> ?_) (by rw [hs,hs2]) (by rw [hs2];rfl)));obtain ⟨i,j,e,⟨q1,q2,q3,q4⟩,q⟩:=q1;subst e;cases r1 with
 | cons r rr=>
   cases rr with
   | cons r' rr=>
     cases rr with
     | cons r'' rr=>
       cases rr;obtain ⟨t,rfl⟩:=r;obtain ⟨t',rfl⟩:=r';obtain ⟨t'',rfl⟩:=r'';refine call_range_3 (by decide) ?_ (.inl (PyProof.noPylong_small (by decide)));refine wpAny_pyIter_range (IsRange.new ..) (FW q1 q2 q3 q4) ?_;have I2:Inv X pins σ H1 {s1 with heap:=s1.heap.push {cls:= .type "range",data:= .fields #[.int i t,.int j t',.int (-1) t'']}}:=I1.kept (t':=s1.toks) fun b o e=>Heap.get?_push_of_some _ e
       refine ⟨(s1.heap.push {cls:= .type "range",data:= .fields #[.int i t,.int j t',.int (-1) t'']}).objs.size,[(s1.heap.push {cls:= .type "range",data:= .fields #[.int i t,.int j t',.int (-1) t'']}).objs.size],_,_,H1,rfl,
        I2.kept (t':=s1.toks) fun b o e=>Heap.get?_push_of_some _ e,yh _ i (i - j).toNat, ?_,fun b hb=> ?_,q⟩
       ·have e1:i+((0:Nat):Int)*(-1)=i:=by simp
        have e2:(((i - j).toNat:Nat):Int) - ((0:Nat):Int)=Builtin.Range.rangeSize i j (-1):=by rw [O5];split<;>omega
        show IsRangeIter _ _ (i+((0:Nat):Int)*(-1)) ((((i - j).toNat:Nat):Int) - ((0:Nat):Int)) (-1);rw [e1,e2];exact Heap.get?_push_size _ rfl
       ·have e:b=(s1.heap.push {cls:= .type "range",data:= .fields #[.int i t,.int j t',.int (-1) t'']}).objs.size:=by simpa using hb
        subst e;exact I2.xq (Nat.le_refl _) (I2.hok.fresh (Nat.le_refl _))
theorem uc {hi:Int} {n:Nat} {g:TG} {tb:TS} {D:Ends} {σ:St} {H:Hp} (Pv:Nat->St->Hp->Prop) (h0:Pv 0 σ H)
 (hs:∀i σ H,i<n->Pv i σ H->g (.int (hi - i)) σ H fun σ2 H2=>tb {D with nx:=Pv (i+1),ct:=Pv (i+1),bk:=D.nx} σ2 H2) (hd:∀σ H,Pv n σ H->D.nx σ H):
 ∃W:Nat->Nat->St->Hp->Prop,(∃m,W 0 m σ H) /\ ∀i m σ H,W i m σ H ->
  ((K6 hi n).stop i H/\D.nx σ H)\/((K6 hi n).go i H /\ ∃N:St->Hp->Prop,(∀σ' H',N σ' H' -> ∃m',m'<m/\W (i+1) m' σ' H') /\ ∀x H',(K6 hi n).Qa i H x H'->g x σ H' fun σ2 H2=>tb {D with nx:=N,ct:=N,bk:=D.nx} σ2 H2):=by
 refine ⟨fun i m σ H=>m=n - i/\i<=n/\Pv i σ H,⟨n,by simp,Nat.zero_le _,h0⟩, ?_⟩;rintro i m σ H ⟨rfl,hi',p⟩
 by_cases hlt:i<n
 ·refine .inr ⟨hlt,Pv (i+1),fun σ' H' p'=>⟨n - (i+1),by omega,rfl,hlt,p'⟩,fun x H' y=> ?_⟩
  obtain ⟨e,y⟩:=y;subst e y;exact hs i σ _ hlt p
 ·have e:i=n:=by omega
  subst e;exact .inl ⟨Nat.le_refl _,hd σ H p⟩
end
end L2
set_option Elab.async false
set_option linter.all false
set_option maxRecDepth 100000
set_option maxHeartbeats 4000000
namespace L2
open PySem PySem.Spec PyProof.Rows
section
variable {X:Cx} {tg:Expr}
theorem yd:∀(f:Nat->Int) (l:List Value) (n:Nat),l.length=n->(∀k v,l[k]? = some v -> ∃t,v=Value.int (f k) t)->Vals ((List.range n).map fun k=>V.int (f k)) l
 | f,[],n,hn,_=>by
   have:n=0:=by simpa using hn.symm
   subst this;exact .nil
 | f,v::l,n,hn,h=>by
   have:n=l.length+1:=by simpa using hn.symm
   subst this;rw [List.range_succ_eq_map,List.map_cons,List.map_map];obtain ⟨t,e⟩:=h 0 v rfl;exact .cons ⟨t,e⟩ (yd (fun k=>f (k+1)) l _ rfl fun k u hu=>h (k+1) u hu)
end
end L2
set_option Elab.async false
set_option linter.all false
set_option maxRecDepth 100000
set_option maxHeartbeats 4000000
namespace L2
open PySem PySem.Spec PyProof.Rows
section
variable {X:Cx}
end
end L2
set_option Elab.async false
set_option linter.all false
set_option maxRecDepth 100000
set_option maxHeartbeats 4000000
namespace L2
open PySem PySem.Spec PyProof.Rows
section
variable {H H':Hp}
mutual
theorem Dat.same (k:Same H H'):∀(d:PyData) {v:V},Dat H v d->Dat H' v d
 | .none,_,h=>by simp only [Dat] at h ⊢;exact h
 | .bool _,_,h=>by simp only [Dat] at h ⊢;exact h
 | .int _,_,h=>by simp only [Dat] at h ⊢;exact h
 | .str _,_,h=>by simp only [Dat] at h ⊢;exact h
 | .list ds,_,h=>by simp only [Dat] at h ⊢;obtain ⟨a,vs,e,q,r⟩:=h;exact ⟨a,vs,e,k _ _ q,aM.same k ds r⟩
 | .tuple ds,_,h=>by simp only [Dat] at h ⊢;obtain ⟨a,vs,e,q,r⟩:=h;exact ⟨a,vs,e,k _ _ q,aM.same k ds r⟩
 | .dict _,_,h=>by simp only [Dat] at h
theorem aM.same (k:Same H H'):∀(ds:List PyData) {vs:List V},aM H vs ds->aM H' vs ds
 | [],[],_=>by simp only [aM]
 | d::ds,v::vs,h=>by simp only [aM] at h ⊢;exact ⟨Dat.same k d h.1,aM.same k ds h.2⟩
 | _::_,[],h=>by simp only [aM] at h
 | [],_::_,h=>by simp only [aM] at h
end
end
section
variable {X:Cx} {K:PySem.W.Frag}
inductive Xj (H:Hp):V->Value->Prop where
 | int (i:Int):Xj H (.int i) (.type "int")
 | lst {a:Addr} {xs:List V} (e:H a=some (.lst xs)):Xj H (.ref a) (.type "list")
 | tup {a:Addr} {xs:List V} (e:H a=some (.tup xs)):Xj H (.ref a) (.type "tuple")
def TF (K:PySem.W.Frag):List V->Hp->VK->Prop:=fun xs H Q=>∃(x:V) (t:Value) (p:Addr) (ns:List String) (b:Bool),xs=[x,.ref p]/\Xj H x t/\H p=some (.tup (ns.map V.ty))/\PySem.W.kitAny K t (ns.map Value.type)=some b/\Q (.bl b) H
theorem Av {ns:List String}:∀{us:List Value},Vals (ns.map V.ty) us->us=ns.map Value.type:=by
 induction ns with
 | nil=>intro us r;cases r;rfl
 | cons c cs ih=>
   intro us r;cases r with
   | cons r rs=>cases (show _=Value.type c from r);rw [ih rs];rfl
theorem CP (hk:X.K=K):gF X (.builtin "isinstance") (TF K):=by
 subst hk;intro pins s σ H xs us Q I r h;obtain ⟨x,t,p,ns,b,rfl,ty,hp,e,q⟩:=h;obtain ⟨u,w',rfl,r1,r2⟩:=vals2 r;cases (show w'=Value.ref p from r2);obtain ⟨its,rv,⟨o,ho,hc,m,hd⟩,hz⟩:=I.tuple (fY.of hp);have ei:=Av rv;subst ei;obtain ⟨c0,d0,dt,sl⟩:=o;simp only at hc hd;subst hc hd;cases ty with
 | int i=>obtain ⟨t,q1⟩:=(show ∃t,u=Value.int i t from r1);cases q1;exact PySem.W.kia_tup PySem.W.kitx_int I.nA True.intro ho e (fun z=>nomatch z) fun tk=>⟨.bl b,H,I.tok _,rfl,q⟩
 | @lst a xs ea=>
   cases (show u=Value.ref a from r1);obtain ⟨_,_,n,_,h1⟩:=(show cJ X.prog X.w H s.heap a (.lst xs) from I.hok a _ ea);exact PySem.W.kia_tup PySem.W.kitx_list I.nA ⟨_,h1,rfl⟩ ho e (fun z=>nomatch z) fun tk=>⟨.bl b,H,I.tok _,rfl,q⟩
 | @tup a xs ea=>
   cases (show u=Value.ref a from r1);obtain ⟨_,_,_,p⟩:=(show cJ X.prog X.w H s.heap a (.tup xs) from I.hok a _ ea);obtain ⟨o,h1,h2,_⟩:=p;exact PySem.W.kia_tup PySem.W.kitx_tuple I.nA ⟨o,h1,h2⟩ ho e (fun z=>nomatch z) fun tk=>⟨.bl b,H,I.tok _,rfl,q⟩
theorem Ad (K:PySem.W.Frag):PySem.W.kitAny K (.type "list") (["list","tuple"].map Value.type)=some true:=by kernel_rfl
theorem xO (K:PySem.W.Frag):PySem.W.kitAny K (.type "tuple") (["list","tuple"].map Value.type)=some true:=by kernel_rfl
theorem CW (K:PySem.W.Frag):PySem.W.kitAny K (.type "int") (["list","tuple"].map Value.type)=some false:=by kernel_rfl
theorem lU (K:PySem.W.Frag):PySem.W.kitOne K (.type "tuple") (.type "list")=some false:=by kernel_rfl
theorem lV (K:PySem.W.Frag):PySem.W.kitOne K (.type "list") (.type "tuple")=some false:=by kernel_rfl
end
section
variable {K:PySem.W.Frag} {a D:Addr} {xs:List V} {tc:TT} {te:TE} {Q:VK} {rest:St} {H1:Hp}
theorem wZ {f:Nat->Option PyData} (hf:∀i d,f i=some d->Ln d=true):∀l:List Nat,zF (l.filterMap f)=true
 | []=>rfl
 | i::l=>by
   rw [List.filterMap_cons];cases e:f i with
   | none=>exact wZ hf l
   | some d=>simp only [zF,hf i d e,wZ hf l,Bool.and_self]
theorem Hj (f:Nat->Option PyData) (hf:∀i d,f i=some d->Ln d=true) (hD:H1 D=none) (hq:bw K H1 a xs) (hx:xs.length<=100000)
 (hs:∀i x H (G:Hp->Prop) (F:VK),xs[i]? = some x->Same H1 H->(∀H',Same H H'->f i=none->G H')->(∀y d H',Same H H'->f i=some d->Dat H' y d->F y H')->tc (some x::rest) H fun b H3=>if b=true then te (some x::rest) H3 F else G H3)
 (hd:∀H vs,Same H1 H->H D=some (.lst vs)->aM H vs ((List.range xs.length).filterMap f)->Q (.ref D) H):m9 (P_ K a) (dZ 0) tc te Q D (none::rest) H1:=by
 refine vQ (K:=K) (xs:=xs) (fun i σ H=>(∃v,σ=v::rest)/\Same H1 H /\ ∃vs,H D=some (.lst vs)/\aM H vs ((List.range i).filterMap f)) ⟨⟨none,rfl⟩,aG hD,[],aq,by simp [aM]⟩ (fun i σ H _ ⟨_,sm,_⟩=>sm.Wf _ _ hq) ?_ (fun σ H ⟨_,sm,vs,e,d⟩=>hd H vs sm e d);rintro i x σ H hi ⟨⟨v,rfl⟩,sm,vs,e,d⟩;have hil:i<xs.length:=(List.getElem?_eq_some_iff.mp hi).1;have im:=wZ hf (List.range i);refine hs i x H _ _ hi sm (fun H3 s3 ef=>⟨⟨_,rfl⟩,sm.trans s3,vs,s3 _ _ e, ?_⟩) (fun y dd H4 s4 ef dy=> ?_)
 ·rw [fJ,ef]
  simpa using aM.keep s3.tups _ im d
 ·have hl:vs.length<=i:=by rw [d.length];exact uf f i
  have kp:Kp D H4 (upd H4 D (.lst (vs++[y]))):=Kp.set;have tp:=kp.tups (s4 _ _ e);refine ⟨vs,s4 _ _ e, ?_,⟨_,rfl⟩,(sm.trans s4).newly hD,vs++[y],aq, ?_⟩
  ·rw [sizeLine_eq];omega
  ·rw [fJ,ef]
   exact G4 (aM.keep (fun a xs h=>tp _ _ (s4.tups _ _ h)) _ im d) (Dat.keep tp _ (hf i dd ef) dy)
end
section
variable {X:Cx}
end
end L2
set_option Elab.async false
set_option linter.all false
set_option maxRecDepth 100000
set_option maxHeartbeats 4000000
namespace L2
open PySem
section
variable {K:PySem.W.Frag} {a D:Addr} {xs:List V} {tc:TT} {te:TE} {Q:VK} {rest:St} {H1:Hp}
end
end L2
set_option Elab.async false
set_option linter.all false
set_option maxRecDepth 100000
set_option maxHeartbeats 4000000
namespace L2
open PySem PySem.Spec PyProof.Rows
section
variable {X:Cx} {K:PySem.W.Frag} {e st:Expr} {te tk:TE} {pos p2:Pos}
end
end L2
set_option Elab.async false
set_option linter.all false
set_option maxRecDepth 100000
set_option maxHeartbeats 4000000
namespace L2
open PySem PySem.Spec PyProof.Rows
section
variable {H:Hp}
mutual
theorem Dat.fn:∀(d e:PyData) {v:V},Dat H v d->Dat H v e->d=e
 | .none,e,v,h,g=>by cases e<;>simp only [Dat] at h g<;>first |rfl|(subst h;first |(obtain ⟨_,_,z,_⟩:=g;cases z;done)|(cases g;done))
 | .bool _,e,v,h,g=>by cases e<;>simp only [Dat] at h g<;>first |(subst h;first |(injection g with g;rw [g];done)|(obtain ⟨_,_,z,_⟩:=g;cases z;done)|(cases g;done))
 | .int _,e,v,h,g=>by cases e<;>simp only [Dat] at h g<;>first |(subst h;first |(injection g with g;rw [g];done)|(obtain ⟨_,_,z,_⟩:=g;cases z;done)|(cases g;done))
 | .str _,e,v,h,g=>by cases e<;>simp only [Dat] at h g<;>first |(subst h;first |(injection g with g;rw [g];done)|(obtain ⟨_,_,z,_⟩:=g;cases z;done)|(cases g;done))
 | .list ds,.list es,v,h,g=>by
   simp only [Dat] at h g;obtain ⟨a,vs,rfl,ha,da⟩:=h;obtain ⟨b,ws,e,hb,db⟩:=g;injection e with e
   subst e;rw [ha] at hb;injection hb with hb
   injection hb with hb
   subst hb;rw [aM.fn ds es da db]
 | .tuple ds,.tuple es,v,h,g=>by
   simp only [Dat] at h g;obtain ⟨a,vs,rfl,ha,da⟩:=h;obtain ⟨b,ws,e,hb,db⟩:=g;injection e with e
   subst e;rw [ha] at hb;injection hb with hb
   injection hb with hb
   subst hb;rw [aM.fn ds es da db]
 | .list ds,.tuple es,v,h,g=>by
   simp only [Dat] at h g;obtain ⟨a,vs,rfl,ha,da⟩:=h;obtain ⟨b,ws,e,hb,db⟩:=g;injection e with e
   subst e;rw [ha] at hb;injection hb with hb
   cases hb
 | .tuple ds,.list es,v,h,g=>by
   simp only [Dat] at h g;obtain ⟨a,vs,rfl,ha,da⟩:=h;obtain ⟨b,ws,e,hb,db⟩:=g;injection e with e
   subst e;rw [ha] at hb;injection hb with hb
   cases hb
 | .list ds,.none,v,h,g=>by simp only [Dat] at h g;obtain ⟨a,vs,rfl,_⟩:=h;cases g
 | .list ds,.bool _,v,h,g=>by simp only [Dat] at h g;obtain ⟨a,vs,rfl,_⟩:=h;cases g
 | .list ds,.int _,v,h,g=>by simp only [Dat] at h g;obtain ⟨a,vs,rfl,_⟩:=h;cases g
 | .list ds,.str _,v,h,g=>by simp only [Dat] at h g;obtain ⟨a,vs,rfl,_⟩:=h;cases g
 | .tuple ds,.none,v,h,g=>by simp only [Dat] at h g;obtain ⟨a,vs,rfl,_⟩:=h;cases g
 | .tuple ds,.bool _,v,h,g=>by simp only [Dat] at h g;obtain ⟨a,vs,rfl,_⟩:=h;cases g
 | .tuple ds,.int _,v,h,g=>by simp only [Dat] at h g;obtain ⟨a,vs,rfl,_⟩:=h;cases g
 | .tuple ds,.str _,v,h,g=>by simp only [Dat] at h g;obtain ⟨a,vs,rfl,_⟩:=h;cases g
 | .list ds,.dict _,v,h,g=>by simp only [Dat] at g
 | .tuple ds,.dict _,v,h,g=>by simp only [Dat] at g
 | .dict _,_,v,h,g=>by simp only [Dat] at h
theorem aM.fn:∀(ds es:List PyData) {vs:List V},aM H vs ds->aM H vs es->ds=es
 | [],[],_,_,_=>rfl
 | d::ds,e::es,v::vs,h,g=>by
   simp only [aM] at h g;rw [Dat.fn d e h.1 g.1,aM.fn ds es h.2 g.2]
 | [],_::_,[],_,g=>by simp only [aM] at g
 | [],_::_,_::_,h,_=>by simp only [aM] at h
 | _::_,[],[],h,_=>by simp only [aM] at h
 | _::_,[],_::_,_,g=>by simp only [aM] at g
 | _::_,_::_,[],h,_=>by simp only [aM] at h
end
end
section
variable {X:Cx}
end
end L2
set_option Elab.async false
set_option linter.all false
set_option maxRecDepth 100000
set_option maxHeartbeats 4000000
namespace L2
open PySem PySem.Spec PyProof.Rows
section
variable {X:Cx} {K:PySem.W.Frag} {e e1 e2 l:Expr} {te t1 t2 tl:TE} {pos:Pos} {tg:Expr}
end
section
variable {X:Cx}
def Qs:List V->Hp->VK->Prop:=fun xs H Q=>(∃i:Int,xs=[.int i]/\i.natAbs.log2<1920/\Q (.str (toString i)) H) \/ ∃x:Str,xs=[.str x]/\Q (.str x) H
theorem CK:gF X (.type "str") Qs:=by
 intro pins s σ H xs us Q I r h;rcases h with h|h
 ·exact kh pins s σ H xs us Q I r h
 ·obtain ⟨x,rfl,q⟩:=h
  obtain ⟨u,rfl,t,rfl⟩:=vals1 r;exact PySem.P.str_of_str ⟨.str _,H,I,⟨_,rfl⟩,q⟩
end
end L2
set_option Elab.async false
set_option linter.all false
set_option maxRecDepth 100000
set_option maxHeartbeats 4000000
namespace L2
open PySem PySem.Spec PyProof.Rows PySem.Builtin PySem.Builtin.Str
section
variable {X:Cx} {K:PySem.W.Frag}
end
section
variable {K:PySem.W.Frag} {D:Addr} {tc:TT} {te:TE} {Q:VK} {rest:St} {H1:Hp}
end
section
variable {X:Cx}
end
end L2
set_option Elab.async false
set_option linter.all false
set_option maxRecDepth 100000
set_option maxHeartbeats 4000000
namespace L2
open PySem PySem.Spec PyProof.Rows PySem.Builtin PySem.Builtin.Str
end L2
set_option Elab.async false
set_option linter.all false
set_option maxRecDepth 100000
set_option maxHeartbeats 4000000
namespace L2
open PySem PySem.Spec PyProof.Rows
section
variable (P:Program) (w:World) (K:PySem.W.Frag) (mg:Str->Option Value) (base:Heap)
def MethAt (k:Nat) (C:Addr) (m:Str) (ps:List Str) (sp:Sp):Prop:=∃f fd,cU P w K mg base jC k f fd ps sp/\Meth K C m f/\Binds K fd ps []
def Dd (k:Nat) (C:Addr) (x:Str) (ps:List Str) (pC:List V) (sp:Sp):Prop:=∃f fd ds,cU P w K mg base jC k f fd ps sp/\Mk K C f/\mg x=some (.ref C)/\Binds K fd ps ds/\Vals pC ds
end
section
variable {P:Program} {w:World} {K:PySem.W.Frag} {mg:Str->Option Value} {base:Heap} {k:Nat} {C:Addr} {m x:Str} {ps:List Str} {sp:Sp} {pC:List V}
end
section
variable {X:Cx} {k:Nat} {C:Addr} {x m:Str} {ps:List Str} {sp:Sp} {pC:List V} {e o:Expr} {es:List Expr} {ta:TE} {t:TA} {p pos apos:Pos} {E:St->XK}
theorem tE {pl:Sem Bool} (M:MethAt X.prog X.w X.K X.mg X.base k C m ps sp) (c:Cls X.K C) (hr:cY k X.A) (he:PE X o ta) (ha:PA X (e::es) t)
 (hst:starEach (e::es) X.env=(false,eval e X.env)::starEach es X.env:=by rfl) (hpl:(backTo pos (starEach es X.env)).any (·.1)=false:=by rfl)
 (ht:eval (.Call (.Attribute o m apos) (e::es) [] pos) X.env=(do
   let ov ←eval o X.env
   standAt apos.atName
   let (f,first) ←holding [ov] (getMethod ov m pl)
   callWith pos f first (backTo pos (starEach (e::es) X.env)) (backToKw pos (keywordEach [] X.env))):=by rfl):
 PE X (.Call (.Attribute o m apos) (e::es) [] pos) (Ds C m sp [] E0 ta t):=by
 obtain ⟨f,fd,G,hm,hb⟩:=M;exact Mz he c hm G hr hb .nil yN ha hst hpl ht
theorem dX {pl:Sem Bool} (M:MethAt X.prog X.w X.K X.mg X.base k C m ps sp) (c:Cls X.K C) (hr:cY k X.A) (he:PE X o ta)
 (ht:eval (.Call (.Attribute o m apos) [] [] pos) X.env=(do
   let ov ←eval o X.env
   standAt apos.atName
   let (f,first) ←holding [ov] (getMethod ov m pl)
   callWith pos f first (backTo pos (starEach [] X.env)) (backToKw pos (keywordEach [] X.env))):=by rfl):
 PE X (.Call (.Attribute o m apos) [] [] pos) (Ds C m sp [] E0 ta yj):=by
 obtain ⟨f,fd,G,hm,hb⟩:=M;exact Ju he c hm G hr hb .nil yN ht
theorem yJ (M:Dd X.prog X.w X.K X.mg X.base k C x ps pC sp) (hr:cY (k+1) X.A) (hg:Gl X x) (ha:PA X (e::es) t) (hdb:(x==("__debug__" :Str))=false:=by decide)
 (he:starEach (e::es) X.env=(false,eval e X.env)::starEach es X.env:=by rfl) (hpl:(backTo pos (starEach es X.env)).any (·.1)=false:=by rfl):
 PE X (.Call (.Name x p) (e::es) [] pos) (OJ C sp pC E0 t):=by
 obtain ⟨f,fd,ds,G,mk,hm,hb,hd⟩:=M;exact MF mk G hr hg hm hb hd yN ha hdb he hpl
end
end L2
namespace L2
open PySem PySem.Spec PyProof.Rows PySem.Builtin PySem.Builtin.Str
section
variable {X:Cx} {K:PySem.W.Frag} {o e value:Expr} {f:Str} {pos pos' tpos:Pos} {ta tv:TE}
theorem cN (hK:X.K=K) (he:PE X e ta) (hb:attributeBase e f X.env (eval e X.env)=eval e X.env):PE X (.Attribute e f pos) (Qg K ta f):=by subst hK;exact QC he hb
theorem oF (hK:X.K=K) (ha:PE X o ta) (hv:PE X value tv) (hs:swapsWith value (some (.Attribute o f pos')) pos.line X.env=pure false):PS X (.Assign [.Attribute o f pos'] value pos) (Ti K ta tv f):=by subst hK;exact Qw ha hv hs
end
section
variable {P:Program} {w:World} {K:PySem.W.Frag} {mg:Str->Option Value} {base:Heap}
end
section
variable {X:Cx} {k:Nat} {C:Addr} {x kn:Str} {ps:List Str} {sp:Sp} {e ke:Expr} {es:List Expr} {te:TE} {t:TA} {p pos kpos:Pos} {E:St->XK}
end
end L2
set_option Elab.async false
set_option linter.all false
set_option maxRecDepth 100000
set_option maxHeartbeats 4000000
namespace L2
open PySem PySem.Spec PyProof.Rows
theorem yO {xc:Str}:∀(pre post:List (Str×NameKind)) (n:Nat) (acc:List (Str×Addr)) (h:Heap),(∀y∈pre++post,y.2 ≠ .cell) ->
 cellsFrom n (pre++(xc,.cell)::post) acc=(xc,n)::acc/\pushCells h (pre++(xc,.cell)::post)=h.push {cls:= .type "cell",data:= .cell none}
 | (m,k)::pre,post,n,acc,h,hn=>by
   have hk:(k==NameKind.cell)=false:=by simpa using hn (m,k) (by simp)
   have ih:=yO (xc:=xc) pre post n acc h fun y hy=>hn y (by simp only [List.cons_append,List.mem_cons];exact .inr hy);rw [List.cons_append];unfold cellsFrom pushCells;simp only [hk,Bool.false_eq_true,if_false];exact ih
 | [],post,n,acc,h,hn=>by
   have Gs:∀(post:List (Str×NameKind)) (n:Nat) (acc:List (Str×Addr)) (h:Heap),(∀y∈post,y.2 ≠ .cell)->cellsFrom n post acc=acc/\pushCells h post=h:=by
    intro post
    induction post with
    | nil=>intro n acc h _;exact ⟨rfl,rfl⟩
    | cons y r ih=>
      intro n acc h hh;obtain ⟨m,k⟩:=y;have hk:(k==NameKind.cell)=false:=by simpa using hh (m,k) (by simp)
      unfold cellsFrom pushCells;simp only [hk,Bool.false_eq_true,if_false];exact ih n acc h fun y hy=>hh y (List.mem_cons_of_mem _ hy)
   rw [List.nil_append];unfold cellsFrom pushCells;simp only [beq_self_eq_true,if_true];exact Gs post (n+1) ((xc,n)::acc) _ fun y hy=>hn y (by simpa using hy)
structure bK (N own:List Str) (caps:List Nat) (XN:List Str) (outer scope:Scope) (xc:Str):Prop where
 kind:scope.kind = .function
 one:∃pre post,scope.names=pre++(xc,.cell)::post /\ ∀y∈pre++post,y.2 ≠ .cell
 xcl:scope.names.lookup xc=some .cell
 nof:(xc,NameKind.free)∉scope.names
 names:∀y∈scope.names,y.2 = .local->scope.names.lookup y.1=some .local
 free:∀y∈scope.names,y.2 = .free->outer.names.lookup y.1=some .cell\/outer.names.lookup y.1=some .free
 nd:N.Nodup
 len:N.length=own.length+caps.length
 cap:∀(j:Nat),j<caps.length->N[own.length+j]? = XN[caps.getD j 0]? /\ ∃x,N[own.length+j]? = some x/\(x,NameKind.free)∈scope.names/\scope.names.lookup x=some .free
def dh (X:Cx) (scope:Scope) (xc:Str) (C:Addr) (N:List Str) (s:Shared) (H:Hp) (fp:List Addr):Cx:=
 {X with N:=N,s₀:=s,H₀:=H,env:=compEnvC scope ((xc,Nat.succ C)::je X.env scope.names []) C X.env,outer:=X.stack,ex:=fp,fn:=fun y=>decide (y=xc),pn:=[],xe:=fun _ _=>False}
section
variable {X:Cx} {pins:List (Addr×Obj)} {σ:St} {H:Hp} {s:Shared} {scope:Scope} {N own:List Str} {caps:List Nat} {fp:List Addr} {C:Nat} {xc:Str}
theorem bK.uo (S:bK N own caps X.N X.env.scope scope xc) (ok:X.Ok):∀y∈scope.names,y.2 = .free->(X.env.cells.lookup y.1).isSome=true:=fun y hy hf=>by
 obtain ⟨c,e⟩:=ok.has y.1 (S.free y hy hf);rw [e];rfl
theorem bK.csub (S:bK N own caps X.N X.env.scope scope xc) (ok:X.Ok) {x:Str} {c:Addr} (h:(je X.env scope.names []).lookup x=some c):X.env.cells.lookup x=some c:=by
 rw [dF _ _ _ (S.uo ok)] at h;split at h
 ·exact h
 ·simp at h
theorem bK.look (S:bK N own caps X.N X.env.scope scope xc) (ok:X.Ok) {x:Str} {c:Addr} (h:((xc,Nat.succ C)::je X.env scope.names []).lookup x=some c):(x=xc/\c=Nat.succ C)\/(x≠xc/\X.env.cells.lookup x=some c):=by
 rw [List.lookup_cons] at h;cases q:x==xc with
 | true=>rw [q] at h;exact .inl ⟨by simpa using q,(Option.some.inj h).symm⟩
 | false=>rw [q] at h;exact .inr ⟨by simpa using q,S.csub ok h⟩
theorem bK.Vj (S:bK N own caps X.N X.env.scope scope xc) {x:Str} (h:(x,NameKind.cell)∈scope.names):x=xc:=by
 obtain ⟨pre,post,e,no⟩:=S.one;rw [e] at h;rcases List.mem_append.mp h with h|h
 ·exact absurd rfl (no _ (List.mem_append_left _ h))
 ·rcases List.mem_cons.mp h with h|h
  ·exact congrArg Prod.fst h
  ·exact absurd rfl (no _ (List.mem_append_right _ h))
theorem bK.tO {S:bK N own caps X.N X.env.scope scope xc} {x:Str} (h:(relabel scope X.env).names.lookup x=some .cell\/(relabel scope X.env).names.lookup x=some .free):x=xc\/(x,NameKind.free)∈scope.names:=by
 have e:=eE X.env scope.names x;have e':(relabel scope X.env).names.lookup x=(scope.names.lookup x).map fun k=>if (k == .free&&X.env.scope.kind == .function&&X.env.kindOf x==some .cell)=true then NameKind.cell else k:=e;rw [e'] at h;cases q:scope.names.lookup x with
 | none=>rw [q] at h;simp at h
 | some k=>
   have hm:=PySem.mem_of_lookup q
   by_cases hk:k = .free
   ·subst hk;exact .inr hm
   ·rw [q] at h
    have hb:(k==NameKind.free)=false:=by simpa using hk
    simp only [Option.map_some,hb,Bool.false_and,Bool.false_eq_true,if_false] at h;rcases h with h|h
    ·have hc:=Option.some.inj h
     subst hc;exact .inl (S.Vj hm)
    ·exact absurd (Option.some.inj h) hk
theorem Inv.Vi {h1:Heap} {D:Nat} (I:Inv X pins σ H s) (S:bK N own caps X.N X.env.scope scope xc) (hfp:∀b∈fp,kI X pins H b) (hfo:∀b∈fp,∃o,s.heap.get? b=some o)
 (hD:D=s.heap.objs.size) (hC:C=s.heap.objs.size+1) (old:∀b o,s.heap.get? b=some o->h1.get? b=some o) (hns:h1.Ns C (fun _=>none)) (hl:h1.get? D=some {cls:= .type "list",data:= .seq #[]}) (hce:h1.IsCell (Nat.succ C) none) {t:Nat}:
 Inv (dh X scope xc C N s H fp) [] (st0 own caps σ) (upd H D (.lst [])) {s with heap:=h1,toks:=t}:=by
 have some':=S.uo I.ok;have look:∀{x c},((xc,Nat.succ C)::je X.env scope.names []).lookup x=some c->(x=xc/\c=Nat.succ C)\/(x≠xc/\X.env.cells.lookup x=some c):=fun h=>S.look I.ok h;have freshD:H D=none:=I.hok.fresh (by rw [hD];exact Nat.le_refl _);have Cy:H C=none:=I.hok.fresh (by rw [hC];exact Nat.le_succ _);have Rx:H (Nat.succ C)=none:=I.hok.fresh (by show s.heap.objs.size<=Nat.succ C;omega)
 have ux:∀x c,X.env.cells.lookup x=some c->c<s.heap.objs.size:=fun x c e=>by
  obtain ⟨v,z⟩:=I.cell x c e;exact z.lt
 have N6:∀b∈fp,b<s.heap.objs.size:=fun b hb=>by
  obtain ⟨o,e⟩:=hfo b hb;exact Heap.lt_size e
 have DC:D≠C:=by omega
 refine ⟨⟨I.ok.mod,S.kind,I.ok.glob,I.ok.blt,by show s.heap.objs.size<=C;omega,fun x y c e1 e2=> ?inj,fun x h=> ?_,fun x c h e=> ?cab,I.ok.hd,I.ok.frames,Or.inl rfl,fun b hb=>⟨?_,fun x c e=> ?_⟩,I.bs,Nat.le_trans I.ok.Hl I.sz,fun b o e hb=> ?_,fun b hb z=> ?_,I.stack,I.wu⟩,
  rfl,I.bare,Un.laid old (by show s.heap.objs.size<=D;omega) freshD,⟨_,hns,fun j x v e1 e2 e3=> ?_⟩,fun x c e=> ?_, ?_,fun x c e=> ?_,fun p hp=> ?_,I.hok.laid old (by omega) ?_, ?_⟩
 case inj=>
  rcases look e1 with ⟨a1,a2⟩|⟨a1,a2⟩
  ·rcases look e2 with ⟨b1,b2⟩|⟨b1,b2⟩
   ·exact a1.trans b1.symm
   ·have:=ju (ux y c b2);omega
  ·rcases look e2 with ⟨b1,b2⟩|⟨b1,b2⟩
   ·have:=ju (ux x c a2);omega
   ·exact I.ok.inj x y c a2 b2
 case cab=>
  rcases look e with ⟨a1,a2⟩|⟨a1,a2⟩
  ·show s.heap.objs.size<=c;omega
  ·exact absurd (of_decide_eq_true h) a1
 ·show ∃c,((xc,Nat.succ C)::je X.env scope.names []).lookup x=some c
  by_cases ex:x=xc
  ·subst ex;exact ⟨Nat.succ C,by simp [List.lookup_cons]⟩
  ·have hm:=(bK.tO (S:=S) (X:=X) h).resolve_left ex
   obtain ⟨c,e⟩:=Option.isSome_iff_exists.mp (some' _ hm rfl);have q:(x==xc)=false:=by simpa using ex
   exact ⟨c,by rw [List.lookup_cons,q,dF _ _ _ some',if_pos hm];exact e⟩
 ·exact Nat.ne_of_lt (show @LT.lt Nat _ b C by have:=ju (N6 b hb);omega)
 ·rcases look e with ⟨a1,a2⟩|⟨a1,a2⟩
  ·have:=ju (N6 b hb)
   subst a2;exact Nat.ne_of_gt (show @LT.lt Nat _ b (Nat.succ C) by omega)
  ·exact (hfp b hb).2.2.2.2.1 x c a2
 ·rcases (hfp b hb).2.2.2.1 with z|z
  ·exact I.ok.Gu b o e z
  ·exact absurd (Nat.lt_of_lt_of_le (Heap.lt_size e) (Nat.le_trans I.ok.Hl z)) (Nat.lt_irrefl _)
 ·rcases List.mem_cons.mp (I.pG b z) with q|q
  ·exact (hfp b hb).2.1 q
  ·exact (hfp b hb).2.2.1 q
 ·have e1:N[j]? = some x:=e1
  have hj:own.length<=j:=by
   by_cases q:own.length<=j
   ·exact q
   ·exfalso
    unfold st0 at e2;rw [List.getElem?_append_left (by simp;omega),List.getElem?_map] at e2;cases r:own[j]? with
    | none=>rw [r] at e2;cases e2
    | some a=>rw [r] at e2;cases e2
  have hjl:j<N.length:=(List.getElem?_eq_some_iff.mp e1).1;have hjc:j - own.length<caps.length:=by have:=S.len;omega
  obtain ⟨c1,x',c2,c3,c4⟩:=S.cap (j - own.length) hjc;rw [show own.length+(j - own.length)=j by omega] at c1 c2;rw [e1] at c2;cases c2
  have e2':(σ[caps.getD (j - own.length) 0]?).join=some v:=by
   unfold st0 at e2;rw [List.getElem?_append_right (by simp;omega),List.getElem?_map,List.length_map] at e2;rw [List.getD_eq_getElem?_getD];cases r:caps[j - own.length]? with
   | none=>rw [r] at e2;cases e2
   | some a=>rw [r] at e2;exact Option.some.inj e2
  have RK:σ[caps.getD (j - own.length) 0]? = some (some v):=by
   cases r:σ[caps.getD (j - own.length) 0]? with
   | none=>rw [r] at e2';cases e2'
   | some a=>rw [r] at e2';exact congrArg Option.some e2'
  have kx:X.env.kindOf x=some .cell\/X.env.kindOf x=some .free:=S.free _ c3 rfl;obtain ⟨m,hn,hl'⟩:=I.loc;obtain ⟨u,r,l⟩:=hl' _ x v (by rw [←c1];exact e1) RK (by rcases kx with z|z;exact .inr (.inl z);exact .inr (.inr z));refine ⟨u,r,.inr ⟨?_, ?_⟩⟩
  ·show (relabel scope X.env).names.lookup x=some .cell\/(relabel scope X.env).names.lookup x=some .free
   have e:(relabel scope X.env).names.lookup x=(scope.names.lookup x).map fun k=>if (k == .free&&X.env.scope.kind == .function&&X.env.kindOf x==some .cell)=true then NameKind.cell else k:=eE X.env scope.names x;rw [e,c4,Option.map_some];split
   ·exact .inl rfl
   ·exact .inr rfl
  ·rcases l with ⟨hk,_⟩|⟨_,c,hc,z⟩
   ·rcases kx with q|q<;>rw [hk] at q<;>cases q
   ·refine ⟨c, ?_, ?_⟩
    ·show ((xc,Nat.succ C)::je X.env scope.names []).lookup x=_
     have nx:x≠xc:=fun z=>S.nof (z▸c3);have q:(x==xc)=false:=by simpa using nx
     rw [List.lookup_cons,q,dF _ _ _ some',if_pos c3];exact hc
    ·obtain ⟨o,ho,hd⟩:=z
     exact ⟨o,old c o ho,hd⟩
 ·rcases look e with ⟨a1,a2⟩|⟨a1,a2⟩
  ·subst a2;exact ⟨none,hce⟩
  ·obtain ⟨v,o,ho,hd⟩:=I.cell x c a2
   exact ⟨v,o,old c o ho,hd⟩
 ·show upd H D (.lst []) C=none
  rw [aR DC.symm];exact Cy
 ·show upd H D (.lst []) c=none
  rcases look e with ⟨a1,a2⟩|⟨a1,a2⟩
  ·subst a2
   rw [aR (show Nat.succ C≠D by omega)];exact Rx
  ·rw [aR (Nat.ne_of_lt (by have:=ju (ux x c a2);omega))];exact I.jH x c a2
 ·cases hp
 ·exact ⟨Nat.zero_le _,[],0,.nil,hl⟩
 ·show (own.map (fun _=>none)++caps.map _).length=N.length
  rw [List.length_append,List.length_map,List.length_map,S.len]
theorem Inv.Dm {vG:List (Addr×Obj)} {σ':St} {H':Hp} {s':Shared} {h':Heap} (I:Inv X pins σ H s) (hfp:∀b∈fp,kI X pins H b) (hC:s.heap.objs.size<=C) (J:Inv (dh X scope xc C N s H fp) vG σ' H' s') (hs:Heap.SameBut C s'.heap h'):
 Inv X pins σ H' {s' with heap:=h'}:=by
 have nC:∀b o,s.heap.get? b=some o->b≠C:=fun b o e=>Nat.ne_of_lt (by have:=ju (Heap.lt_size e);omega);have u:=J.base;have frC:H' C=none:=J.free;refine I.call' (ch:=fp) (s':={s' with heap:=h'}) J.os ⟨fun b o e n hb hx=> ?_,fun b o e n hb hx=> ?_,u.free,fun b o e hx=> ?_,u.tups,u.qe,u.rZ⟩ (fun a o e=>(J.hok a o e).stay (fun b v hb q=> ?_) (fun _ q=>q) fun _ _ q=>q) J.bare fun b hb=> ?_
 ·exact (hs.2 b (nC b o e)).trans (u.keep b o e n hb hx)
 ·obtain ⟨sl,q⟩:=u.slot b o e n hb hx
  exact ⟨sl,(hs.2 b (nC b o e)).trans q⟩
 ·obtain ⟨o',q⟩:=u.there b o e hx
  exact ⟨o',(hs.2 b (nC b o e)).trans q⟩
 ·refine (hs.2 b ?_).trans q
  intro z;subst z;rcases hb with z|z
  ·subst z;rw [frC] at e;cases e
  ·rw [frC] at z;cases z
 ·exact ⟨(hfp b hb).2.2.2.1,(hfp b hb).2.1,(hfp b hb).2.2.2.2.1,(hfp b hb).2.2.2.2.2⟩
end
section
variable {M:Model} {A:Around} {E:Value->Shared->Prop} {s:Shared}
theorem B_ {scope:Scope} {globals:Addr} {cl:List (Str×Addr)} {qual:Str} {env:Env} {xc:Str} {Q:Env->Shared->Prop} (one:∃pre post,scope.names=pre++(xc,.cell)::post /\ ∀y∈pre++post,y.2 ≠ .cell)
 (h:Q (newEnv scope s.heap.objs.size globals ((xc,Nat.succ s.heap.objs.size)::cl) qual none .none (some env) builtinsNs) {s with heap:=(s.heap.push {cls:= .type "dict",data:= .dict #[]}).push {cls:= .type "cell",data:= .cell none}}):
 wpAny M A (newFunctionEnv scope globals cl [] qual none .none (some env)) Q E s:=by
 obtain ⟨pre,post,e,no⟩:=one;simp only [newFunctionEnv,Option.isSome_some,if_true];refine wpAny_bind (wpAny_alloc ?_);refine wpAny_bind (wpAny_layCells _ (fun name kind cells=>by cases hkc:kind==NameKind.cell<;>simp [hkc]) _ _ _ _ ?_);rw [e];have sz:(s.heap.push {cls:= .type "dict",data:= .dict #[]}).objs.size=Nat.succ s.heap.objs.size:=Heap.size_push ..;obtain ⟨e1,e2⟩:=yO (xc:=xc) pre post (s.heap.push {cls:= .type "dict",data:= .dict #[]}).objs.size cl (s.heap.push {cls:= .type "dict",data:= .dict #[]}) no;show wpAny M A _ Q E _;dsimp only;rw [e1,e2,sz];rw [List.forIn_nil];exact wpAny_bind (wpAny_pure (wpAny_pure h))
end
section
variable {X:Cx} {elt tg iter:Expr} {ifs:List Expr} {scope:Scope} {pos:Pos} {N own:List Str} {caps:List Nat} {wi:TI} {g:TG} {tc:TT} {te:TE} {xc:Str}
theorem Hi {use:Option (Value->Sem Unit)} {Qv:Value->Shared->Prop} {pins:List (Addr×Obj)} {σ:St} {H:Hp} {s:Shared} {Q:VK} (hc:X.calm=true) (S:bK N own caps X.N X.env.scope scope xc)
 (hg:∀C s H fp,PG (dh X scope xc C N s H fp) tg g) (hcs:∀C s H fp,RZ (dh X scope xc C N s H fp) ifs tc) (he:∀C s H fp,PE (dh X scope xc C N s H fp) elt te)
 (hi:PI X tg iter wi) (hs:∀x,foldedSetIterable iter X.env x=pure x)
 (I:Inv X pins σ H s) (h:vC own caps wi g tc te σ H Q)
 (fin:∀(D C:Addr) (H':Hp) (s':Shared),(∃m,s'.heap.Ns C m)->Inv X pins σ H' s'->(∀h',Heap.SameBut C s'.heap h'->Inv X pins σ H' {s' with heap:=h'})->kI X pins H' C->Q (.ref D) H' ->
   compPost (model X.prog X.w) X.A X.xe use Qv (.ref D) C (.ok .next) s'):
 wpAny (model X.prog X.w) X.A (comprehension (.ListComp elt [⟨tg,iter,ifs,0⟩] scope pos) scope X.env (firstIterPos [⟨tg,iter,ifs,0⟩] pos) (newList []) false (eval iter X.env) use) Qv X.xe s:=by
 refine wpAny_comprehension_free (use:=use) rfl hs (uw (S.uo I.ok)) S.kind S.names (cM (hi pins s σ H _ I h) fun xv s1 h1=>cM h1 fun itv s2 h2=> ?_);obtain ⟨it,fp,tn,J,H2,e,I2,T,st2,f2,q2⟩:=h2;subst e;refine wpAny_newList ?_;refine B_ S.one ?_;have hD:H2 s2.heap.objs.size=none:=I2.hok.fresh (Nat.le_refl _);have hsz:(s2.heap.push {cls:= .type "list",data:= .seq ([]:List Value).toArray}).objs.size=s2.heap.objs.size+1:=Heap.size_push ..;obtain ⟨h1,hh1⟩:∃h1,h1=((s2.heap.push {cls:= .type "list",data:= .seq ([]:List Value).toArray}).push {cls:= .type "dict",data:= .dict #[]}).push {cls:= .type "cell",data:= .cell none}:=⟨_,rfl⟩
 have old:∀b o,s2.heap.get? b=some o->h1.get? b=some o:=fun b o e=>by
  rw [hh1];exact Heap.get?_push_of_some _ (Heap.get?_push_of_some _ (Heap.get?_push_of_some _ e))
 have hl:h1.get? s2.heap.objs.size=some {cls:= .type "list",data:= .seq #[]}:=by
  rw [hh1];exact Heap.get?_push_of_some _ (Heap.get?_push_of_some _ (Heap.get?_push_size _ rfl))
 have NK:h1.Ns (s2.heap.push {cls:= .type "list",data:= .seq ([]:List Value).toArray}).objs.size (fun _=>none):=by
  rw [hh1];exact (Heap.Ns.new _ (.type "dict")).keeps fun b o e=>Heap.get?_push_of_some _ e
 have hce:h1.IsCell (Nat.succ (s2.heap.push {cls:= .type "list",data:= .seq ([]:List Value).toArray}).objs.size) none:=by
  rw [hh1];refine ⟨{cls:= .type "cell",data:= .cell none}, ?_,rfl⟩;have e:Nat.succ (s2.heap.push {cls:= .type "list",data:= .seq ([]:List Value).toArray}).objs.size=((s2.heap.push {cls:= .type "list",data:= .seq ([]:List Value).toArray}).push {cls:= .type "dict",data:= .dict #[]}).objs.size:=(Heap.size_push ..).symm;rw [e];exact Heap.get?_push_size _ rfl
 rw [←hh1];have hfo:∀b∈fp,∃o,s2.heap.get? b=some o:=fun b hb=>let ⟨o,e,_⟩:=T.obj _ _ st2 b hb;⟨o,e⟩
 have I4:=Inv.Vi (C:=(s2.heap.push {cls:= .type "list",data:= .seq ([]:List Value).toArray}).objs.size) (t:=s2.toks) I2 S f2 hfo rfl hsz old NK hl hce;obtain ⟨W,⟨m0,w0⟩,turn⟩:=q2 _ hD;generalize hCe:(s2.heap.push {cls:= .type "list",data:= .seq ([]:List Value).toArray}).objs.size=C at *;generalize hDe:s2.heap.objs.size=D at *;have hDC:D≠C:=by omega
 have loop:∀s3:Shared,s3={s2 with heap:=h1} ->
  codeAny (model X.prog X.w) X.A (.compLoop (.ListComp elt [⟨tg,iter,ifs,0⟩] scope pos) 0 (.ref it) (.ref D) (dh X scope xc C N s2 H2 fp).env) (compPost (model X.prog X.w) X.A X.xe use Qv (.ref D) C) s3:=by
  rintro s3 rfl
  have lA:∀b∈fp,(upd H2 D (.lst [])) b=none:=fun b hb=>by
   obtain ⟨o,e⟩:=hfo b hb;rw [aR (Nat.ne_of_lt (by have:=ju (Heap.lt_size e);omega))];exact (f2 b hb).1
  have stat:∀{H':Hp},(∀b∈fp,H' b=none) -> ∀b∈fp,kI (dh X scope xc C N s2 H2 fp) [] H' b:=fun hn b hb=>by
   obtain ⟨o,e⟩:=hfo b hb;have hlt:=ju (Heap.lt_size e);refine ⟨hn b hb, ?_,fun z=> ?_,.inl hb,fun x c e'=> ?_,fun p hp=>(by cases hp)⟩
   ·exact Nat.ne_of_lt (show @LT.lt Nat _ b C by omega)
   ·rcases List.mem_cons.mp (I2.pG b z) with q|q
    ·exact (f2 b hb).2.1 q
    ·exact (f2 b hb).2.2.1 q
   ·rcases S.look (C:=C) I2.ok e' with ⟨_,a2⟩|⟨_,a2⟩
    ·subst a2
     exact Nat.ne_of_gt (show @LT.lt Nat _ b (Nat.succ C) by omega)
    ·exact (f2 b hb).2.2.2.2.1 x c a2
  refine oW (fun n s'=>∃i σ' H',Inv (dh X scope xc C N s2 H2 fp) [] σ' H' s'/\tn i s'.heap/\(∀b∈fp,H' b=none)/\W i n σ' H') ?_ m0
   ⟨0,_,_,I4,T.keep _ _ _ st2 fun b _ o e=>old b o e,lA,w0⟩
  rintro n s3 ⟨i,σ3,H3,I3,st3,PB,w3⟩;rcases turn i n σ3 H3 w3 with ⟨stop,qn⟩|⟨go,Nx,hNx,step⟩
  ·refine cM (T.done (dh X scope xc C N s2 H2 fp) rfl rfl rfl hc i [] s3 σ3 H3 _ I3 (stat PB) st3 stop) fun r s4 ⟨hr,J4⟩=> ?_
   subst hr;obtain ⟨m4,zJ,_⟩:=J4.loc;exact fin D C H3 s4 ⟨m4,zJ⟩ (I2.Dm f2 (by omega) J4 (Heap.SameBut.refl _ _)) (fun h' hs'=>I2.Dm f2 (by omega) J4 hs') (I2.xq (show s2.heap.objs.size<=C by omega) J4.free) qn
  ·refine cM (T.item (dh X scope xc C N s2 H2 fp) rfl rfl rfl hc i [] s3 σ3 H3 _ I3 (stat PB) st3 go) fun r s4 ⟨u,hr,h4⟩=> ?_
   subst hr;refine cM h4 fun _ s5 ⟨x,H5,I5,r5,y5,uV,Lp⟩=> ?_;have V9:=I5.pinned (stat Lp) (T.obj _ _ uV);refine cM (hg C s2 H2 fp _ s5 σ3 H5 x u _ V9 r5 (step x H5 y5)) fun _ s6 ⟨σ6,H6,I6,q6⟩=> ?_;refine cM (hcs C s2 H2 fp _ s6 σ6 H6 _ I6 q6) fun ok s7 ⟨H7,I7,q7⟩=> ?_
   have again:∀{σ8:St} {H8:Hp} {s8:Shared},Inv (dh X scope xc C N s2 H2 fp) ([]++pR fp s5.heap) σ8 H8 s8->Nx σ8 H8 -> ∃m,m<n /\ ∃i σ' H',Inv (dh X scope xc C N s2 H2 fp) [] σ' H' s8/\tn i s8.heap/\(∀b∈fp,H' b=none)/\W i m σ' H':=fun {σ8 H8 s8} I8 n8=>by
    obtain ⟨m',hm,w8⟩:=hNx _ _ n8;refine ⟨m',hm,i+1,σ8,H8,I8.lD,T.keep _ _ _ uV fun b hb o e=>(I8.pin (b,o) (List.mem_append_right _ (List.mem_append_right _ (gK hb e)))).1,fun b hb=> ?_,w8⟩;obtain ⟨o,e,d⟩:=T.obj _ _ uV b hb;exact (I8.pin (b,o) (List.mem_append_right _ (List.mem_append_right _ (gK hb e)))).2.1
   cases ok with
   | false=>
     rw [if_neg (by decide)] at q7;exact again I7 q7
   | true=>
     rw [if_pos rfl] at q7;refine cM (he C s2 H2 fp _ s7 σ6 H7 _ I7 q7) fun y s8 ⟨yv,H8,I8,r8,acc,ha,hlen,q8⟩=> ?_;exact cM (pW _ s8 σ6 H8 (.ref D) [yv] (.ref D) [y] (fun v H9=>Nx σ6 H9) I8 rfl (.cons r8 .nil) ⟨D,acc,yv,rfl,rfl,ha,hlen,q8⟩) fun _ s9 ⟨_,H9,I9,_,q9⟩=>again I9 q9
 exact codeAny_compStart_list (loop _ rfl) (T.self _ 0 _ _ _ (T.keep _ _ _ st2 fun b _ o e=>old b o e) (loop _ rfl))
theorem Jo {i:Nat} {x:Str} {px sp:Pos} (hc:X.calm=true) (hN:X.N.Nodup) (hx:X.N[i]? = some x) (hl:Loc X.env.scope x) (S:bK N own caps X.N X.env.scope scope xc) (hi:PI X tg iter wi)
 (hg:∀C s H fp,PG (dh X scope xc C N s H fp) tg g) (hcs:∀C s H fp,RZ (dh X scope xc C N s H fp) ifs tc) (he:∀C s H fp,PE (dh X scope xc C N s H fp) elt te)
 (hsw:swapsWith (.ListComp elt [⟨tg,iter,ifs,0⟩] scope pos) (some (.Name x px)) sp.line X.env=pure true:=by rfl)
 (hs:∀x,foldedSetIterable iter X.env x=pure x:=by intro _;rfl) (hf:X.fn x=true\/X.env.scope.names.lookup x=some .local:=by first |exact .inl rfl|exact .inr rfl|assumption):
 PS X (.Assign [.Name x px] (.ListComp elt [⟨tg,iter,ifs,0⟩] scope pos) sp) (LK (vC own caps wi g tc te) (dZ i)):=by
 intro pins s σ H D I h;rw [exec_Assign_Name_used _ _ _ _ hsw];refine wpAny_bind (wpAny_standAt (wpAny_bind ?_));show wpAny _ X.A (do let _ ←comprehension (.ListComp elt [⟨tg,iter,ifs,0⟩] scope pos) scope X.env (firstIterPos [⟨tg,iter,ifs,0⟩] pos) (newList []) false (eval iter X.env) (some (assign (.Name x px) X.env))) _ _ s;refine wpAny_bind (wpAny_mono (Hi (use:=some (assign (.Name x px) X.env)) (Qv:=fun _ s'=>SP X pins D .next s') hc S hg hcs he hi hs I h ?_) (fun _ s' hq=>wpAny_pure (wpAny_pure hq)) fun _ _ e=>e);intro E C H' s' hn I' hk fC q;obtain ⟨m,hn⟩:=hn;obtain ⟨f0,f1,f2,f3,f4,f5⟩:=fC;show wpAny _ X.A (assign (.Name x px) X.env (.ref E)) _ _ _;refine wpAny_assign_Name (pF I' hN hx hl (v:= .ref E) rfl (fun s2 I2 k=> ?_) hf);refine ⟨m, ?_,fun h' hs'=> ?_⟩
 ·obtain ⟨o,es,ep,ho,r⟩:=hn
  obtain ⟨a,ks,ka⟩:=k
  have hCa:C≠a:=fun z=>by
   rcases ka with q'|q'
   ·exact f1 (z.trans q')
   ·exact f4 x a q' z.symm
  exact ⟨o,es,ep,(ks.2 C hCa).trans ho,r⟩
 ·exact ⟨_,H',I2.turned (t':=s2.toks) (fun b o hb e=>(hs'.2 b hb).trans e) f0 f1 f3 f4 f5,q⟩
end
def Fj (N own:List Str) (caps:List Nat) (XN:List Str) (outer scope:Scope) (xc:Str):Bool:=
 decide (scope.kind = .function)&&(scope.names.filter fun y=>decide (y.2 = .cell)).length==1&&decide (scope.names.lookup xc=some .cell)&&decide ((xc,NameKind.free)∉scope.names)&&scope.names.all (fun y=>decide (y.2 ≠ .local)||decide (scope.names.lookup y.1=some .local)) &&
 scope.names.all (fun y=>decide (y.2 ≠ .free)||decide (outer.names.lookup y.1=some .cell)||decide (outer.names.lookup y.1=some .free))&&decide N.Nodup&&decide (N.length=own.length+caps.length) &&
 (List.range caps.length).all (fun j=>match N[own.length+j]? with |some x=>decide (XN[caps.getD j 0]? = some x)&&decide ((x,NameKind.free)∈scope.names)&&decide (scope.names.lookup x=some .free)|none=>false)
theorem bK.of {N own:List Str} {caps:List Nat} {XN:List Str} {outer scope:Scope} {xc:Str} (h:Fj N own caps XN outer scope xc=true):bK N own caps XN outer scope xc:=by
 unfold Fj at h;simp only [Bool.and_eq_true,decide_eq_true_eq,List.all_eq_true,Bool.or_eq_true,beq_iff_eq] at h;obtain ⟨⟨⟨⟨⟨⟨⟨⟨h1,h2⟩,h2a⟩,h2b⟩,h3⟩,h4⟩,h5⟩,h6⟩,h7⟩:=h;refine ⟨h1, ?_,h2a,h2b,fun y hy e=> ?_,fun y hy e=> ?_,h5,h6,fun j hj=> ?_⟩
 ·have hm:(xc,NameKind.cell)∈scope.names:=mem_of_lookup h2a
  obtain ⟨pre,post,e⟩:=List.append_of_mem hm;refine ⟨pre,post,e,fun y hy z=> ?_⟩;rw [e,List.filter_append,List.length_append,List.filter_cons] at h2;simp only [decide_true,if_true,List.length_cons] at h2;have l1:(pre.filter fun y=>decide (y.2 = .cell)).length=0:=by omega
  have l2:(post.filter fun y=>decide (y.2 = .cell)).length=0:=by omega
  rcases List.mem_append.mp hy with q|q
  ·have:=List.filter_eq_nil_iff.mp (List.eq_nil_of_length_eq_zero l1) y q
   simp [z] at this
  ·have:=List.filter_eq_nil_iff.mp (List.eq_nil_of_length_eq_zero l2) y q
   simp [z] at this
 ·rcases h3 y hy with z|z
  ·exact absurd e z
  ·exact z
 ·rcases h4 y hy with (z|z)|z
  ·exact absurd e z
  ·exact .inl z
  ·exact .inr z
 ·have q:=h7 j (List.mem_range.mpr hj)
  cases e:N[own.length+j]? with
  | none=>rw [e] at q;cases q
  | some x=>
    rw [e] at q;simp only [Bool.and_eq_true,decide_eq_true_eq] at q;exact ⟨q.1.1.symm,x,rfl,q.1.2,q.2⟩
theorem CG {X:Cx} {scope:Scope} {xc:Str} {C:Addr} {N:List Str} {s:Shared} {H:Hp} {fp:List Addr}:(dh X scope xc C N s H fp).fn xc=true:=decide_eq_true (p:=xc=xc) rfl
end L2
set_option Elab.async false
set_option linter.all false
set_option maxRecDepth 100000
set_option maxHeartbeats 4000000
namespace Tim
open PySem PyProof.Rows
def jw:Bool->Keyed->Array Keyed->Nat->Nat->Nat->StateT SortSt Sem (Option Nat):=sortPriv% PySem.Builtin.gallop
def kj (left:Bool) (key:Keyed) (arr:Array Keyed) (base i:Nat):StateT SortSt Sem (Option Bool):=do
 let x ←elem' arr (base+i)
 if left then lt' x key else return (←lt' key x).map (!·)
theorem Cw (left:Bool) (key:Keyed) (arr:Array Keyed) (base n hint:Nat):jw left key arr base n hint=(do
 let mut lastofs:=0
 let mut ofs:=1
 let mut lo:=0
 let mut hi:=0
 let some right ←kj left key arr base hint|return none
 if right then
  let maxofs:=n - hint
  for _ in [0:n] do
   if ofs≥maxofs then break
   let some more ←kj left key arr base (hint+ofs)|return none
   if !more then break
   lastofs:=ofs
   ofs:=2*ofs+1
  lo:=hint+lastofs+1
  hi:=hint+min ofs maxofs
 else
  let maxofs:=hint+1
  for _ in [0:n] do
   if ofs≥maxofs then break
   let some found ←kj left key arr base (hint - ofs)|return none
   if found then break
   lastofs:=ofs
   ofs:=2*ofs+1
  lo:=hint+1 - min ofs maxofs
  hi:=hint - lastofs
 for _ in [0:n] do
  if lo≥hi then break
  let m:=lo+(hi - lo) / 2
  let some more ←kj left key arr base m|return none
  if more then lo:=m+1 else hi:=m
 return some hi):=rfl
section
variable {prog:Program} {w:World} {A:Around} {E:Value->Shared->Prop} {s:Shared} {κ:SortKind} {a₀:Array Keyed} {rk:Value->Nat}
structure Dl (prog:Program) (w:World) (A:Around) (s:Shared) (κ:SortKind) (a₀:Array Keyed) (rk:Value->Nat):Prop where
 ask:∀p∈a₀.toList,∀q∈a₀.toList,∀(E:Value->Shared->Prop) (Q:Bool->Shared->Prop),Q (decide (rk p.1<rk q.1)) s->wpAny (model prog w) A (keyLt' κ p.1 q.1) Q E s
def R (rk:Value->Nat) (xs:Array Keyed) (i:Nat):Nat:=match xs[i]? with
 | some p=>rk p.1
 | none=>0
theorem uN {xs:Array Keyed} {i:Nat} {p:Keyed} (h:xs[i]? = some p):R rk xs i=rk p.1:=by unfold R;rw [h]
theorem eZ {xs ys:Array Keyed} {i j:Nat} (h:xs[i]? = ys[j]?):R rk xs i=R rk ys j:=by unfold R;rw [h]
theorem rR {st:SortSt} {p q:Keyed} {Q:Option Bool->SortSt->Prop} (C:Dl prog w A s κ a₀ rk) (hk:kindOf st=κ) (hp:p∈a₀.toList) (hq:q∈a₀.toList) (h:Q (some (decide (rk p.1<rk q.1))) st):
 wpS (model prog w) A E s (lt' p q) Q st:=by
 rw [lt'_eq];refine wpS_bind (wpS_get ?_);rw [hk];refine wpS_bind (wpS_lift (wpAny_attempt (C.ask p hp q hq _ _ ⟨rfl, ?_⟩)));exact wpS_pure h
theorem bJ {st:SortSt} {arr:Array Keyed} {i:Nat} {p:Keyed} {Q:Keyed->SortSt->Prop} (hi:arr[i]? = some p) (h:Q p st):wpS (model prog w) A E s (elem' arr i) Q st:=by
 rw [elem'_eq,hi];exact wpS_pure h
def By (left:Bool) (k r:Nat):Bool:=if left then decide (r<k) else !decide (k<r)
theorem j5 {st:SortSt} {left:Bool} {key:Keyed} {arr:Array Keyed} {base i:Nat} {Q:Option Bool->SortSt->Prop} (C:Dl prog w A s κ a₀ rk) (hk:kindOf st=κ) (hkey:key∈a₀.toList) (oR:∀p∈arr.toList,p∈a₀.toList)
 (hi:base+i<arr.size) (h:Q (some (By left (rk key.1) (R rk arr (base+i)))) st):wpS (model prog w) A E s (kj left key arr base i) Q st:=by
 unfold kj;have e:arr[base+i]? = some arr[base+i]:=getElem?_pos arr (base+i) hi;have hm:arr[base+i]∈a₀.toList:=oR _ (by simp);rw [uN e] at h;refine wpS_bind (bJ e ?_);cases left with
 | true=>exact rR C hk hm hkey h
 | false=>exact wpS_bind (rR C hk hkey hm (wpS_pure h))
theorem xQ {left:Bool} {k r r':Nat} (h:By left k r=true) (le:r'<=r):By left k r'=true:=by
 unfold By at *;cases left<;>simp at * <;> omega
theorem uU {left:Bool} {k r r':Nat} (h:By left k r=false) (le:r<=r'):By left k r'=false:=by
 unfold By at *;cases left<;>simp at * <;> omega
def Seg (rk:Value->Nat) (xs:Array Keyed) (lo hi:Nat):Prop:=∀i j,lo<=i->i<=j->j<hi->R rk xs i<=R rk xs j
abbrev GSt:=Option (Option Nat)×Nat×Nat
theorem qu {st:SortSt} {left:Bool} {key:Keyed} {arr:Array Keyed} {base n lo hi:Nat} {Q:GSt->SortSt->Prop} (C:Dl prog w A s κ a₀ rk) (hk:kindOf st=κ) (hkey:key∈a₀.toList) (oR:∀p∈arr.toList,p∈a₀.toList)
 (hn:base+n<=arr.size) (hs:Seg rk arr base (base+n)) (hlh:lo<=hi) (hhn:hi<=n)
 (h1:∀i,i<lo->By left (rk key.1) (R rk arr (base+i))=true) (h2:∀i,hi<=i->i<n->By left (rk key.1) (R rk arr (base+i))=false)
 (h:∀k l,k<=n->(∀i,i<k->By left (rk key.1) (R rk arr (base+i))=true)->(∀i,k<=i->i<n->By left (rk key.1) (R rk arr (base+i))=false)->Q (none,l,k) st):
 wpS (model prog w) A E s (forIn [0:n] ((none,lo,hi):GSt) fun _ __s=>
       if __s.snd.fst≥__s.snd.snd then pure (ForInStep.done (none,__s.snd.fst,__s.snd.snd))
       else do
        let __x ←kj left key arr base (__s.snd.fst+(__s.snd.snd - __s.snd.fst) / 2)
        match __x with
         | some more=>
           if more=true then
            pure (ForInStep.yield (none,__s.snd.fst+(__s.snd.snd - __s.snd.fst) / 2+1,__s.snd.snd))
           else pure (ForInStep.yield (none,__s.snd.fst,__s.snd.fst+(__s.snd.snd - __s.snd.fst) / 2))
         | _=>pure (ForInStep.done (some none,__s.snd.fst,__s.snd.snd))) Q st:=by
 refine wpS_forRange (I:=fun x c st'=>st'=st /\ ∃lo hi,c=(none,lo,hi)/\lo<=hi/\hi<=n/\hi - lo<=n - x/\(∀i,i<lo->By left (rk key.1) (R rk arr (base+i))=true)/\(∀i,hi<=i->i<n->By left (rk key.1) (R rk arr (base+i))=false)) ?step ?fin ⟨rfl,lo,hi,rfl,hlh,hhn,by omega,h1,h2⟩
 case fin=>
  rintro c st' ⟨rfl,lo,hi,rfl,a1,a2,a3,a4,a5⟩;have:lo=hi:=by omega
  subst this;exact h _ _ a2 a4 a5
 case step=>
  rintro x c st' _ hx ⟨rfl,lo,hi,rfl,a1,a2,a3,a4,a5⟩;dsimp only
  by_cases hge:lo≥hi
  ·rw [if_pos hge]
   have:lo=hi:=by omega
   subst this;exact wpS_pure (h _ _ a2 a4 a5)
  ·rw [if_neg hge]
   refine wpS_bind (j5 C hk hkey oR (by omega) ?_);dsimp only;cases hb:By left (rk key.1) (R rk arr (base+(lo+(hi - lo) / 2))) with
   | true=>
     simp only [if_true];refine wpS_pure ⟨rfl,_,_,rfl,by omega,a2,by omega,fun i hi'=> ?_,a5⟩;exact xQ hb (hs _ _ (by omega) (by omega) (by omega))
   | false=>
     simp only [Bool.false_eq_true,if_false];refine wpS_pure ⟨rfl,_,_,rfl,by omega,by omega,by omega,a4,fun i hi' hin=> ?_⟩;exact uU hb (hs _ _ (by omega) (by omega) (by omega))
theorem gG {st:SortSt} {left:Bool} {key:Keyed} {arr:Array Keyed} {base n hint:Nat} {Q:Option Nat->SortSt->Prop} (C:Dl prog w A s κ a₀ rk) (hk:kindOf st=κ) (hkey:key∈a₀.toList) (oR:∀p∈arr.toList,p∈a₀.toList)
 (hn:base+n<=arr.size) (hh:hint<n) (hs:Seg rk arr base (base+n))
 (h:∀k,k<=n->(∀i,i<k->By left (rk key.1) (R rk arr (base+i))=true)->(∀i,k<=i->i<n->By left (rk key.1) (R rk arr (base+i))=false)->Q (some k) st):
 wpS (model prog w) A E s (jw left key arr base n hint) Q st:=by
 rw [Cw];refine wpS_bind (j5 C hk hkey oR (by omega) ?_);dsimp only;cases hr:By left (rk key.1) (R rk arr (base+hint)) with
 | true=>
   simp only [if_true]
   refine wpS_bind (wpS_mono (wpS_forRange (I:=fun x c st'=>st'=st /\ ∃l o,c=(none,l,o)/\l<o/\x<o/\hint+l<n/\By left (rk key.1) (R rk arr (base+(hint+l)))=true)
    (Q:=fun c st'=>st'=st /\ ∃l o,c=(none,l,o)/\l<o/\hint+l<n/\By left (rk key.1) (R rk arr (base+(hint+l)))=true/\(o<n - hint->By left (rk key.1) (R rk arr (base+(hint+o)))=false)) ?step ?fin ⟨rfl,0,1,rfl,by omega,by omega,by omega,hr⟩) ?post)
   case fin=>
    rintro c st' ⟨rfl,l,o,rfl,a1,a2,a3,a4⟩;exact ⟨rfl,l,o,rfl,a1,a3,a4,fun z=>by omega⟩
   case step=>
    rintro x c st' _ hx ⟨rfl,l,o,rfl,a1,a2,a3,a4⟩;dsimp only
    by_cases hge:o≥n - hint
    ·rw [if_pos hge]
     exact wpS_pure ⟨rfl,l,o,rfl,a1,a3,a4,fun z=>by omega⟩
    ·rw [if_neg hge]
     refine wpS_bind (j5 C hk hkey oR (by omega) ?_);dsimp only;cases hb:By left (rk key.1) (R rk arr (base+(hint+o))) with
     | true=>
       simp only [Bool.not_true,Bool.false_eq_true,if_false];exact wpS_pure ⟨rfl,o,2*o+1,rfl,by omega,by omega,by omega,hb⟩
     | false=>
       simp only [Bool.not_false,if_true];exact wpS_pure ⟨rfl,l,o,rfl,a1,a3,a4,fun _=>hb⟩
   case post=>
    rintro c st' ⟨rfl,l,o,rfl,a1,a2,a3,a4⟩;dsimp only;refine wpS_bind (qu C hk hkey oR hn hs (by omega) (by omega) (fun i hi=> ?_) (fun i hi hin=> ?_) fun k l' b1 b2 b3=>wpS_pure (h k b1 b2 b3))
    ·exact xQ a3 (hs _ _ (by omega) (by omega) (by omega))
    ·exact uU (a4 (by omega)) (hs _ _ (by omega) (by omega) (by omega))
 | false=>
   simp only [Bool.false_eq_true,if_false]
   refine wpS_bind (wpS_mono (wpS_forRange (I:=fun x c st'=>st'=st /\ ∃l o,c=(none,l,o)/\l<o/\x<o/\l<=hint/\By left (rk key.1) (R rk arr (base+(hint - l)))=false)
    (Q:=fun c st'=>st'=st /\ ∃l o,c=(none,l,o)/\l<o/\l<=hint/\By left (rk key.1) (R rk arr (base+(hint - l)))=false/\(o<hint+1->By left (rk key.1) (R rk arr (base+(hint - o)))=true)) ?step ?fin ⟨rfl,0,1,rfl,by omega,by omega,by omega,hr⟩) ?post)
   case fin=>
    rintro c st' ⟨rfl,l,o,rfl,a1,a2,a3,a4⟩;exact ⟨rfl,l,o,rfl,a1,a3,a4,fun z=>by omega⟩
   case step=>
    rintro x c st' _ hx ⟨rfl,l,o,rfl,a1,a2,a3,a4⟩;dsimp only
    by_cases hge:o≥hint+1
    ·rw [if_pos hge]
     exact wpS_pure ⟨rfl,l,o,rfl,a1,a3,a4,fun z=>by omega⟩
    ·rw [if_neg hge]
     refine wpS_bind (j5 C hk hkey oR (by omega) ?_);dsimp only;cases hb:By left (rk key.1) (R rk arr (base+(hint - o))) with
     | true=>
       simp only [if_true];exact wpS_pure ⟨rfl,l,o,rfl,a1,a3,a4,fun _=>hb⟩
     | false=>
       simp only [Bool.false_eq_true,if_false];exact wpS_pure ⟨rfl,o,2*o+1,rfl,by omega,by omega,by omega,hb⟩
   case post=>
    rintro c st' ⟨rfl,l,o,rfl,a1,a2,a3,a4⟩;dsimp only;refine wpS_bind (qu C hk hkey oR hn hs (by omega) (by omega) (fun i hi=> ?_) (fun i hi hin=> ?_) fun k l' b1 b2 b3=>wpS_pure (h k b1 b2 b3))
    ·exact xQ (a4 (by omega)) (hs _ _ (by omega) (by omega) (by omega))
    ·exact uU a3 (hs _ _ (by omega) (by omega) (by omega))
end
end Tim
set_option Elab.async false
set_option linter.all false
set_option maxRecDepth 100000
set_option maxHeartbeats 4000000
namespace Tim
open PySem PyProof.Rows
def dW:Nat->StateT SortSt Sem Unit:=sortPriv% PySem.Builtin.setMinGallop
theorem pO (g:Nat):dW g=modify fun s=>SortSt.mk' (kindOf s) (arrOf s) (pendingOf s) g (failedOf s):=rfl
def tL:Array Keyed->Array Keyed->StateT SortSt Sem (Array Keyed):=sortPriv% PySem.Builtin.mergeLo
def tM:Array Keyed->Array Keyed->StateT SortSt Sem (Array Keyed):=sortPriv% PySem.Builtin.mergeHi
abbrev fu (a b out:Array Keyed) (ia ib:Nat):Array Keyed:=out++a.extract ia a.size++b.extract ib b.size
abbrev nu (a b out:Array Keyed) (ia ib:Nat):Array Keyed:=out++b.extract ib b.size++a.extract ia a.size
theorem zj (a b:Array Keyed):tL a b=(do
 rule "list.sort.merge-lo"
 let total:=a.size+b.size
 let mut out:Array Keyed:= #[←elem' b 0]
 let mut ia:=0
 let mut ib:=1
 if ib==b.size then return fu a b out ia ib
 if ia+1==a.size then return nu a b out ia ib
 let mut minGallop:=gallopOf (←get)
 for _ in [0:total] do
  let mut acount:=0
  let mut bcount:=0
  for _ in [0:total] do
   let some bWins ←lt' (←elem' b ib) (←elem' a ia)|return fu a b out ia ib
   if bWins then
    out:=out.push (←elem' b ib);ib:=ib+1;bcount:=bcount+1;acount:=0
    if ib==b.size then return fu a b out ia ib
    if bcount≥minGallop then break
   else
    out:=out.push (←elem' a ia);ia:=ia+1;acount:=acount+1;bcount:=0
    if ia+1==a.size then return nu a b out ia ib
    if acount≥minGallop then break
  rule "list.sort.gallop"
  minGallop:=minGallop+1
  for _ in [0:total] do
   if minGallop>1 then minGallop:=minGallop - 1
   dW minGallop
   let some k ←jw false (←elem' b ib) a ia (a.size - ia) 0|return fu a b out ia ib
   acount:=k
   if k>0 then
    out:=out++a.extract ia (ia+k);ia:=ia+k
    if ia+1==a.size then return nu a b out ia ib
    if ia==a.size then return fu a b out ia ib
   out:=out.push (←elem' b ib);ib:=ib+1
   if ib==b.size then return fu a b out ia ib
   let some k ←jw true (←elem' a ia) b ib (b.size - ib) 0|return fu a b out ia ib
   bcount:=k
   if k>0 then
    out:=out++b.extract ib (ib+k);ib:=ib+k
    if ib==b.size then return fu a b out ia ib
   out:=out.push (←elem' a ia);ia:=ia+1
   if ia+1==a.size then return nu a b out ia ib
   if acount<7&&bcount<7 then break
  minGallop:=minGallop+1
  dW minGallop
 unsupported "internal:list.sort.merge-bound"):=rfl
section
variable {rk:Value->Nat} {a b out:Array Keyed} {ia ib k:Nat}
def Le (rk:Value->Nat) (x y:Keyed):Prop:=rk x.1<=rk y.1
def HD (rk:Value->Nat) (l:List Keyed):Prop:=l.Pairwise (Le rk)
structure MI (rk:Value->Nat) (a b out:Array Keyed) (ia ib:Nat):Prop where
 perm:(out.toList++(a.toList.drop ia++b.toList.drop ib)).Perm (a.toList++b.toList)
 sa:HD rk (out.toList++a.toList.drop ia)
 sb:HD rk (out.toList++b.toList.drop ib)
structure Mg (rk:Value->Nat) (a b r:Array Keyed):Prop where
 perm:r.toList.Perm (a.toList++b.toList)
 srt:HD rk r.toList
theorem cI (a:Array Keyed) (i j:Nat):(a.extract i j).toList=(a.toList.drop i).take (j - i):=by
 rw [Array.toList_extract,List.extract_eq_take_drop]
theorem uh (l:List Keyed) (i k:Nat):l.drop i=(l.drop i).take k++l.drop (i+k):=by
 rw [←List.drop_drop,List.take_append_drop]
theorem gC {a:Array Keyed} {i:Nat} (h:i<a.size):R rk a i=rk (a[i]).1:=uN (getElem?_pos a i h)
theorem JQ {a:Array Keyed} {x:Keyed} (h:x∈a.toList.drop ia):∃j,ia<=j/\j<a.size/\R rk a j=rk x.1:=by
 obtain ⟨j,hj,e⟩:=List.getElem_of_mem h;rw [List.length_drop,Array.length_toList] at hj;rw [List.getElem_drop,Array.getElem_toList] at e;exact ⟨ia+j,by (clear e hj;omega),by (clear e;omega),by rw [gC (by (clear e;omega)),e]⟩
theorem gU {a:Array Keyed} {x:Keyed} (h:x∈(a.toList.drop ia).take k):∃j,j<k/\ia+j<a.size/\R rk a (ia+j)=rk x.1:=by
 obtain ⟨j,hj,e⟩:=List.getElem_of_mem h;rw [List.length_take,List.length_drop,Array.length_toList] at hj;rw [List.getElem_take,List.getElem_drop,Array.getElem_toList] at e;exact ⟨j,by (clear e;omega),by (clear e;omega),by rw [gC (by (clear e;omega)),e]⟩
theorem gO {x y:List Keyed}:HD rk (x++y)↔HD rk x/\HD rk y /\ ∀p∈x,∀q∈y,rk p.1<=rk q.1:=List.pairwise_append
theorem MI.qj (m:MI rk a b out ia ib) (hle:∀i,i<k->ib+i<b.size -> ∀j,ia<=j->j<a.size->R rk b (ib+i)<=R rk a j):MI rk a b (out++b.extract ib (ib+k)) ia (ib+k):=by
 have e:(out++b.extract ib (ib+k)).toList=out.toList++(b.toList.drop ib).take k:=by rw [Array.toList_append,cI];congr 2;omega
 have sp:=uh b.toList ib k;refine ⟨?_, ?_, ?_⟩
 ·rw [e]
  refine List.Perm.trans ?_ m.perm;rw [List.append_assoc];refine List.Perm.append_left _ ?_;refine List.Perm.trans ?_ (List.Perm.of_eq (congrArg (a.toList.drop ia ++ ·) sp.symm));rw [←List.append_assoc];refine List.Perm.trans (List.Perm.append_right _ (List.perm_append_comm)) (List.Perm.of_eq (List.append_assoc _ _ _))
 ·rw [e,List.append_assoc]
  have h1:=gO.mp m.sa;have h2:=m.sb;rw [sp] at h2;have h3:=gO.mp h2;have h4:=gO.mp h3.2.1;refine gO.mpr ⟨h1.1,gO.mpr ⟨h4.1,h1.2.1,fun p hp q hq=> ?_⟩,fun p hp q hq=> ?_⟩
  ·obtain ⟨i,i1,i2,i3⟩:=gU (rk:=rk) hp
   obtain ⟨j,j1,j2,j3⟩:=JQ (rk:=rk) hq;rw [←i3,←j3];exact hle i i1 i2 j j1 j2
  ·rcases List.mem_append.mp hq with hq|hq
   ·exact h3.2.2 p hp q (List.mem_append_left _ hq)
   ·exact h1.2.2 p hp q hq
 ·rw [e,List.append_assoc,←sp]
  exact m.sb
theorem MI.swap (m:MI rk a b out ia ib):MI rk b a out ib ia:=⟨(List.Perm.append_left _ List.perm_append_comm).trans (m.perm.trans List.perm_append_comm),m.sb,m.sa⟩
theorem MI.qm (m:MI rk a b out ia ib) (hle:∀i,i<k->ia+i<a.size -> ∀j,ib<=j->j<b.size->R rk a (ia+i)<=R rk b j):MI rk a b (out++a.extract ia (ia+k)) (ia+k) ib:=(m.swap.qj hle).swap
theorem yD (h:ib<b.size):out.push b[ib]=out++b.extract ib (ib+1):=by
 apply Array.toList_inj.mp;rw [Array.toList_push,Array.toList_append,cI];congr 1;rw [show ib+1 - ib=1 by (clear h;omega),List.drop_eq_getElem_cons (by rw [Array.length_toList];exact h)];rfl
theorem MI.sX (m:MI rk a b out ia ib) (h:ib<b.size) (hle:∀j,ia<=j->j<a.size->R rk b ib<=R rk a j):MI rk a b (out.push b[ib]) ia (ib+1):=by
 rw [yD h];refine m.qj (k:=1) fun i hi hb j j1 j2=> ?_;have:i=0:=by (clear j2 j1 hb h;omega)
 subst this;exact hle j j1 j2
theorem MI.sY (m:MI rk a b out ia ib) (h:ia<a.size) (hle:∀j,ib<=j->j<b.size->R rk a ia<=R rk b j):MI rk a b (out.push a[ia]) (ia+1) ib:=(m.swap.sX h hle).swap
theorem MI.done (m:MI rk a b out ia ib) (h:ia=a.size\/ib=b.size):Mg rk a b (fu a b out ia ib):=by
 have e:(fu a b out ia ib).toList=out.toList++(a.toList.drop ia++b.toList.drop ib):=by
  unfold fu;rw [Array.toList_append,Array.toList_append,cI,cI,List.append_assoc];congr 2
  ·rw [List.take_of_length_le];rw [List.length_drop,Array.length_toList];exact Nat.le_refl _
  ·rw [List.take_of_length_le];rw [List.length_drop,Array.length_toList];exact Nat.le_refl _
 refine ⟨by rw [e];exact m.perm, ?_⟩;rw [e];rcases h with h|h
 ·rw [h,show a.toList.drop a.size=[] by rw [List.drop_eq_nil_of_le];rw [Array.length_toList];exact Nat.le_refl _,List.nil_append]
  exact m.sb
 ·rw [h,show b.toList.drop b.size=[] by rw [List.drop_eq_nil_of_le];rw [Array.length_toList];exact Nat.le_refl _,List.append_nil]
  exact m.sa
theorem MI.last (m:MI rk a b out ia ib) (h:∀i j,ib<=i->i<b.size->ia<=j->j<a.size->R rk b i<=R rk a j):Mg rk a b (nu a b out ia ib):=by
 have m2:=m.qj (k:=b.size - ib) fun i hi hb j j1 j2=>h _ _ (by (clear j2 j1 hb hi;omega)) hb j1 j2
 have e:(nu a b out ia ib)=fu a b (out++b.extract ib (ib+(b.size - ib))) ia (ib+(b.size - ib)):=by
  unfold fu nu;apply Array.toList_inj.mp;simp only [Array.toList_append,cI]
  have e1:(b.toList.drop (ib+(b.size - ib))).take (b.size - (ib+(b.size - ib)))=[]:=by
   rw [List.take_eq_nil_iff];left;omega
  rw [e1,List.append_nil];congr 3
  (clear e1;omega)
 rw [e]
 by_cases hb:ib<=b.size
 ·exact m2.done (.inr (by (clear e;omega)))
 ·refine ⟨?_, ?_⟩
  ·have:=m2.perm
   have e2:(fu a b (out++b.extract ib (ib+(b.size - ib))) ia (ib+(b.size - ib))).toList=(out++b.extract ib (ib+(b.size - ib))).toList++(a.toList.drop ia++b.toList.drop (ib+(b.size - ib))):=by
    unfold fu;rw [Array.toList_append,Array.toList_append,cI,cI,List.append_assoc];congr 2
    ·rw [List.take_of_length_le];rw [List.length_drop,Array.length_toList];exact Nat.le_refl _
    ·rw [List.take_of_length_le];rw [List.length_drop,Array.length_toList];exact Nat.le_refl _
   rw [e2];exact this
  ·unfold fu
   rw [Array.toList_append,Array.toList_append,cI (a:=b) (i:=ib+(b.size - ib)),show b.size - (ib+(b.size - ib))=0 by (clear hb e;omega),List.take_zero,List.append_nil,cI (a:=a)];rw [List.take_of_length_le (by rw [List.length_drop,Array.length_toList];exact Nat.le_refl _)];exact m2.sa
end
end Tim
set_option Elab.async false
set_option linter.all false
set_option maxRecDepth 100000
set_option maxHeartbeats 4000000
namespace Tim
open PySem PyProof.Rows
section
variable {prog:Program} {w:World} {A:Around} {E:Value->Shared->Prop} {s:Shared} {κ:SortKind} {a₀:Array Keyed} {rk:Value->Nat}
structure xW (st st':SortSt):Prop where
 k:kindOf st'=kindOf st
 a:arrOf st'=arrOf st
 p:pendingOf st'=pendingOf st
 f:failedOf st'=failedOf st
theorem xW.refl (st:SortSt):xW st st:=⟨rfl,rfl,rfl,rfl⟩
theorem xW.trans {a b c:SortSt} (h:xW a b) (g:xW b c):xW a c:=⟨g.k.trans h.k,g.a.trans h.a,g.p.trans h.p,g.f.trans h.f⟩
theorem lY {st:SortSt} {g:Nat} {Q:Unit->SortSt->Prop} (h:∀st',xW st st'->Q () st'):wpS (model prog w) A E s (dW g) Q st:=by
 rw [pO];exact wpS_modify (h _ ⟨rfl,rfl,rfl,rfl⟩)
theorem aN {α:Type} {c:Prop} [Decidable c] {x y:StateT SortSt Sem α} {Q:α->SortSt->Prop} {st:SortSt} (h1:c->wpS (model prog w) A E s x Q st) (h2:¬c->wpS (model prog w) A E s y Q st):wpS (model prog w) A E s (if c then x else y) Q st:=by
 by_cases hc:c
 ·rw [if_pos hc];exact h1 hc
 ·rw [if_neg hc];exact h2 hc
theorem R7 {k r:Nat} (h:By true k r=true):r<k:=by simpa [By] using h
theorem Ox {k r:Nat} (h:By false k r=true):r<=k:=by simpa [By] using h
theorem Ag {k r:Nat} (h:By true k r=false):k<=r:=by simpa [By] using h
theorem Lh {k r:Nat} (h:By false k r=false):k<r:=by simpa [By] using h
theorem xY {st:SortSt} {a b:Array Keyed} {Q:Array Keyed->SortSt->Prop} (C:Dl prog w A s κ a₀ rk) (hk:kindOf st=κ) (ha:∀p∈a.toList,p∈a₀.toList) (hb:∀p∈b.toList,p∈a₀.toList)
 (ha1:1<=a.size) (hb1:1<=b.size) (sa:Seg rk a 0 a.size) (sb:Seg rk b 0 b.size) (h0:R rk b 0<=R rk a 0) (hl:R rk b (b.size - 1)<=R rk a (a.size - 1))
 (h:∀r st',xW st st'->Mg rk a b r->Q r st'):wpS (model prog w) A E s (tL a b) Q st:=by
 have Ut:∀i,i<b.size -> ∃p,b[i]? = some p/\p∈a₀.toList/\R rk b i=rk p.1:=fun i hi=>⟨b[i],getElem?_pos b i hi,hb _ (by simp),gC hi⟩;have Pn:∀i,i<a.size -> ∃p,a[i]? = some p/\p∈a₀.toList/\R rk a i=rk p.1:=fun i hi=>⟨a[i],getElem?_pos a i hi,ha _ (by simp),gC hi⟩
 have mid:∀i j,i<b.size->j+1=a.size->R rk b i<=R rk a j:=fun i j hi hj=>by
  have:=sb i (b.size - 1) (by (clear hj hi hl h0 hb1 ha1 hk;lia)) (by (clear hj hl h0 hb1 ha1 hk;lia)) (by (clear hj hi hl h0 ha1 hk;lia));have e:a.size - 1=j:=by (clear this hi hl h0 hb1 ha1 hk;lia)
  rw [e] at hl
  (clear e hj hi h0 hb1 ha1 hk;lia)
 have m0:MI rk a b #[b[0]] 0 1:=by
  have m:MI rk a b #[] 0 0:=by
   refine ⟨by simp, ?_, ?_⟩
   ·show HD rk ([]++a.toList.drop 0)
    rw [List.nil_append,List.drop_zero];refine List.pairwise_iff_getElem.mpr fun i j hi hj hij=> ?_;rw [Array.length_toList] at hi hj;have:=sa i j (by (clear hij hj hi hl h0 hb1 ha1 hk;lia)) (by (clear hj hi hl h0 hb1 ha1 hk;lia)) hj;rw [gC hi,gC hj] at this;simpa [Le] using this
   ·show HD rk ([]++b.toList.drop 0)
    rw [List.nil_append,List.drop_zero];refine List.pairwise_iff_getElem.mpr fun i j hi hj hij=> ?_;rw [Array.length_toList] at hi hj;have:=sb i j (by (clear hij hj hi hl h0 hb1 ha1 hk;lia)) (by (clear hj hi hl h0 hb1 ha1 hk;lia)) hj;rw [gC hi,gC hj] at this;simpa [Le] using this
  exact m.sX (by (clear hl h0 ha1 hk;lia)) fun j _ j2=>Nat.le_trans h0 (sa 0 j (by (clear j2 hl h0 hb1 ha1 hk;lia)) (by (clear j2 hl h0 hb1 ha1 hk;lia)) j2)
 rw [zj];refine wpS_bind (wpS_lift (wpAny_rule ⟨rfl, ?_⟩));refine wpS_bind (bJ (p:=b[0]) (getElem?_pos b 0 (by (clear hl h0 ha1 hk;lia))) ?_);dsimp only;refine aN (fun e=> ?_) (fun e=> ?_)
 ·have e:1=b.size:=by simpa using e
  exact wpS_pure (h _ _ (.refl _) (m0.done (.inr e)))
 have eb:¬1=b.size:=by simpa using e
 refine aN (fun e=> ?_) (fun e=> ?_)
 ·have e:1=a.size:=by simpa using e
  exact wpS_pure (h _ _ (.refl _) (m0.last fun i j _ hi _ hj=>mid i j hi (by (clear hi eb hl h0 ha1 hk;lia))))
 have ea:¬1=a.size:=by simpa using e
 refine wpS_bind (wpS_get ?_)
 refine wpS_bind (wpS_mono (wpS_forRange (I:=fun x c st'=>xW st st' /\ ∃out ia ib mg,c=(none,out,ia,ib,mg)/\MI rk a b out ia ib/\ia+2<=a.size/\ib+1<=b.size/\(a.size - ia)+(b.size - ib)+x<=a.size+b.size)
  (Q:=fun c st'=>xW st st' /\ ∃r cc,c=(some r,cc)/\Mg rk a b r) ?step ?fin ⟨.refl _,_,_,_,_,rfl,m0,by (clear e eb hl h0 hk;lia),by (clear ea e hl h0 ha1 hk;lia),by (clear ea e eb hl h0 ha1 hk;lia)⟩) ?post)
 case post=>
  rintro c st' ⟨kp,r,cc,rfl,m⟩;exact wpS_pure (h _ _ kp m)
 case fin=>
  rintro c st' ⟨kp,out,ia,ib,mg,rfl,m,a1,b1,le⟩
  (clear b1 ea e eb hl h0 ha1 hk;lia)
 case step=>
  rintro x c st' _ hx ⟨kp,out,ia,ib,mg,rfl,m,a1,b1,le⟩;dsimp only
  refine wpS_bind (wpS_mono (wpS_forRange (I:=fun y c st2=>st2=st' /\ ∃out ia ib ac bc,c=(none,out,ia,ib,ac,bc)/\MI rk a b out ia ib/\ia+2<=a.size/\ib+1<=b.size/\(a.size - ia)+(b.size - ib)+x+y<=a.size+b.size)
   (Q:=fun c st2=>st2=st'/\((∃r cc,c=(some r,cc)/\Mg rk a b r) \/ ∃out ia ib ac bc,c=(none,out,ia,ib,ac,bc)/\MI rk a b out ia ib/\ia+2<=a.size/\ib+1<=b.size/\(a.size - ia)+(b.size - ib)+x+1<=a.size+b.size)) ?step1 ?RB ⟨rfl,_,_,_,_,_,rfl,m,a1,b1,by (clear b1 a1 hx ea e eb hl h0 ha1 hk;lia)⟩) ?Jq)
  case RB=>
   rintro c st2 ⟨rfl,out,ia,ib,ac,bc,rfl,m,a1,b1,le⟩
   (clear b1 hx ea e eb hl h0 ha1 hk;lia)
  case step1=>
   rintro y c st2 _ hy ⟨rfl,out,ia,ib,ac,bc,rfl,m,a1,b1,le⟩;dsimp only;obtain ⟨p,ep,mp,rp⟩:=Ut ib (by (clear le a1 hy hx ea e eb hl h0 ha1 hk;lia));obtain ⟨q,eq,mq,rq⟩:=Pn ia (by (clear rp ep le b1 hy hx ea e eb hl h0 ha1 hk;lia));refine wpS_bind (bJ ep (wpS_bind (bJ eq (wpS_bind (rR C (kp.k.trans hk) mp mq ?_)))));dsimp only;have bU:p=b[ib]:=by rw [getElem?_pos b ib (by (clear rq eq rp ep le a1 hy hx ea e eb hl h0 ha1 hk;lia))] at ep;exact (Option.some.inj ep).symm
   have fX:q=a[ia]:=by rw [getElem?_pos a ia (by (clear bU rq eq rp ep le b1 hy hx ea e eb hl h0 ha1 hk;lia))] at eq;exact (Option.some.inj eq).symm
   refine aN (fun lt=> ?_) (fun lt=> ?_)
   ·have lt:R rk b ib<R rk a ia:=by rw [rp,rq];simpa using lt
    have m2:MI rk a b (out.push p) ia (ib+1):=by
     rw [bU];exact m.sX (by (clear lt fX bU rq eq rp ep le a1 hy hx ea e eb hl h0 ha1 hk;lia)) fun j j1 j2=>by have:=sa ia j (by (clear j2 j1 lt fX bU rq eq rp ep le b1 a1 hy hx ea e eb hl h0 ha1 hk;lia)) j1 j2;(clear j2 j1 fX bU rq eq rp ep le b1 a1 hy hx ea e eb hl h0 ha1 hk;lia)
    refine wpS_bind (bJ ep ?_);refine aN (fun e=> ?_) (fun e=> ?_)
    ·exact wpS_pure ⟨rfl,.inl ⟨_,_,rfl,m2.done (.inr (by simpa using e))⟩⟩
    have e:¬ib+1=b.size:=by simpa using e
    refine aN (fun _=> ?_) (fun _=> ?_)
    ·exact wpS_pure ⟨rfl,.inr ⟨_,_,_,_,_,rfl,m2,a1,by (clear lt fX bU rq eq rp ep le a1 hy hx ea eb hl h0 ha1 hk;lia),by (clear e lt fX bU rq eq rp ep a1 hy hx ea eb hl h0 ha1 hk;lia)⟩⟩
    ·exact wpS_pure ⟨rfl,_,_,_,_,_,rfl,m2,a1,by (clear lt fX bU rq eq rp ep le a1 hy hx ea eb hl h0 ha1 hk;lia),by (clear e lt fX bU rq eq rp ep a1 hy hx ea eb hl h0 ha1 hk;lia)⟩
   ·have lt:R rk a ia<=R rk b ib:=by rw [rp,rq];simpa using lt
    have m2:MI rk a b (out.push q) (ia+1) ib:=by
     rw [fX];exact m.sY (by (clear lt fX bU rq eq rp ep le b1 hy hx ea e eb hl h0 ha1 hk;lia)) fun j j1 j2=>by have:=sb ib j (by (clear j2 j1 lt fX bU rq eq rp ep le b1 a1 hy hx ea e eb hl h0 ha1 hk;lia)) j1 j2;(clear j2 j1 fX bU rq eq rp ep le b1 a1 hy hx ea e eb hl h0 ha1 hk;lia)
    refine wpS_bind (bJ eq ?_);refine aN (fun e=> ?_) (fun e=> ?_)
    ·have e:ia+1+1=a.size:=by simpa using e
     exact wpS_pure ⟨rfl,.inl ⟨_,_,rfl,m2.last fun i j _ hi _ hj=>mid i j hi (by (clear hi lt fX bU rq eq rp ep le b1 a1 hy hx ea eb hl h0 ha1 hk;lia))⟩⟩
    have e:¬ia+1+1=a.size:=by simpa using e
    refine aN (fun _=> ?_) (fun _=> ?_)
    ·exact wpS_pure ⟨rfl,.inr ⟨_,_,_,_,_,rfl,m2,by (clear lt fX bU rq eq rp ep le b1 hy hx ea eb hl h0 ha1 hk;lia),b1,by (clear e lt fX bU rq eq rp ep b1 hy hx ea eb hl h0 ha1 hk;lia)⟩⟩
    ·exact wpS_pure ⟨rfl,_,_,_,_,_,rfl,m2,by (clear lt fX bU rq eq rp ep le b1 hy hx ea eb hl h0 ha1 hk;lia),b1,by (clear e lt fX bU rq eq rp ep b1 hy hx ea eb hl h0 ha1 hk;lia)⟩
  case Jq=>
   rintro c st2 ⟨rfl,(⟨r,cc,rfl,mr⟩|⟨out,ia,ib,ac,bc,rfl,m,a1,b1,le⟩)⟩
   ·exact wpS_pure ⟨kp,r,_,rfl,mr⟩
   dsimp only;refine wpS_bind (wpS_lift (wpAny_rule ⟨rfl, ?_⟩))
   refine wpS_bind (wpS_mono (wpS_forRange (I:=fun y c st3=>xW st st3 /\ ∃out ia ib mg ac bc,c=(none,out,ia,ib,mg,ac,bc)/\MI rk a b out ia ib/\ia+2<=a.size/\ib+1<=b.size/\(a.size - ia)+(b.size - ib)+x+1+y<=a.size+b.size)
    (Q:=fun c st3=>xW st st3/\((∃r cc,c=(some r,cc)/\Mg rk a b r) \/ ∃out ia ib mg ac bc,c=(none,out,ia,ib,mg,ac,bc)/\MI rk a b out ia ib/\ia+2<=a.size/\ib+1<=b.size/\(a.size - ia)+(b.size - ib)+x+1<=a.size+b.size)) ?Iz ?fin2 ⟨kp,_,_,_,_,_,_,rfl,m,a1,b1,by (clear b1 a1 hx ea e eb hl h0 ha1 hk;lia)⟩) ?post2)
   case fin2=>
    rintro c st3 ⟨JW,out,ia,ib,mg,ac,bc,rfl,m,a1,b1,le⟩
    (clear b1 a1 hx ea e eb hl h0 ha1 hk;lia)
   case post2=>
    rintro c st3 ⟨JW,(⟨r,cc,rfl,mr⟩|⟨out,ia,ib,mg,ac,bc,rfl,m,a1,b1,le⟩)⟩
    ·exact wpS_pure ⟨JW,r,_,rfl,mr⟩
    dsimp only;refine wpS_bind (lY fun lE k4=>wpS_pure ⟨JW.trans k4,_,_,_,_,rfl,m,a1,b1,by (clear b1 a1 hx ea e eb hl h0 ha1 hk;lia)⟩)
   case Iz=>
    rintro y c st3 _ hy ⟨JW,out,ia,ib,mg,ac,bc,rfl,m,a1,b1,le⟩;dsimp only;refine aN (fun _=> ?_) (fun _=> ?_)
    all_goals
     refine wpS_bind (lY fun lE k4=> ?_);have wX:=JW.trans k4;obtain ⟨p,ep,mp,rp⟩:=Ut ib (by (clear le a1 hy hx ea e eb hl h0 ha1 hk;lia));have bU:p=b[ib]:=by rw [getElem?_pos b ib (by (clear rp ep le a1 hy hx ea e eb hl h0 ha1 hk;lia))] at ep;exact (Option.some.inj ep).symm
     refine wpS_bind (bJ ep (wpS_bind (gG C (wX.k.trans hk) mp ha (by (clear bU rp ep le b1 hy hx ea e eb hl h0 ha1 hk;lia)) (by (clear bU rp ep le b1 hy hx ea e eb hl h0 ha1 hk;lia)) (fun i j h1 h2 h3=>sa i j (by (clear h3 h2 h1 bU rp ep le b1 a1 hy hx ea e eb hl h0 ha1 hk;lia)) h2 (by (clear h2 h1 bU rp ep le b1 hy hx ea e eb hl h0 ha1 hk;lia))) fun k k1 k2 k3=> ?_)));dsimp only
     have mA:MI rk a b (out++a.extract ia (ia+k)) (ia+k) ib:=m.qm (k:=k) fun i hi hs j j1 j2=>by
      have e1:=Ox (k2 i hi);have e2:=sb ib j (by (clear e1 j2 j1 hs hi k1 bU rp ep le b1 a1 hy hx ea e eb hl h0 ha1 hk;lia)) j1 j2;rw [rp] at e2
      (clear j2 j1 hs hi k1 bU rp ep le b1 a1 hy hx ea e eb hl h0 ha1 hk;lia)
     have nxt:∀j,ia+k<=j->j<a.size->R rk b ib<=R rk a j:=fun j j1 j2=>by
      have:=Lh (k3 (j - ia) (by (clear j2 k1 bU rp ep le b1 a1 hy hx ea e eb hl h0 ha1 hk;lia)) (by (clear j1 k1 bU rp ep le b1 hy hx ea e eb hl h0 ha1 hk;lia)));rw [show ia+(j - ia)=j by (clear this j2 k1 bU rp ep le b1 a1 hy hx ea e eb hl h0 ha1 hk;lia)] at this;rw [rp];(clear j2 j1 k1 bU rp ep le b1 a1 hy hx ea e eb hl h0 ha1 hk;lia)
     apply aN
     case' h1=>
      intro kpos;refine aN (fun e=> ?_) (fun e=> ?_)
      ·have e:ia+k+1=a.size:=by simpa using e
       exact wpS_pure ⟨wX,.inl ⟨_,_,rfl,mA.last fun i j _ hi _ hj=>mid i j hi (by (clear hi kpos k1 bU rp ep le b1 a1 hy hx ea eb hl h0 ha1 hk;lia))⟩⟩
      have e1:¬ia+k+1=a.size:=by simpa using e
      refine aN (fun e=> ?_) (fun e=> ?_)
      ·exact wpS_pure ⟨wX,.inl ⟨_,_,rfl,mA.done (.inl (by simpa using e))⟩⟩
      have e2:¬ia+k=a.size:=by simpa using e
      have a3:ia+k+2<=a.size:=by (clear e kpos bU rp ep le b1 hy hx ea eb hl h0 ha1 hk;lia)
      have fM:(a.size - (ia+k))+(b.size - ib)+x+1+y<=a.size+b.size:=by (clear a3 e2 e e1 kpos k1 bU rp ep b1 a1 hy hx ea eb hl h0 ha1 hk;lia)
      generalize out++a.extract ia (ia+k)=afu at mA ⊢;generalize ia+k=ia3 at mA nxt a3 fM ⊢
     case' h2=>
      intro kpos;have k0:k=0:=by (clear k1 bU rp ep le b1 a1 hy hx ea e eb hl h0 ha1 hk;lia)
      have a3:ia+2<=a.size:=by (clear k0 kpos k1 bU rp ep le b1 hy hx ea e eb hl h0 ha1 hk;lia)
      have fM:(a.size - ia)+(b.size - ib)+x+1+y<=a.size+b.size:=by (clear a3 k0 kpos k1 bU rp ep b1 a1 hy hx ea e eb hl h0 ha1 hk;lia)
      subst k0
      replace nxt:∀j,ia<=j->j<a.size->R rk b ib<=R rk a j:=nxt
      replace mA:=m
     all_goals
      have mB:=mA.sX (by (clear kpos k1 fM a3 bU rp ep le a1 hy hx ea e eb hl h0 ha1 hk;lia)) nxt;rw [←bU] at mB;refine wpS_bind (bJ ep ?_);refine aN (fun e=> ?_) (fun e=> ?_)
      ·exact wpS_pure ⟨wX,.inl ⟨_,_,rfl,mB.done (.inr (by simpa using e))⟩⟩
      have e3:¬ib+1=b.size:=by simpa using e
      obtain ⟨q,eq,mq,rq⟩:=Pn _ (show _<a.size from Nat.lt_of_lt_of_le (Nat.lt_succ_of_lt (Nat.lt_succ_self _)) a3);refine wpS_bind (bJ eq (wpS_bind (gG C (wX.k.trans hk) mq hb (by (clear rq eq e3 e kpos k1 fM a3 bU rp ep le a1 hy hx ea eb hl h0 ha1 hk;lia)) (by (clear rq eq e kpos k1 fM a3 bU rp ep le a1 hy hx ea eb hl h0 ha1 hk;lia)) (fun i j h1 h2 h3=>sb i j (by (clear h3 h2 h1 rq eq e3 e kpos k1 fM a3 bU rp ep le b1 a1 hy hx ea eb hl h0 ha1 hk;lia)) h2 (by (clear h2 h1 rq eq e3 e kpos k1 fM a3 bU rp ep le a1 hy hx ea eb hl h0 ha1 hk;lia))) fun k' l1 l2 l3=> ?_)));dsimp only
      have mC:=mB.qj (k:=k') fun i hi hs j j1 j2=>by
       have e1:=R7 (l2 i hi);have e2:=sa _ j (by (clear e1 j2 j1 hs hi l1 rq eq e3 e kpos k1 fM a3 bU rp ep le b1 a1 hy hx ea eb hl h0 ha1 hk;lia)) j1 j2;rw [rq] at e2
       (clear j2 j1 hs hi l1 rq eq e3 e kpos k1 fM a3 bU rp ep le b1 a1 hy hx ea eb hl h0 ha1 hk;lia)
      apply aN
      case' h1=>
       intro kpos;refine aN (fun e=> ?_) (fun e=> ?_)
       ·exact wpS_pure ⟨wX,.inl ⟨_,_,rfl,mC.done (.inr (by simpa using e))⟩⟩
       have e5:¬ib+1+k'=b.size:=by simpa using e
       have nx:∀j,ib+1+k'<=j->j<b.size->rk q.1<=R rk b j:=fun j j1 j2=>by
        have:=Ag (l3 (j - (ib+1)) (by (clear j2 e5 e kpos l1 rq eq e3 k1 fM a3 bU rp ep le b1 a1 hy hx ea eb hl h0 ha1 hk;lia)) (by (clear j1 e5 e kpos l1 rq eq k1 fM a3 bU rp ep le a1 hy hx ea eb hl h0 ha1 hk;lia)));rw [show ib+1+(j - (ib+1))=j by (clear this j2 e5 e kpos l1 rq eq e3 k1 fM a3 bU rp ep le b1 a1 hy hx ea eb hl h0 ha1 hk;lia)] at this
        (clear j2 j1 e5 e kpos l1 rq eq e3 k1 fM a3 bU rp ep le b1 a1 hy hx ea eb hl h0 ha1 hk;lia)
       have b3:ib+1+k'+1<=b.size:=by (clear e kpos rq eq e3 k1 fM a3 bU rp ep le a1 hy hx ea eb hl h0 ha1 hk;lia)
      case' h2=>
       intro kpos;have k0:k'=0:=by (clear l1 rq eq e3 e k1 fM a3 bU rp ep le b1 a1 hy hx ea eb hl h0 ha1 hk;lia)
       have nx:∀j,ib+1<=j->j<b.size->rk q.1<=R rk b j:=fun j j1 j2=>by
        have:=Ag (l3 (j - (ib+1)) (by (clear j2 j1 k0 l1 rq eq e3 e k1 fM a3 bU rp ep le b1 a1 hy hx ea eb hl h0 ha1 hk;lia)) (by (clear j1 k0 kpos l1 rq eq e k1 fM a3 bU rp ep le a1 hy hx ea eb hl h0 ha1 hk;lia)));rw [show ib+1+(j - (ib+1))=j by (clear this j2 k0 kpos l1 rq eq e3 e k1 fM a3 bU rp ep le b1 a1 hy hx ea eb hl h0 ha1 hk;lia)] at this
        (clear j2 j1 k0 kpos l1 rq eq e3 e k1 fM a3 bU rp ep le b1 a1 hy hx ea eb hl h0 ha1 hk;lia)
       have b3:ib+1+1<=b.size:=by (clear k0 kpos l1 rq eq e k1 fM a3 bU rp ep le a1 hy hx ea eb hl h0 ha1 hk;lia)
       replace mC:=mB
      all_goals
       have mD:=mC.sY (by (clear b3 kpos l1 rq eq e3 e k1 fM bU rp ep le b1 hy hx ea eb hl h0 ha1 hk;lia)) (fun j j1 j2=>by rw [rq];exact nx j j1 j2);have fX:=Option.some.inj ((getElem?_pos a _ (by (clear b3 kpos l1 rq eq e3 e k1 fM bU rp ep le b1 hy hx ea eb hl h0 ha1 hk;lia))).symm.trans eq);rw [fX] at mD;refine wpS_bind (bJ eq ?_);refine aN (fun e=> ?_) (fun e=> ?_)
       ·exact wpS_pure ⟨wX,.inl ⟨_,_,rfl,mD.last fun i j _ hi _ hj=>mid i j hi (by have e:=eq_of_beq e;(clear hi fX b3 kpos l1 rq eq e3 k1 fM a3 bU rp ep le b1 a1 hy hx ea eb hl h0 ha1 hk;lia))⟩⟩
       have e6:¬_=a.size:=fun z=>e (beq_iff_eq.mpr z);refine aN (fun _=> ?_) (fun _=> ?_)
       ·exact wpS_pure ⟨wX,.inr ⟨_,_,_,_,_,_,rfl,mD,by (clear e fX b3 kpos l1 rq eq e3 k1 fM bU rp ep le b1 hy hx ea eb hl h0 ha1 hk;lia),by (clear e6 e fX b3 kpos rq eq k1 fM a3 bU rp ep le a1 hy hx ea eb hl h0 ha1 hk;lia),by (clear e6 e fX b3 kpos l1 rq eq e3 k1 a3 bU rp ep b1 a1 hy hx ea eb hl h0 ha1 hk;lia)⟩⟩
       ·exact wpS_pure ⟨wX,_,_,_,_,_,_,rfl,mD,by (clear e fX b3 kpos l1 rq eq e3 k1 fM bU rp ep le b1 hy hx ea eb hl h0 ha1 hk;lia),by (clear e6 e fX b3 kpos rq eq k1 fM a3 bU rp ep le a1 hy hx ea eb hl h0 ha1 hk;lia),by (clear e6 e fX b3 kpos l1 rq eq e3 k1 a3 bU rp ep hy hx ea eb hl h0 ha1 hk;lia)⟩
end
end Tim
set_option Elab.async false
set_option linter.all false
set_option maxRecDepth 100000
set_option maxHeartbeats 4000000
namespace Tim
open PySem PyProof.Rows
abbrev iu (a b out:Array Keyed) (na nb:Nat):Array Keyed:=a.extract 0 na++b.extract 0 nb++out.reverse
abbrev mK (a b out:Array Keyed) (na nb:Nat):Array Keyed:=b.extract 0 nb++a.extract 0 na++out.reverse
theorem zm (a b:Array Keyed):tM a b=(do
 rule "list.sort.merge-hi"
 let total:=a.size+b.size
 let mut na:=a.size - 1
 let mut nb:=b.size
 let mut out:Array Keyed:= #[←elem' a na]
 if na==0 then return iu a b out na nb
 if nb==1 then return mK a b out na nb
 let mut minGallop:=gallopOf (←get)
 for _ in [0:total] do
  let mut acount:=0
  let mut bcount:=0
  for _ in [0:total] do
   let some aWins ←lt' (←elem' b (nb - 1)) (←elem' a (na - 1))|return iu a b out na nb
   if aWins then
    na:=na - 1;out:=out.push (←elem' a na);acount:=acount+1;bcount:=0
    if na==0 then return iu a b out na nb
    if acount≥minGallop then break
   else
    nb:=nb - 1;out:=out.push (←elem' b nb);bcount:=bcount+1;acount:=0
    if nb==1 then return mK a b out na nb
    if bcount≥minGallop then break
  rule "list.sort.gallop"
  minGallop:=minGallop+1
  for _ in [0:total] do
   if minGallop>1 then minGallop:=minGallop - 1
   dW minGallop
   let some at_ ←jw false (←elem' b (nb - 1)) a 0 na (na - 1)|return iu a b out na nb
   let k:=na - at_
   acount:=k
   if k>0 then
    out:=out++(a.extract at_ na).reverse;na:=at_
    if na==0 then return iu a b out na nb
   nb:=nb - 1;out:=out.push (←elem' b nb)
   if nb==1 then return mK a b out na nb
   let some at_ ←jw true (←elem' a (na - 1)) b 0 nb (nb - 1)|return iu a b out na nb
   let k:=nb - at_
   bcount:=k
   if k>0 then
    out:=out++(b.extract at_ nb).reverse;nb:=at_
    if nb==1 then return mK a b out na nb
    if nb==0 then return iu a b out na nb
   na:=na - 1;out:=out.push (←elem' a na)
   if na==0 then return iu a b out na nb
   if acount<7&&bcount<7 then break
  minGallop:=minGallop+1
  dW minGallop
 unsupported "internal:list.sort.merge-bound"):=rfl
section
variable {rk:Value->Nat} {a b out:Array Keyed} {na nb k:Nat}
structure MH (rk:Value->Nat) (a b out:Array Keyed) (na nb:Nat):Prop where
 perm:(a.toList.take na++(b.toList.take nb++out.toList.reverse)).Perm (a.toList++b.toList)
 sa:HD rk (a.toList.take na++out.toList.reverse)
 sb:HD rk (b.toList.take nb++out.toList.reverse)
theorem Az (l:List Keyed) {i j:Nat} (h:i<=j):l.take j=l.take i++(l.drop i).take (j - i):=by
 rw [List.take_drop,show i+(j - i)=j by lia];have:=(List.take_append_drop i (l.take j)).symm;rwa [List.take_take,Nat.min_eq_left h] at this
theorem Gx {a:Array Keyed} {x:Keyed} (h:x∈a.toList.take na):∃j,j<na/\j<a.size/\R rk a j=rk x.1:=by
 have h':x∈(a.toList.drop 0).take na:=by rw [List.drop_zero];exact h
 obtain ⟨j,j1,j2,j3⟩:=gU (rk:=rk) h';rw [Nat.zero_add] at j2 j3;exact ⟨j,j1,j2,j3⟩
theorem MH.qm (m:MH rk a b out na nb) {at_:Nat} (hat:at_<=na) (hle:∀i,at_<=i->i<na->i<a.size -> ∀j,j<nb->j<b.size->R rk b j<=R rk a i):MH rk a b (out++(a.extract at_ na).reverse) at_ nb:=by
 have e:(out++(a.extract at_ na).reverse).toList.reverse=(a.toList.drop at_).take (na - at_)++out.toList.reverse:=by
  rw [Array.toList_append,List.reverse_append,Array.toList_reverse,List.reverse_reverse,cI]
 have sp:=Az a.toList hat;refine ⟨?_, ?_, ?_⟩
 ·rw [e]
  refine List.Perm.trans ?_ m.perm;rw [sp,List.append_assoc];refine List.Perm.append_left _ ?_;rw [←List.append_assoc,←List.append_assoc];exact List.Perm.append_right _ List.perm_append_comm
 ·rw [e,←List.append_assoc,←sp]
  exact m.sa
 ·rw [e]
  have h1:=m.sa;rw [sp,List.append_assoc] at h1;have h2:=gO.mp (gO.mp h1).2.1;have h3:=gO.mp m.sb;refine gO.mpr ⟨h3.1,gO.mpr ⟨h2.1,h3.2.1,h2.2.2⟩,fun p hp q hq=> ?_⟩;rcases List.mem_append.mp hq with hq|hq
  ·obtain ⟨i,i1,i2,i3⟩:=Gx (rk:=rk) hp
   obtain ⟨j,j1,j2,j3⟩:=gU (rk:=rk) hq;rw [←i3,←j3];exact hle _ (by (clear j3 j2 j1 i3 i2 i1 h3 h2 sp e hat;lia)) (by (clear j3 j2 i3 i2 i1 h3 h2 sp e hat;lia)) j2 i i1 i2
  ·exact h3.2.2 p hp q hq
theorem MH.swap (m:MH rk a b out na nb):MH rk b a out nb na:=by
 refine ⟨?_,m.sb,m.sa⟩;refine List.Perm.trans ?_ (m.perm.trans List.perm_append_comm);rw [←List.append_assoc,←List.append_assoc];exact List.Perm.append_right _ List.perm_append_comm
theorem MH.qj (m:MH rk a b out na nb) {at_:Nat} (hat:at_<=nb) (hle:∀i,at_<=i->i<nb->i<b.size -> ∀j,j<na->j<a.size->R rk a j<=R rk b i):MH rk a b (out++(b.extract at_ nb).reverse) na at_:=(m.swap.qm hat hle).swap
theorem Jk (h1:1<=na) (h:na<=a.size):out.push (a[na - 1]'(by lia))=out++(a.extract (na - 1) na).reverse:=by
 have e:=yD (out:= #[]) (b:=a) (ib:=na - 1) (by lia);rw [show na - 1+1=na by (clear e h;lia)] at e
 have e2:a.extract (na - 1) na = #[a[na - 1]'(by (clear e;lia))]:=by
  apply Array.toList_inj.mp;have:=congrArg Array.toList e;rw [Array.toList_append] at this;simpa using this.symm
 rw [e2];apply Array.toList_inj.mp;simp
theorem MH.sY (m:MH rk a b out na nb) (h1:1<=na) (h:na<=a.size) (hle:∀j,j<nb->j<b.size->R rk b j<=R rk a (na - 1)):MH rk a b (out.push (a[na - 1]'(by lia))) (na - 1) nb:=by
 rw [Jk h1 h];refine m.qm (by (clear h h1;lia)) fun i i1 i2 i3 j j1 j2=> ?_;have:i=na - 1:=by (clear j2 j1 i3 h h1;lia)
 subst this;exact hle j j1 j2
theorem MH.sX (m:MH rk a b out na nb) (h1:1<=nb) (h:nb<=b.size) (hle:∀j,j<na->j<a.size->R rk a j<=R rk b (nb - 1)):MH rk a b (out.push (b[nb - 1]'(by lia))) na (nb - 1):=(m.swap.sY h1 h hle).swap
theorem rN:(iu a b out na nb).toList=a.toList.take na++(b.toList.take nb++out.toList.reverse):=by
 unfold iu;rw [Array.toList_append,Array.toList_append,cI,cI,Array.toList_reverse,List.append_assoc];rfl
theorem MH.done (m:MH rk a b out na nb) (h:na=0\/nb=0):Mg rk a b (iu a b out na nb):=by
 refine ⟨by rw [rN];exact m.perm, ?_⟩;rw [rN];rcases h with h|h
 ·subst h
  exact m.sb
 ·subst h
  exact m.sa
theorem MH.first (m:MH rk a b out na nb) (h:∀i j,i<nb->i<b.size->j<na->j<a.size->R rk b i<=R rk a j):Mg rk a b (mK a b out na nb):=by
 have m2:=m.qm (at_:=0) (by lia) fun i _ i2 i3 j j1 j2=>h j i j1 j2 i2 i3
 have e:mK a b out na nb=iu a b (out++(a.extract 0 na).reverse) 0 nb:=by
  apply Array.toList_inj.mp;rw [rN,rN,Array.toList_append,List.reverse_append,Array.toList_reverse,List.reverse_reverse,cI];simp
 rw [e];exact m2.done (.inl rfl)
end
section
variable {prog:Program} {w:World} {A:Around} {E:Value->Shared->Prop} {s:Shared} {κ:SortKind} {a₀:Array Keyed} {rk:Value->Nat}
theorem xZ {st:SortSt} {a b:Array Keyed} {Q:Array Keyed->SortSt->Prop} (C:Dl prog w A s κ a₀ rk) (hk:kindOf st=κ) (ha:∀p∈a.toList,p∈a₀.toList) (hb:∀p∈b.toList,p∈a₀.toList)
 (ha1:1<=a.size) (hb1:1<=b.size) (sa:Seg rk a 0 a.size) (sb:Seg rk b 0 b.size) (h0:R rk b 0<=R rk a 0) (hl:R rk b (b.size - 1)<=R rk a (a.size - 1))
 (h:∀r st',xW st st'->Mg rk a b r->Q r st'):wpS (model prog w) A E s (tM a b) Q st:=by
 have Ut:∀i,i<b.size -> ∃p,b[i]? = some p/\p∈a₀.toList/\R rk b i=rk p.1:=fun i hi=>⟨b[i],getElem?_pos b i hi,hb _ (by simp),gC hi⟩;have Pn:∀i,i<a.size -> ∃p,a[i]? = some p/\p∈a₀.toList/\R rk a i=rk p.1:=fun i hi=>⟨a[i],getElem?_pos a i hi,ha _ (by simp),gC hi⟩
 have mid:∀i j nb,i<nb->nb=1->j<a.size->R rk b i<=R rk a j:=fun i j nb hi hn hj=>by
  have:=sa 0 j (by (clear hj hn hi hl h0 hb1 ha1 hk;lia)) (by (clear hj hn hi hl h0 hb1 ha1 hk;lia)) hj;have e:i=0:=by (clear this hj hl h0 hb1 ha1 hk;lia)
  subst e
  (clear hi hj hn hl hb1 ha1 hk;lia)
 have m0:MH rk a b #[a[a.size - 1]] (a.size - 1) b.size:=by
  have m:MH rk a b #[] a.size b.size:=by
   refine ⟨?_, ?_, ?_⟩
   ·rw [←Array.length_toList,←Array.length_toList,List.take_length,List.take_length];simp
   ·rw [←Array.length_toList,List.take_length]
    show HD rk (a.toList++[]);rw [List.append_nil];refine List.pairwise_iff_getElem.mpr fun i j hi hj hij=> ?_;rw [Array.length_toList] at hi hj;have:=sa i j (by (clear hij hj hi hl h0 hb1 ha1 hk;lia)) (by (clear hj hi hl h0 hb1 ha1 hk;lia)) hj;rw [gC hi,gC hj] at this;simpa [Le] using this
   ·rw [←Array.length_toList,List.take_length]
    show HD rk (b.toList++[]);rw [List.append_nil];refine List.pairwise_iff_getElem.mpr fun i j hi hj hij=> ?_;rw [Array.length_toList] at hi hj;have:=sb i j (by (clear hij hj hi hl h0 hb1 ha1 hk;lia)) (by (clear hj hi hl h0 hb1 ha1 hk;lia)) hj;rw [gC hi,gC hj] at this;simpa [Le] using this
  exact m.sY ha1 (Nat.le_refl _) fun j j1 j2=>Nat.le_trans (sb j (b.size - 1) (by (clear j2 j1 hl h0 hb1 ha1 hk;lia)) (by (clear j2 hl h0 hb1 ha1 hk;lia)) (by (clear j2 j1 hl h0 ha1 hk;lia))) hl
 rw [zm];refine wpS_bind (wpS_lift (wpAny_rule ⟨rfl, ?_⟩));refine wpS_bind (bJ (p:=a[a.size - 1]) (getElem?_pos a _ (by (clear hl h0 hb1 hk;lia))) ?_);dsimp only;refine aN (fun e=> ?_) (fun e=> ?_)
 ·exact wpS_pure (h _ _ (.refl _) (m0.done (.inl (by simpa using e))))
 have ea:¬a.size - 1=0:=fun z=>e (beq_iff_eq.mpr z);refine aN (fun e=> ?_) (fun e=> ?_)
 ·exact wpS_pure (h _ _ (.refl _) (m0.first fun i j i1 i2 j1 j2=>mid i j _ i1 (by simpa using e) j2))
 have eb:¬b.size=1:=by simpa using e
 refine wpS_bind (wpS_get ?_)
 refine wpS_bind (wpS_mono (wpS_forRange (I:=fun x c st'=>xW st st' /\ ∃na nb out mg,c=(none,na,nb,out,mg)/\MH rk a b out na nb/\1<=na/\2<=nb/\na<=a.size/\nb<=b.size/\na+nb+x<=a.size+b.size)
  (Q:=fun c st'=>xW st st' /\ ∃r cc,c=(some r,cc)/\Mg rk a b r) ?step ?fin ⟨.refl _,_,_,_,_,rfl,m0,by (clear eb e hl h0 hb1 hk;lia),by (clear e ea hl h0 hk;lia),by (clear eb e ea hl h0 hb1 hk;lia),by (clear eb e ea hl h0 hb1 hk;lia),by (clear eb e ea hl h0 hb1 hk;lia)⟩) ?post)
 case post=>
  rintro c st' ⟨kp,r,cc,rfl,m⟩;exact wpS_pure (h _ _ kp m)
 case fin=>
  rintro c st' ⟨kp,na,nb,out,mg,rfl,m,a1,b1,a2,b2,le⟩
  (clear b2 a2 b1 eb e ea hl h0 hb1 hk;lia)
 case step=>
  rintro x c st' _ hx ⟨kp,na,nb,out,mg,rfl,m,a1,b1,a2,b2,le⟩;dsimp only
  refine wpS_bind (wpS_mono (wpS_forRange (I:=fun y c st2=>st2=st' /\ ∃na nb out ac bc,c=(none,na,nb,out,ac,bc)/\MH rk a b out na nb/\1<=na/\2<=nb/\na<=a.size/\nb<=b.size/\na+nb+x+y<=a.size+b.size)
   (Q:=fun c st2=>st2=st'/\((∃r cc,c=(some r,cc)/\Mg rk a b r) \/ ∃na nb out ac bc,c=(none,na,nb,out,ac,bc)/\MH rk a b out na nb/\1<=na/\2<=nb/\na<=a.size/\nb<=b.size/\na+nb+x+1<=a.size+b.size)) ?step1 ?RB ⟨rfl,_,_,_,_,_,rfl,m,a1,b1,a2,b2,by (clear b2 a2 b1 a1 hx eb e ea hl h0 hb1 hk;lia)⟩) ?Jq)
  case RB=>
   rintro c st2 ⟨rfl,na,nb,out,ac,bc,rfl,m,a1,b1,a2,b2,le⟩
   (clear b2 a2 b1 hx eb e ea hl h0 hb1 hk;lia)
  case step1=>
   rintro y c st2 _ hy ⟨rfl,na,nb,out,ac,bc,rfl,m,a1,b1,a2,b2,le⟩;dsimp only;obtain ⟨p,ep,mp,rp⟩:=Ut (nb - 1) (by (clear le a2 b1 a1 hy hx eb e ea hl h0 hb1 hk;lia));obtain ⟨q,eq,mq,rq⟩:=Pn (na - 1) (by (clear rp ep le b2 b1 a1 hy hx eb e ea hl h0 hb1 hk;lia));refine wpS_bind (bJ ep (wpS_bind (bJ eq (wpS_bind (rR C (kp.k.trans hk) mp mq ?_)))));dsimp only;have bU:b[nb - 1]=p:=Option.some.inj ((getElem?_pos b _ (by (clear rq eq rp ep le a2 b1 a1 hy hx eb e ea hl h0 hb1 hk;lia))).symm.trans ep);have fX:a[na - 1]=q:=Option.some.inj ((getElem?_pos a _ (by (clear bU rq eq rp ep le b2 b1 a1 hy hx eb e ea hl h0 hb1 hk;lia))).symm.trans eq);refine aN (fun lt=> ?_) (fun lt=> ?_)
   ·have lt:R rk b (nb - 1)<R rk a (na - 1):=by rw [rp,rq];simpa using lt
    have m2:=m.sY a1 a2 fun j j1 j2=>by have:=sb j (nb - 1) (by (clear j2 j1 lt fX bU rq eq rp ep le b2 a2 b1 a1 hy hx eb e ea hl h0 hb1 hk;lia)) (by (clear j2 lt fX bU rq eq rp ep le b2 a2 b1 a1 hy hx eb e ea hl h0 hb1 hk;lia)) (by (clear j2 j1 lt fX bU rq eq rp ep le a2 b1 a1 hy hx eb e ea hl h0 hb1 hk;lia));(clear j2 j1 fX bU rq eq rp ep le b2 a2 b1 a1 hy hx eb e ea hl h0 hb1 hk;lia)
    rw [fX] at m2;refine wpS_bind (bJ eq ?_);refine aN (fun e=> ?_) (fun e=> ?_)
    ·exact wpS_pure ⟨rfl,.inl ⟨_,_,rfl,m2.done (.inl (by simpa using e))⟩⟩
    have e:¬na - 1=0:=fun z=>e (beq_iff_eq.mpr z);refine aN (fun _=> ?_) (fun _=> ?_)
    ·exact wpS_pure ⟨rfl,.inr ⟨_,_,_,_,_,rfl,m2,by (clear lt fX bU rq eq rp ep le b2 a2 b1 a1 hy hx eb ea hl h0 hb1 hk;lia),b1,by (clear e lt fX bU rq eq rp ep le b2 b1 a1 hy hx eb ea hl h0 hb1 hk;lia),b2,by (clear e lt fX bU rq eq rp ep b2 a2 b1 hy hx eb ea hl h0 hb1 hk;lia)⟩⟩
    ·exact wpS_pure ⟨rfl,_,_,_,_,_,rfl,m2,by (clear lt fX bU rq eq rp ep le b2 a2 b1 a1 hy hx eb ea hl h0 hb1 hk;lia),b1,by (clear e lt fX bU rq eq rp ep le b2 b1 a1 hy hx eb ea hl h0 hb1 hk;lia),b2,by (clear e lt fX bU rq eq rp ep b2 a2 b1 hy hx eb ea hl h0 hb1 hk;lia)⟩
   ·have lt:R rk a (na - 1)<=R rk b (nb - 1):=by rw [rp,rq];simpa using lt
    have m2:=m.sX (by (clear lt fX bU rq eq rp ep le b2 a2 a1 hy hx eb e ea hl h0 hb1 hk;lia)) b2 fun j j1 j2=>by have:=sa j (na - 1) (by (clear j2 j1 lt fX bU rq eq rp ep le b2 a2 b1 a1 hy hx eb e ea hl h0 hb1 hk;lia)) (by (clear j2 lt fX bU rq eq rp ep le b2 a2 b1 a1 hy hx eb e ea hl h0 hb1 hk;lia)) (by (clear j2 j1 lt fX bU rq eq rp ep le b2 b1 a1 hy hx eb e ea hl h0 hb1 hk;lia));(clear j2 j1 fX bU rq eq rp ep le b2 a2 b1 a1 hy hx eb e ea hl h0 hb1 hk;lia)
    rw [bU] at m2;refine wpS_bind (bJ ep ?_);refine aN (fun e=> ?_) (fun e=> ?_)
    ·exact wpS_pure ⟨rfl,.inl ⟨_,_,rfl,m2.first fun i j i1 i2 j1 j2=>mid i j _ i1 (eq_of_beq e) j2⟩⟩
    have e:¬nb - 1=1:=fun z=>e (beq_iff_eq.mpr z);refine aN (fun _=> ?_) (fun _=> ?_)
    ·exact wpS_pure ⟨rfl,.inr ⟨_,_,_,_,_,rfl,m2,a1,by (clear lt fX bU rq eq rp ep le b2 a2 a1 hy hx eb ea hl h0 hb1 hk;lia),a2,by (clear e lt fX bU rq eq rp ep le a2 b1 a1 hy hx eb ea hl h0 hb1 hk;lia),by (clear e lt fX bU rq eq rp ep b2 a2 a1 hy hx eb ea hl h0 hb1 hk;lia)⟩⟩
    ·exact wpS_pure ⟨rfl,_,_,_,_,_,rfl,m2,a1,by (clear lt fX bU rq eq rp ep le b2 a2 a1 hy hx eb ea hl h0 hb1 hk;lia),a2,by (clear e lt fX bU rq eq rp ep le a2 b1 a1 hy hx eb ea hl h0 hb1 hk;lia),by (clear e lt fX bU rq eq rp ep b2 a2 a1 hy hx eb ea hl h0 hb1 hk;lia)⟩
  case Jq=>
   rintro c st2 ⟨rfl,(⟨r,cc,rfl,mr⟩|⟨na,nb,out,ac,bc,rfl,m,a1,b1,a2,b2,le⟩)⟩
   ·exact wpS_pure ⟨kp,r,_,rfl,mr⟩
   dsimp only;refine wpS_bind (wpS_lift (wpAny_rule ⟨rfl, ?_⟩))
   refine wpS_bind (wpS_mono (wpS_forRange (I:=fun y c st3=>xW st st3 /\ ∃na nb out mg ac bc,c=(none,na,nb,out,mg,ac,bc)/\MH rk a b out na nb/\1<=na/\2<=nb/\na<=a.size/\nb<=b.size/\na+nb+x+1+y<=a.size+b.size)
    (Q:=fun c st3=>xW st st3/\((∃r cc,c=(some r,cc)/\Mg rk a b r) \/ ∃na nb out mg ac bc,c=(none,na,nb,out,mg,ac,bc)/\MH rk a b out na nb/\1<=na/\2<=nb/\na<=a.size/\nb<=b.size/\na+nb+x+1<=a.size+b.size)) ?Iz ?fin2 ⟨kp,_,_,_,_,_,_,rfl,m,a1,b1,a2,b2,by (clear b2 a2 b1 a1 hx eb e ea hl h0 hb1 hk;lia)⟩) ?post2)
   case fin2=>
    rintro c st3 ⟨JW,na,nb,out,mg,ac,bc,rfl,m,a1,b1,a2,b2,le⟩
    (clear b2 a2 b1 a1 hx eb e ea hl h0 hb1 hk;lia)
   case post2=>
    rintro c st3 ⟨JW,(⟨r,cc,rfl,mr⟩|⟨na,nb,out,mg,ac,bc,rfl,m,a1,b1,a2,b2,le⟩)⟩
    ·exact wpS_pure ⟨JW,r,_,rfl,mr⟩
    dsimp only;refine wpS_bind (lY fun lE k4=>wpS_pure ⟨JW.trans k4,_,_,_,_,rfl,m,a1,b1,a2,b2,by (clear b2 a2 b1 a1 hx eb e ea hl h0 hb1 hk;lia)⟩)
   case Iz=>
    rintro y c st3 _ hy ⟨JW,na,nb,out,mg,ac,bc,rfl,m,a1,b1,a2,b2,le⟩;dsimp only;refine aN (fun _=> ?_) (fun _=> ?_)
    all_goals
     refine wpS_bind (lY fun lE k4=> ?_);have wX:=JW.trans k4;obtain ⟨p,ep,mp,rp⟩:=Ut (nb - 1) (by (clear le a2 b1 a1 hy hx eb e ea hl h0 hb1 hk;lia));have bU:b[nb - 1]=p:=Option.some.inj ((getElem?_pos b _ (by (clear rp ep le a2 b1 a1 hy hx eb e ea hl h0 hb1 hk;lia))).symm.trans ep);refine wpS_bind (bJ ep (wpS_bind (gG C (wX.k.trans hk) mp ha (by (clear bU rp ep le b2 b1 a1 hy hx eb e ea hl h0 hb1 hk;lia)) (by (clear bU rp ep le b2 a2 b1 hy hx eb e ea hl h0 hb1 hk;lia)) (fun i j h1 h2 h3=>sa i j (by (clear h3 h2 h1 bU rp ep le b2 a2 b1 a1 hy hx eb e ea hl h0 hb1 hk;lia)) h2 (by (clear h2 h1 bU rp ep le b2 b1 a1 hy hx eb e ea hl h0 hb1 hk;lia))) fun k k1 k2 k3=> ?_)));dsimp only;simp only [Nat.zero_add] at k2 k3
     have mA:=m.qm k1 fun i i1 i2 i3 j j1 j2=>by
      have e1:=Lh (k3 i i1 i2);have e2:=sb j (nb - 1) (by (clear e1 j2 j1 i3 i2 i1 k1 bU rp ep le b2 a2 b1 a1 hy hx eb e ea hl h0 hb1 hk;lia)) (by (clear e1 j2 i3 i2 i1 k1 bU rp ep le b2 a2 b1 a1 hy hx eb e ea hl h0 hb1 hk;lia)) (by (clear e1 j2 j1 i3 i2 i1 k1 bU rp ep le a2 b1 a1 hy hx eb e ea hl h0 hb1 hk;lia))
      (clear j2 j1 i3 i2 i1 k1 bU ep le b2 a2 b1 a1 hy hx eb e ea hl h0 hb1 hk;lia)
     have nxt:∀j,j<k->j<a.size->R rk a j<=R rk b (nb - 1):=fun j j1 j2=>by
      have:=Ox (k2 j j1)
      (clear j2 j1 k1 bU ep le b2 a2 b1 a1 hy hx eb e ea hl h0 hb1 hk;lia)
     apply aN
     case' h1=>
      intro kpos;refine aN (fun e=> ?_) (fun e=> ?_)
      ·exact wpS_pure ⟨wX,.inl ⟨_,_,rfl,mA.done (.inl (by simpa using e))⟩⟩
      have e1:¬k=0:=fun z=>e (beq_iff_eq.mpr z);have a3:1<=k:=by (clear e kpos k1 bU rp ep le b2 a2 b1 a1 hy hx eb ea hl h0 hb1 hk;lia)
      have a4:k<=a.size:=by (clear a3 e1 e kpos bU rp ep le b2 b1 a1 hy hx eb ea hl h0 hb1 hk;lia)
      have fM:k+nb+x+1+y<=a.size+b.size:=by (clear a4 a3 e1 e kpos bU rp ep b2 a2 b1 a1 hy hx eb ea hl h0 hb1 hk;lia)
     case' h2=>
      intro kpos;have k0:k=na:=by (clear bU rp ep le b2 a2 b1 a1 hy hx eb e ea hl h0 hb1 hk;lia)
      have a3:1<=na:=a1;have a4:na<=a.size:=a2;have fM:na+nb+x+1+y<=a.size+b.size:=by (clear a4 a3 k0 kpos k1 bU rp ep b2 a2 b1 a1 hy hx eb e ea hl h0 hb1 hk;lia)
      rw [k0] at nxt
      replace mA:=m
     all_goals
      have mB:=mA.sX (by (clear fM a4 a3 kpos k1 bU rp ep le b2 a2 a1 hy hx eb e ea hl h0 hb1 hk;lia)) b2 nxt;rw [bU] at mB;refine wpS_bind (bJ ep ?_);refine aN (fun e=> ?_) (fun e=> ?_)
      ·exact wpS_pure ⟨wX,.inl ⟨_,_,rfl,mB.first fun i j i1 i2 j1 j2=>mid i j _ i1 (eq_of_beq e) j2⟩⟩
      have e3:¬nb - 1=1:=fun z=>e (beq_iff_eq.mpr z);obtain ⟨q,eq,mq,rq⟩:=Pn _ (Nat.lt_of_lt_of_le (Nat.sub_lt a3 Nat.one_pos) a4);refine wpS_bind (bJ eq (wpS_bind (gG C (wX.k.trans hk) mq hb (by (clear rq eq e3 e fM a4 a3 kpos k1 bU rp ep le a2 b1 a1 hy hx eb ea hl h0 hb1 hk;lia)) (by (clear rq eq e3 e fM a4 a3 kpos k1 bU rp ep le b2 a2 a1 hy hx eb ea hl h0 hb1 hk;lia)) (fun i j h1 h2 h3=>sb i j (by (clear h3 h2 h1 rq eq e3 e fM a4 a3 kpos k1 bU rp ep le b2 a2 b1 a1 hy hx eb ea hl h0 hb1 hk;lia)) h2 (by (clear h2 h1 rq eq e3 e fM a4 a3 kpos k1 bU rp ep le a2 b1 a1 hy hx eb ea hl h0 hb1 hk;lia))) fun k' l1 l2 l3=> ?_)));dsimp only;simp only [Nat.zero_add] at l2 l3
      have mC:=mB.qj l1 fun i i1 i2 i3 j j1 j2=>by
       have e1:=Ag (l3 i i1 i2);have e2:=sa j _ (by (clear e1 j2 j1 i3 i2 i1 l1 rq eq e3 e fM a4 a3 kpos k1 bU rp ep le b2 a2 b1 a1 hy hx eb ea hl h0 hb1 hk;lia)) (Nat.le_sub_one_of_lt j1) (by (clear e1 j2 j1 i3 i2 i1 l1 rq eq e3 e fM a4 a3 kpos bU rp ep le b2 b1 a1 hy hx eb ea hl h0 hb1 hk;lia))
       (clear j2 j1 i3 i2 i1 l1 eq e3 e fM a4 a3 kpos k1 bU rp ep le b2 a2 b1 a1 hy hx eb ea hl h0 hb1 hk;lia)
      have nx:∀j,j<k'->j<b.size->R rk b j<=rk q.1:=fun j j1 j2=>by
       have:=R7 (l2 j j1)
       (clear j2 j1 l1 rq eq e3 e fM a4 a3 kpos k1 bU rp ep le b2 a2 b1 a1 hy hx eb ea hl h0 hb1 hk;lia)
      apply aN
      case' h1=>
       intro kpos;refine aN (fun e=> ?_) (fun e=> ?_)
       ·exact wpS_pure ⟨wX,.inl ⟨_,_,rfl,mC.first fun i j i1 i2 j1 j2=>mid i j _ i1 (eq_of_beq e) j2⟩⟩
       have e4:¬k'=1:=fun z=>e (beq_iff_eq.mpr z);refine aN (fun e=> ?_) (fun e=> ?_)
       ·exact wpS_pure ⟨wX,.inl ⟨_,_,rfl,mC.done (.inr (by simpa using e))⟩⟩
       have e5:¬k'=0:=fun z=>e (beq_iff_eq.mpr z);have b3:2<=k':=by (clear e kpos l1 rq eq e3 fM a4 a3 k1 bU rp ep le b2 a2 b1 a1 hy hx eb ea hl h0 hb1 hk;lia)
      case' h2=>
       intro kpos;have k0:k'=nb - 1:=by (clear rq eq e3 e fM a4 a3 k1 bU rp ep le b2 a2 b1 a1 hy hx eb ea hl h0 hb1 hk;lia)
       rw [k0] at nx;have b3:2<=nb - 1:=by (clear k0 kpos l1 rq eq e fM a4 a3 k1 bU rp ep le b2 a2 a1 hy hx eb ea hl h0 hb1 hk;lia)
       replace mC:=mB
      all_goals
       have mD:=mC.sY a3 a4 (fun j j1 j2=>by rw [rq];exact nx j j1 j2);have fX:=Option.some.inj ((getElem?_pos a _ (by (clear b3 kpos l1 rq eq e3 e fM k1 bU rp ep le b2 a2 b1 a1 hy hx eb ea hl h0 hb1 hk;lia))).symm.trans eq);rw [fX] at mD;refine wpS_bind (bJ eq ?_);refine aN (fun e=> ?_) (fun e=> ?_)
       ·exact wpS_pure ⟨wX,.inl ⟨_,_,rfl,mD.done (.inl (eq_of_beq e))⟩⟩
       have e6:¬_=0:=fun z=>e (beq_iff_eq.mpr z);refine aN (fun _=> ?_) (fun _=> ?_)
       ·exact wpS_pure ⟨wX,.inr ⟨_,_,_,_,_,_,rfl,mD,by (clear e fX b3 kpos l1 rq eq e3 fM a4 a3 k1 bU rp ep le b2 a2 b1 a1 hy hx eb ea hl h0 hb1 hk;lia),by (clear e6 e fX b3 kpos l1 rq eq fM a4 a3 k1 bU rp ep le b2 a2 a1 hy hx eb ea hl h0 hb1 hk;lia),by (clear e6 e fX b3 kpos l1 rq eq e3 fM a4 a3 k1 bU rp ep le b2 b1 a1 hy hx eb ea hl h0 hb1 hk;lia),by (clear e6 e fX b3 kpos rq eq e3 fM a4 a3 k1 bU rp ep le a2 b1 a1 hy hx eb ea hl h0 hb1 hk;lia),by (clear e6 e fX b3 kpos rq eq e3 fM a4 a3 k1 bU rp ep b2 a2 b1 a1 hy hx eb ea hl h0 hb1 hk;lia)⟩⟩
       ·exact wpS_pure ⟨wX,_,_,_,_,_,_,rfl,mD,by (clear e fX b3 kpos l1 rq eq e3 fM a4 a3 k1 bU rp ep le b2 a2 b1 a1 hy hx eb ea hl h0 hb1 hk;lia),by (clear e6 e fX b3 kpos l1 rq eq fM a4 a3 k1 bU rp ep le b2 a2 a1 hy hx eb ea hl h0 hb1 hk;lia),by (clear e6 e fX b3 kpos l1 rq eq e3 fM a4 a3 k1 bU rp ep le b2 b1 a1 hy hx eb ea hl h0 hb1 hk;lia),by (clear e6 e fX b3 kpos rq eq e3 fM a4 a3 k1 bU rp ep le a2 b1 a1 hy hx eb ea hl h0 hb1 hk;lia),by (clear e6 e fX b3 kpos rq eq e3 fM a4 a3 k1 bU rp ep b2 a2 b1 hy hx eb ea hl h0 hb1 hk;lia)⟩
end
end Tim
set_option Elab.async false
set_option linter.all false
set_option maxRecDepth 100000
set_option maxHeartbeats 4000000
namespace Tim
open PySem PyProof.Rows
section
variable {prog:Program} {w:World} {A:Around} {E:Value->Shared->Prop} {s:Shared} {κ:SortKind} {a₀:Array Keyed} {rk:Value->Nat} {pd:Array (Nat×Nat×Nat)}
structure SB (κ:SortKind) (a₀:Array Keyed) (pd:Array (Nat×Nat×Nat)) (st:SortSt):Prop where
 perm:(arrOf st).Perm a₀
 kind:kindOf st=κ
 failed:failedOf st=none
 pend:pendingOf st=pd
theorem SB.size {st:SortSt} (h:SB κ a₀ pd st):(arrOf st).size=a₀.size:=h.perm.size_eq
theorem SB.setArr {st:SortSt} (h:SB κ a₀ pd st) {xs:Array Keyed} (hp:xs.Perm (arrOf st)):SB κ a₀ pd (setArr st xs):=⟨hp.trans h.perm,h.kind,h.failed,h.pend⟩
theorem SB.mem {st:SortSt} (h:SB κ a₀ pd st) {p:Keyed} (hp:p∈(arrOf st).toList):p∈a₀.toList:=(Array.perm_iff_toList_perm.mp h.perm).mem_iff.mp hp
theorem iQ {st:SortSt} {i j:Nat} {Q:Option Bool->SortSt->Prop} (C:Dl prog w A s κ a₀ rk) (hB:SB κ a₀ pd st) (hi:i<a₀.size) (hj:j<a₀.size) (h:Q (some (decide (R rk (arrOf st) i<R rk (arrOf st) j))) st):
 wpS (model prog w) A E s (ltAt' i j) Q st:=by
 rw [ltAt'_eq];refine wpS_bind (wpS_get ?_);have hi':i<(arrOf st).size:=by rw [hB.size];exact hi
 have hj':j<(arrOf st).size:=by rw [hB.size];exact hj
 rw [gC hi',gC hj'] at h;exact wpS_bind (bJ (getElem?_pos (arrOf st) i hi') (wpS_bind (bJ (getElem?_pos (arrOf st) j hj') (rR C hB.kind (hB.mem (by simp)) (hB.mem (by simp)) h))))
def Kb (lo:Nat) (st st':SortSt):Prop:=∀i,i<lo->(arrOf st')[i]? = (arrOf st)[i]?
theorem Kb.refl {lo:Nat} {st:SortSt}:Kb lo st st:=fun _ _=>rfl
theorem Kb.trans {lo:Nat} {a b c:SortSt} (h:Kb lo a b) (g:Kb lo b c):Kb lo a c:=fun i hi=>(g i hi).trans (h i hi)
theorem uO {xs:Array Keyed} {i j:Nat} (hj:j<=xs.size) (k:Nat):R rk (mirror xs i j ((j - i) / 2)) k=if i<=k/\k<j then R rk xs (i+j - 1 - k) else R rk xs k:=by
 have e:=getElem?_mirror_all (i:=i) hj k
 by_cases h1:i<=k/\k<j
 ·rw [if_pos h1] at e ⊢;exact eZ e
 ·rw [if_neg h1] at e ⊢;exact eZ e
theorem mJ {st:SortSt} {lo i j:Nat} (hj:j<=(arrOf st).size) (hi:lo<=i):Kb lo st (setArr st (mirror (arrOf st) i j ((j - i) / 2))):=fun k hk=>by
 show (mirror (arrOf st) i j ((j - i) / 2))[k]? = _;rw [getElem?_mirror_all hj,if_neg (by (clear hj;lia))]
theorem g8 {xs:Array Keyed} {i j:Nat} (hj:j<=xs.size) (heq:∀k,i<=k->k<j->R rk xs k=R rk xs (j - 1)) (k:Nat):R rk (mirror xs i j ((j - i) / 2)) k=R rk xs k:=by
 rw [uO hj];split
 ·rw [heq _ (by (clear hj;lia)) (by (clear hj;lia)),heq k (by (clear hj;lia)) (by (clear hj;lia))]
 ·rfl
theorem Ae {xs:Array Keyed} {src d:Nat} (hs:src<xs.size) (hd:d<=src) (k:Nat):
 R rk (bubble xs src d) k=if k=src - d then R rk xs src else if src - d<k/\k<=src then R rk xs (k - 1) else R rk xs k:=by
 have e:=getElem?_bubble hs d hd k
 by_cases h1:k=src - d
 ·rw [if_pos h1] at e ⊢;exact eZ e
 ·rw [if_neg h1] at e ⊢
  by_cases h2:src - d<k/\k<=src
  ·rw [if_pos h2] at e ⊢;exact eZ e
  ·rw [if_neg h2] at e ⊢;exact eZ e
def SQ (rk:Value->Nat) (xs:Array Keyed) (lo hi:Nat):Prop:=∀i j,lo<=i->i<=j->j<hi->R rk xs j<=R rk xs i
theorem wpS_countRun {st:SortSt} {lo nrem:Nat} {Q:Option Nat->SortSt->Prop} (C:Dl prog w A s κ a₀ rk) (hn:lo+nrem<=a₀.size) (h1:1<=nrem) (hB:SB κ a₀ pd st)
 (h:∀m st',SB κ a₀ pd st'->Kb lo st st'->1<=m->m<=nrem->Seg rk (arrOf st') lo (lo+m)->Q (some m) st'):wpS (model prog w) A E s (countRun' lo nrem) Q st:=by
 rw [countRun'_eq]
 refine wpS_bind (wpS_mono (wpS_forRange (I:=fun x c st'=>st'=st/\c=(none,x)/\Seg rk (arrOf st) lo (lo+x))
  (Q:=fun c st'=>st'=st /\ ∃n,c=(none,n)/\1<=n/\n<=nrem/\Seg rk (arrOf st) lo (lo+n)/\(n=nrem\/R rk (arrOf st) (lo+n)<R rk (arrOf st) (lo+n - 1))) ?step ?fin ⟨rfl,rfl,fun i j a b c=>by rw [show i=j by (clear h1 hn;lia)];exact Nat.le_refl _⟩) ?post)
 case fin=>
  rintro c st' ⟨rfl,rfl,hs⟩;rw [show max 1 nrem=nrem by (clear hn;lia)] at hs ⊢;exact ⟨rfl,nrem,rfl,h1,Nat.le_refl _,hs,.inl rfl⟩
 case step=>
  rintro x c st' x1 xn ⟨rfl,rfl,hs⟩;dsimp only;refine wpS_bind (iQ C hB (by (clear x1 h1;lia)) (by (clear x1 h1;lia)) ?_);dsimp only;refine aN (fun lt=> ?_) (fun lt=> ?_)
  ·exact wpS_pure ⟨rfl,x,rfl,x1,by (clear lt x1 h1 hn;lia),hs,.inr (of_decide_eq_true lt)⟩
  ·have lt:R rk (arrOf st') (lo+x - 1)<=R rk (arrOf st') (lo+x):=Nat.le_of_not_lt fun z=>lt (decide_eq_true z)
   refine wpS_pure ⟨rfl,rfl,fun i j a b c=> ?_⟩
   by_cases hj:j<lo+x
   ·exact hs i j a b hj
   ·have:j=lo+x:=by (clear b a lt xn x1 h1 hn;lia)
    subst this
    by_cases hi:i=lo+x
    ·rw [hi];exact Nat.le_refl _
    ·exact Nat.le_trans (hs i (lo+x - 1) a (by (clear hj c a lt xn x1 h1 hn;lia)) (by (clear hi hj c b a lt xn h1 hn;lia))) lt
 case post=>
  rintro c st' ⟨rfl,n,rfl,n1,nn,hs,hor⟩;dsimp only;have hsz:(arrOf st').size=a₀.size:=hB.size;refine aN (fun e=> ?_) (fun e=> ?_)
  ·exact wpS_pure (h n _ hB Kb.refl n1 nn hs)
  have e:¬n=nrem:=fun z=>e (beq_iff_eq.mpr z);have lt:=hor.resolve_left e;have n2:n+1<=nrem:=by (clear lt hsz hor n1 h1 hn;lia)
  apply aN
  case' h1=>
   intro gt;refine wpS_bind (iQ C hB (by (clear gt n2 lt e hsz hor nn n1;lia)) (by (clear gt n2 lt e hsz hor n1;lia)) ?_);dsimp only;refine aN (fun rose=> ?_) (fun rose=> ?_)
   ·exact wpS_pure (h n _ hB Kb.refl n1 nn hs)
   have rose:R rk (arrOf st') (lo+n - 1)<=R rk (arrOf st') lo:=Nat.le_of_not_lt fun z=>rose (decide_eq_true z)
   have all:∀k,lo<=k->k<lo+n->R rk (arrOf st') k=R rk (arrOf st') (lo+n - 1):=fun k k1 k2=>by
    have a1:=hs lo k (Nat.le_refl _) k1 k2;have a2:=hs k (lo+n - 1) k1 (by (clear a1 k1 rose gt n2 lt e hsz hor nn n1 h1 hn;lia)) (by (clear a1 k2 k1 rose gt n2 lt e hsz hor nn h1 hn;lia))
    (clear k2 k1 gt n2 lt e hsz hor nn n1 h1 hn;lia)
   rw [reverseSlice'_eq];refine wpS_bind (wpS_modify ?_);have jP:SB κ a₀ pd (setArr st' (mirror (arrOf st') lo (lo+n) ((lo+n - lo) / 2))):=hB.setArr (mirror_perm _ _ _ _);have k1:Kb lo st' (setArr st' (mirror (arrOf st') lo (lo+n) ((lo+n - lo) / 2))):=mJ (by (clear rose gt n2 lt e hor n1 h1;lia)) (Nat.le_refl _)
   have dw:SQ rk (arrOf (setArr st' (mirror (arrOf st') lo (lo+n) ((lo+n - lo) / 2)))) lo (lo+n+1):=fun i j a b c=>by
    show R rk (mirror _ _ _ _) j<=R rk (mirror _ _ _ _) i;rw [g8 (by (clear c b a rose gt n2 lt e hor n1 h1;lia)) all,g8 (by (clear c b a rose gt n2 lt e hor n1 h1;lia)) all]
    by_cases hj:j<lo+n
    ·rw [all i a (by (clear c a rose gt n2 lt e hsz hor nn n1 h1 hn;lia)),all j (by (clear hj c rose gt n2 lt e hsz hor nn n1 h1 hn;lia)) hj];exact Nat.le_refl _
    ·have:j=lo+n:=by (clear b a rose gt n2 lt e hsz hor nn n1 h1 hn;lia)
     subst this
     by_cases hi:i=lo+n
     ·rw [hi];exact Nat.le_refl _
     ·rw [all i a (by (clear hj c a rose gt n2 lt e hsz hor nn n1 h1 hn;lia))];(clear hi hj c b a rose gt n2 lt hsz nn n1 h1 hn;lia)
   generalize setArr st' (mirror (arrOf st') lo (lo+n) ((lo+n - lo) / 2))=st1 at jP k1 dw ⊢
  case' h2=>
   intro gt;have jP:=hB;have k1:Kb lo st' st':=Kb.refl
   have dw:SQ rk (arrOf st') lo (lo+n+1):=fun i j a b c=>by
    have e1:n=1:=by (clear c b a n2 lt e hsz hor nn h1 hn;lia)
    subst e1
    by_cases hi:i=j
    ·rw [hi];exact Nat.le_refl _
    ·have:i=lo+1 - 1:=by (clear gt n2 lt e hor nn n1 hsz h1 hn;lia)
     have:j=lo+1:=by (clear this gt n2 lt e hor nn n1 hsz h1 hn;lia)
     subst_vars
     (clear hi b c a gt n2 lt nn n1 hsz h1 hn;lia)
   revert jP k1 dw;generalize hst:st'=st1;intro jP k1 dw
  all_goals
   refine wpS_bind (wpS_lift (wpAny_rule ⟨rfl, ?_⟩))
   refine wpS_bind (wpS_mono (wpS_forRange (I:=fun x c st2=>∃neq,c=(none,x,neq)/\SB κ a₀ pd st2/\Kb lo st1 st2/\SQ rk (arrOf st2) lo (lo+x)/\neq+1<=x/\(∀i,lo+x - (neq+1)<=i->i<lo+x->R rk (arrOf st2) i=R rk (arrOf st2) (lo+x - 1)))
    (Q:=fun c st2=>∃x neq,c=(none,x,neq)/\n+1<=x/\x<=nrem/\SB κ a₀ pd st2/\Kb lo st1 st2/\SQ rk (arrOf st2) lo (lo+x)/\neq+1<=x/\(∀i,lo+x - (neq+1)<=i->i<lo+x->R rk (arrOf st2) i=R rk (arrOf st2) (lo+x - 1))) ?_ ?_ ⟨0,rfl,jP,Kb.refl,dw,by (clear gt n2 lt e hsz hor nn n1 h1 hn;lia),fun i a b=>by congr 1;(clear gt n2 lt e hsz hor nn n1 h1 hn;lia)⟩) ?_)
   ·rintro x c st2 x1 xn ⟨neq,rfl,hB2,k2,d2,q2,e2⟩
    dsimp only;have jO:(arrOf st2).size=a₀.size:=hB2.size;refine wpS_bind (iQ C hB2 (by (clear jO q2 x1 gt n2 lt e hsz hor nn n1 h1;lia)) (by (clear jO q2 x1 gt n2 lt e hsz hor nn n1 h1;lia)) ?_);dsimp only;refine aN (fun lt=> ?_) (fun lt=> ?_)
    ·have lt:R rk (arrOf st2) (lo+x)<R rk (arrOf st2) (lo+x - 1):=of_decide_eq_true lt
     have step1:∀xs:Array Keyed,(∀k,R rk xs k=R rk (arrOf st2) k)->SQ rk xs lo (lo+(x+1)):=by
      intro xs hk i j a b c;rw [hk,hk]
      by_cases hj:j<lo+x
      ·exact d2 i j a b hj
      ·have:j=lo+x:=by (clear b a lt jO q2 xn x1 gt n2 e hsz hor nn n1 h1 hn;lia)
       subst this
       by_cases hi:i=lo+x
       ·rw [hi];exact Nat.le_refl _
       ·exact Nat.le_trans (Nat.le_of_lt lt) (d2 i (lo+x - 1) a (by (clear hj c a lt jO q2 xn x1 gt n2 e hsz hor nn n1 h1 hn;lia)) (by (clear hi hj c b a lt jO q2 xn gt n2 e hsz hor nn n1 h1 hn;lia)))
     refine aN (fun _=> ?_) (fun _=> ?_)
     ·rw [reverseSlice'_eq]
      refine wpS_bind (wpS_modify (wpS_pure ⟨0,rfl,hB2.setArr (mirror_perm _ _ _ _),k2.trans (mJ (by (clear lt q2 x1 gt n2 e hsz hor nn n1 h1;lia)) (by (clear lt jO xn x1 gt n2 e hsz hor nn n1 h1 hn;lia))),step1 _ (g8 (by (clear lt q2 x1 gt n2 e hsz hor nn n1 h1;lia)) e2),by (clear lt jO q2 xn x1 gt n2 e hsz hor nn n1 h1 hn;lia),fun i a b=>by congr 1;(clear lt jO q2 xn x1 gt n2 e hsz hor nn n1 h1 hn;lia)⟩))
     ·exact wpS_pure ⟨0,rfl,hB2,k2,step1 _ (fun _=>rfl),by (clear lt jO q2 xn x1 gt n2 e hsz hor nn n1 h1 hn;lia),fun i a b=>by congr 1;(clear lt jO q2 xn x1 gt n2 e hsz hor nn n1 h1 hn;lia)⟩
    ·have ge:R rk (arrOf st2) (lo+x - 1)<=R rk (arrOf st2) (lo+x):=Nat.le_of_not_lt fun z=>lt (decide_eq_true z)
     refine wpS_bind (iQ C hB2 (by (clear ge lt jO q2 x1 gt n2 e hsz hor nn n1 h1;lia)) (by (clear ge lt jO q2 x1 gt n2 e hsz hor nn n1 h1;lia)) ?_);dsimp only;refine aN (fun lg=> ?_) (fun lg=> ?_)
     ·exact wpS_pure ⟨x,neq,rfl,x1,by (clear lg ge lt jO q2 x1 gt n2 e hsz hor nn n1 h1 hn;lia),hB2,k2,d2,q2,e2⟩
     ·have le:R rk (arrOf st2) (lo+x)<=R rk (arrOf st2) (lo+x - 1):=Nat.le_of_not_lt fun z=>lg (decide_eq_true z)
      have Oa:R rk (arrOf st2) (lo+x)=R rk (arrOf st2) (lo+x - 1):=by (clear lg lt jO q2 xn x1 gt n2 e hsz hor nn n1 h1 hn;lia)
      refine wpS_pure ⟨neq+1,rfl,hB2,k2,fun i j a b c=> ?_,by (clear Oa le lg ge lt jO xn x1 gt n2 e hsz hor nn n1 h1 hn;lia),fun i a b=> ?_⟩
      ·by_cases hj:j<lo+x
       ·exact d2 i j a b hj
       ·have:j=lo+x:=by (clear b a Oa le lg ge lt jO q2 xn x1 gt n2 e hsz hor nn n1 h1 hn;lia)
        subst this
        by_cases hi:i=lo+x
        ·rw [hi];exact Nat.le_refl _
        ·rw [Oa];exact d2 i (lo+x - 1) a (by (clear hj c a Oa le lg ge lt jO q2 xn x1 gt n2 e hsz hor nn n1 h1 hn;lia)) (by (clear hi hj c b a Oa le lg ge lt jO q2 xn gt n2 e hsz hor nn n1 h1 hn;lia))
      ·rw [show lo+(x+1) - 1=lo+x by (clear b a Oa le lg ge lt jO q2 xn x1 gt n2 e hsz hor nn n1 h1 hn;lia)]
       by_cases hi:i=lo+x
       ·rw [hi]
       ·rw [Oa];exact e2 i (by (clear hi b Oa le lg ge lt jO q2 xn x1 gt n2 e hsz hor nn n1 h1 hn;lia)) (by (clear a Oa le lg ge lt jO q2 xn x1 gt n2 e hsz hor nn n1 h1 hn;lia))
   ·rintro c st2 ⟨neq,rfl,hB2,k2,d2,q2,e2⟩
    rw [show max (n+1) nrem=nrem by (clear q2 gt n2 lt hsz hor n1 h1 hn;lia)] at d2 q2 e2 ⊢;exact ⟨nrem,neq,rfl,n2,Nat.le_refl _,hB2,k2,d2,q2,e2⟩
   ·rintro c st2 ⟨x,neq,rfl,x1,xn,hB2,k2,d2,q2,e2⟩
    dsimp only;have jO:(arrOf st2).size=a₀.size:=hB2.size;apply aN
    case' h1=>
     intro _;rw [reverseSlice'_eq];refine wpS_bind (wpS_modify ?_);have hB3:SB κ a₀ pd (setArr st2 (mirror (arrOf st2) (lo+x - (neq+1)) (lo+x) ((lo+x - (lo+x - (neq+1))) / 2))):=hB2.setArr (mirror_perm _ _ _ _);have k3:=k2.trans (mJ (st:=st2) (lo:=lo) (i:=lo+x - (neq+1)) (j:=lo+x) (by (clear q2 x1 gt n2 lt e hsz hor nn n1 h1;lia)) (by (clear jO xn x1 gt n2 lt e hsz hor nn n1 h1 hn;lia)))
     have d3:SQ rk (arrOf (setArr st2 (mirror (arrOf st2) (lo+x - (neq+1)) (lo+x) ((lo+x - (lo+x - (neq+1))) / 2)))) lo (lo+x):=fun i j a b c=>by
      show R rk (mirror _ _ _ _) j<=R rk (mirror _ _ _ _) i;rw [g8 (by (clear c b a q2 x1 gt n2 lt e hsz hor nn n1 h1;lia)) e2,g8 (by (clear c b a q2 x1 gt n2 lt e hsz hor nn n1 h1;lia)) e2];exact d2 i j a b c
     generalize setArr st2 (mirror (arrOf st2) (lo+x - (neq+1)) (lo+x) ((lo+x - (lo+x - (neq+1))) / 2))=st3 at hB3 k3 d3 ⊢
    case' h2=>
     intro _;have hB3:=hB2;have k3:=k2;have d3:=d2;revert hB3 k3 d3;generalize st2=st3;intro hB3 k3 d3
    all_goals
     have Dt:(arrOf st3).size=a₀.size:=hB3.size;rw [reverseSlice'_eq];refine wpS_bind (wpS_modify ?_);have qb:SB κ a₀ pd (setArr st3 (mirror (arrOf st3) lo (lo+x) ((lo+x - lo) / 2))):=hB3.setArr (mirror_perm _ _ _ _);have k4:=k3.trans (mJ (st:=st3) (lo:=lo) (i:=lo) (j:=lo+x) (by (clear jO q2 x1 gt n2 lt e hsz hor nn n1 h1;lia)) (by (clear Dt jO q2 xn x1 gt n2 lt e hsz hor nn n1 h1 hn;lia)))
     have s4:Seg rk (arrOf (setArr st3 (mirror (arrOf st3) lo (lo+x) ((lo+x - lo) / 2)))) lo (lo+x):=fun i j a b c=>by
      show R rk (mirror _ _ _ _) i<=R rk (mirror _ _ _ _) j;rw [uO (by (clear c b a jO q2 x1 gt n2 lt e hsz hor nn n1 h1;lia)),uO (by (clear c b a jO q2 x1 gt n2 lt e hsz hor nn n1 h1;lia)),if_pos (by (clear Dt jO q2 xn x1 gt n2 lt e hsz hor nn n1 h1 hn;lia)),if_pos (by (clear Dt jO q2 xn x1 gt n2 lt e hsz hor nn n1 h1 hn;lia))];exact d3 _ _ (by (clear b a Dt jO q2 xn x1 gt n2 lt e hsz hor nn n1 h1 hn;lia)) (by (clear c a Dt jO q2 xn x1 gt n2 lt e hsz hor nn n1 h1 hn;lia)) (by (clear c b Dt jO q2 xn gt n2 lt e hsz hor nn n1 h1 hn;lia))
     generalize setArr st3 (mirror (arrOf st3) lo (lo+x) ((lo+x - lo) / 2))=lE at qb k4 s4 ⊢
     refine wpS_bind (wpS_mono (wpS_forRange (I:=fun y c uV=>uV=lE/\c=(none,y)/\Seg rk (arrOf lE) lo (lo+y))
      (Q:=fun c uV=>uV=lE /\ ∃y,c=(none,y)/\x<=y/\y<=nrem/\Seg rk (arrOf lE) lo (lo+y)) ?_ ?_ ⟨rfl,rfl,s4⟩) ?_)
     ·rintro y c uV y1 yn ⟨rfl,rfl,Pu⟩
      dsimp only;refine wpS_bind (iQ C qb (by (clear y1 Dt jO q2 xn x1 gt n2 lt e hsz hor nn n1 h1;lia)) (by (clear y1 Dt jO q2 xn x1 gt n2 lt e hsz hor nn n1 h1;lia)) ?_);dsimp only;refine aN (fun lt=> ?_) (fun lt=> ?_)
      ·exact wpS_pure ⟨rfl,y,rfl,y1,by (clear lt y1 Dt jO q2 xn x1 gt n2 e hsz hor nn n1 h1 hn;lia),Pu⟩
      ·have lt:R rk (arrOf uV) (lo+y - 1)<=R rk (arrOf uV) (lo+y):=Nat.le_of_not_lt fun z=>lt (decide_eq_true z)
       refine wpS_pure ⟨rfl,rfl,fun i j a b c=> ?_⟩
       by_cases hj:j<lo+y
       ·exact Pu i j a b hj
       ·have:j=lo+y:=by (clear b a lt yn y1 Dt jO q2 xn x1 gt n2 e hsz hor nn n1 h1 hn;lia)
        subst this
        by_cases hi:i=lo+y
        ·rw [hi];exact Nat.le_refl _
        ·exact Nat.le_trans (Pu i (lo+y - 1) a (by (clear hj c a lt yn y1 Dt jO q2 xn x1 gt n2 e hsz hor nn n1 h1 hn;lia)) (by (clear hi hj c b a lt yn Dt jO q2 xn gt n2 e hsz hor nn n1 h1 hn;lia))) lt
     ·rintro c uV ⟨rfl,rfl,Pu⟩
      rw [show max x nrem=nrem by (clear Dt jO q2 x1 gt n2 lt e hsz hor nn n1 h1 hn;lia)] at Pu ⊢;exact ⟨rfl,nrem,rfl,xn,Nat.le_refl _,Pu⟩
     ·rintro c uV ⟨rfl,y,rfl,y1,yn,Pu⟩
      exact wpS_pure (h y _ qb (by first |exact k1.trans k4|(subst hst;exact k4)) (by (clear yn Dt jO q2 xn gt n2 lt e hsz hor nn n1 h1 hn;lia)) yn Pu)
theorem wpS_binarySort {st:SortSt} {lo n ok:Nat} {Q:Bool->SortSt->Prop} (C:Dl prog w A s κ a₀ rk) (hn:lo+n<=a₀.size) (hok:ok<=n) (hB:SB κ a₀ pd st) (hs:Seg rk (arrOf st) lo (lo+ok))
 (h:∀st',SB κ a₀ pd st'->Kb lo st st'->Seg rk (arrOf st') lo (lo+n)->Q true st'):wpS (model prog w) A E s (binarySort' lo n ok) Q st:=by
 rw [binarySort'_eq]
 refine wpS_bind (wpS_mono (wpS_forRange (I:=fun k c st'=>c=(none,())/\SB κ a₀ pd st'/\Kb lo st st'/\Seg rk (arrOf st') lo (lo+min k n))
  (Q:=fun c st'=>c=(none,())/\SB κ a₀ pd st'/\Kb lo st st'/\Seg rk (arrOf st') lo (lo+n)) ?step ?fin ?init) ?post)
 case post=>
  rintro c st' ⟨rfl,hB',k',hs'⟩;exact wpS_pure (h st' hB' k' hs')
 case init=>
  refine ⟨rfl,hB,Kb.refl,fun i j a b c=> ?_⟩
  by_cases h1:ok=0
  ·rw [show i=j by (clear hok hn;lia)];exact Nat.le_refl _
  ·exact hs i j a b (by (clear b a hok hn;lia))
 case fin=>
  rintro c st' ⟨hc,hB',k',hs'⟩;refine ⟨hc,hB',k', ?_⟩;rwa [show min (max (max ok 1) n) n=n by (clear hc hok hn;lia)] at hs'
 case step=>
  rintro k c st' hak hkn ⟨rfl,hB',k',hs'⟩;rw [show min k n=k by (clear hak hok hn;lia)] at hs';have sz:(arrOf st').size=a₀.size:=hB'.size
  refine wpS_bind (wpS_mono (wpS_forRange (I:=fun x c st''=>st''=st' /\ ∃l r,c=(none,l,r)/\l<=r/\r<=k/\r - l<=k - x /\
   (∀i,i<l->R rk (arrOf st') (lo+i)<=R rk (arrOf st') (lo+k))/\(∀i,r<=i->i<k->R rk (arrOf st') (lo+k)<R rk (arrOf st') (lo+i)))
   (Q:=fun c st''=>st''=st' /\ ∃l r,c=(none,l,r)/\l<=k /\
     (∀i,i<l->R rk (arrOf st') (lo+i)<=R rk (arrOf st') (lo+k))/\(∀i,l<=i->i<k->R rk (arrOf st') (lo+k)<R rk (arrOf st') (lo+i))) ?istep ?ifin ?iinit) ?ipost)
  case iinit=>exact ⟨rfl,0,k,rfl,by (clear sz hkn hak hok hn;lia),by (clear sz hkn hak hok hn;lia),by (clear sz hkn hak hok hn;lia),fun i hi=>by (clear sz hkn hak hok hn;lia),fun i h1 h2=>by (clear sz hkn hak hok hn;lia)⟩
  case ifin=>
   rintro c st'' ⟨rfl,l,r,rfl,hlr,hrk,hm,hlo,hhi⟩;have:l=r:=by (clear hrk sz hkn hak hok hn;lia)
   subst this;exact ⟨rfl,l,l,rfl,hrk,hlo,hhi⟩
  case istep=>
   rintro x c st'' _ hxk ⟨rfl,l,r,rfl,hlr,hrk,hm,hlo,hhi⟩;dsimp only;refine aN (fun hge=> ?_) (fun hge=> ?_)
   ·have:l=r:=by (clear hm hrk sz hxk hkn hak hok hn;lia)
    subst this;exact wpS_pure ⟨rfl,l,l,rfl,hrk,hlo,hhi⟩
   ·refine wpS_bind (iQ C hB' (by (clear hge hm hrk hlr sz hxk hak hok;lia)) (by (clear hge hm sz hxk hak hok;lia)) ?_)
    dsimp only;refine aN (fun lt=> ?_) (fun lt=> ?_)
    ·have lt:=of_decide_eq_true lt
     refine wpS_pure ⟨rfl,l,(l+r) / 2,rfl,by (clear lt hge hm hrk sz hxk hkn hak hok hn;lia),by (clear lt hge hm sz hxk hkn hak hok hn;lia),by (clear lt hge hrk hlr sz hxk hkn hak hok hn;lia),hlo,fun i h1 h2=> ?_⟩;exact Nat.lt_of_lt_of_le lt (hs' _ _ (by (clear h2 h1 lt hge hm hrk hlr sz hxk hkn hak hok hn;lia)) (by (clear h2 lt hge hm hrk hlr sz hxk hkn hak hok hn;lia)) (by (clear h1 lt hge hm hrk hlr sz hxk hkn hak hok hn;lia)))
    ·have lt:R rk (arrOf st'') (lo+(l+r) / 2)<=R rk (arrOf st'') (lo+k):=Nat.le_of_not_lt fun z=>lt (decide_eq_true z)
     refine wpS_pure ⟨rfl,(l+r) / 2+1,r,rfl,by (clear lt hm hrk hlr sz hxk hkn hak hok hn;lia),by (clear lt hge hm hlr sz hxk hkn hak hok hn;lia),by (clear lt hge hrk hlr sz hxk hkn hak hok hn;lia),fun i h1=> ?_,hhi⟩;exact Nat.le_trans (hs' (lo+i) (lo+(l+r) / 2) (by (clear h1 lt hge hm hrk hlr sz hxk hkn hak hok hn;lia)) (by (clear lt hge hm hrk hlr sz hxk hkn hak hok hn;lia)) (by (clear h1 lt hm hlr sz hxk hkn hak hok hn;lia))) lt
  case ipost=>
   rintro c st'' ⟨rfl,l,r,rfl,hlk,hlo,hhi⟩;show wpS _ _ _ _ (do moveDown' (lo+k) (lo+l);pure (ForInStep.yield (none,()))) _ _;rw [moveDown'_eq];refine wpS_bind (wpS_modify (wpS_pure ⟨rfl,hB'.setArr (bubble_perm _ _ _),k'.trans ?_, ?_⟩))
   ·intro i hi
    show (bubble (arrOf st'') (lo+k) (lo+k - (lo+l)))[i]? = _;rw [getElem?_bubble (by (clear hi hlk hak hok;lia)) _ (by (clear hi hlk sz hkn hak hok hn;lia)),if_neg (by (clear hlk sz hkn hak hok hn;lia)),if_neg (by (clear hlk sz hkn hak hok hn;lia))]
   rw [show min (k+1) n=k+1 by (clear hlk sz hak hok hn;lia)];intro i j a b c;show R rk (bubble (arrOf st'') (lo+k) (lo+k - (lo+l))) i<=R rk (bubble (arrOf st'') (lo+k) (lo+k - (lo+l))) j;rw [Ae (by (clear c b a hlk hak hok;lia)) (by (clear c b a hlk sz hkn hak hok hn;lia)),Ae (by (clear c b a hlk hak hok;lia)) (by (clear c b a hlk sz hkn hak hok hn;lia)),show lo+k - (lo+k - (lo+l))=lo+l by (clear c b a sz hkn hak hok hn;lia)]
   have L1:∀i,lo<=i->i<lo+l->R rk (arrOf st'') i<=R rk (arrOf st'') (lo+k):=fun i i1 i2=>by
    have:=hlo (i - lo) (by (clear c b a hlk sz hkn hak hok hn;lia));rwa [show lo+(i - lo)=i by (clear this i2 c b a hlk sz hkn hak hok hn;lia)] at this
   have L2:∀i,lo+l<=i->i<lo+k->R rk (arrOf st'') (lo+k)<R rk (arrOf st'') i:=fun i i1 i2=>by
    have:=hhi (i - lo) (by (clear i2 c b a hlk sz hkn hak hok hn;lia)) (by (clear i1 c b a hlk sz hkn hok hn;lia));rwa [show lo+(i - lo)=i by (clear this i2 c b a hlk sz hkn hak hok hn;lia)] at this
   repeat' split
   all_goals first
    | (exfalso;(clear a hlk sz hkn hak hok hn;lia))
    | exact Nat.le_refl _
    | exact L1 _ (by (clear c b hlk sz hkn hak hok hn;lia)) (by (clear c a hlk sz hkn hak hok hn;lia))
    | exact Nat.le_of_lt (L2 _ (by (clear c b a hlk sz hkn hak hok hn;lia)) (by (clear c b a hlk sz hkn hak hok hn;lia)))
    | exact hs' _ _ (by (clear c b hlk sz hkn hak hok hn;lia)) (by (clear c a hlk sz hkn hak hok hn;lia)) (by (clear b a sz hkn hak hok hn;lia))
end
end Tim
set_option Elab.async false
set_option linter.all false
set_option maxRecDepth 100000
set_option maxHeartbeats 4000000
namespace Tim
open PySem PyProof.Rows
theorem zq (i:Nat):mergeAt' i=(do
 let s ←get
 let (some (sa,na,power),some (sb,nb,_)):=((pendingOf s)[i]?,(pendingOf s)[i+1]?)|unsupported "internal:list.sort.pending"
 set (SortSt.mk' (kindOf s) (arrOf s) (((pendingOf s).setIfInBounds i (sa,na+nb,power)).eraseIdxIfInBounds (i+1)) (gallopOf s) (failedOf s))
 let some k ←jw false (←elem' (arrOf s) sb) (arrOf s) sa na 0|return false
 let (sa,na):=(sa+k,na - k)
 if na==0 then return true
 let some nb ←jw true (←elem' (arrOf s) (sa+na - 1)) (arrOf s) sb nb (nb - 1)|return false
 if nb==0 then return true
 let x:=(arrOf s).extract sa sb
 let y:=(arrOf s).extract sb (sb+nb)
 let merged ←if na<=nb then tL x y else tM x y
 modify fun s=>setArr s (merged.toList.zipIdx.foldl (fun a (p,j)=>a.setIfInBounds (sa+j) p) (arrOf s))
 return (failedOf (←get)).isNone):=rfl
section
variable {prog:Program} {w:World} {A:Around} {E:Value->Shared->Prop} {s:Shared} {κ:SortKind} {a₀:Array Keyed} {rk:Value->Nat} {pd:Array (Nat×Nat×Nat)}
theorem DQ (b:Nat) (m:List Keyed):∀(n:Nat) (xs:Array Keyed) (j:Nat),b+n+m.length<=xs.size->((m.zipIdx n).foldl (fun a x=>a.setIfInBounds (b+x.2) x.1) xs)[j]? = if b+n<=j/\j<b+n+m.length then m[j - (b+n)]? else xs[j]? :=by
 induction m with
 | nil=>intro n xs j h;rw [if_neg (by simp)];rfl
 | cons p m ih=>
   intro n xs j h;rw [List.length_cons] at h;rw [List.zipIdx_cons,List.foldl_cons,ih (n+1) _ j (by rw [Array.size_setIfInBounds];lia)]
   by_cases e:j=b+n
   ·subst e
    rw [if_neg (by (clear h;lia)),if_pos (by rw [List.length_cons];(clear h;lia)),Nat.sub_self];rw [Array.getElem?_setIfInBounds_self_of_lt (by lia)];rfl
   ·by_cases c:b+(n+1)<=j/\j<b+(n+1)+m.length
    ·rw [if_pos c,if_pos (by rw [List.length_cons];(clear e h;lia)),show j - (b+n)=(j - (b+(n+1)))+1 by (clear e h;lia),List.getElem?_cons_succ]
    ·rw [if_neg c,if_neg (by rw [List.length_cons];(clear h;lia)),Array.getElem?_setIfInBounds_ne (Ne.symm e)]
theorem Jj {b n:Nat} {m:List Keyed} {xs:Array Keyed} (hl:m.length=n) (hb:b+n<=xs.size) (hp:m.Perm ((xs.toList.drop b).take n)):((m.zipIdx).foldl (fun a x=>a.setIfInBounds (b+x.2) x.1) xs).Perm xs:=by
 have e:((m.zipIdx).foldl (fun a x=>a.setIfInBounds (b+x.2) x.1) xs).toList=xs.toList.take b++(m++xs.toList.drop (b+n)):=by
  have hx:xs.toList.length=xs.size:=Array.length_toList;apply List.ext_getElem?;intro j;rw [Array.getElem?_toList,DQ b m 0 xs j (by (clear hx;lia))]
  by_cases j1:j<b
  ·rw [if_neg (by (clear hx hb hl;lia)),List.getElem?_append_left (by rw [List.length_take,hx];(clear hx hl;lia)),List.getElem?_take_of_lt j1,Array.getElem?_toList]
  ·rw [List.getElem?_append_right (by rw [List.length_take,hx];(clear hx hb hl;lia)),List.length_take,hx,Nat.min_eq_left (by (clear j1 hx hl;lia))]
   by_cases j2:j<b+n
   ·rw [if_pos (by (clear hx hb;lia)),List.getElem?_append_left (by (clear hx hb;lia))];rfl
   ·rw [if_neg (by (clear j1 hx hb;lia)),List.getElem?_append_right (by (clear j1 hx hb;lia)),List.getElem?_drop,Array.getElem?_toList]
    congr 1
    (clear j1 hx hb;lia)
 refine Array.perm_iff_toList_perm.mpr ?_;rw [e]
 have sp:xs.toList=xs.toList.take b++((xs.toList.drop b).take n++xs.toList.drop (b+n)):=by
  rw [←uh,List.take_append_drop]
 refine List.Perm.trans ?_ (List.Perm.of_eq sp.symm);exact List.Perm.append_left _ (List.Perm.append_right _ hp)
theorem qN {xs:Array Keyed} {lo hi i:Nat} (h:lo+i<hi) (hh:hi<=xs.size):R rk (xs.extract lo hi) i=R rk xs (lo+i):=by
 apply eZ;rw [Array.getElem?_extract];rw [if_pos (by lia)]
theorem Lr {σ:Type} {M:Model} {A:Around} {E:Value->Shared->Prop} {s:Shared} {x:σ} {Q:PUnit->σ->Prop} {st:σ} (h:Q ⟨⟩ x):wpS M A E s (set x:StateT σ Sem PUnit) Q st:=by
 unfold wpS;rw [StateT.run_set];exact wpAny_pure ⟨rfl,h⟩
theorem yc {st:SortSt} {i sa na pw sb nb YM:Nat} {Q:Bool->SortSt->Prop} (C:Dl prog w A s κ a₀ rk) (hB:SB κ a₀ pd st) (h1:pd[i]? = some (sa,na,pw)) (h2:pd[i+1]? = some (sb,nb,YM)) (hsb:sb=sa+na) (na1:1<=na) (cX:1<=nb) (hz:sb+nb<=a₀.size)
 (s1:Seg rk (arrOf st) sa (sa+na)) (s2:Seg rk (arrOf st) sb (sb+nb))
 (h:∀st',SB κ a₀ ((pd.setIfInBounds i (sa,na+nb,pw)).eraseIdxIfInBounds (i+1)) st'->(∀j,j<sa\/sb+nb<=j->(arrOf st')[j]? = (arrOf st)[j]?)->Seg rk (arrOf st') sa (sb+nb)->Q true st'):
 wpS (model prog w) A E s (mergeAt' i) Q st:=by
 rw [zq];refine wpS_bind (wpS_get ?_);rw [hB.pend,h1,h2];dsimp only;have sz:(arrOf st).size=a₀.size:=hB.size;have oR:∀p∈(arrOf st).toList,p∈a₀.toList:=fun p hp=>hB.mem hp;have Pn:∀i,i<a₀.size -> ∃p,(arrOf st)[i]? = some p/\p∈a₀.toList/\R rk (arrOf st) i=rk p.1:=fun i hi=>⟨(arrOf st)[i]'(by (clear hz cX na1 hsb h2 h1;lia)),getElem?_pos (arrOf st) i (by (clear hz cX na1 hsb h2 h1;lia)),hB.mem (by simp),gC (by (clear hz cX na1 hsb h2 h1;lia))⟩;refine wpS_bind (Lr ?_);have jP:SB κ a₀ ((pd.setIfInBounds i (sa,na+nb,pw)).eraseIdxIfInBounds (i+1)) (SortSt.mk' (kindOf st) (arrOf st) ((pd.setIfInBounds i (sa,na+nb,pw)).eraseIdxIfInBounds (i+1)) (gallopOf st) (failedOf st)):=⟨hB.perm,hB.kind,hB.failed,rfl⟩;have cP:arrOf (SortSt.mk' (kindOf st) (arrOf st) ((pd.setIfInBounds i (sa,na+nb,pw)).eraseIdxIfInBounds (i+1)) (gallopOf st) (failedOf st))=arrOf st:=rfl;generalize (pd.setIfInBounds i (sa,na+nb,pw)).eraseIdxIfInBounds (i+1)=pd1 at jP cP h ⊢;generalize SortSt.mk' (kindOf st) (arrOf st) pd1 (gallopOf st) (failedOf st)=st1 at jP cP ⊢;obtain ⟨p,ep,mp,rp⟩:=Pn sb (by (clear cP sz na1 hsb h2 h1;lia));refine wpS_bind (bJ ep (wpS_bind (gG C jP.kind mp oR (by (clear rp ep cP cX na1 h2 h1;lia)) (by (clear rp ep cP sz hz cX hsb h2 h1;lia)) s1 fun k k1 k2 k3=> ?_)));dsimp only;refine aN (fun e=> ?_) (fun e=> ?_)
 ·have e:na - k=0:=eq_of_beq e
  refine wpS_pure (h st1 jP (fun j _=>by rw [cP]) fun i j a b c=> ?_);rw [cP]
  by_cases hj:j<sb
  ·exact s1 i j a b (by (clear c b a e k1 rp ep cP sz hz cX na1 h2 h1;lia))
  ·by_cases hi:i<sb
   ·have e1:=Ox (k2 (i - sa) (by (clear hj c b a k1 rp ep cP sz hz cX h2 h1;lia)))
    rw [show sa+(i - sa)=i by (clear e1 hi hj c b e k1 rp ep cP sz hz cX na1 hsb h2 h1;lia)] at e1;have e2:=s2 sb j (Nat.le_refl _) (by (clear e1 hi c b a e k1 rp ep cP sz hz cX na1 hsb h2 h1;lia)) c
    (clear hi hj c b a e k1 ep cP sz hz cX na1 hsb h2 h1;lia)
   ·exact s2 i j (by (clear hj c b a e k1 rp ep cP sz hz cX na1 hsb h2 h1;lia)) b c
 have ek:k<na:=by have:¬na - k=0:=fun z=>e (beq_iff_eq.mpr z);(clear e k1 rp ep cP sz hz cX na1 hsb h2 h1;lia)
 obtain ⟨q,eq,mq,rq⟩:=Pn (sa+k+(na - k) - 1) (by (clear ek e rp ep cP sz cX h2 h1;lia));refine wpS_bind (bJ eq (wpS_bind (gG C jP.kind mq oR (by (clear rq eq ek e k1 rp ep cP cX na1 hsb h2 h1;lia)) (by (clear rq eq ek e k1 rp ep cP sz hz na1 hsb h2 h1;lia)) s2 fun n2 l1 l2 l3=> ?_)));dsimp only;have aO:sa+k+(na - k) - 1=sb - 1:=by (clear l1 rq eq ek e rp ep cP sz hz cX na1 h2 h1;lia)
 rw [aO] at rq;refine aN (fun e=> ?_) (fun e=> ?_)
 ·have e:n2=0:=eq_of_beq e
  refine wpS_pure (h st1 jP (fun j _=>by rw [cP]) fun i j a b c=> ?_);rw [cP]
  by_cases hj:j<sb
  ·exact s1 i j a b (by (clear c b a e aO l1 rq eq ek k1 rp ep cP sz hz cX na1 h2 h1;lia))
  ·by_cases hi:i<sb
   ·have e1:=Ag (l3 (j - sb) (by (clear hi hj c b a aO l1 rq eq ek k1 rp ep cP sz hz cX na1 hsb h2 h1;lia)) (by (clear hi hj b a e aO l1 rq eq ek k1 rp ep cP sz hz na1 hsb h2 h1;lia)))
    rw [show sb+(j - sb)=j by (clear e1 hi c b a e aO l1 rq eq ek k1 rp ep cP sz hz cX na1 hsb h2 h1;lia)] at e1;have e2:=s1 i (sb - 1) a (by (clear e1 hj c b a e aO l1 rq eq ek k1 rp ep cP sz hz cX na1 hsb h2 h1;lia)) (by (clear e1 hi hj c b a e aO l1 rq eq ek k1 rp ep cP sz hz cX h2 h1;lia))
    (clear hi hj c b a e aO l1 eq ek k1 rp ep cP sz hz cX na1 hsb h2 h1;lia)
   ·exact s2 i j (by (clear hj c b a e aO l1 rq eq ek k1 rp ep cP sz hz cX na1 hsb h2 h1;lia)) b c
 have e2:¬n2=0:=fun z=>e (beq_iff_eq.mpr z);have d8:((arrOf st).extract (sa+k) sb).size=sb - (sa+k):=by rw [Array.size_extract,Nat.min_eq_left (by (clear e2 e aO l1 rq eq ek k1 rp ep cP cX na1 hsb h2 h1;lia))]
 have d_:((arrOf st).extract sb (sb+n2)).size=n2:=by rw [Array.size_extract,Nat.min_eq_left (by (clear d8 e2 e aO rq eq ek k1 rp ep cP cX na1 hsb h2 h1;lia))];(clear d8 e2 e aO l1 rq eq ek k1 rp ep cP sz hz cX na1 hsb h2 h1;lia)
 have xin:∀p∈((arrOf st).extract (sa+k) sb).toList,p∈a₀.toList:=fun p hp=>oR p (by rw [cI] at hp;exact List.mem_of_mem_drop (List.mem_of_mem_take hp));have yin:∀p∈((arrOf st).extract sb (sb+n2)).toList,p∈a₀.toList:=fun p hp=>oR p (by rw [cI] at hp;exact List.mem_of_mem_drop (List.mem_of_mem_take hp))
 have sx:Seg rk ((arrOf st).extract (sa+k) sb) 0 ((arrOf st).extract (sa+k) sb).size:=fun i j a b c=>by
  rw [d8] at c;rw [qN (by (clear a d_ d8 e2 e aO l1 rq eq ek k1 rp ep cP sz hz cX na1 hsb h2 h1;lia)) (by (clear c b a d_ d8 e2 e aO l1 rq eq ek k1 rp ep cP cX na1 hsb h2 h1;lia)),qN (by (clear b a d_ d8 e2 e aO l1 rq eq ek k1 rp ep cP sz hz cX na1 hsb h2 h1;lia)) (by (clear c b a d_ d8 e2 e aO l1 rq eq ek k1 rp ep cP cX na1 hsb h2 h1;lia))];exact s1 _ _ (by (clear c b a d_ d8 e2 e aO l1 rq eq ek k1 rp ep cP sz hz cX na1 hsb h2 h1;lia)) (by (clear c a d_ d8 e2 e aO l1 rq eq ek k1 rp ep cP sz hz cX na1 hsb h2 h1;lia)) (by (clear b a d_ d8 e2 e aO l1 rq eq ek k1 rp ep cP sz hz cX na1 h2 h1;lia))
 have sy:Seg rk ((arrOf st).extract sb (sb+n2)) 0 ((arrOf st).extract sb (sb+n2)).size:=fun i j a b c=>by
  rw [d_] at c;rw [qN (by (clear a d_ d8 e2 e aO l1 rq eq ek k1 rp ep cP sz hz cX na1 hsb h2 h1;lia)) (by (clear c b a d_ d8 e2 e aO rq eq ek k1 rp ep cP cX na1 hsb h2 h1;lia)),qN (by (clear b a d_ d8 e2 e aO l1 rq eq ek k1 rp ep cP sz hz cX na1 hsb h2 h1;lia)) (by (clear c b a d_ d8 e2 e aO rq eq ek k1 rp ep cP cX na1 hsb h2 h1;lia))];exact s2 _ _ (by (clear c b a d_ d8 e2 e aO l1 rq eq ek k1 rp ep cP sz hz cX na1 hsb h2 h1;lia)) (by (clear c a d_ d8 e2 e aO l1 rq eq ek k1 rp ep cP sz hz cX na1 hsb h2 h1;lia)) (by (clear b a d_ d8 e2 e aO rq eq ek k1 rp ep cP sz hz cX na1 hsb h2 h1;lia))
 have h0:R rk ((arrOf st).extract sb (sb+n2)) 0<=R rk ((arrOf st).extract (sa+k) sb) 0:=by
  rw [qN (by (clear d_ d8 e aO l1 rq eq ek k1 rp ep cP sz hz cX na1 hsb h2 h1;lia)) (by (clear d_ d8 e2 e aO rq eq ek k1 rp ep cP cX na1 hsb h2 h1;lia)),qN (by (clear d_ d8 e2 e aO l1 rq eq k1 rp ep cP sz hz cX na1 h2 h1;lia)) (by (clear d_ d8 e2 e aO l1 rq eq ek k1 rp ep cP cX na1 hsb h2 h1;lia)),Nat.add_zero,Nat.add_zero,rp];have:=Lh (k3 k (Nat.le_refl _) ek)
  (clear d_ d8 e2 e aO l1 rq eq ek k1 rp ep cP sz hz cX na1 hsb h2 h1;lia)
 have hl:R rk ((arrOf st).extract sb (sb+n2)) (((arrOf st).extract sb (sb+n2)).size - 1)<=R rk ((arrOf st).extract (sa+k) sb) (((arrOf st).extract (sa+k) sb).size - 1):=by
  rw [d8,d_,qN (by (clear h0 d_ d8 e aO l1 rq eq ek k1 rp ep cP sz hz cX na1 hsb h2 h1;lia)) (by (clear h0 d_ d8 e2 e aO rq eq ek k1 rp ep cP cX na1 hsb h2 h1;lia)),qN (by (clear h0 d_ d8 e2 e aO l1 rq eq k1 rp ep cP sz hz cX na1 h2 h1;lia)) (by (clear h0 d_ d8 e2 e aO l1 rq eq ek k1 rp ep cP cX na1 hsb h2 h1;lia)),show sa+k+(sb - (sa+k) - 1)=sb - 1 by (clear h0 d_ d8 e2 e aO l1 rq eq k1 rp ep cP sz hz cX na1 h2 h1;lia),rq];have:=R7 (l2 (n2 - 1) (by (clear h0 d_ d8 e aO l1 rq eq ek k1 rp ep cP sz hz cX na1 hsb h2 h1;lia)))
  (clear h0 d_ d8 e2 e aO l1 rq eq ek k1 rp ep cP sz hz cX na1 hsb h2 h1;lia)
 have fin:∀r st2,xW st1 st2->Mg rk ((arrOf st).extract (sa+k) sb) ((arrOf st).extract sb (sb+n2)) r->wpS (model prog w) A E s (do
  modify fun s=>setArr s (List.foldl (fun a x=>a.setIfInBounds (sa+k+x.snd) x.fst) (arrOf s) r.toList.zipIdx)
  let __do_lift ←get
  pure (failedOf __do_lift).isNone) Q st2:=by
  intro r st2 k2' mg;have jD:arrOf st2=arrOf st:=k2'.a.trans cP;refine wpS_bind (wpS_modify ?_);refine wpS_bind (wpS_get ?_);have hf:failedOf (setArr st2 (List.foldl (fun a x=>a.setIfInBounds (sa+k+x.snd) x.fst) (arrOf st2) r.toList.zipIdx))=none:=k2'.f.trans jP.failed;rw [hf]
  have rl:r.toList.length=sb - (sa+k)+n2:=by
   rw [mg.perm.length_eq,List.length_append,Array.length_toList,Array.length_toList,d8,d_]
  have rp':r.toList.Perm (((arrOf st).toList.drop (sa+k)).take (sb - (sa+k)+n2)):=by
   refine mg.perm.trans (List.Perm.of_eq ?_);rw [cI,cI,List.take_add,List.drop_drop,show sb+n2 - sb=n2 by (clear rl hf jD hl h0 d_ d8 e2 e aO l1 rq eq ek k1 rp ep cP sz hz cX na1 hsb h2 h1;lia),show sa+k+(sb - (sa+k))=sb by (clear rl hf jD hl h0 d_ d8 e2 e aO l1 rq eq ek rp ep cP sz hz cX na1 h2 h1;lia)]
  have get:∀j,(arrOf (setArr st2 (List.foldl (fun a x=>a.setIfInBounds (sa+k+x.snd) x.fst) (arrOf st2) r.toList.zipIdx)))[j]? = if sa+k<=j/\j<sb+n2 then r.toList[j - (sa+k)]? else (arrOf st)[j]? :=fun j=>by
   show (List.foldl (fun a x=>a.setIfInBounds (sa+k+x.snd) x.fst) (arrOf st2) r.toList.zipIdx)[j]? = _;rw [jD,DQ (sa+k) r.toList 0 (arrOf st) j (by (clear hf jD hl h0 d_ d8 e2 e aO rq eq ek rp ep cP cX na1 h2 h1;lia)),rl]
   by_cases c:sa+k<=j/\j<sb+n2
   ·rw [if_pos c,if_pos (by (clear rl hf jD hl h0 d_ d8 e2 e aO l1 rq eq ek k1 rp ep cP sz hz cX na1 hsb h2 h1;lia))];rfl
   ·rw [if_neg c,if_neg (by (clear rl hf jD hl h0 d_ d8 e2 e aO l1 rq eq ek rp ep cP sz hz cX na1 h2 h1;lia))]
  have hB2:SB κ a₀ pd1 (setArr st2 (List.foldl (fun a x=>a.setIfInBounds (sa+k+x.snd) x.fst) (arrOf st2) r.toList.zipIdx)):=by
   refine ⟨?_,k2'.k.trans jP.kind,hf,k2'.p.trans jP.pend⟩;show (List.foldl (fun a x=>a.setIfInBounds (sa+k+x.snd) x.fst) (arrOf st2) r.toList.zipIdx).Perm a₀;rw [jD];exact (Jj rl (by (clear rl hf jD hl h0 d_ d8 e2 e aO rq eq ek rp ep cP cX na1 h2 h1;lia)) rp').trans hB.perm
  generalize setArr st2 (List.foldl (fun a x=>a.setIfInBounds (sa+k+x.snd) x.fst) (arrOf st2) r.toList.zipIdx)=st3 at get hB2 ⊢;have out:∀j,¬(sa+k<=j/\j<sb+n2)->R rk (arrOf st3) j=R rk (arrOf st) j:=fun j hj=>eZ (by rw [get j,if_neg hj])
  have mid:∀j,sa+k<=j->j<sb+n2 -> ∃j0,sa+k<=j0/\j0<sb+n2/\R rk (arrOf st3) j=R rk (arrOf st) j0:=fun j j1 j2=>by
   have e:=get j;rw [if_pos ⟨j1,j2⟩,List.getElem?_eq_getElem (by (clear e j1 hf jD hl h0 d_ d8 e2 aO l1 rq eq k1 rp ep cP sz hz cX na1 h2 h1;lia))] at e;have hm:r.toList[j - (sa+k)]'(by (clear e j1 hf jD hl h0 d_ d8 e2 aO l1 rq eq k1 rp ep cP sz hz cX na1 h2 h1;lia))∈((arrOf st).toList.drop (sa+k)).take (sb - (sa+k)+n2):=rp'.mem_iff.mp (List.getElem_mem _);obtain ⟨j0,a1,a2,a3⟩:=gU (rk:=rk) hm;exact ⟨sa+k+j0,by (clear a3 a2 a1 e j1 hf jD hl h0 d_ d8 e2 aO l1 rq eq k1 rp ep cP sz hz cX na1 h2 h1;lia),by (clear a3 a2 e j1 hf jD hl h0 d_ d8 e2 aO l1 rq eq k1 rp ep cP sz hz cX na1 h2 h1;lia),by rw [uN e,a3]⟩
  refine wpS_pure (h st3 hB2 (fun j hj=>by rw [get j,if_neg (by (clear rl hf jD hl h0 d_ d8 e2 e aO rq eq ek k1 rp ep cP sz hz cX na1 hsb h2 h1;lia))]) fun i j a b c=> ?_)
  by_cases i1:i<sa+k
  ·have ei:=Ox (k2 (i - sa) (by (clear c b rl hf jD hl h0 d_ d8 e2 e aO l1 rq eq ek k1 rp ep cP sz hz cX na1 hsb h2 h1;lia)))
   rw [show sa+(i - sa)=i by (clear ei i1 c b rl hf jD hl h0 d_ d8 e2 e aO l1 rq eq ek k1 rp ep cP sz hz cX na1 hsb h2 h1;lia),←rp] at ei;rw [out i (by (clear ei c b a rl hf jD hl h0 d_ d8 e2 e aO l1 rq eq ek k1 rp ep cP sz hz cX na1 hsb h2 h1;lia))]
   have key:∀j0,sa+k<=j0->j0<sb+nb->R rk (arrOf st) i<=R rk (arrOf st) j0:=fun j0 b1 b2=>by
    by_cases c:j0<sb
    ·exact s1 i j0 a (by (clear c b2 ei b a rl hf jD hl h0 d_ d8 e2 e aO l1 rq eq ek k1 rp ep cP sz hz cX na1 hsb h2 h1;lia)) (by (clear b2 b1 ei i1 b a rl hf jD hl h0 d_ d8 e2 e aO l1 rq eq ek k1 rp ep cP sz hz cX na1 h2 h1;lia))
    ·have:=s2 sb j0 (Nat.le_refl _) (by (clear b2 b1 ei i1 b a rl hf jD hl h0 d_ d8 e2 e aO l1 rq eq ek k1 rp ep cP sz hz cX na1 hsb h2 h1;lia)) b2;(clear c b2 b1 i1 b a rl hf jD hl h0 d_ d8 e2 e aO l1 rq eq ek k1 rp ep cP sz hz cX na1 hsb h2 h1;lia)
   by_cases j1:sa+k<=j/\j<sb+n2
   ·obtain ⟨j0,b1,b2,b3⟩:=mid j j1.1 j1.2
    rw [b3];exact key j0 b1 (by (clear b3 b1 j1 ei i1 c b a rl hf jD hl h0 d_ d8 e2 e aO rq eq ek k1 rp ep cP sz hz cX na1 hsb h2 h1;lia))
   ·rw [out j j1]
    by_cases j2:j<sa+k
    ·exact s1 i j a b (by (clear j1 ei i1 c b a rl hf jD hl h0 d_ d8 e2 e aO l1 rq eq ek rp ep cP sz hz cX na1 hsb h2 h1;lia))
    ·exact key j (by (clear j1 ei i1 c b a rl hf jD hl h0 d_ d8 e2 e aO l1 rq eq ek k1 rp ep cP sz hz cX na1 hsb h2 h1;lia)) c
  ·by_cases i2:i<sb+n2
   ·by_cases j2:j<sb+n2
    ·have e1:=get i
     have e2:=get j;rw [if_pos ⟨by (clear e2 e1 j2 i2 c b a rl hf jD hl h0 d_ d8 e aO l1 rq eq ek k1 rp ep cP sz hz cX na1 hsb h2 h1;lia),i2⟩,List.getElem?_eq_getElem (by (clear e2 e1 j2 i1 c b a hf jD hl h0 d_ d8 e aO l1 rq eq ek k1 rp ep cP sz hz cX na1 hsb h2 h1;lia))] at e1;rw [if_pos ⟨by (clear e2 e1 j2 i2 c a rl hf jD hl h0 d_ d8 e aO l1 rq eq ek k1 rp ep cP sz hz cX na1 hsb h2 h1;lia),j2⟩,List.getElem?_eq_getElem (by (clear e2 e1 i2 i1 c b a hf jD hl h0 d_ d8 e aO l1 rq eq ek k1 rp ep cP sz hz cX na1 hsb h2 h1;lia))] at e2;rw [uN e1,uN e2]
     by_cases eij:i=j
     ·subst eij;exact Nat.le_refl _
     ·exact List.pairwise_iff_getElem.mp mg.srt _ _ _ _ (by (clear e2 e1 j2 i2 c a rl hf jD hl h0 d_ d8 e aO l1 rq eq ek k1 rp ep cP sz hz cX na1 hsb h2 h1;lia))
    ·obtain ⟨i0,b1,b2,b3⟩:=mid i (by (clear j2 i2 c b a rl hf jD hl h0 d_ d8 e2 e aO l1 rq eq ek k1 rp ep cP sz hz cX na1 hsb h2 h1;lia)) i2
     rw [b3,out j (by (clear b3 b2 b1 i2 i1 c b a rl hf jD hl h0 d_ d8 e2 e aO l1 rq eq ek k1 rp ep cP sz hz cX na1 hsb h2 h1;lia))]
     by_cases c':i0<sb
     ·have e1:=s1 i0 (sb - 1) (by (clear c' b3 b2 j2 i2 i1 c b a rl hf jD hl h0 d_ d8 e2 e aO l1 rq eq ek k1 rp ep cP sz hz cX na1 hsb h2 h1;lia)) (by (clear b3 b2 b1 j2 i2 i1 c b a rl hf jD hl h0 d_ d8 e2 e aO l1 rq eq ek k1 rp ep cP sz hz cX na1 hsb h2 h1;lia)) (by (clear c' b3 b2 b1 j2 i2 i1 c b a rl hf jD hl h0 d_ d8 e2 e aO l1 rq eq ek k1 rp ep cP sz hz cX h2 h1;lia))
      have e2:=Ag (l3 (j - sb) (by (clear e1 c' b3 b2 b1 i2 i1 c b a rl hf jD hl h0 d_ d8 e2 e aO l1 rq eq ek k1 rp ep cP sz hz cX na1 hsb h2 h1;lia)) (by (clear e1 c' b3 b2 b1 j2 i2 i1 b a rl hf jD hl h0 d_ d8 e2 e aO l1 rq eq ek k1 rp ep cP sz hz na1 hsb h2 h1;lia)));rw [show sb+(j - sb)=j by (clear e2 e1 c' b3 b2 b1 i2 i1 c b a rl hf jD hl h0 d_ d8 e aO l1 rq eq ek k1 rp ep cP sz hz cX na1 hsb h2 h1;lia),←rq] at e2
      (clear c' b3 b2 b1 j2 i2 i1 c b a rl hf jD hl h0 d_ d8 e aO l1 rq eq ek k1 rp ep cP sz hz cX na1 hsb h2 h1;lia)
     ·exact s2 i0 j (by (clear b3 b2 b1 j2 i2 i1 c b a rl hf jD hl h0 d_ d8 e2 e aO l1 rq eq ek k1 rp ep cP sz hz cX na1 hsb h2 h1;lia)) (by (clear c' b3 b1 i2 i1 c b a rl hf jD hl h0 d_ d8 e2 e aO l1 rq eq ek k1 rp ep cP sz hz cX na1 hsb h2 h1;lia)) c
   ·rw [out i (by (clear i1 c b a rl hf jD hl h0 d_ d8 e2 e aO l1 rq eq ek k1 rp ep cP sz hz cX na1 hsb h2 h1;lia)),out j (by (clear i1 c a rl hf jD hl h0 d_ d8 e2 e aO l1 rq eq ek k1 rp ep cP sz hz cX na1 hsb h2 h1;lia))]
    exact s2 i j (by (clear i1 c b a rl hf jD hl h0 d_ d8 e2 e aO l1 rq eq ek k1 rp ep cP sz hz cX na1 hsb h2 h1;lia)) b c
 refine aN (fun _=> ?_) (fun _=> ?_)
 ·exact wpS_bind (xY C jP.kind xin yin (by (clear hl h0 d_ e2 e aO l1 rq eq k1 rp ep cP sz hz cX na1 h2 h1;lia)) (by (clear hl h0 d8 e2 e aO l1 rq eq k1 rp ep cP sz hz cX na1 hsb h2 h1;lia)) sx sy h0 hl fin)
 ·exact wpS_bind (xZ C jP.kind xin yin (by (clear hl h0 d_ e2 e aO l1 rq eq ek k1 rp ep cP sz hz cX na1 h2 h1;lia)) (by (clear hl h0 d8 e aO l1 rq eq ek k1 rp ep cP sz hz cX na1 hsb h2 h1;lia)) sx sy h0 hl fin)
end
end Tim
set_option Elab.async false
set_option linter.all false
set_option maxRecDepth 100000
set_option maxHeartbeats 4000000
namespace Tim
open PySem PyProof.Rows
section
variable {prog:Program} {w:World} {A:Around} {E:Value->Shared->Prop} {s:Shared} {κ:SortKind} {a₀:Array Keyed} {rk:Value->Nat} {pd:Array (Nat×Nat×Nat)}
def Runs (rk:Value->Nat) (xs:Array Keyed):List (Nat×Nat×Nat)->Nat->Nat->Prop
 | [],a,e=>a=e
 | (s,n,_)::r,a,e=>s=a/\1<=n/\Seg rk xs a (a+n)/\Runs rk xs r (a+n) e
theorem Runs.le {xs:Array Keyed}:∀{l:List (Nat×Nat×Nat)} {a e:Nat},Runs rk xs l a e->a+l.length<=e
 | [],a,e,h=>Nat.le_of_eq h
 | (s,n,_)::r,a,e,h=>by
   have:=Runs.le h.2.2.2;have:=h.2.1;rw [List.length_cons];lia
theorem Runs.app {xs:Array Keyed} {r:List (Nat×Nat×Nat)}:∀{l:List (Nat×Nat×Nat)} {a e:Nat},Runs rk xs (l++r) a e ↔ ∃m,Runs rk xs l a m/\Runs rk xs r m e
 | [],a,e=>⟨fun h=>⟨a,rfl,h⟩,fun ⟨m,h1,h2⟩=>by
     have h1:a=m:=h1;subst h1;exact h2⟩
 | (s,n,_)::l,a,e=>by
   constructor
   ·rintro ⟨h1,h2,h3,h4⟩
    obtain ⟨m,m1,m2⟩:=Runs.app.mp h4;exact ⟨m,⟨h1,h2,h3,m1⟩,m2⟩
   ·rintro ⟨m,⟨h1,h2,h3,h4⟩,m2⟩
    exact ⟨h1,h2,h3,Runs.app.mpr ⟨m,h4,m2⟩⟩
theorem Runs.congr {xs ys:Array Keyed}:∀{l:List (Nat×Nat×Nat)} {a e:Nat},Runs rk xs l a e->(∀j,a<=j->j<e->R rk xs j=R rk ys j)->Runs rk ys l a e
 | [],a,e,h,_=>h
 | (s,n,_)::r,a,e,⟨h1,h2,h3,h4⟩,g=>by
   have le:=Runs.le h4;refine ⟨h1,h2,fun i j x y z=> ?_,Runs.congr h4 fun j x y=>g j (by (clear y le h2 h1;lia)) y⟩;rw [←g i x (by (clear x h2 h1;lia)),←g j (by (clear z le h2 h1;lia)) (by (clear y x h2 h1;lia))];exact h3 i j x y z
theorem Qj {α:Type} {l:List α} {i:Nat} (h:i+1<l.length):∃pre p q post,l=pre++p::q::post/\pre.length=i:=by
 refine ⟨l.take i,l[i],l[i+1],l.drop (i+2), ?_,by rw [List.length_take];lia⟩;rw [←List.drop_eq_getElem_cons,←List.drop_eq_getElem_cons,List.take_append_drop]
theorem mY {st:SortSt} {i e:Nat} {Q:Bool->SortSt->Prop} (C:Dl prog w A s κ a₀ rk) (hB:SB κ a₀ pd st) (hr:Runs rk (arrOf st) pd.toList 0 e) (he:e<=a₀.size) (hi:i+1<pd.size)
 (h:∀Zi st',SB κ a₀ Zi st'->Runs rk (arrOf st') Zi.toList 0 e->Zi.size+1=pd.size->(∀j,e<=j->(arrOf st')[j]? = (arrOf st)[j]?)->Q true st'):wpS (model prog w) A E s (mergeAt' i) Q st:=by
 obtain ⟨pre,⟨sa,na,pw⟩,⟨sb,nb,YM⟩,post,el,pl⟩:=Qj (l:=pd.toList) (i:=i) (by rw [Array.length_toList];exact hi);rw [el] at hr;obtain ⟨m,r1,r2⟩:=Runs.app.mp hr;obtain ⟨e1,n1,s1,e2,n2,s2,r3⟩:=r2;subst e1;have fM:=Runs.le r3;have h1:pd[i]? = some (sa,na,pw):=by rw [←Array.getElem?_toList,el,List.getElem?_append_right (by (clear fM e2 n2 n1 el hi he;lia)),pl,Nat.sub_self];rfl
 have h2:pd[i+1]? = some (sb,nb,YM):=by rw [←Array.getElem?_toList,el,List.getElem?_append_right (by (clear h1 fM e2 n2 n1 el hi he;lia)),pl,show i+1 - i=1 by (clear h1 fM e2 n2 n1 pl el hi he;lia)];rfl
 refine yc C hB h1 h2 e2 n1 n2 (by (clear h2 h1 n2 n1 pl el hi;lia)) s1 (by rw [e2];exact s2) fun st' hB' out seg=> ?_
 have ep:((pd.setIfInBounds i (sa,na+nb,pw)).eraseIdxIfInBounds (i+1)).toList=pre++(sa,na+nb,pw)::post:=by
  rw [Array.toList_eraseIdxIfInBounds,Array.toList_setIfInBounds,el,List.set_append_right _ _ (by (clear h2 h1 fM e2 n2 n1 el hi he;lia)),pl,Nat.sub_self];rw [List.eraseIdx_append_of_length_le (by (clear h2 h1 fM e2 n2 n1 el hi he;lia)),pl,show i+1 - i=1 by (clear h2 h1 fM e2 n2 n1 pl el hi he;lia)];rfl
 refine h _ st' hB' ?_ ?_ fun j hj=>out j (.inr (by (clear ep h2 h1 n2 n1 pl el hi he;lia)))
 ·rw [ep]
  refine Runs.app.mpr ⟨sa,r1.congr fun j _ j2=>eZ (out j (.inl j2)).symm,rfl,by (clear ep h2 h1 fM e2 n2 pl el hi he;lia), ?_, ?_⟩
  ·rw [show sa+(na+nb)=sb+nb by (clear ep h2 h1 fM n2 n1 pl el hi he;lia)];exact seg
  ·rw [←Nat.add_assoc]
   exact r3.congr fun j j1 j2=>eZ (out j (.inr (by (clear j2 ep h2 h1 fM n2 n1 pl el hi he;lia)))).symm
 ·rw [←Array.length_toList,ep,←Array.length_toList,el]
  simp only [List.length_append,List.length_cons]
  (clear ep h2 h1 fM e2 n2 n1 pl el hi he;lia)
theorem Runs.modify {xs:Array Keyed} {f:Nat×Nat×Nat->Nat×Nat×Nat} (hf:∀x,(f x).1=x.1/\(f x).2.1=x.2.1) (l:List (Nat×Nat×Nat)):∀(i a e:Nat),Runs rk xs l a e->Runs rk xs (l.modify i f) a e:=by
 induction l with
 | nil=>intro i a e h;cases i<;>exact h
 | cons t r ih=>
   obtain ⟨s,n,p⟩:=t;intro i a e h;obtain ⟨h1,h2,h3,h4⟩:=h;cases i with
   | zero=>
     rw [List.modify_zero_cons];have e2:=hf (s,n,p);rcases hfp:f (s,n,p) with ⟨s',n',p'⟩
     rw [hfp] at e2;obtain ⟨q1,q2⟩:=e2;have q1:s'=s:=q1;have q2:n'=n:=q2;rw [q1,q2];exact ⟨h1,h2,h3,h4⟩
   | succ i=>
     rw [List.modify_succ_cons];exact ⟨h1,h2,h3,ih i _ _ h4⟩
theorem wpS_sortRuns {st:SortSt} {Q:Unit->SortSt->Prop} (C:Dl prog w A s κ a₀ rk) (hB:SB κ a₀ #[] st) (h2:2<=a₀.size)
 (h:∀st',(arrOf st').Perm a₀->failedOf st'=none->Seg rk (arrOf st') 0 a₀.size->Q () st'):wpS (model prog w) A E s sortRuns' Q st:=by
 rw [sortRuns'_eq];refine wpS_bind (wpS_get ?_);dsimp only;simp only [hB.size];generalize minRun' a₀.size a₀.size 0=mr
 refine wpS_bind (wpS_mono (wpS_forRange (I:=fun x c st'=>∃lo pd,c=(none,lo)/\x<=lo/\lo<=a₀.size/\SB κ a₀ pd st'/\Runs rk (arrOf st') pd.toList 0 lo)
  (Q:=fun c st'=>∃pd,c=(none,a₀.size)/\SB κ a₀ pd st'/\Runs rk (arrOf st') pd.toList 0 a₀.size) ?step ?fin ⟨0, #[],rfl,by (clear h2;lia),by (clear h2;lia),hB,rfl⟩) ?post)
 case fin=>
  rintro c st' ⟨lo,pd,rfl,x1,x2,hB',hr⟩;have:lo=a₀.size:=by (clear h2;lia)
  subst this;exact ⟨pd,rfl,hB',hr⟩
 case step=>
  rintro x c st' _ hx ⟨lo,pd,rfl,x1,x2,hB',hr⟩;dsimp only;refine aN (fun ge=> ?_) (fun ge=> ?_)
  ·have:lo=a₀.size:=by (clear x1 hx h2;lia)
   subst this;exact wpS_pure ⟨pd,rfl,hB',hr⟩
  refine wpS_bind (wpS_countRun C (by (clear ge x1 hx h2;lia)) (by (clear x2 x1 hx h2;lia)) hB' fun m st2 hB2 kb2 m1 m2 hs2=> ?_);dsimp only;have hr2:=hr.congr (ys:=arrOf st2) fun j _ j2=>eZ (kb2 j j2).symm;apply aN
  case' h1=>
   intro lt;refine wpS_bind (wpS_lift (wpAny_rule ⟨rfl, ?_⟩));refine wpS_bind (wpS_binarySort C (by (clear lt m2 m1 ge x1 hx h2;lia)) (by (clear m1 ge x2 x1 hx h2;lia)) hB2 hs2 fun st3 hB3 kb3 hs3=> ?_);simp only [Bool.not_true,Bool.false_eq_true,if_false];have Px:=hr2.congr (ys:=arrOf st3) fun j _ j2=>eZ (kb3 j j2).symm;have n1:1<=min (a₀.size - lo) mr:=by (clear m2 m1 x2 x1 hx h2;lia)
   have n2:min (a₀.size - lo) mr<=a₀.size - lo:=by (clear n1 lt m2 m1 ge x2 x1 hx h2;lia)
   generalize min (a₀.size - lo) mr=n at hs3 n1 n2 ⊢
  case' h2=>
   intro lt;have Px:=hr2;have hB3:=hB2;have hs3:=hs2;have n1:=m1;have n2:=m2;revert Px hB3 hs3;generalize st2=st3;revert n1 n2;generalize m=n;intro n1 n2 Px hB3 hs3
  all_goals
   refine wpS_bind (wpS_get ?_)
   have done:∀kZ lE,SB κ a₀ kZ lE->Runs rk (arrOf lE) kZ.toList 0 lo->Seg rk (arrOf lE) lo (lo+n)->wpS (model prog w) A E s (do
    modify fun s=>setPending s ((pendingOf s).push (lo,n,0))
    pure (ForInStep.yield ((none:Option Unit),lo+n))) (fun r st'=>match r with
     | ForInStep.done c'=>∃pd,c'=(none,a₀.size)/\SB κ a₀ pd st'/\Runs rk (arrOf st') pd.toList 0 a₀.size
     | ForInStep.yield c'=>∃lo pd,c'=(none,lo)/\x+1<=lo/\lo<=a₀.size/\SB κ a₀ pd st'/\Runs rk (arrOf st') pd.toList 0 lo) lE:=by
    intro kZ lE qb u_ Rq;refine wpS_bind (wpS_modify (wpS_pure ⟨lo+n,kZ.push (lo,n,0),rfl,by (clear n2 lt m2 m1 ge x2 hx h2;lia),by (clear n1 lt m2 m1 ge x1 hx h2;lia),⟨qb.perm,qb.kind,qb.failed,by show (pendingOf lE).push _=_;rw [qb.pend]⟩, ?_⟩));rw [Array.toList_push];exact Runs.app.mpr ⟨lo,u_,rfl,n1,Rq,rfl⟩
   cases hb:(pendingOf st3).back? with
   | none=>exact done _ _ hB3 Px hs3
   | some t=>
     obtain ⟨s1,n1',pw⟩:=t;dsimp only;generalize power' a₀.size (2*s1+n1') (2*s1+n1'+n1'+n) a₀.size=pwr
     refine wpS_bind (wpS_mono (wpS_forRange (I:=fun y c lE=>∃kZ,c=(none,())/\SB κ a₀ kZ lE/\Runs rk (arrOf lE) kZ.toList 0 lo/\Seg rk (arrOf lE) lo (lo+n))
      (Q:=fun c lE=>∃kZ,c=(none,())/\SB κ a₀ kZ lE/\Runs rk (arrOf lE) kZ.toList 0 lo/\Seg rk (arrOf lE) lo (lo+n)) ?_ (fun _ _ z=>z) ⟨_,rfl,hB3,Px,hs3⟩) ?_)
     ·rintro y c lE _ hy ⟨kZ,rfl,qb,u_,Rq⟩
      refine wpS_bind (wpS_get ?_);rw [qb.pend];cases hg:(if kZ.size>1 then kZ[kZ.size - 2]? else none) with
      | none=>exact wpS_pure ⟨kZ,rfl,qb,u_,Rq⟩
      | some t=>
        obtain ⟨f1,f2,older⟩:=t;dsimp only
        have gt:kZ.size>1:=by
         by_cases g:kZ.size>1
         ·exact g
         ·rw [if_neg g] at hg;cases hg
        refine aN (fun _=> ?_) (fun _=> ?_)
        ·exact wpS_pure ⟨kZ,rfl,qb,u_,Rq⟩
        ·refine wpS_bind (mY C qb u_ x2 (by (clear hg hy hb n2 n1 lt m2 m1 ge x2 x1 hx h2;lia)) fun Zh uV hB5 hr5 _ T4=> ?_)
         simp only [Bool.not_true,Bool.false_eq_true,if_false];refine wpS_pure ⟨Zh,rfl,hB5,hr5,fun i j a b c=> ?_⟩;rw [eZ (T4 i a),eZ (T4 j (by (clear c gt hg hy hb n2 n1 lt m2 m1 ge x2 x1 hx h2;lia)))];exact Rq i j a b c
     ·rintro c lE ⟨kZ,rfl,qb,u_,Rq⟩
      dsimp only;refine wpS_bind (wpS_modify ?_);refine done _ _ ⟨qb.perm,qb.kind,qb.failed,rfl⟩ ?_ Rq;rw [←qb.pend] at u_;rw [Array.toList_modify];refine Runs.modify (fun x=> ?_) _ _ _ _ u_;exact ⟨rfl,rfl⟩
 case post=>
  rintro c st' ⟨pd,rfl,hB',hr⟩;dsimp only;have le:=Runs.le hr;rw [Array.length_toList] at le
  refine wpS_bind (wpS_mono (wpS_forRange (I:=fun y c lE=>∃kZ,c=(none,())/\SB κ a₀ kZ lE/\Runs rk (arrOf lE) kZ.toList 0 a₀.size/\kZ.size<=max 1 (a₀.size - y))
   (Q:=fun c lE=>∃kZ,c=(none,())/\SB κ a₀ kZ lE/\Runs rk (arrOf lE) kZ.toList 0 a₀.size/\kZ.size<=1) ?_ ?_ ⟨pd,rfl,hB',hr,by (clear h2;lia)⟩) ?_)
  ·rintro y c lE _ hy ⟨kZ,rfl,qb,u_,Um⟩
   refine wpS_bind (wpS_get ?_);rw [qb.pend];refine aN (fun l1=> ?_) (fun l1=> ?_)
   ·exact wpS_pure ⟨kZ,rfl,qb,u_,l1⟩
   ·have hix:∀(c:Prop) [Decidable c],(if c then kZ.size - 2 - 1 else kZ.size - 2)+1<kZ.size:=by
     intro c _;split<;>(clear Um hy le h2;lia)
    refine wpS_bind (mY C qb u_ (Nat.le_refl _) (hix _) fun Zh uV hB5 hr5 z5 _=> ?_);simp only [Bool.not_true,Bool.false_eq_true,if_false];exact wpS_pure ⟨Zh,rfl,hB5,hr5,by (clear l1 hy le h2;lia)⟩
  ·rintro c lE ⟨kZ,rfl,qb,u_,Um⟩
   exact ⟨kZ,rfl,qb,u_,by (clear le h2;lia)⟩
  ·rintro c lE ⟨kZ,rfl,qb,u_,Um⟩
   refine wpS_pure (h lE qb.perm qb.failed ?_);have ll:kZ.toList.length<=1:=by rw [Array.length_toList];exact Um
   match hl:kZ.toList,ll,u_ with
   | [],_,u_=>have:0=a₀.size:=u_;(clear hl ll Um le;lia)
   | [(s,n,p)],_,u_=>
     obtain ⟨_,_,hs,e⟩:=u_;have e:0+n=a₀.size:=e;rw [e] at hs;exact hs
end
end Tim
set_option Elab.async false
set_option linter.all false
set_option maxRecDepth 100000
set_option maxHeartbeats 4000000
namespace Tim
open PySem PyProof.Rows
section
variable {prog:Program} {w:World} {A:Around} {E:Value->Shared->Prop} {s:Shared} {κ:SortKind} {rk:Value->Nat}
theorem QG {vs:List Value} {xs:Array Keyed} (hp:xs.Perm (pairsOf vs)) (hs:Seg rk xs 0 (pairsOf vs).size):(xs.map (·.2)).toList.Perm vs/\(xs.map (·.2)).toList.Pairwise (fun x y=>rk x<=rk y):=by
 have hl:xs.toList.Perm (vs.zip vs):=by rw [←pairsOf_toList];exact Array.perm_iff_toList_perm.mp hp
 have hmem:∀p,p∈xs.toList->p.1=p.2:=fun p hp'=>(mem_zip_self (hl.mem_iff.mp hp')).1
 have e:(xs.map (·.2)).toList=xs.toList.map (·.1):=by
  rw [Array.toList_map];exact List.map_congr_left fun p hp'=>(hmem p hp').symm
 rw [e];constructor
 ·have:=hl.map Prod.fst
  rwa [List.map_fst_zip (Nat.le_refl _)] at this
 ·rw [List.pairwise_map,List.pairwise_iff_getElem]
  intro i j hi hj hij;rw [Array.length_toList] at hi hj;have:=hs i j (Nat.zero_le _) (Nat.le_of_lt hij) (by rw [←hp.size_eq];exact hj);rw [gC hi,gC hj] at this;simpa using this
theorem u6 {a:Addr} {vs:List Value} {n:Nat} {P:PySem.Fin->Shared->Prop} (ho:s.heap.get? a=some (seqObj "list" vs.toArray n)) (hz:vs.length<=sizeLine)
 (hk:2<=vs.length -> ∀h':Heap,(∀b o,b≠a->s.heap.get? b=some o->h'.get? b=some o)->(∀(Q:SortKind->Shared->Prop) (E:Value->Shared->Prop),Q κ {s with heap:=h'}->wpAny (model prog w) A (keyKind' vs.toArray) Q E {s with heap:=h'})/\Dl prog w A {s with heap:=h'} κ (pairsOf vs) rk)
 (h:∀out:List Value,out.Perm vs->out.Pairwise (fun x y=>rk x<=rk y)->P (.done (.ret .none)) {s with heap:=sortedHeap s.heap a vs out.toArray}):
 wpAny (model prog w) A (Builtin.«list.sort» ⟨[.ref a],[]⟩) P E s:=by
 rw [list_sort_plain];have ha:a<s.heap.objs.size:=Heap.lt_size ho;refine wpAny_bind (listItems_at ho rfl ?_);refine wpAny_bind (listUpdate_at ho rfl ?_ (by rw [List.size_toArray];exact hz) (Nat.zero_le _));obtain ⟨e1,ho1⟩:∃e1,(s.heap.update a (Obj.mapSeq fun _=> #[])).get? a=some (seqObj "list" #[] e1):=⟨_,get?_update_seq ho (fun _=> #[])⟩;refine wpAny_bind (seqEpoch_at ho1 rfl ?_);refine wpAny_bind (wpAny_newTuple ?_ (by show vs.length<=_;exact hz));refine wpAny_bind (wpAny_newList ?_ (Nat.zero_le _));refine wpAny_holding ?_
 have keep:∀b o,b≠a->s.heap.get? b=some o->(((s.heap.update a (Obj.mapSeq fun _=> #[])).push (seqObj "tuple" vs.toArray 0)).push (seqObj "list" #[] 0)).get? b=some o:=fun b o nb e=>by
  refine Heap.get?_push_of_some _ (Heap.get?_push_of_some _ ?_);rw [Heap.get?_update_ne _ _ _ _ nb];exact e
 have ho6:(((s.heap.update a (Obj.mapSeq fun _=> #[])).push (seqObj "tuple" vs.toArray 0)).push (seqObj "list" #[] 0)).get? a=some (seqObj "list" #[] e1):=Heap.get?_push_of_some _ (Heap.get?_push_of_some _ ho1);show wpAny (model prog w) A _ P E {s with heap:=((s.heap.update a (Obj.mapSeq fun _=> #[])).push (seqObj "tuple" vs.toArray 0)).push (seqObj "list" #[] 0)};dsimp only;have hsz:vs.toArray.size=vs.length:=by simp
 have fin:∀st':SortSt,(arrOf st').Perm (pairsOf vs)->Seg rk (arrOf st') 0 (pairsOf vs).size ->
  P (.done (.ret .none)) {s with heap:=sortedHeap s.heap a vs ((arrOf st').map (·.2))}:=by
  intro st' hp hs;obtain ⟨h1,h2⟩:=QG hp hs;have:=h _ h1 h2;rwa [Array.toArray_toList] at this
 by_cases h2:vs.toArray.size<2
 ·rw [if_pos h2,if_pos h2]
  refine wpAny_bind (wpAny_pure ?_);rw [StateT.run_pure];refine wpAny_bind (wpAny_pure ?_);dsimp only;refine wpAny_bind (seqEpoch_at ho6 rfl ?_);refine wpAny_bind (listUpdate_at ho6 rfl ?_ (Nat.zero_le _) (by rw [Array.size_map];show (pairsOf vs).size<=_;rw [pairsOf_size];omega));simp only [bne_self_eq_false,Bool.false_eq_true,if_false];refine wpAny_pure (fin (SortSt.mk' general' (vs.toArray.zip vs.toArray) #[] 7 none) (Array.Perm.refl _) ?_);intro i j _ hij hj;have:i=j:=by rw [pairsOf_size] at hj;omega
  subst this;exact Nat.le_refl _
 ·rw [if_neg h2,if_neg h2]
  obtain ⟨kk,kc⟩:=hk (by omega) _ keep;refine wpAny_bind (kk _ _ ?_)
  refine wpAny_bind (wpAny_mono (wpS_sortRuns (a₀:=pairsOf vs) (rk:=rk) (st:=SortSt.mk' κ (vs.toArray.zip vs.toArray) #[] 7 none)
   (Q:=fun _ st'=>(arrOf st').Perm (pairsOf vs)/\failedOf st'=none/\Seg rk (arrOf st') 0 (pairsOf vs).size)
   kc ⟨Array.Perm.refl _,rfl,rfl,rfl⟩ (by rw [pairsOf_size];omega) fun st' a1 a2 a3=>⟨a1,a2,a3⟩) ?_ fun _ _ e=>e)
  rintro ⟨⟨⟩,st'⟩ s' ⟨rfl,hp,hf,hs⟩;dsimp only;refine wpAny_bind (seqEpoch_at ho6 rfl ?_);refine wpAny_bind (listUpdate_at ho6 rfl ?_ (Nat.zero_le _) (Nat.le_trans (Nat.le_of_eq ((Array.size_map ..).trans (hp.size_eq.trans (pairsOf_size _)))) (Nat.le_succ_of_le hz)));rw [hf];simp only [bne_self_eq_false,Bool.false_eq_true,if_false];exact wpAny_pure (fin st' hp hs)
theorem Bm {l:Addr} {vs:List Value} {Q:Value->Shared->Prop} (hl:s.heap.IsList l vs.toArray) (hz:vs.length<=sizeLine)
 (hk:2<=vs.length -> ∀h':Heap,(∀b o,s.heap.get? b=some o->h'.get? b=some o)->(∀(Q:SortKind->Shared->Prop) (E:Value->Shared->Prop),Q κ {s with heap:=h'}->wpAny (model prog w) A.in1.in1 (keyKind' vs.toArray) Q E {s with heap:=h'})/\Dl prog w A.in1.in1 {s with heap:=h'} κ (pairsOf vs) rk)
 (h:∀(h':Heap) (D:Addr) (c:Nat) (out:List Value),(∀b o,s.heap.get? b=some o->h'.get? b=some o)->s.heap.objs.size<=D->h'.get? D=some (seqObj "list" out.toArray c)->out.Perm vs->out.Pairwise (fun x y=>rk x<=rk y)->Q (.ref D) {s with heap:=h'}):
 wpAny (model prog w) A (call (.builtin "sorted") [.ref l]) Q E s:=by
 refine Calls.call_function_entry kind_sorted plain_sorted entry_sorted (args_sorted1 _) ?_;unfold Builtin.«sorted»;refine wpAny_bind (m:=checkCount "sorted" 1 1 _) (wpAny_pure ?_);refine wpAny_bind (collect_list hl ?_ hz);refine wpAny_bind (wpAny_newList ?_ hz)
 have hsz:((s.heap.push (seqObj "list" #[] 0)).update s.heap.objs.size (Obj.mapSeq (· ++ vs.toArray))).objs.size=s.heap.objs.size+1:=by
  rw [Heap.size_update,size_push']
 have hoL:(((s.heap.push (seqObj "list" #[] 0)).update s.heap.objs.size (Obj.mapSeq (· ++ vs.toArray))).push (seqObj "list" vs.toArray 0)).get? (s.heap.objs.size+1)=some (seqObj "list" vs.toArray 0):=by
  rw [←hsz];exact Heap.get?_push_size _ rfl
 have keep:∀b o,s.heap.get? b=some o->(((s.heap.push (seqObj "list" #[] 0)).update s.heap.objs.size (Obj.mapSeq (· ++ vs.toArray))).push (seqObj "list" vs.toArray 0)).get? b=some o:=fun b o q=>by
  have hlt:b<s.heap.objs.size:=Heap.lt_size q;rw [Heap.get?_push_ne _ _ _ (by rw [hsz];exact Nat.ne_of_lt (Nat.lt_succ_of_lt hlt)),Heap.get?_update_ne _ _ _ _ (Nat.ne_of_lt hlt),Heap.get?_push_ne _ _ _ (Nat.ne_of_lt hlt)];exact q
 show wpAny _ _ _ _ _ {s with heap:=((s.heap.push (seqObj "list" #[] 0)).update s.heap.objs.size (Obj.mapSeq (· ++ vs.toArray))).push (seqObj "list" vs.toArray 0)};rw [hsz];generalize ((s.heap.push (seqObj "list" #[] 0)).update s.heap.objs.size (Obj.mapSeq (· ++ vs.toArray))).push (seqObj "list" vs.toArray 0)=h1 at keep hoL ⊢;have nD:∀b o,s.heap.get? b=some o->b≠s.heap.objs.size+1:=fun b o e=>Nat.ne_of_lt (Nat.lt_succ_of_lt (Heap.lt_size e));refine wpAny_bind (wpAny_holding (wpAny_call_entry slot_list_sort ⟨_,hoL,rfl⟩ entry_list_sort (u6 (s:={s with heap:=h1}) hoL hz (fun h2 h' kp=>hk h2 h' fun b o e=>kp b o (nD b o e) (keep b o e)) fun out p1 p2=>⟨_,rfl, ?_⟩) (args_list_sort _)));refine wpAny_pure ⟨_,rfl, ?_⟩;obtain ⟨e1,ho1⟩:∃e1,(h1.update (s.heap.objs.size+1) (Obj.mapSeq fun _=> #[])).get? (s.heap.objs.size+1)=some (seqObj "list" #[] e1):=⟨_,get?_update_seq hoL (fun _=> #[])⟩;have ho2:(((h1.update (s.heap.objs.size+1) (Obj.mapSeq fun _=> #[])).push (seqObj "tuple" vs.toArray 0)).push (seqObj "list" #[] 0)).get? (s.heap.objs.size+1)=some (seqObj "list" #[] e1):=Heap.get?_push_of_some _ (Heap.get?_push_of_some _ ho1);refine h (sortedHeap h1 (s.heap.objs.size+1) vs out.toArray) _ _ out (fun b o e=> ?_) (Nat.le_succ _) (by unfold sortedHeap;exact get?_update_seq ho2 (fun _=>out.toArray)) p1 p2;unfold sortedHeap;rw [Heap.get?_update_ne _ _ _ _ (nD b o e)];refine Heap.get?_push_of_some _ (Heap.get?_push_of_some _ ?_);rw [Heap.get?_update_ne _ _ _ _ (nD b o e)];exact keep b o e
end
section
theorem vP {α:Type} {p q:α->Bool} {u:α}:∀{l:List α},u∈l->q u=true->p u=false->(∀x,p x=true->q x=true)->l.countP p<l.countP q
 | [],hm,_,_,_=>by simp at hm
 | x::l,hm,hq,hp,hi=>by
   have mono:l.countP p<=l.countP q:=List.countP_mono_left fun x _=>hi x;rw [List.countP_cons,List.countP_cons];rcases List.mem_cons.mp hm with rfl|hm
   ·rw [hq,hp];simp;omega
   ·have:=vP hm hq hp hi
    cases e:p x with
    | true=>rw [hi x e];simp;omega
    | false=>simp;omega
def lJ {α:Type} (L:α->α->Bool) (vs:List α) (v:α):Nat:=vs.countP fun u=>L u v
structure Swo {α:Type} (L:α->α->Bool):Prop where
 irr:∀a,L a a=false
 tr:∀a b c,L a b=true->L b c=true->L a c=true
 ntr:∀a b c,L a b=false->L b c=false->L a c=false
theorem DK {α:Type} {L:α->α->Bool} (S:Swo L) {vs:List α} {u v:α} (hu:u∈vs):decide (lJ L vs u<lJ L vs v)=L u v:=by
 cases e:L u v with
 | true=>exact decide_eq_true (vP hu e (S.irr u) fun x hx=>S.tr x u v hx e)
 | false=>
   refine decide_eq_false fun z=> ?_
   have:lJ L vs v<=lJ L vs u:=List.countP_mono_left fun x _ hx=>by
    cases e':L x u with
    | true=>rfl
    | false=>rw [S.ntr x u v e' e] at hx;cases hx
   omega
theorem Mj {α:Type} {L:α->α->Bool} (S:Swo L) {vs:List α} {u v:α} (hv:v∈vs) (h:lJ L vs u<=lJ L vs v):L v u=false:=by
 have:=DK S (u:=v) (v:=u) hv;rw [←this];exact decide_eq_false (by omega)
def gY:List Int->List Int->Bool
 | _,[]=>false
 | [],_::_=>true
 | a::as,b::bs=>if a=b then gY as bs else decide (a<b)
theorem zy (a:List Int):gY a []=false:=by cases a<;>rfl
theorem zA:∀a,gY a a=false
 | []=>rfl
 | a::as=>by unfold gY;rw [if_pos rfl];exact zA as
theorem Em:∀a b c,gY a b=true->gY b c=true->gY a c=true
 | a,[],_,h,_=>by rw [zy] at h;cases h
 | [],_::_,[],_,h=>by cases h
 | [],_::_,_::_,_,_=>rfl
 | _::_,_::_,[],_,h=>by cases h
 | a::as,b::bs,c::cs,h1,h2=>by
   unfold gY at h1 h2 ⊢
   by_cases e1:a=b
   ·rw [if_pos e1] at h1
    by_cases e2:b=c
    ·rw [if_pos e2] at h2
     rw [if_pos (e1.trans e2)];exact Em as bs cs h1 h2
    ·rw [if_neg e2] at h2
     rw [if_neg (e1▸e2),e1];exact h2
   ·rw [if_neg e1] at h1
    have h1:=of_decide_eq_true h1
    by_cases e2:b=c
    ·rw [←e2,if_neg e1];exact decide_eq_true h1
    ·rw [if_neg e2] at h2
     have h2:=of_decide_eq_true h2;rw [if_neg (by omega)];exact decide_eq_true (by omega)
theorem zx:∀a b c,gY a b=false->gY b c=false->gY a c=false
 | a,_,[],_,_=>zy a
 | [],[],_::_,_,h=>by cases h
 | [],_::_,_::_,h,_=>by cases h
 | _::_,[],_::_,_,h=>by cases h
 | a::as,b::bs,c::cs,h1,h2=>by
   unfold gY at h1 h2 ⊢
   by_cases e1:a=b
   ·rw [if_pos e1] at h1
    by_cases e2:b=c
    ·rw [if_pos e2] at h2
     rw [if_pos (e1.trans e2)];exact zx as bs cs h1 h2
    ·rw [if_neg e2] at h2
     rw [if_neg (e1▸e2),e1];exact h2
   ·rw [if_neg e1] at h1
    have h1:=of_decide_eq_false h1
    by_cases e2:b=c
    ·rw [←e2,if_neg e1];exact decide_eq_false h1
    ·rw [if_neg e2] at h2
     have h2:=of_decide_eq_false h2;rw [if_neg (by omega)];exact decide_eq_false (by omega)
theorem zu:∀a b,gY a b=false->gY b a=false->a=b
 | [],[],_,_=>rfl
 | [],_::_,h,_=>by cases h
 | _::_,[],_,h=>by cases h
 | a::as,b::bs,h1,h2=>by
   unfold gY at h1 h2
   by_cases e:a=b
   ·rw [if_pos e] at h1
    rw [if_pos e.symm] at h2;rw [e,zu as bs h1 h2]
   ·rw [if_neg e] at h1
    rw [if_neg (Ne.symm e)] at h2;have h1:=of_decide_eq_false h1;have h2:=of_decide_eq_false h2;omega
theorem Du {α:Type} (key:α->List Int):Swo fun a b=>gY (key a) (key b):=⟨fun a=>zA _,fun a b c=>Em _ _ _,fun a b c=>zx _ _ _⟩
end
end Tim
set_option Elab.async false
set_option linter.all false
set_option maxRecDepth 100000
set_option maxHeartbeats 4000000
namespace L2
open PySem PySem.Spec PyProof.Rows PySem.W
section
variable {X:Cx}
def keyOf (h:Heap):Value->List Int
 | .int n _=>[n]
 | .ref a=>match h.get? a with
   | some o=>match o.data with
     | .seq xs _=>xs.toList.map numOf
     | _=>[]
   | none=>[]
 | _=>[]
theorem El {prog:Program} {w:World} {A:Around} {s:Shared} {Q:Bool->Shared->Prop}:∀(xs ys:List Value) (ns ms:List Int) (i:Nat),IntsAre xs ns->IntsAre ys ms -> ∀(fin:Bool),(ns.length=ms.length->fin=false)->ns.length=ms.length->Q (Tim.gY ns ms) s->KatLex prog w A true fin Q (xs.zip ys) i s
 | _,_,[],[],i,.nil,.nil,fin,hf,_,h=>by
   show Q fin s;rw [hf rfl];exact h
 | _,_,_::_,[],_,_,_,_,_,hl,_=>by cases hl
 | _,_,[],_::_,_,_,_,_,_,hl,_=>by cases hl
 | _,_,n::ns,m::ms,i,.cons _ t hx,.cons _ u hy,fin,hf,hl,h=>by
   rw [List.zip_cons_cons];refine kat_cons (wpAny_eqBool_int ?_);have hl':ns.length=ms.length:=by simpa using hl
   by_cases e:n=m
   ·subst e
    rw [show (n==n)=true by simp];refine kat_yes (El _ _ ns ms (i+1) hx hy fin (fun z=>hf (by simpa using z)) hl' ?_);unfold Tim.gY at h;rwa [if_pos rfl] at h
   ·rw [show (n==m)=false by simpa using e]
    unfold Tim.gY at h;rw [if_neg e] at h;refine kat_no ?_;cases (true&&i==0) with
    | true=>exact oneLt_int h
    | false=>exact kat_one _ _ (lt_int (show W.BoolBack Q (.bool (decide (n<m))) s from h))
theorem mH {h:Heap} {a:Addr} {its:List Value} {ns:List Int} (ht:IsTup h a its.toArray) (hi:IntsAre its ns):keyOf h (.ref a)=ns:=by
 obtain ⟨o,e,_,n,d⟩:=ht
 show (match h.get? a with
  | some o=>match o.data with
    | .seq xs _=>xs.toList.map numOf
    | _=>[]
  | none=>[])=ns
 rw [e];dsimp only;rw [d];dsimp only;exact hi.nums
def Ft (h:Heap) (k:Nat) (vs:List Value):Prop:=∀v∈vs,∃a its ns,v = .ref a/\IsTup h a its.toArray/\IntsAre its ns/\ns.length=k
theorem Il {prog:Program} {w:World} {A:Around} {s:Shared} {vs:List Value} {k:Nat} {h0:Heap} (T:Ft h0 k vs) (kp:∀b o,h0.get? b=some o->s.heap.get? b=some o):
 Tim.Dl prog w A s (tuples' true) (pairsOf vs) (Tim.lJ (fun a b=>Tim.gY (keyOf h0 a) (keyOf h0 b)) vs):=by
 refine ⟨fun p hp q hq E Q h=> ?_⟩;rw [pairsOf_toList] at hp hq;obtain ⟨_,mp⟩:=mem_zip_self hp;obtain ⟨_,mq⟩:=mem_zip_self hq;rw [Tim.DK (Tim.Du (keyOf h0)) mp] at h;obtain ⟨a,its,ns,ep,ta,ia,la⟩:=T _ mp;obtain ⟨b,jts,ms,eq,tb,ib,lb⟩:=T _ mq;rw [ep,eq] at h ⊢;rw [mH ta ia,mH tb ib] at h;obtain ⟨oa,ea,ca,n1,da⟩:=ta;obtain ⟨ob,eb,cb,n2,db⟩:=tb;have l1:its.length=ns.length:=ia.length;have l2:jts.length=ms.length:=ib.length;refine kat_lt (kp _ _ ea) da (kp _ _ eb) db ?_;have e1:its.toArray.toList=its:=by simp
 have e2:jts.toArray.toList=jts:=by simp
 rw [e1,e2];exact El its jts ns ms 0 ia ib _ (fun z=>decide_eq_false (by rw [List.size_toArray,List.size_toArray];omega)) (by omega) h
theorem qw {h0 h1:Heap} {k:Nat} (hk:1<=k) (kp:∀b o,h0.get? b=some o->h1.get? b=some o):∀{vs:List Value},Ft h0 k vs -> ∃fs,KatTups h1 vs fs/\fs.length=vs.length /\ ∀f∈fs,∃n t,f=Value.int n t
 | [],_=>⟨[],trivial,rfl,fun _ z=>absurd z (by simp)⟩
 | v::vs,T=>by
   obtain ⟨fs,t1,t2,t3⟩:=qw hk kp (vs:=vs) fun u hu=>T u (List.mem_cons_of_mem _ hu);obtain ⟨a,its,ns,rfl,⟨o,e,c,n,d⟩,ia,la⟩:=T v (List.mem_cons_self ..)
   match its,ns,ia,la,d with
   | _,_,.nil,la,d=>simp at la;omega
   | _,_,.cons m t r,la,d=>
     refine ⟨_::fs,KatTups.cons (kp _ _ e) c d rfl t1,by simp [t2],fun f hf=> ?_⟩;rcases List.mem_cons.mp hf with rfl|hf
     ·exact ⟨_,_,rfl⟩
     ·exact t3 f hf
theorem FQ {prog:Program} {w:World} {A:Around} {s:Shared} {vs:List Value} {k:Nat} {h0:Heap} {Q:SortKind->Shared->Prop} {E:Value->Shared->Prop} (hk:1<=k) (T:Ft h0 k vs) (hv:2<=vs.length) (kp:∀b o,h0.get? b=some o->s.heap.get? b=some o)
 (h:Q (tuples' true) s):wpAny (model prog w) A (keyKind' vs.toArray) Q E s:=by
 obtain ⟨fs,t1,t2,t3⟩:=qw hk kp T;refine kat_kind (T:= .type "int") t1 (by omega) (fun v hv=> ?_) rfl h;obtain ⟨n,t,rfl⟩:=t3 v hv;exact .now
theorem Fz {ys:List V} {us out:List Value} (r:Vals ys us) (p:out.Perm us):∃zs,Vals zs out/\zs.Perm ys:=by
 induction p generalizing ys with
 | nil=>cases r;exact ⟨[],.nil,.refl _⟩
 | cons x p ih=>
   cases r with
   | cons rx rt=>
     obtain ⟨zs,z1,z2⟩:=ih rt;exact ⟨_::zs,.cons rx z1,.cons _ z2⟩
 | swap x y l=>
   cases r with
   | cons rx rt=>
     cases rt with
     | cons ry rl=>exact ⟨_,.cons ry (.cons rx rl),.swap _ _ _⟩
 | trans p q ih1 ih2=>
   obtain ⟨zs,z1,z2⟩:=ih2 r;obtain ⟨ws,w1,w2⟩:=ih1 z1;exact ⟨ws,w1,w2.trans z2⟩
theorem vN:∀{ns:List Int} {vs:List Value},Vals (ns.map V.int) vs->IntsAre vs ns
 | [],_,.nil=> .nil
 | n::ns,_,.cons ⟨t,e⟩ r=>by subst e;exact .cons n t (vN r)
theorem vB {R:Value->Value->Prop} {S:V->V->Prop} (hRS:∀x y u v,RelV x u->RelV y v->R u v->S x y):∀{zs:List V} {out:List Value},Vals zs out->out.Pairwise R->zs.Pairwise S
 | _,_,.nil,_=> .nil
 | _,_,.cons rx rt,p=>by
   rw [List.pairwise_cons] at p;refine .cons (fun y hy=> ?_) (vB hRS rt p.2);obtain ⟨i,hi,e⟩:=List.getElem_of_mem hy;obtain ⟨v,hv,ry⟩:=Vals.get rt (i:=i) (x:=y) (by rw [List.getElem?_eq_getElem hi,e]);exact hRS _ _ _ _ rx ry (p.1 v (List.mem_of_getElem? hv))
def adb (K:PySem.W.Frag) (H:Hp) (k:Nat) (f:V->List Int) (x:V):Prop:=∃a,x = .ref a/\fY K H a ((f x).map V.int)/\(f x).length=k
def Br (K:PySem.W.Frag):List V->Hp->VK->Prop:=fun xs H Q=>∃(p:Addr) (ys:List V) (k:Nat) (f:V->List Int),xs=[.ref p]/\bw K H p ys/\1<=k/\(∀y∈ys,adb K H k f y) /\
 ∀l zs,H l=none->zs.Perm ys->zs.Pairwise (fun x y=>Tim.gY (f y) (f x)=false)->Q (.ref l) (upd H l (.lst zs))
theorem CN:gF X (.builtin "sorted") (Br X.K):=by
 intro pins s σ H xs us Q I r h;obtain ⟨p,ys,k,f,rfl,hq,hk,ht,q⟩:=h;obtain ⟨u,rfl,rx⟩:=vals1 r;cases rx;obtain ⟨its,rv,pl,hz⟩:=I.list hq;have hlen:its.length=ys.length:=by rw [←rv.length]
 have item:∀x v,x∈ys->RelV x v -> ∃a jts,v = .ref a/\IsTup s.heap a jts.toArray/\IntsAre jts (f x)/\(f x).length=k:=by
  intro x v hx rxv;obtain ⟨a,rfl,sq,hl⟩:=ht x hx;cases rxv;obtain ⟨jts,rj,tj,_⟩:=I.tuple sq;exact ⟨a,jts,rfl,tj,vN rj,hl⟩
 have T:Ft s.heap k its:=fun v hv=>by
  obtain ⟨i,hi,e⟩:=List.getElem_of_mem hv;have hy:i<ys.length:=by omega
  obtain ⟨v',hv',ry⟩:=rv.get (i:=i) (x:=ys[i]) (by rw [List.getElem?_eq_getElem hy]);rw [List.getElem?_eq_getElem hi,e] at hv';cases hv';obtain ⟨a,jts,e1,e2,e3,e4⟩:=item _ _ (List.getElem_mem hy) ry;exact ⟨a,jts,_,e1,e2,e3,e4⟩
 refine Tim.Bm (κ:=tuples' true) (rk:=Tim.lJ (fun a b=>Tim.gY (keyOf s.heap a) (keyOf s.heap b)) its) pl.isList (by omega)
  (fun h2 h' kp=>⟨fun Q E hQ=>FQ hk T h2 kp hQ,Il T kp⟩) fun h' D c out kp hD hd hp hs=> ?_
 obtain ⟨zs,z1,z2⟩:=Fz rv hp;have hzl:zs.length<=sizeLine:=by rw [z2.length_eq];omega
 refine ⟨.ref D,_,I.laid (t':=s.toks) kp hD (show cJ X.prog X.w _ h' _ (.lst zs) from ⟨hzl,out,c,z1,hd⟩),rfl,q D zs (I.hok.fresh hD) z2 ?_⟩
 have hs':out.Pairwise (fun u v=>u∈its/\v∈its/\Tim.gY (keyOf s.heap v) (keyOf s.heap u)=false):=by
  refine List.Pairwise.imp_of_mem (fun {u v} hu hv huv=> ?_) hs;have mu:=hp.mem_iff.mp hu;have mv:=hp.mem_iff.mp hv;exact ⟨mu,mv,Tim.Mj (Tim.Du (keyOf s.heap)) mv huv⟩
 have zin:∀z∈zs,z∈ys:=fun z hz=>z2.mem_iff.mp hz
 have zp:zs.Pairwise (fun x y=>x∈zs/\y∈zs):=by
  rw [List.pairwise_iff_getElem];intro i j hi hj _;exact ⟨List.getElem_mem hi,List.getElem_mem hj⟩
 have:=vB (S:=fun x y=>x∈ys->y∈ys->Tim.gY (f y) (f x)=false) (fun x y u v rx ry huv hx hy=>by
  obtain ⟨a,jts,rfl,e2,e3,e4⟩:=item x u hx rx;obtain ⟨b,kts,rfl,g2,g3,g4⟩:=item y v hy ry;have:=huv.2.2;rwa [mH e2 e3,mH g2 g3] at this) z1 hs'
 exact List.Pairwise.imp₂ (fun {x y} (h1:x∈ys->y∈ys->Tim.gY (f y) (f x)=false) (h2:x∈zs/\y∈zs)=>h1 (zin _ h2.1) (zin _ h2.2)) this zp
theorem lX {K:PySem.W.Frag} (hK:X.K=K):gF X (.builtin "sorted") (Br K):=by subst hK;exact CN
end
end L2
set_option Elab.async false
set_option linter.all false
set_option maxRecDepth 100000
set_option maxHeartbeats 4000000
namespace L2
open PySem PySem.Spec PyProof.Rows PySem.W
section
variable {X:Cx}
def XJ (ta:TA):TE:=fun σ H Q=>ta σ H fun vs H1=>∃n:Nat,vs=[.int n]/\n<=100000 /\ ∀l,H1 l=none->Q (.ref l) (upd H1 l (.lst (((List.range n).map fun k:Nat=>(k:Int)).map V.int)))
theorem yK {a:Expr} {ta:TA} {p p2 pos pos2:Pos} (hc:X.calm=true) (hg:Gl X "list") (hm:X.mg "list" = none) (hgr:Gl X "range") (hmr:X.mg "range" = none) (ha:PA X [a] ta)
 (hs:starEach [a] X.env=[(false,eval a X.env)]:=by rfl)
 (hl:starEach [.Call (.Name "range" p2) [a] [] pos2] X.env=[(false,eval (.Call (.Name "range" p2) [a] [] pos2) X.env)]:=by rfl):
 PE X (.Call (.Name "list" p) [.Call (.Name "range" p2) [a] [] pos2] [] pos) (XJ ta):=by
 intro pins s σ H Q I h;refine Call_ (lQ I hg hm oY (PyProof.Rows.callWith_type1 ?_ hl rfl));rw [hl];show wpAny _ _ (spliced ((false,eval (.Call (.Name "range" p2) [a] [] pos2) X.env)::backTo pos (starEach [] X.env))) _ _ s;refine Calls.spliced_cons (Call_ (lQ I hgr hmr boot_range (PyProof.Rows.callWith_type1 (cM (ha pos2 pins s σ H _ I h) fun us s1 ⟨vs,H1,I1,r1,q1⟩=> ?_) hs rfl)));obtain ⟨n,e,qz,q⟩:=q1;subst e;cases r1 with
 | cons r rr=>
   cases rr;obtain ⟨t,rfl⟩:=r;refine call_range_1 ?_;refine Calls.spliced_nil ?_;refine call_list_range (n:=n) (I.ok.hd hc) (IsRange.new ..) (small_one (by omega) (by omega) (by omega) (by omega)) (by rw [rangeSize_one];split<;>omega) (by omega) fun h' tk acc' c' hk hS' hacc=> ?_
   have r':Vals (((List.range n).map fun k:Nat=>(k:Int)).map V.int) acc'.toList:=by
    rw [List.map_map];refine yd (fun k=>(k:Int)) acc'.toList _ (by simp [hacc.1]) fun k v hv=> ?_;obtain ⟨t,e⟩:=hacc.2 k v (by simpa using hv);exact ⟨t,by rw [e,Int.mul_one];simp⟩
   have I2:=I1.kept (h':=s1.heap.push {cls:= .type "range",data:= .fields #[.int 0 s1.toks,.int n t,.int 1 (s1.toks+1)]}) (t':=s1.toks+2) fun b o e=>Heap.get?_push_of_some _ e;exact ⟨.ref _,_,I2.laid (t':=tk) hk (Nat.le_refl _) (show cJ X.prog X.w _ h' _ (.lst _) from ⟨by simp;rw [sizeLine_eq];omega,acc'.toList,c',r',by simpa using hS'⟩),rfl,q _ (I2.hok.fresh (Nat.le_refl _))⟩
end
end L2
set_option Elab.async false
set_option linter.all false
set_option maxRecDepth 100000
set_option maxHeartbeats 4000000
namespace L2
open PySem PySem.Spec PyProof.Rows
section
variable {X:Cx} {k:Nat} {C:Addr} {sp:Sp}
theorem DG {pins:List (Addr×Obj)} {σ:St} {H:Hp} {s:Shared} {Q:VK} {us:List Value} {vs:List V} {f:Addr} {fd:FuncData} {ps:List Str} (G:cU X.prog X.w X.K X.mg X.base jC k f fd ps sp) (hr:cY (k+1) X.A) (hb:Binds X.K fd ps [])
 (I:Inv X pins σ H s) (r:Vals vs us) (q:sp vs H Q E0):wpAny (model X.prog X.w) X.A.in1 (call (.ref f) us) (EP X pins σ Q) X.xe s:=by
 have hlen:us.length=ps.length:=by rw [←r.length];exact G.len _ _ _ _ q
 have hbd:=hb s us I.nA (by rw [List.append_nil];exact hlen);rw [List.append_nil] at hbd;refine wpAny_call (codeAny_mono (G.run X.A.in1 X.stack s H ⟨us,[]⟩ us vs Q E0 hr.in1 I.env0.in1 hbd r q) fun res s' hq=> ?_)
 match res,hq with
 | .error ev,hq=>exact False.elim hq
 | .ok (.ret u),hq=>exact I.after hq
def Tv (C:Addr) (sp:Sp):List V->Hp->VK->Prop:=fun xs H Q=>∃(a dx:Addr) (fs:List (Str×V)),xs=[.ref a]/\H a=some (.ins C dx fs)/\sp [.ref a] H (fun v H'=>∃n:Int,v = .int n/\0<=n/\n<2 ^ 62/\Q (.int n) H') E0
theorem vV (M:MethAt X.prog X.w X.K X.mg X.base k C "__len__" ["self"] sp) (hr:cY (k+1) X.A):gF X (.builtin "len") (Tv C sp):=by
 intro pins s σ H xs us Q I rv h;obtain ⟨f,fd,G,hm,hb⟩:=M;obtain ⟨a,dx,fs,rfl,ea,q⟩:=h;obtain ⟨u,rfl,ru⟩:=rv.one;obtain rfl:u=Value.ref a:=ru;obtain ⟨mm,Fm⟩:=I.fr;obtain ⟨mA,O,_⟩:=gW I.hok ea;obtain ⟨od,J,_⟩:=O.look;refine PySem.W.len_K Fm I.mod.Pk J hm.at_ hm.fn (cM (DG (us:=[.ref a]) (vs:=[.ref a]) G hr hb I (.cons rfl .nil) q) fun v s' hv=> ?_)
 obtain ⟨x,H',I',rx,n,rfl,n0,n1,q'⟩:=hv;obtain ⟨t,rfl⟩:=rx;exact ⟨⟨n0,by omega⟩,.int n,H',I'.tok _,⟨_,rfl⟩,q'⟩
def YK (C:Addr) (sp:Sp):R2:=fun x y H Q=>∃(a b dx dy:Addr) (fs gs:List (Str×V)),x = .ref a/\y = .ref b/\H a=some (.ins C dx fs)/\H b=some (.ins C dy gs)/\sp [.ref a,.ref b] H (fun v H'=>∃t:Bool,v = .bl t/\Q (.bl t) H') E0
theorem QJ (M:MethAt X.prog X.w X.K X.mg X.base k C "__eq__" ["self","other"] sp) (hr:cY (k+1) X.A):nR X (compareOp .Eq) (YK C sp):=by
 intro pins s σ H x y u v Q I rx ry h;obtain ⟨f,fd,G,hm,hb⟩:=M;obtain ⟨a,b,dx,dy,fs,gs,rfl,rfl,ea,eb,q⟩:=h;obtain rfl:u=Value.ref a:=rx;obtain rfl:v=Value.ref b:=ry;obtain ⟨mA,O,_⟩:=gW I.hok ea;obtain ⟨od,J,_⟩:=O.look;obtain ⟨mB,O2,_⟩:=gW I.hok eb;obtain ⟨Sh,J2,_⟩:=O2.look;obtain ⟨mm,Fm⟩:=I.fr;refine PySem.W.cmp_ofEq (PySem.W.cmp_K hr.Ii Fm I.mod.Pk J J2.type (by simp [PySem.W.notFirst]) hm.at_ hm.fn (cM (wI (us:=[.ref a,.ref b]) (vs:=[.ref a,.ref b]) (pC:=[]) (ds:=[]) G (hr.mono (Nat.le_succ _)) hb .nil yN I (.cons rfl (.cons rfl .nil)) q) fun v s' hv=> ?_));obtain ⟨x,H',I',rx,t,rfl,q'⟩:=hv;obtain rfl:v=Value.bool t:=rx;exact ⟨.bl t,H',I',rfl,q'⟩
end
structure Xp (K:PySem.W.Frag) (mg:Str->Option Value) (C:Addr) (nm:Str):Prop where
 bd:mg nm=some (.ref C)
 ha:PySem.W.findIn K (.ref C) "__class__" = some (some (.builtin "object.__class__"))
 hn:PySem.W.specialIn K (.builtin "object.__class__") "__get__" = some (some (.builtin "getset_descriptor.__get__"))
 ht:PySem.W.takesIn K (.builtin "object.__class__")=some true
 hm:PySem.W.mroIn K C (.type "object")=some true
theorem Xp.ty {K:PySem.W.Frag} {mg:Str->Option Value} {C:Addr} {nm:Str} (o:Xp K mg C nm) {H:Hp} {a dx:Addr} {fs:List (Str×V)} (e:H a=some (.ins C dx fs)) (c:Cls K C):nO K H (.ref a) (.ref C):= .ins e c o.ha o.hn o.ht o.hm
end L2
set_option Elab.async false
set_option linter.all false
set_option maxRecDepth 100000
set_option maxHeartbeats 4000000
namespace L2
open PySem PySem.Spec PyProof.Rows
section
variable {X:Cx} {k:Nat} {C:Addr} {sp:Sp}
theorem Mh {pins:List (Addr×Obj)} {σ:St} {H:Hp} {s:Shared} {Q:VK} {us:List Value} {vs:List V} {f:Addr} {fd:FuncData} {ps:List Str} (G:cU X.prog X.w X.K X.mg X.base jC k f fd ps sp) (hr:cY (k+2) X.A) (hb:Binds X.K fd ps [])
 (I:Inv X pins σ H s) (r:Vals vs us) (q:sp vs H Q E0):wpAny (model X.prog X.w) X.A.in1.in1 (call (.ref f) us) (EP X pins σ Q) X.xe s:=by
 have hlen:us.length=ps.length:=by rw [←r.length];exact G.len _ _ _ _ q
 have hbd:=hb s us I.nA (by rw [List.append_nil];exact hlen);rw [List.append_nil] at hbd;refine wpAny_call (codeAny_mono (G.run X.A.in1.in1 X.stack s H ⟨us,[]⟩ us vs Q E0 (cY.in1 (cY.in1 hr)) I.env0.in1.in1 hbd r q) fun res s' hq=> ?_)
 match res,hq with
 | .error ev,hq=>exact False.elim hq
 | .ok (.ret u),hq=>exact I.after hq
def Tq (C:Addr) (sp:Sp):List V->Hp->VK->Prop:=fun xs H Q=>∃(a dx:Addr) (fs:List (Str×V)),xs=[.ref a]/\H a=some (.ins C dx fs)/\sp [.ref a] H (fun v H'=>∃t:Str,v = .str t/\Q (.str t) H') E0
theorem vR (M:MethAt X.prog X.w X.K X.mg X.base k C "__str__" ["self"] sp) (hr:cY (k+2) X.A):gF X (.type "str") (Tq C sp):=by
 intro pins s σ H xs us Q I rv h;obtain ⟨f,fd,G,hm,hb⟩:=M;obtain ⟨a,dx,fs,rfl,ea,q⟩:=h;obtain ⟨u,rfl,ru⟩:=rv.one;obtain rfl:u=Value.ref a:=ru;obtain ⟨mA,O,_⟩:=gW I.hok ea;obtain ⟨od,J,_⟩:=O.look;refine PySem.W.kso_call (cY.Ii (cY.in1 (cY.in1 hr))) I.nA J hm.at_ hm.fn (cM (Mh (us:=[.ref a]) (vs:=[.ref a]) G hr hb I (.cons rfl .nil) q) fun v s' hv=> ?_)
 obtain ⟨x,H',I',rx,t,rfl,q'⟩:=hv;obtain ⟨tk,rfl⟩:=rx;exact ⟨.str t,H',I',⟨_,rfl⟩,q'⟩
end
end L2
set_option Elab.async false
set_option linter.all false
set_option maxRecDepth 100000
set_option maxHeartbeats 4000000
namespace L2
open PySem PySem.Spec PyProof.Rows
structure Xl (K:PySem.W.Frag) (C:Addr):Prop where
 ne:PySem.W.findIn K (.ref C) "__ne__" = some (some (.builtin "object.__ne__"))
 ob:PySem.W.mroIn K C (.type "object")=some true
section
variable {prog:Program} {w:World} {A:Around} {E:Value->Shared->Prop} {s:Shared} {K:PySem.W.Frag} {x C f:Addr} {ox:Obj} {od:Option Obj} {b:Value}
theorem JN {Q:PySem.Fin->Shared->Prop} (hu:A.units<cLine) (X:K.In s.heap) (I:PySem.W.InstAt s.heap x ox C od) (hs:PySem.W.findIn K (.ref C) "__eq__" = some (some (.ref f))) (hf:PySem.W.isFn K (.ref f)=true)
 (h:wpAny (model prog w) A (call (.ref f) [.ref x,b]) (fun v s'=>∃t,v = .bool t/\Q (.done (.ret (.bool (!t)))) s') E s):wpAny (model prog w) A (Builtin.«object.__ne__» ⟨[.ref x,b],[]⟩) Q E s:=by
 unfold Builtin.«object.__ne__»;refine wpAny_bind (m:=slotArgs "__ne__" 1 _) (wpAny_pure ?_);refine wpAny_bind (m:=cRoomFor _ _) (wpAny_cRoomFor hu ?_);refine wpAny_bind (m:=callSpecialIfBound? (.ref x) (Str.ofString "__eq__") [b]) (PySem.W.ifBound_K X I hs hf (wpAny_mono h (fun v s' hv=> ?_) fun _ _ e=>e));obtain ⟨t,rfl,q⟩:=hv;exact wpAny_bind (m:=truthy (.bool _)) (wpAny_truthy_bool (wpAny_pure q))
theorem Ng {Q:Value->Shared->Prop} {tb:Value} (hu:A.units+1<cLine) (X:K.In s.heap) (I:PySem.W.InstAt s.heap x ox C od) (hb:PySem.W.Looks (model prog w) s.heap (typeOf b) tb) (hn:PySem.W.notFirst K C tb=true) (N:Xl K C)
 (hs:PySem.W.findIn K (.ref C) "__eq__" = some (some (.ref f))) (hf:PySem.W.isFn K (.ref f)=true)
 (h:wpAny (model prog w) A.in1 (call (.ref f) [.ref x,b]) (fun v s'=>∃t,v = .bool t/\Q (.bool (!t)) s') E s):wpAny (model prog w) A (compareOp .NotEq (.ref x) b) Q E s:=by
 have hu0:A.units<cLine:=by omega
 have one:wpAny (model prog w) A (tryCompare (.ref x) "__ne__" b) (fun r s'=>∃v,r=some v/\Q v s') E s:=by
  unfold tryCompare;refine wpAny_bind ?_;simp only [callSpecialIfBound?,bindSpecialIfBound?];refine wpAny_holding (wpAny_bind (wpAny_bind (wpAny_bind (I.type.here ((PySem.W.looks_findIn X N.ne).here (wpAny_bind (wpAny_askSetting (wpAny_ite ?_))))))));have hbd:PySem.W.Looks (model prog w) s.heap (bindSpecial (.builtin "object.__ne__") (.ref x)) (.builtin "object.__ne__",[.ref x]):=PySem.W.Looks.of_pure (PySem.F.slot_object_ne.bind _)
  have fin:wpAny (model prog w) A (call (.builtin "object.__ne__") ([.ref x]++[b]) >>= fun v=>pure (some v)) (fun a s'=>wpAny (model prog w) A (match a with |some Value.notImplemented=>pure none|none=>pure none|some v=>pure (some v)) (fun r s'=>∃v,r=some v/\Q v s') E s') E s:=by
   refine wpAny_bind (wpAny_call (codeAny_call_builtin PySem.F.slot_object_ne.plain F.cmpEntry_ne (PySem.W.check_slot F.cmpKind_ne F.cmpSplit_ne (I.type.andThen (PySem.W.looks_mroIn X N.ob)) (F.cmpArgs_ne _ _) (JN (A:=A.in1) hu X I hs hf (wpAny_mono h (fun v s' hv=> ?_) fun _ _ e=>e)))));obtain ⟨t,rfl,q⟩:=hv;refine ⟨t,rfl, ?_⟩;exact wpAny_pure (wpAny_pure ⟨_,rfl,q⟩)
  split
  ·exact wpAny_bind (hbd.here (wpAny_pure (by exact fin)))
  ·exact wpAny_tryCatch (wpAny_bind (hbd.here (wpAny_pure (by exact fin))))
 refine PySem.W.cmp_ofNotEq ?_;unfold richCompare;simp only [oneThing_ref];refine wpAny_holding (wpAny_bind (wpAny_cRoomFor hu0 (wpAny_bind (I.type.here (wpAny_bind (hb.here ?_))))));split
 ·rename_i ql
  have no:PySem.W.subIn K tb (.ref C)=some false:=by
   rcases Bool.or_eq_true_iff.mp hn with y|y
   ·rw [beq_iff_eq.mp y] at ql
    simp at ql
   ·exact beq_iff_eq.mp y
  refine wpAny_bind ((PySem.W.looks_subIn X no).here ?_);simp only [Bool.false_eq_true,if_false];refine wpAny_bind (wpAny_mono one (fun r t' y=> ?_) fun _ _ y=>y);obtain ⟨v,rfl,yq⟩:=y;exact wpAny_pure yq
 ·refine wpAny_bind (wpAny_pure ?_)
  simp only [Bool.false_eq_true,if_false];refine wpAny_bind (wpAny_mono one (fun r t' y=> ?_) fun _ _ y=>y);obtain ⟨v,rfl,yq⟩:=y;exact wpAny_pure yq
end
section
variable {X:Cx} {k:Nat} {C:Addr} {sp:Sp}
def YH (C:Addr) (sp:Sp):R2:=fun x y H Q=>∃(a b dx dy:Addr) (fs gs:List (Str×V)),x = .ref a/\y = .ref b/\H a=some (.ins C dx fs)/\H b=some (.ins C dy gs)/\sp [.ref a,.ref b] H (fun v H'=>∃t:Bool,v = .bl t/\Q (.bl (!t)) H') E0
theorem QH (N:Xl X.K C) (M:MethAt X.prog X.w X.K X.mg X.base k C "__eq__" ["self","other"] sp) (hr:cY (k+1) X.A):nR X (compareOp .NotEq) (YH C sp):=by
 intro pins s σ H x y u v Q I rx ry h;obtain ⟨f,fd,G,hm,hb⟩:=M;obtain ⟨a,b,dx,dy,fs,gs,rfl,rfl,ea,eb,q⟩:=h;obtain rfl:u=Value.ref a:=rx;obtain rfl:v=Value.ref b:=ry;obtain ⟨mA,O,_⟩:=gW I.hok ea;obtain ⟨od,J,_⟩:=O.look;obtain ⟨mB,O2,_⟩:=gW I.hok eb;obtain ⟨Sh,J2,_⟩:=O2.look;obtain ⟨mm,Fm⟩:=I.fr;refine Ng (by have:=hr.units;omega) (I.mod.Pk.keeps Fm.keep) J J2.type (by simp [PySem.W.notFirst]) N hm.at_ hm.fn (cM (DG (us:=[.ref a,.ref b]) (vs:=[.ref a,.ref b]) G hr hb I (.cons rfl (.cons rfl .nil)) q) fun v s' hv=> ?_)
 obtain ⟨x,H',I',rx,t,rfl,q'⟩:=hv;obtain rfl:v=Value.bool t:=rx;exact ⟨t,rfl,.bl (!t),H',I',rfl,q'⟩
end
end L2
set_option Elab.async false
set_option linter.all false
set_option maxRecDepth 100000
set_option maxHeartbeats 4000000
namespace Prf
open PySem L2
def top (i:Nat):Stmt:=PySem.Challenge.pw_fewnotes_k48_whole_one_run_in_many_order.main.body.getD i (.Pass ⟨0,0,0,0⟩)
abbrev dH:Stmt:=top 5
abbrev dJ:Stmt:=top 6
abbrev bZ:Stmt:=top 9
abbrev eU:Stmt:=top 10
abbrev dG:Stmt:=top 12
abbrev cT:Stmt:=top 13
abbrev dI:Stmt:=top 14
abbrev iG:Stmt:=top 15
abbrev cF:Stmt:=top 17
abbrev cZ:Stmt:=top 18
abbrev cQ:Stmt:=top 19
abbrev bQ:Stmt:=inClass (top 21) 0
abbrev b_:Stmt:=inClass (top 21) 1
abbrev bL:Stmt:=inClass (top 21) 2
abbrev bG:Stmt:=inClass (top 21) 3
abbrev bM:Stmt:=inClass (top 21) 4
abbrev bH:Stmt:=inClass (top 21) 6
abbrev bD:Stmt:=inClass (top 21) 7
abbrev bC:Stmt:=inClass (top 21) 8
abbrev cR:Stmt:=top 22
abbrev j6:Stmt:=top 24
abbrev iI:Stmt:=top 25
abbrev iJ:Stmt:=top 26
abbrev gq:Stmt:=top 27
abbrev gj:Stmt:=top 28
abbrev dM:Stmt:=top 29
abbrev gk:Stmt:=top 30
abbrev fB:Stmt:=top 31
abbrev gn:Stmt:=top 32
abbrev iH:Stmt:=top 33
abbrev oA:Stmt:=top 34
structure rB (mg:Str->Option Value):Prop where
 Oo:mg "ValueError" = none
 KQ:mg "all" = none
 KN:mg "bool" = none
 PN:mg "enumerate" = none
 PL:mg "int" = none
 cH:mg "isinstance" = none
 fU:mg "len" = none
 uI:mg "list" = none
 PK:mg "max" = none
 aeG:mg "min" = none
 d7:mg "range" = none
 uH:mg "sorted" = none
 Ab:mg "str" = none
 aeF:mg "sum" = none
 xK:mg "tuple" = none
 VJ:mg "zip" = none
theorem yu:bf ["value"] ["value"] (aC dH):=⟨rfl,rfl,rfl,by decide +kernel,rfl,by decide +kernel,by decide +kernel⟩
theorem yx:bf ["value","count"] ["value","count"] (aC dJ):=⟨rfl,rfl,rfl,by decide +kernel,rfl,by decide +kernel,by decide +kernel⟩
theorem qO:bf ["one","other"] ["one","other"] (aC bZ):=⟨rfl,rfl,rfl,by decide +kernel,rfl,by decide +kernel,by decide +kernel⟩
theorem Bp:bf ["web","place","later"] ["web","place","later"] (aC eU):=⟨rfl,rfl,rfl,by decide +kernel,rfl,by decide +kernel,by decide +kernel⟩
theorem yr:bf ["named","bare","name"] ["named","bare","name"] (aC dG):=⟨rfl,rfl,rfl,by decide +kernel,rfl,by decide +kernel,by decide +kernel⟩
theorem gQ:bf ["web","named","knowns","place","bare","known","earlier"] ["web","named","knowns","place"] (aC cT):=⟨rfl,rfl,rfl,by decide +kernel,rfl,by decide +kernel,by decide +kernel⟩
theorem yw:bf ["name","known"] ["name","known"] (aC dI):=⟨rfl,rfl,rfl,by decide +kernel,rfl,by decide +kernel,by decide +kernel⟩
theorem yt:bf ["known","more","hand"] ["known","more"] (aC iG):=⟨rfl,rfl,rfl,by decide +kernel,rfl,by decide +kernel,by decide +kernel⟩
theorem lH:bf ["record","lines"] ["record"] (aC cF):=⟨rfl,rfl,rfl,by decide +kernel,rfl,by decide +kernel,by decide +kernel⟩
theorem wH:bf ["note"] ["note"] (aC cZ):=⟨rfl,rfl,rfl,by decide +kernel,rfl,by decide +kernel,by decide +kernel⟩
theorem uY:bf ["touch"] ["touch"] (aC cQ):=⟨rfl,rfl,rfl,by decide +kernel,rfl,by decide +kernel,by decide +kernel⟩
theorem pP:bf ["self","hands"] ["self","hands"] (aC bQ):=⟨rfl,rfl,rfl,by decide +kernel,rfl,by decide +kernel,by decide +kernel⟩
theorem dR:bf ["self","hand","kind","cell","place","name","found","brought"] ["self","hand","kind","cell"] (aC b_):=⟨rfl,rfl,rfl,by decide +kernel,rfl,by decide +kernel,by decide +kernel⟩
theorem ou:bf ["self"] ["self"] (aC bL):=⟨rfl,rfl,rfl,by decide +kernel,rfl,by decide +kernel,by decide +kernel⟩
theorem m_:bf ["self"] ["self"] (aC bG):=⟨rfl,rfl,rfl,by decide +kernel,rfl,by decide +kernel,by decide +kernel⟩
theorem jr:bf ["self","hand","known"] ["self","hand"] (aC bM):=⟨rfl,rfl,rfl,by decide +kernel,rfl,by decide +kernel,by decide +kernel⟩
theorem ni:bf ["self","other"] ["self","other"] (aC bH):=⟨rfl,rfl,rfl,by decide +kernel,rfl,by decide +kernel,by decide +kernel⟩
theorem mR:bf ["self"] ["self"] (aC bD):=⟨rfl,rfl,rfl,by decide +kernel,rfl,by decide +kernel,by decide +kernel⟩
theorem mQ:bf ["self"] ["self"] (aC bC):=⟨rfl,rfl,rfl,by decide +kernel,rfl,by decide +kernel,by decide +kernel⟩
theorem uZ:bf ["places","hand"] ["places","hand"] (aC cR):=⟨rfl,rfl,rfl,by decide +kernel,rfl,by decide +kernel,by decide +kernel⟩
theorem rC:bf ["script","total","cell"] ["script"] (aC j6):=⟨rfl,rfl,rfl,by decide +kernel,rfl,by decide +kernel,by decide +kernel⟩
theorem sU:bf ["number","place","one","two"] ["number","place"] (aC iI):=⟨rfl,rfl,rfl,by decide +kernel,rfl,by decide +kernel,by decide +kernel⟩
theorem sV:bf ["bag","many","cell","found"] ["bag","many"] (aC iJ):=⟨rfl,rfl,rfl,by decide +kernel,rfl,by decide +kernel,by decide +kernel⟩
theorem Ga:bf ["bag"] ["bag"] (aC gq):=⟨rfl,rfl,rfl,by decide +kernel,rfl,by decide +kernel,by decide +kernel⟩
theorem mj:bf ["bag","hands","cells","loads","apart","kinds","hand","kind"] ["bag","hands","cells","loads","apart"] (aC gj):=⟨rfl,rfl,rfl,by decide +kernel,rfl,by decide +kernel,by decide +kernel⟩
theorem fP:bf ["bag","hands","size","cells","loads","apart","many"] ["bag","hands"] (aC dM):=⟨rfl,rfl,rfl,by decide +kernel,rfl,by decide +kernel,by decide +kernel⟩
theorem cu:bf ["touches","hands","rows","called","brought","many","hand","kind","cell","got","fresh","i","other","sort","there","meets"] ["touches","hands"] (aC gk):=⟨rfl,rfl,rfl,by decide +kernel,rfl,by decide +kernel,by decide +kernel⟩
theorem vD:bf ["found","due"] ["found","due"] (aC fB):=⟨rfl,rfl,rfl,by decide +kernel,rfl,by decide +kernel,by decide +kernel⟩
theorem eO:bf ["bag","touches","rows","hands","places","done","order","step","some","hand","due"] ["bag","touches","rows","hands"] (aC gn):=⟨rfl,rfl,rfl,by decide +kernel,rfl,by decide +kernel,by decide +kernel⟩
theorem jE:bf ["recorder","touches","order","found","at","hand","kind","cell"] ["recorder","touches","order"] (aC iH):=⟨rfl,rfl,rfl,by decide +kernel,rfl,by decide +kernel,by decide +kernel⟩
theorem jy:bf ["script","bag","hands","touches","rows","first","due","turn","recorder","found"] ["script"] (aC oA):=⟨rfl,rfl,rfl,by decide +kernel,rfl,by decide +kernel,by decide +kernel⟩
structure cL (K:PySem.W.Frag) (C:Addr):Prop where
 cls:Cls K C
 Ek:jf K C "web"
 rK:jf K C "named"
 oK:jf K C "knowns"
 rJ:jf K C "taken"
 gA:jf K C "places"
section
variable {P:Program} {w:World} {K:PySem.W.Frag} {mg:Str->Option Value} {base:Heap}
def bV (H:Hp) (r b:Addr) (n:Nat):Prop:=∃(ns:List Int) (i f c t:Int),H r=some (.lst [.ref b,.int i,.int f,.int c,.int t])/\H b=some (.lst (ns.map V.int))/\b≠r/\0<=i/\i<=ns.length/\0<=f/\0<=c/\c<=n
theorem bV.keep {H H':Hp} {r b:Addr} {n:Nat} (h:bV H r b n) (k:Same H H'):bV H' r b n:=by
 obtain ⟨ns,i,f,c,t,e1,e2,q⟩:=h;exact ⟨ns,i,f,c,t,k _ _ e1,k _ _ e2,q⟩
theorem bV.kp {H H':Hp} {r b p:Addr} {n:Nat} (h:bV H r b n) (k:Kp p H H') (n1:r≠p) (n2:b≠p):bV H' r b n:=by
 obtain ⟨ns,i,f,c,t,e1,e2,q⟩:=h;exact ⟨ns,i,f,c,t,k _ _ e1 n1,k _ _ e2 n2,q⟩
theorem bV.mono {H:Hp} {r b:Addr} {n m:Nat} (h:bV H r b n) (k:n<=m):bV H r b m:=by
 obtain ⟨ns,i,f,c,t,e1,e2,q0,q1,q2,q3,q4,q5⟩:=h;exact ⟨ns,i,f,c,t,e1,e2,q0,q1,q2,q3,q4,by (clear q4 q3 q2 q1 q0 e2 e1;omega)⟩
theorem bV.lst {H:Hp} {r b:Addr} {n:Nat} (h:bV H r b n):∃ys,H r=some (.lst ys):=by
 obtain ⟨ns,i,f,c,t,e1,_⟩:=h;exact ⟨_,e1⟩
theorem bV.ne {H:Hp} {r b p:Addr} {n:Nat} (h:bV H r b n) (hp:H p=none):p≠r/\p≠b:=by
 obtain ⟨ns,i,f,c,t,e1,e2,_⟩:=h;exact ⟨(aA e1 hp).symm,(aA e2 hp).symm⟩
theorem Kp.new {H H':Hp} {r p:Addr} (k:Kp r H H') (hp:H' p=none) (hr:∃o,H' r=some o):H p=none:=by
 cases e:H p with
 | none=>rfl
 | some o=>
   by_cases n:p=r
   ·subst n
    obtain ⟨o',ho⟩:=hr;rw [hp] at ho;cases ho
   ·rw [k _ _ e n] at hp
    cases hp
theorem bV.at {H:Hp} {r b:Addr} {n:Nat} (h:bV H r b n):∃o,H r=some o:=by
 obtain ⟨ns,i,f,c,t,e1,_⟩:=h;exact ⟨_,e1⟩
theorem bV.tups {H H':Hp} {r b:Addr} {n:Nat} (h:bV H r b n) (k:Kp r H H'):∀a xs,H a=some (HO.tup xs)->H' a=some (HO.tup xs):=by
 obtain ⟨ys,e⟩:=h.lst;exact k.tups e
def Bg (K:PySem.W.Frag):Sp:=fun vs H Q _=>∃(x p:Int),vs=[.int x,.int p]/\0<=p/\p<2 ^ 62 /\ ∀z:Int,0<=z->Q (.int z) H
theorem M4 {f:Addr} {fd:FuncData} (F:lq K "_law_stir" "_law_stir" iI f fd):cU P w K mg base jC 1 f fd ["number","place"] (Bg K):=by
 refine F.ok sU (fun vs H Q E h=> ?_) (fun cdv A outer s H vs Q E hr h=> ?_)
 ·obtain ⟨x,p,rfl,_⟩:=h
  rfl
 ·obtain ⟨x,p,rfl,p0,p1,k⟩:=h
  refine ⟨_,(aD (aZ (i:=2) sU.nd rfl (Or.inl rfl) (bI jB (bI gw (bI gw (bI lN (pv 0) aF) (bI lN (pv 1) aF)) aF) aF))
   (aD (aZ (i:=3) sU.nd rfl (Or.inl rfl) (bI jB (bI lN (pv 2) (pv 2)) aF))
   (aL (bh (bI rG (bI jB (bI gw (bI gw (bI lN (pv 3) aF) (bI lN (bI lN (pv 1) (pv 1)) aF)) (bI rG (pv 2) aF)) aF) aF))))), ?_⟩
  refine ⟨_,rfl,_,_,rfl,rfl,.inr ⟨by decide,by decide⟩,_,rfl,_,_,rfl,rfl,.inr ⟨by decide,by decide⟩,_,_,rfl,rfl,_,_,rfl,rfl,_,_,rfl,rfl,(by show (0:Int)<2305843009213693951;decide), ?_⟩;have o0:(0:Int)<=(x*998244353+p*1000000007+5) % 2305843009213693951:=Int.emod_nonneg _ (by decide);have o1:(x*998244353+p*1000000007+5) % 2305843009213693951<2305843009213693951:=Int.emod_lt_of_pos _ (by decide);generalize (x*998244353+p*1000000007+5) % 2305843009213693951=one at o0 o1;refine ⟨_,rfl,_,rfl,_,_,rfl,rfl,.inl ⟨by (clear o1 o0 p1 p0;omega),by (clear o1 o0 p1 p0;omega)⟩,_,_,rfl,rfl,(by show (0:Int)<2305843009213693951;decide), ?_⟩;refine ⟨_,rfl,_,_,rfl,rfl,.inr ⟨by decide,by decide⟩,_,rfl,_,rfl,_,_,rfl,rfl,.inl ⟨by (clear o1 o0 p1;omega),by (clear o1 o0 p0;omega)⟩,_,_,rfl,rfl,.inr ⟨by decide,by decide⟩,_,_,rfl,rfl,_,rfl,_,_,rfl,rfl,(by show Lg _ 3;exact ⟨by decide,by decide⟩),_,_,rfl,rfl,_,_,rfl,rfl,(by show (0:Int)<2305843009213693921;decide),_,_,rfl,rfl,(by show Lg _ 1024;exact ⟨by decide,by decide⟩), ?_⟩;exact k _ (Int.ediv_nonneg (Int.emod_nonneg _ (by decide)) (by decide))
def pL (K:PySem.W.Frag):Sp:=fun vs H Q _=>∃(r b:Addr) (m:Int) (n:Nat),vs=[.ref r,.int m]/\bV H r b n/\n<1099511627776/\0<m/\m<1329227995784915872903807060280344576 /\ ∀(z:Int) (H':Hp),0<=z->z<m->bV H' r b (n+1)->Kp r H H'->Q (.int z) H'
theorem M7 {f:Addr} {fd:FuncData} (F:lq K "_law_draw" "_law_draw" iJ f fd) (Fy:FnAt P w K mg base 1 "_law_stir" ["number","place"] (Bg K)) (Bt:rB mg):cU P w K mg base jC 2 f fd ["bag","many"] (pL K):=by
 refine F.ok sV (fun vs H Q E h=> ?_) (fun cdv A outer s H vs Q E hr h=> ?_)
 ·obtain ⟨r,b,m,n,rfl,_⟩:=h
  rfl
 ·obtain ⟨r,b,m,n,rfl,⟨ns,i,f,c,t,hR,hB,nb,i0,i1,f0,c0,c1⟩,hn,m0,m1,k⟩:=h
  have jm:=hr.units
  refine ⟨_,(aD (fj (cG m5 (pv 1) aF (bN _)) (aL (bh aF)) cA)
   (aD (jA (bI gw (aP (aH (K:=K) rfl) (pv 0) aF (fun _ _=>rfl)) aF) (lK (pv 0) aF set_list))
   (aD (fj (PW.pt (Bs (cG vI (aP (aH (K:=K) rfl) (pv 0) aF (fun _ _=>rfl)) aF (bN _)) (wK (cG m5 (aP (aH (K:=K) rfl) (pv 0) aF (fun _ _=>rfl)) (aQ (aU (K:=K) rfl) (by rfl) Bt.fU dD (ao (aP (aH (K:=K) rfl) (pv 0) aF (fun _ _=>rfl)) aB)) (bN _))))) (aL (bh (bI jB (bO Fy (hr.mono (by decide)) (by rfl) (ao (aP (aH (K:=K) rfl) (pv 0) aF (fun _ _=>rfl)) (ao (aP (aH (K:=K) rfl) (pv 0) aF (fun _ _=>rfl)) aB))) (pv 1)))) cA)
   (aD (fj (cG vI (aP (aH (K:=K) rfl) (pv 0) aF (fun _ _=>rfl)) aF (bN _)) (aD (aZ (i:=2) sV.nd rfl (Or.inl rfl) (aP (aH (K:=K) rfl) (aP (aH (K:=K) rfl) (pv 0) aF (fun _ _=>rfl)) (aP (aH (K:=K) rfl) (pv 0) aF (fun _ _=>rfl)) (fun _ _=>rfl)))
   (aD (jA (bI gw (aP (aH (K:=K) rfl) (pv 0) aF (fun _ _=>rfl)) aF) (lK (pv 0) aF set_list))
   (aD (fj (cG vI (pv 2) (bI Jx aF aF) (bN _)) (aL (bh (bI jB (bO Fy (hr.mono (by decide)) (by rfl) (ao (bI jB (pv 2) aF) (ao (aP (aH (K:=K) rfl) (pv 0) aF (fun _ _=>rfl)) aB))) (pv 1)))) cA)
   (aL (jA (bI Bw (pv 2) (bI Jx aF aF)) (lK (pv 0) aF set_list)))))) cA)
   (aD (aZ (i:=3) sV.nd rfl (Or.inl rfl) (bI jB (aP (aH (K:=K) rfl) (pv 0) aF (fun _ _=>rfl)) (pv 1)))
   (aD (jA (bI Jy (aP (aH (K:=K) rfl) (pv 0) aF (fun _ _=>rfl)) (pv 1)) (lK (pv 0) aF set_list))
   (aL (bh (pv 3))))))))), ?_⟩
  refine ⟨_,rfl,rfl,_,rfl, ?_⟩;refine qT (fun h0=> ?_) (fun h0=> ?_)
  ·have e:m=1:=by injection (of_decide_eq_true h0)
   subst e;exact k 0 H (by decide) (by decide) ⟨ns,i,f,c,t,hR,hB,nb,i0,i1,f0,c0,by (clear h0 m1 m0 jm hn c0 f0 i1 i0 nb hB hR;omega)⟩ (Kp.refl _ _)
  ·
   refine ⟨_,rfl,_,_,_,_,rfl,rfl,bw.of hR,rfl,_,_,rfl,rfl,_,rfl,_,_,_,_,rfl,rfl,hR,rfl, ?_⟩;have k1:Kp r H (upd H r (.lst [.ref b,.int i,.int f,.int (c+1),.int t])):=Kp.set;have m8:(upd H r (.lst [.ref b,.int i,.int f,.int (c+1),.int t])) r=some (.lst [.ref b,.int i,.int f,.int (c+1),.int t]):=aq;have jP:=k1 _ _ hB nb;have ln:(List.map V.int ns).length=ns.length:=List.length_map ..;have uW:(0:Int)<=c+1:=by (clear ln jP m8 h0 jm m1 m0 hn c1 f0 i1 i0 nb hB hR;omega)
   have yM:c+1<2 ^ 62:=by (clear uW ln jP m8 h0 jm m1 m0 c0 f0 i1 i0 nb hB hR;omega)
   have Wv:∀z:Int,0<=z % m:=fun z=>Int.emod_nonneg _ (by (clear yM uW ln jP m8 h0 jm m1 hn c1 c0 f0 i1 i0 nb hB hR;omega));have Wu:∀z:Int,z % m<m:=fun z=>Int.emod_lt_of_pos _ m0;refine ⟨_,rfl,_,_,_,_,rfl,rfl,bw.of m8,rfl,_,_,rfl,rfl,_,rfl, ?_⟩
   by_cases f2:f<2
   ·rw [decide_eq_true f2]
    refine iK ?_;refine ⟨_,rfl,_,_,_,_,rfl,rfl,bw.of m8,rfl,_,rfl,_,_,_,_,rfl,rfl,bw.of m8,rfl,b,_,rfl,.inl (bw.of jP),rfl,_,rfl, ?_⟩;refine qT (fun h1=> ?_) (fun h1=> ?_)
    ·refine ⟨_,rfl,_,_,_,_,rfl,rfl,bw.of m8,rfl,_,rfl,_,_,_,_,rfl,rfl,bw.of m8,rfl,t,c+1,rfl,uW,yM,fun z z0=> ?_⟩
     refine ⟨_,rfl,_,_,rfl,rfl,m0, ?_⟩;exact k _ _ (Wv z) (Wu z) ⟨ns,i,f,c+1,t,m8,jP,nb,i0,i1,f0,uW,by (clear z0 h1 f2 yM uW ln jP m8 h0 jm m1 m0 hn c0 f0 i1 i0 nb hB hR;omega)⟩ k1
    ·have hlt:i<ns.length:=by
      have:¬i=(ns.length:Int):=fun z=>h1 (decide_eq_true (by rw [ln,z]));omega
     obtain ⟨cell,hc,_⟩:∃cell:Int,rm (ns.map V.int) i=some (V.int cell)/\True:=by
      obtain ⟨m',rfl⟩:=Int.eq_ofNat_of_zero_le i0;have:m'<ns.length:=by (clear h1 jP m8 i1 i0 hR f2 yM uW ln h0 jm m1 m0 hn c1 c0 f0 nb hB;omega)
      exact ⟨ns[m'],aW (by simp [this]),trivial⟩
     refine ⟨_,rfl,_,_,_,_,rfl,rfl,bw.of m8,rfl,_,_,rfl,rfl,_,rfl, ?_⟩;rw [decide_eq_true f2];refine iK ?_;refine ⟨_,rfl,_,_,_,_,rfl,rfl,bw.of m8,rfl,_,rfl,_,_,_,_,rfl,rfl,bw.of m8,rfl,_,_,_,_,rfl,rfl,bw.of jP,hc, ?_⟩;refine ⟨_,rfl,_,_,_,_,rfl,rfl,bw.of m8,rfl,_,_,rfl,rfl,_,rfl,_,_,_,_,rfl,rfl,m8,rfl, ?_⟩;have k2:Kp r (upd H r (.lst [.ref b,.int i,.int f,.int (c+1),.int t])) (upd (upd H r (.lst [.ref b,.int i,.int f,.int (c+1),.int t])) r (.lst [.ref b,.int (i+1),.int f,.int (c+1),.int t])):=Kp.set;have Ka:(upd (upd H r (.lst [.ref b,.int i,.int f,.int (c+1),.int t])) r (.lst [.ref b,.int (i+1),.int f,.int (c+1),.int t])) r=some (.lst [.ref b,.int (i+1),.int f,.int (c+1),.int t]):=aq;have hB2:=k2 _ _ jP nb;refine ⟨_,rfl,_,_,rfl,rfl,(by show R5 10 18;exact ⟨by decide,by decide,by decide⟩),_,_,rfl,rfl,_,rfl, ?_⟩;refine qT (fun h2=> ?_) (fun h2=> ?_)
     ·refine ⟨_,rfl,_,_,rfl,rfl,(by show (0:Int)<2305843009213693951;decide),_,rfl,_,_,_,_,rfl,rfl,bw.of Ka,rfl,_,c+1,rfl,uW,yM,fun z z0=> ?_⟩
      refine ⟨_,rfl,_,_,rfl,rfl,m0, ?_⟩;exact k _ _ (Wv z) (Wu z) ⟨ns,i+1,f,c+1,t,Ka,hB2,nb,by (clear z0 h2 hB2 Ka hc hlt h1 f2 yM uW ln jP m8 h0 jm m1 m0 hn c1 c0 f0 i1 nb hB hR;omega),by (clear z0 h2 hB2 Ka hc h1 f2 yM uW ln jP m8 h0 jm m1 m0 hn c1 c0 f0 i1 i0 nb hB hR;omega),f0,uW,by (clear z0 h2 hB2 Ka hc hlt h1 f2 yM uW ln jP m8 h0 jm m1 m0 hn c0 f0 i1 i0 nb hB hR;omega)⟩ (k1.trans k2)
     ·have hbig:(0:Int)<=cell - 10 ^ ((18:Int).toNat):=by
       have h2':(1000000000000000000:Int)<=cell:=by simpa using h2
       show (0:Int)<=cell - 1000000000000000000
       (clear h2 hB2 Ka hc hlt h1 f2 yM uW ln jP m8 h0 jm m1 m0 hn c1 c0 f0 i1 i0 nb hB hR;omega)
      refine ⟨_,rfl,_,_,rfl,rfl,(by show R5 10 18;exact ⟨by decide,by decide,by decide⟩),_,_,rfl,rfl,_,rfl,_,_,_,_,rfl,rfl,Ka,rfl, ?_⟩;have Rv:(upd (upd (upd H r (.lst [.ref b,.int i,.int f,.int (c+1),.int t])) r (.lst [.ref b,.int (i+1),.int f,.int (c+1),.int t])) r (.lst [.ref b,.int (i+1),.int (cell - 10 ^ ((18:Int).toNat)),.int (c+1),.int t])) r=some (.lst [.ref b,.int (i+1),.int (cell - 10 ^ ((18:Int).toNat)),.int (c+1),.int t]):=aq;have k3:Kp r (upd (upd H r (.lst [.ref b,.int i,.int f,.int (c+1),.int t])) r (.lst [.ref b,.int (i+1),.int f,.int (c+1),.int t])) (upd (upd (upd H r (.lst [.ref b,.int i,.int f,.int (c+1),.int t])) r (.lst [.ref b,.int (i+1),.int f,.int (c+1),.int t])) r (.lst [.ref b,.int (i+1),.int (cell - 10 ^ ((18:Int).toNat)),.int (c+1),.int t])):=Kp.set;have hB3:=k3 _ _ hB2 nb;refine ⟨_,rfl,_,_,_,_,rfl,rfl,bw.of Rv,rfl,_,rfl,_,_,rfl,rfl,m0, ?_⟩;refine ⟨_,rfl,_,_,_,_,rfl,rfl,bw.of Rv,rfl,_,rfl,_,_,rfl,rfl,⟨m0,m1⟩,_,rfl,_,_,_,_,rfl,rfl,Rv,rfl, ?_⟩;refine ⟨_,rfl, ?_⟩;refine k _ _ (Wv _) (Wu _) ⟨ns,i+1,_,c+1,t,aq, ?_,nb,by (clear hB3 Rv hbig h2 hB2 Ka hc hlt h1 f2 yM uW ln jP m8 h0 jm m1 m0 hn c1 c0 f0 i1 nb hB hR;omega),by (clear hB3 Rv hbig h2 hB2 Ka hc h1 f2 yM uW ln jP m8 h0 jm m1 m0 hn c1 c0 f0 i1 i0 nb hB hR;omega),Int.ediv_nonneg hbig (by (clear hB3 Rv hbig h2 hB2 Ka hc hlt h1 f2 yM uW ln jP m8 h0 jm m1 hn c1 c0 f0 i1 i0 nb hB hR;omega)),uW,by (clear hB3 Rv hbig h2 hB2 Ka hc hlt h1 f2 yM uW ln jP m8 h0 jm m1 m0 hn c0 f0 i1 i0 nb hB hR;omega)⟩ (((k1.trans k2).trans k3).trans Kp.set);rw [aR nb];exact hB3
   ·have RG:decide (f<2)=false:=decide_eq_false f2
    rw [RG];refine fO ?_;refine ⟨_,rfl,_,_,_,_,rfl,rfl,bw.of m8,rfl,_,_,rfl,rfl,_,rfl, ?_⟩;rw [RG];refine fO ?_;refine ⟨_,rfl,_,_,_,_,rfl,rfl,bw.of m8,rfl,_,rfl,_,_,rfl,rfl,m0, ?_⟩;refine ⟨_,rfl,_,_,_,_,rfl,rfl,bw.of m8,rfl,_,rfl,_,_,rfl,rfl,⟨m0,m1⟩,_,rfl,_,_,_,_,rfl,rfl,m8,rfl, ?_⟩;refine ⟨_,rfl, ?_⟩;refine k _ _ (Wv _) (Wu _) ⟨ns,i,_,c+1,t,aq, ?_,nb,by (clear RG f2 yM uW ln jP m8 h0 jm m1 m0 hn c1 c0 f0 i1 nb hB hR;omega),by (clear RG f2 yM uW ln jP m8 h0 jm m1 m0 hn c1 c0 f0 i0 nb hB hR;omega),Int.ediv_nonneg f0 (by (clear RG f2 yM uW ln jP m8 h0 jm m1 hn c1 c0 f0 i1 i0 nb hB hR;omega)),uW,by (clear RG f2 yM uW ln jP m8 h0 jm m1 m0 hn c0 f0 i1 i0 nb hB hR;omega)⟩ (k1.trans Kp.set);rw [aR nb];exact jP
def Ja (K:PySem.W.Frag):Sp:=fun vs H Q _=>∃(a:Addr) (ns:List Int),vs=[.ref a]/\bw K H a (ns.map V.int)/\ns.length<=63 /\ ∀(r b:Addr) (H':Hp),H r=none->H b=none->bV H' r b 0->Same H H'->Q (.ref r) H'
theorem QW {f:Addr} {fd:FuncData} (F:lq K "_law_bag" "_law_bag" j6 f fd) (Bt:rB mg):cU P w K mg base jC 1 f fd ["script"] (Ja K):=by
 refine F.ok rC (fun vs H Q E h=> ?_) (fun cdv A outer s H vs Q E hr h=> ?_)
 ·obtain ⟨a,ns,rfl,_⟩:=h
  rfl
 ·obtain ⟨a,ns,rfl,hs,hlen,k⟩:=h
  refine ⟨_,(aD (aZ (i:=1) rC.nd rfl (Or.inl rfl) aF)
   (aD (j7 PassesOwn.never rfl (iY (K:=K) rfl (pv 0)) (bA (i:=2) rC.nd rfl (Or.inl rfl))
   (aL (aZ (i:=1) rC.nd rfl (Or.inl rfl) (bI jB (bI gw (bI gw (bI lN (pv 1) aF) (bI jB (pv 2) aF)) aF) aF))))
   (aL (bh (cC (ao (iR (vh (K:=K) rfl) (by rfl) Bt.uI oY (ao (pv 0) aB)) (ao aF (ao aF (ao aF (ao (pv 1) aB)))))))))), ?_⟩
  refine ⟨_,rfl,a,rfl,⟨_,hs⟩,ud (K:=K) (a:=a) (xs:=ns.map V.int) (fun i σ H2=>∃(t:Int) (v:Option V),σ=[some (.ref a),some (.int t),v]/\H2=H)
   ⟨1,none,rfl,rfl⟩ (fun i σ H2 _ ⟨_,_,_,e⟩=>by rw [e];exact hs) ?_ ?_⟩
  ·rintro i y σ H2 hi ⟨t,v,rfl,rfl⟩
   obtain ⟨z,rfl⟩:∃z,y=V.int z:=by
    rw [List.getElem?_map] at hi;cases e:ns[i]? with
    | none=>rw [e] at hi;cases hi
    | some z=>rw [e] at hi;exact ⟨z,(Option.some.inj hi).symm⟩
   refine ⟨_,rfl,_,_,rfl,rfl,.inr ⟨by decide,by decide⟩,_,rfl,_,_,rfl,rfl,(by show (0:Int)<2305843009213693951;decide),_,_,rfl,rfl,_,_,rfl,rfl,_,_,rfl,rfl,(by show (0:Int)<2305843009213693951;decide), ?_⟩;exact ⟨_,_,rfl,rfl⟩
  ·rintro σ H2 ⟨t,v,rfl,rfl⟩
   refine ⟨_,rfl,a,_,rfl,.inl hs,fun b hb=> ?_⟩;refine ⟨_,rfl,(by show 5<=sizeLine;decide),fun r hr'=> ?_⟩;have sm:=aG (o:=HO.lst (ns.map V.int)) hb;exact k r b _ (sm.free hr') hb ⟨ns,0,0,0,t,aq,aG hr' _ _ aq,aA aq hr',by decide,by (clear hr' hb hlen;omega),by decide,by decide,by decide⟩ (sm.trans (aG hr'))
section
variable {D r b:Addr} {te:TE} {Q:VK} {rest:St} {H1:Hp} {n bn:Nat}
end
abbrev aY:=Int×Str×Int
def tD (x:aY):PyData:= .tuple [.int x.1,.str x.2.1,.int x.2.2]
theorem w5 (x:aY):Ln (tD x)=true:=rfl
def VN (x:aY):Prop:=(0<=x.1/\x.1<8)/\(x.2.1 = "load" \/ x.2.1 = "store" \/ x.2.1 = "swap")/\(0<=x.2.2/\x.2.2<20)
theorem Fe {H:Hp} {t:Addr} {x:aY} (h:H t=some (.tup [.int x.1,.str x.2.1,.int x.2.2])):Dat H (.ref t) (tD x):=by
 simp only [tD,Dat];exact ⟨t,_,rfl,h,by simp only [aM,Dat,and_self]⟩
theorem zU {H:Hp} {v:V} {d:PyData} (h:Dat H v d):aM H [v] [d]:=by
 simp only [aM,and_true];exact h
def gZ (H:Hp) (a:Addr) (ws:List aY):Prop:=∃vs,H a=some (.lst vs)/\aM H vs (ws.map tD)
theorem gZ.same {H H':Hp} {a:Addr} {ws:List aY} (h:gZ H a ws) (k:Same H H'):gZ H' a ws:=by
 obtain ⟨vs,e,d⟩:=h;exact ⟨vs,k _ _ e,aM.keep k.tups _ (cg _ w5 ws) d⟩
theorem gZ.kp {H H':Hp} {a r:Addr} {ws:List aY} {ys:List V} (h:gZ H a ws) (hr:H r=some (.lst ys)) (k:Kp r H H') (n:a≠r):gZ H' a ws:=by
 obtain ⟨vs,e,d⟩:=h;exact ⟨vs,k _ _ e n,aM.keep (k.tups hr) _ (cg _ w5 ws) d⟩
theorem qK {H:Hp} {v:V} {x:aY} (h:Dat H v (tD x)):∃t,v = .ref t/\H t=some (.tup [.int x.1,.str x.2.1,.int x.2.2]):=by
 simp only [tD,Dat] at h;obtain ⟨t,vs,e,q,d⟩:=h
 match vs,d with
 | [a,b,c],d=>
   simp only [aM,Dat,and_true] at d;obtain ⟨rfl,rfl,rfl⟩:=d;exact ⟨t,e,q⟩
 | [],d=>simp only [aM] at d
 | [_],d=>simp only [aM,and_false] at d
 | [_,_],d=>simp only [aM,and_false] at d
 | _::_::_::_::_,d=>simp only [aM,and_false] at d
theorem nW {H:Hp} {a:Addr} {ws:List aY} {i:Nat} {x:aY} (h:gZ H a ws) (e:ws[i]? = some x):∃vs t,H a=some (.lst vs)/\vs[i]? = some (.ref t)/\H t=some (.tup [.int x.1,.str x.2.1,.int x.2.2]):=by
 obtain ⟨vs,ha,d⟩:=h;obtain ⟨v,ev,dv⟩:=d.getD (i:=i) (d:=tD x) (by rw [List.getElem?_map,e];rfl);obtain ⟨t,rfl,ht⟩:=qK dv;exact ⟨vs,t,ha,ev,ht⟩
def wF (K:PySem.W.Frag):Sp:=fun vs H Q _=>∃(r b:Addr) (n:Nat),vs=[.ref r]/\bV H r b n/\n<549755813888 /\ ∀(z:Int) (H':Hp),1<=z->z<=8->bV H' r b (n+2)->Kp r H H'->Q (.int z) H'
theorem Ui (n:Int) (h0:0<=n) (h1:n<6):∃z:Int,rm [V.int 2,V.int 3,V.int 4,V.int 2,V.int 3,V.int 1] n=some (V.int z)/\1<=z/\z<=4:=by
 have:n=0\/n=1\/n=2\/n=3\/n=4\/n=5:=by omega
 rcases this with rfl|rfl|rfl|rfl|rfl|rfl
 ·exact ⟨2,rfl,by decide,by decide⟩
 ·exact ⟨3,rfl,by decide,by decide⟩
 ·exact ⟨4,rfl,by decide,by decide⟩
 ·exact ⟨2,rfl,by decide,by decide⟩
 ·exact ⟨3,rfl,by decide,by decide⟩
 ·exact ⟨1,rfl,by decide,by decide⟩
theorem JH {f:Addr} {fd:FuncData} (F:lq K "_law_hands" "_law_hands" gq f fd) (dO:FnAt P w K mg base 2 "_law_draw" ["bag","many"] (pL K)):cU P w K mg base jC 3 f fd ["bag"] (wF K):=by
 refine F.ok Ga (fun vs H Q E h=> ?_) (fun cdv A outer s H vs Q E hr h=> ?_)
 ·obtain ⟨r,b,n,rfl,_⟩:=h
  rfl
 ·obtain ⟨r,b,n,rfl,B0,hn,k⟩:=h
  refine ⟨_,(aD (fj (cG m5 (bO dO (hr.mono (by decide)) (by rfl) (ao (pv 0) (ao aF aB))) aF (bN _)) (aL (bh (bI gw aF (bO dO (hr.mono (by decide)) (by rfl) (ao (pv 0) (ao aF aB)))))) cA)
   (aL (bh (aP (aH (K:=K) rfl) (cC (ao aF (ao aF (ao aF (ao aF (ao aF (ao aF aB))))))) (bO dO (hr.mono (by decide)) (by rfl) (ao (pv 0) (ao aF aB))) (fun _ _=>rfl))))), ?_⟩
  refine ⟨_,rfl,r,b,8,n,rfl,B0,by omega,by decide,by decide,fun z H1 z0 z1 B1 k1=>⟨rfl,_,rfl, ?_⟩⟩;refine qT (fun _=> ?_) (fun _=> ?_)
  ·refine ⟨_,rfl,r,b,4,_,rfl,B1,by (clear z1 z0;omega),by decide,by decide,fun y H2 y0 y1 B2 k2=>⟨_,_,rfl,rfl, ?_⟩⟩
   exact k _ H2 (by (clear y1 z1 z0 hn;omega)) (by (clear y0 z1 z0 hn;omega)) B2 (k1.trans k2)
  ·refine ⟨(by show 6<=sizeLine;decide),fun p hp=> ?_⟩
   have sp:=aG (o:=HO.lst [V.int 2,V.int 3,V.int 4,V.int 2,V.int 3,V.int 1]) hp;obtain ⟨wO,_⟩:=B1.ne hp;refine ⟨_,rfl,r,b,6,_,rfl,B1.keep sp,by (clear wO hp z1 z0;omega),by decide,by decide,fun y H2 y0 y1 B2 k2=> ?_⟩;obtain ⟨v,ev,v0,v1⟩:=Ui y y0 y1;exact ⟨_,_,_,_,rfl,rfl,bw.of (k2 _ _ aq wO),ev,k v H2 v0 (by (clear v0 ev y1 y0 wO hp z1 z0 hn;omega)) B2 ((k1.trans (.of_same sp)).trans k2)⟩
theorem Ot {α:Type} {xs:List α} {n:Int} (h0:0<=n) (h1:n<xs.length):∃v,rm xs n=some v/\xs[n.toNat]? = some v:=by
 obtain ⟨m,rfl⟩:=Int.eq_ofNat_of_zero_le h0;have:m<xs.length:=by (clear h0;omega)
 exact ⟨xs[m],aW (by simp [this]),by simp [this]⟩
def V7 (k:Str):Prop:=k = "load" \/ k = "store" \/ k = "swap"
theorem Rg {H:Hp} {p1 p2 p3:Addr} (h1:H p1=some (.lst [.str "load",.str "store",.str "swap"])) (h2:H p2=some (.lst [.str "load",.str "load",.str "swap",.str "load"])) (h3:H p3=some (.lst [.str "store",.str "swap",.str "load",.str "store"])) (n:Int) (n0:0<=n) (n1:n<3):
 ∃(q:Addr) (ks:List Str),rm [V.ref p1,V.ref p2,V.ref p3] n=some (V.ref q)/\H q=some (.lst (ks.map V.str))/\3<=ks.length/\ks.length<=4/\(∀k∈ks,V7 k)/\(q=p1\/q=p2\/q=p3):=by
 have:n=0\/n=1\/n=2:=by (clear h3 h2 h1;omega)
 rcases this with rfl|rfl|rfl
 ·refine ⟨p1,["load","store","swap"],rfl,h1,by decide,by decide,fun k hk=> ?_,.inl rfl⟩
  simp only [List.mem_cons,List.not_mem_nil,or_false] at hk;exact hk
 ·refine ⟨p2,["load","load","swap","load"],rfl,h2,by decide,by decide,fun k hk=> ?_,.inr (.inl rfl)⟩
  simp only [List.mem_cons,List.not_mem_nil,or_false] at hk;rcases hk with h|h|h|h
  ·exact .inl h
  ·exact .inl h
  ·exact .inr (.inr h)
  ·exact .inl h
 ·refine ⟨p3,["store","swap","load","store"],rfl,h3,by decide,by decide,fun k hk=> ?_,.inr (.inr rfl)⟩
  simp only [List.mem_cons,List.not_mem_nil,or_false] at hk;rcases hk with h|h|h|h
  ·exact .inr (.inl h)
  ·exact .inr (.inr h)
  ·exact .inl h
  ·exact .inr (.inl h)
def o_ (hn:Int) (x:aY):Prop:=(0<=x.1/\x.1<hn)/\V7 x.2.1/\(0<=x.2.2/\x.2.2<20)
def wz (K:PySem.W.Frag):Sp:=fun vs H Q _=>∃(r b:Addr) (n:Nat) (hn cl ld ap:Int),vs=[.ref r,.int hn,.int cl,.int ld,.int ap]/\bV H r b n/\n<549755813888/\1<=hn/\hn<=8/\1<=cl/\cl<=20/\0<=ld/\ld<3 /\
 ∀(t:Addr) (x:aY) (H':Hp),H t=none->H' t=some (.tup [.int x.1,.str x.2.1,.int x.2.2])->o_ hn x->bV H' r b (n+3)->Kp r H H'->Q (.ref t) H'
theorem JB {f:Addr} {fd:FuncData} (F:lq K "_law_touch" "_law_touch" gj f fd) (dO:FnAt P w K mg base 2 "_law_draw" ["bag","many"] (pL K)) (Bt:rB mg):cU P w K mg base jC 3 f fd ["bag","hands","cells","loads","apart"] (wz K):=by
 refine F.ok mj (fun vs H Q E h=> ?_) (fun cdv A outer s H vs Q E hr h=> ?_)
 ·obtain ⟨r,b,n,hn,cl,ld,ap,rfl,_⟩:=h
  rfl
 ·obtain ⟨r,b,n,hn,cl,ld,ap,rfl,B0,nn,hn0,hn1,Oi,cl1,qR,qQ,k⟩:=h
  refine ⟨_,(aD (aZ (i:=5) mj.nd rfl (Or.inl rfl) (aP (aH (K:=K) rfl) (cC (ao (cC (ao dB (ao dB (ao dB aB)))) (ao (cC (ao dB (ao dB (ao dB (ao dB aB))))) (ao (cC (ao dB (ao dB (ao dB (ao dB aB))))) aB)))) (pv 3) (fun _ _=>rfl)))
   (aD (aZ (i:=6) mj.nd rfl (Or.inl rfl) (bO dO (hr.mono (by decide)) (by rfl) (ao (pv 0) (ao (pv 1) aB))))
   (aD (aZ (i:=7) mj.nd rfl (Or.inl rfl) (aP (aH (K:=K) rfl) (pv 5) (bO dO (hr.mono (by decide)) (by rfl) (ao (pv 0) (ao (aQ (aU (K:=K) rfl) (by rfl) Bt.fU dD (ao (pv 5) aB)) aB))) (fun _ _=>rfl)))
   (aL (bh (lM (ao (pv 6) (ao (pv 7) (ao (bI jB (bI gw (pv 4) (bI lN aF (bO dO (hr.mono (by decide)) (by rfl) (ao (pv 0) (ao (pv 2) aB))))) aF) aB))))))))), ?_⟩
  refine ⟨(by show 3<=sizeLine;decide),fun p1 h1=> ?_⟩;have s1:=aG (o:=HO.lst [V.str "load",V.str "store",V.str "swap"]) h1;refine ⟨(by show 4<=sizeLine;decide),fun p2 h2=> ?_⟩;have s2:=aG (o:=HO.lst [V.str "load",V.str "load",V.str "swap",V.str "load"]) h2;refine ⟨(by show 4<=sizeLine;decide),fun p3 h3=> ?_⟩;have s3:=aG (o:=HO.lst [V.str "store",V.str "swap",V.str "load",V.str "store"]) h3;refine ⟨(by show 3<=sizeLine;decide),fun p h4=> ?_⟩;have s4:=aG (o:=HO.lst [V.ref p1,V.ref p2,V.ref p3]) h4;obtain ⟨q,ks,eq,hq,Nr,JX,kok,qq⟩:=Rg (s4 _ _ (s3 _ _ (s2 _ _ aq))) (s4 _ _ (s3 _ _ aq)) (s4 _ _ aq) ld qR qQ;have Mf:=((s1.trans s2).trans s3).trans s4;have B4:=B0.keep Mf;refine ⟨_,rfl,_,_,_,_,rfl,rfl,bw.of aq,eq, ?_⟩
  have Hw:q≠r:=by
   have a1:=(B0.ne h1).1;have a2:=((B0.keep s1).ne h2).1;have a3:=((B0.keep (s1.trans s2)).ne h3).1;rcases qq with rfl|rfl|rfl<;>assumption
  generalize (upd (upd (upd (upd H p1 (HO.lst [V.str "load",V.str "store",V.str "swap"])) p2 (HO.lst [V.str "load",V.str "load",V.str "swap",V.str "load"])) p3 (HO.lst [V.str "store",V.str "swap",V.str "load",V.str "store"])) p (HO.lst [V.ref p1,V.ref p2,V.ref p3]))=H4 at Mf hq B4 ⊢;refine ⟨_,rfl,_,rfl,r,b,hn,n,rfl,B4,by (clear hq Hw qq JX Nr eq h4 h3 h2 h1 qQ qR cl1 Oi hn1 hn0;omega),by (clear hq Hw qq JX Nr eq h4 h3 h2 h1 qQ qR cl1 Oi hn1 nn;omega),by (clear hq Hw qq JX Nr eq h4 h3 h2 h1 qQ qR cl1 Oi hn0 nn;omega),fun z H5 z0 z1 B5 k5=> ?_⟩;have Nz:=k5 _ _ hq Hw;refine ⟨_,rfl,_,rfl,_,rfl,q,_,rfl,.inl (bw.of Nz),r,b,_,_,rfl,B5,by (clear Nz z1 z0 hq Hw qq JX Nr eq h4 h3 h2 h1 qQ qR cl1 Oi hn1 hn0;omega),by rw [List.length_map];(clear Nz z1 z0 hq Hw qq JX eq h4 h3 h2 h1 qQ qR cl1 Oi hn1 hn0 nn;omega),by rw [List.length_map];(clear Nz z1 z0 hq Hw qq Nr eq h4 h3 h2 h1 qQ qR cl1 Oi hn1 hn0 nn;omega),fun y H6 y0 y1 B6 k6=> ?_⟩;rw [List.length_map] at y1;obtain ⟨v,ev,gv⟩:=Ot (xs:=ks.map V.str) y0 (by rw [List.length_map];(clear y0 Nz z1 z0 hq Hw qq JX Nr eq h4 h3 h2 h1 qQ qR cl1 Oi hn1 hn0 nn;omega));rw [List.getElem?_map] at gv;cases ek:ks[y.toNat]? with
  | none=>rw [ek] at gv;cases gv
  | some kd=>
    rw [ek] at gv;cases gv;refine ⟨_,_,_,_,rfl,rfl,bw.of (k6 _ _ Nz Hw),ev, ?_⟩;refine ⟨_,rfl,_,rfl,_,rfl,_,rfl,_,rfl,r,b,_,_,rfl,B6,by (clear ev ek y1 y0 Nz z1 z0 hq Hw qq JX Nr eq h4 h3 h2 h1 qQ qR cl1 Oi hn1 hn0;omega),by (clear ev ek y1 y0 Nz z1 z0 hq Hw qq JX Nr eq h4 h3 h2 h1 qQ qR cl1 hn1 hn0 nn;omega),by (clear ev ek y1 y0 Nz z1 z0 hq Hw qq JX Nr eq h4 h3 h2 h1 qQ qR Oi hn1 hn0 nn;omega),fun u H7 u0 u1 B7 k7=>⟨_,_,rfl,rfl,.inl ⟨by decide,by decide⟩,_,_,rfl,rfl,_,_,rfl,rfl,(by show (0:Int)<20;decide), ?_⟩⟩;refine ⟨(by show 3<=sizeLine;decide),fun t ht=> ?_⟩;have st:=aG (o:=HO.tup [V.int z,V.str kd,V.int ((ap+7*u) % 20)]) ht;have kk:Kp r H H7:=(((Kp.of_same Mf).trans k5).trans k6).trans k7;exact k t (z,kd,(ap+7*u) % 20) _ (Kp.new kk ht B7.at) aq ⟨⟨z0,z1⟩,kok kd (List.mem_of_getElem? ek),Int.emod_nonneg _ (by decide),Int.emod_lt_of_pos _ (by decide)⟩ (B7.keep st) (kk.trans (.of_same st))
def pH (K:PySem.W.Frag):Sp:=fun vs H Q _=>∃(r b:Addr) (n:Nat) (hn:Int),vs=[.ref r,.int hn]/\bV H r b n/\n<274877906944/\1<=hn/\hn<=8 /\
 ∀(a:Addr) (ws:List aY) (H':Hp),H a=none->gZ H' a ws->(∀x∈ws,o_ hn x)->ws.length<=300->bV H' r b (n+1000)->Kp r H H'->Q (.ref a) H'
theorem Q9 (n:Int) (h0:0<=n) (h1:n<4):∃z:Int,rm [V.int 1,V.int 2,V.int 3,V.int 20] n=some (V.int z)/\1<=z/\z<=20:=by
 have:n=0\/n=1\/n=2\/n=3:=by omega
 rcases this with rfl|rfl|rfl|rfl
 ·exact ⟨1,rfl,by decide,by decide⟩
 ·exact ⟨2,rfl,by decide,by decide⟩
 ·exact ⟨3,rfl,by decide,by decide⟩
 ·exact ⟨20,rfl,by decide,by decide⟩
theorem Q_ (n:Int) (h0:0<=n) (h1:n<32):∃z:Int,rm [V.int 31,V.int 101,V.int 301] (n / 28+n / 31)=some (V.int z)/\1<=z/\z<=301:=by
 have:n / 28+n / 31=0\/n / 28+n / 31=1\/n / 28+n / 31=2:=by omega
 rcases this with e|e|e<;>rw [e]
 ·exact ⟨31,rfl,by decide,by decide⟩
 ·exact ⟨101,rfl,by decide,by decide⟩
 ·exact ⟨301,rfl,by decide,by decide⟩
theorem Bx {f:Addr} {fd:FuncData} (F:lq K "_law_touches" "_law_touches" dM f fd) (dO:FnAt P w K mg base 2 "_law_draw" ["bag","many"] (pL K)) (K8:FnAt P w K mg base 3 "_law_touch" ["bag","hands","cells","loads","apart"] (wz K)) (Bt:rB mg):cU P w K mg base jC 4 f fd ["bag","hands"] (pH K):=by
 refine F.ok fP (fun vs H Q E h=> ?_) (fun cdv A outer s H vs Q E hr h=> ?_)
 ·obtain ⟨r,b,n,hn,rfl,_⟩:=h
  rfl
 ·obtain ⟨r,b,n,hn,rfl,B0,nn,hn0,hn1,k⟩:=h
  refine ⟨_,(aD (aZ (i:=2) fP.nd rfl (Or.inl rfl) (bO dO (hr.mono (by decide)) (by rfl) (ao (pv 0) (ao aF aB))))
   (aD (aZ (i:=3) fP.nd rfl (Or.inr rfl) (aP (aH (K:=K) rfl) (cC (ao aF (ao aF (ao aF (ao aF aB))))) (bO dO (hr.mono (by decide)) (by rfl) (ao (pv 0) (ao aF aB))) (fun _ _=>rfl)))
   (aD (aZ (i:=4) fP.nd rfl (Or.inr rfl) (bO dO (hr.mono (by decide)) (by rfl) (ao (pv 0) (ao aF aB))))
   (aD (aZ (i:=5) fP.nd rfl (Or.inr rfl) (bO dO (hr.mono (by decide)) (by rfl) (ao (pv 0) (ao aF aB))))
   (aD (aZ (i:=6) fP.nd rfl (Or.inl rfl) (bO dO (hr.mono (by decide)) (by rfl) (ao (pv 0) (ao (aP (aH (K:=K) rfl) (cC (ao aF (ao aF (ao aF aB)))) (bI gw (bI rG (pv 2) aF) (bI rG (pv 2) aF)) (fun _ _=>rfl)) aB))))
   (aL (bh (fH rfl (N:=["step","bag","hands","cells","loads","apart"]) (own:=["step"]) (caps:=[0,1,3,4,5]) (aX.of (by kernel_rfl)) (dz (by rfl) Bt.d7 (ao (pv 6) aB)) (fun _ _ _ _=>(bA (i:=0) (show List.Nodup (["step","bag","hands","cells","loads","apart"]:List Str) by decide +kernel) rfl (Or.inl rfl))) (fun _ _ _ _=>fG) (fun _ _ _ _=>(bO K8 (hr.mono (by decide)) (by rfl) (ao (pv 1) (ao (pv 2) (ao (pv 3) (ao (pv 4) (ao (pv 5) aB))))))))))))))), ?_⟩
  refine ⟨_,rfl,r,b,32,n,rfl,B0,by (clear hn1 hn0;omega),by decide,by decide,fun sz H1 Bb Ba B1 k1=> ?_⟩;refine ⟨(by show 4<=sizeLine;decide),fun p hp=> ?_⟩;have sp:=aG (o:=HO.lst [V.int 1,V.int 2,V.int 3,V.int 20]) hp;obtain ⟨wO,_⟩:=B1.ne hp;refine ⟨_,rfl,r,b,4,_,rfl,B1.keep sp,by (clear wO hp Ba Bb hn1 hn0;omega),by decide,by decide,fun y H2 y0 y1 B2 k2=> ?_⟩;obtain ⟨cl,ec,c0,c1⟩:=Q9 y y0 y1;refine ⟨_,_,_,_,rfl,rfl,bw.of (k2 _ _ aq wO),ec, ?_⟩;have kk2:Kp r H H2:=(k1.trans (.of_same sp)).trans k2;refine ⟨_,rfl,r,b,3,_,rfl,B2,by (clear c1 c0 ec y1 y0 wO hp Ba Bb hn1 hn0;omega),by decide,by decide,fun ld H3 qR qQ B3 k3=> ?_⟩;refine ⟨_,rfl,r,b,20,_,rfl,B3,by (clear qQ qR c1 c0 ec y1 y0 wO hp Ba Bb hn1 hn0;omega),by decide,by decide,fun ap H4 K1 KZ B4 k4=> ?_⟩;have kk4:=(kk2.trans k3).trans k4;refine ⟨_,rfl,(by show 3<=sizeLine;decide),fun p2 hp2=> ?_⟩;have sp2:=aG (o:=HO.lst [V.int 31,V.int 101,V.int 301]) hp2;obtain ⟨mn,em,m0,m1⟩:=Q_ sz Bb Ba;refine ⟨_,rfl,_,_,rfl,rfl,(by show Lg _ 28;exact ⟨by decide,by decide⟩),_,rfl,_,_,rfl,rfl,(by show Lg _ 31;exact ⟨by decide,by decide⟩),_,_,rfl,rfl,_,_,_,_,rfl,rfl,bw.of aq,em,r,b,mn,_,rfl,B4.keep sp2,by (clear m1 m0 em hp2 KZ K1 qQ qR c1 c0 ec y1 y0 wO hp Ba Bb hn1 hn0;omega),by (clear m1 em hp2 KZ K1 qQ qR c1 c0 ec y1 y0 wO hp Ba Bb hn1 hn0 nn;omega),by (clear m0 em hp2 KZ K1 qQ qR c1 c0 ec y1 y0 wO hp Ba Bb hn1 hn0 nn;omega),fun many H5 y0 y1 B5 k5=> ?_⟩;have kk5:=(kk4.trans (.of_same sp2)).trans k5;refine ⟨_,rfl,many,rfl,by (clear y1 m1 m0 em hp2 KZ K1 qQ qR c1 c0 ec wO hp Ba Bb hn1 hn0 nn;omega),by (clear y0 m0 em hp2 KZ K1 qQ qR c1 c0 ec wO hp Ba Bb hn1 hn0 nn;omega),fun D hD=> ?_⟩;obtain ⟨ml,rfl⟩:=Int.eq_ofNat_of_zero_le y0;rw [show ((ml:Int)).toNat=ml by (clear y1 y0 hD m1 m0 em hp2 KZ K1 qQ qR c1 c0 ec wO hp Ba Bb hn1 hn0 nn;omega)];obtain ⟨Lk,Q8⟩:=B5.ne hD;have mv:∀{H:Hp} {o:HO},Kp r H5 H->Kp r H5 (upd H D o):=fun k c u e m=>by rw [aR (aA e hD)];exact k c u e m
  refine j_ (lo:=0) (n:=ml) (fun i σ H6=>(∃v,σ=[v,some (.ref r),some (.int hn),some (.int cl),some (.int ld),some (.int ap)]) /\ ∃ws:List aY,ws.length=i/\(∀x∈ws,o_ hn x)/\gZ H6 D ws/\Kp r H5 H6/\bV H6 r b (n+1+1+1+1+1+3*i))
   ⟨⟨none,rfl⟩,[],rfl,fun _ z=>absurd z (by simp),⟨[],aq,by simp [aM]⟩,.of_same (aG hD),B5.keep (aG hD)⟩ ?_ ?_
  ·rintro i σ H6 hi ⟨⟨v,rfl⟩,ws,wl,Ls,W,k6,B6⟩
   refine ⟨_,rfl,_,rfl,_,rfl,_,rfl,_,rfl,r,b,_,hn,cl,ld,ap,rfl,B6,by (clear wl Q8 Lk y0 hD m0 em hp2 KZ K1 qQ qR c1 c0 ec wO hp Ba Bb hn1 hn0;omega),hn0,hn1,c0,c1,qR,qQ,fun t x H7 ht0 ht xok B7 k7=> ?_⟩;obtain ⟨vs,hv,dv⟩:=id W;have vl:vs.length=i:=by rw [dv.length,List.length_map,wl]
   have Rp:=k7 _ _ hv Lk;have k8:Kp D H7 (upd H7 D (.lst (vs++[V.ref t]))):=Kp.set;have t8:=k8.tups Rp;refine ⟨vs,Rp,by rw [sizeLine_eq];(clear Rp hv ht ht0 wl Q8 Lk y0 hD m0 em hp2 KZ K1 qQ qR c1 c0 ec wO hp Ba Bb hn1 hn0 nn;omega),⟨_,rfl⟩,ws++[x],by simp [wl],fun y hy=> ?_,⟨_,aq, ?_⟩,mv (k6.trans k7),(B7.mono (by (clear Rp vl hv ht ht0 wl hi Q8 Lk y1 y0 hD m1 m0 em hp2 KZ K1 qQ qR c1 c0 ec wO hp Ba Bb hn1 hn0 nn;omega))).kp k8 Lk.symm Q8.symm⟩
   ·rcases List.mem_append.mp hy with hy|hy
    ·exact Ls y hy
    ·have:y=x:=by simpa using hy
     subst this;exact xok
   ·rw [List.map_append]
    refine aM.append (aM.keep (fun a xs h=>t8 _ _ (B6.tups k7 _ _ h)) _ (cg _ w5 _) dv) (zU (Fe (t8 _ _ ht)))
  ·rintro σ H6 ⟨⟨v,rfl⟩,ws,wl,Ls,W,k6,B6⟩
   exact k D ws H6 (Kp.new kk5 hD B5.at) W Ls (by (clear Q8 Lk y0 hD m0 em hp2 KZ K1 qQ qR c1 c0 ec wO hp Ba Bb hn1 hn0 nn;omega)) (B6.mono (by (clear wl Q8 Lk y0 hD m0 em hp2 KZ K1 qQ qR c1 c0 ec wO hp Ba Bb hn1 hn0 nn;omega))) (kk5.trans k6)
def mt (x y:aY):Bool:=if x.1=y.1 then false else if x.2.2=y.2.2 then (if x.2.1 = "load" then !decide (y.2.1 = "load") else true) else false
def Qk (K:PySem.W.Frag):Sp:=fun vs H Q _=>∃(a b:Addr) (x y:aY),vs=[.ref a,.ref b]/\H a=some (.tup [.int x.1,.str x.2.1,.int x.2.2])/\H b=some (.tup [.int y.1,.str y.2.1,.int y.2.2])/\Q (.bl (mt x y)) H
theorem Nj {K:PySem.W.Frag} {a b:Addr} {x y:aY} {H:Hp} {Q:VK} (ha:H a=some (.tup [.int x.1,.str x.2.1,.int x.2.2])) (hb:H b=some (.tup [.int y.1,.str y.2.1,.int y.2.2])) (k:Q (.bl (mt x y)) H) {D:Ends} (hD:D.rt=Q):
 (Qe (S7 (tOr (Dq (Dr rEq (Dr (wJ K) (su 0) (tC (.int 0))) (Dr (wJ K) (su 1) (tC (.int 0))))) (Dq (Dr Wk (Dr (wJ K) (su 0) (tC (.int 2))) (Dr (wJ K) (su 1) (tC (.int 2)))))) (Lz (tC (.bl false))) Ip)
   (Lz (S5 (Dr Wk (Dr (wJ K) (su 0) (tC (.int 1))) (tC (.str "load"))) (Dr Wk (Dr (wJ K) (su 1) (tC (.int 1))) (tC (.str "load")))))) D [some (.ref a),some (.ref b)] H:=by
 refine ⟨_,rfl,_,_,_,_,rfl,rfl,fY.of ha,rfl,_,rfl,_,_,_,_,rfl,rfl,fY.of hb,rfl,rfl,_,rfl, ?_⟩;refine qT (fun h1=> ?_) (fun h1=> ?_)
 ·have e:x.1=y.1:=by injection (of_decide_eq_true h1)
  have em:mt x y=false:=by unfold mt;rw [if_pos e]
  refine (show D.rt (.bl false) H from ?_);rw [hD,←em];exact k
 ·have e:¬x.1=y.1:=fun z=>h1 (decide_eq_true (by rw [z]))
  refine ⟨_,rfl,_,_,_,_,rfl,rfl,fY.of ha,rfl,_,rfl,_,_,_,_,rfl,rfl,fY.of hb,rfl,rfl,_,rfl, ?_⟩
  by_cases e2:x.2.2=y.2.2
  ·refine qI (by rw [e2]) ?_
   refine ⟨_,rfl,_,_,_,_,rfl,rfl,fY.of ha,rfl,rfl,_,rfl, ?_⟩
   by_cases e3:x.2.1 = "load"
   ·refine qI (by rw [e3]) ?_
    refine ⟨_,rfl,_,_,_,_,rfl,rfl,fY.of hb,rfl,rfl, ?_⟩
    have em:mt x y = !decide (V.str y.2.1=V.str "load"):=by
     unfold mt;rw [if_neg e,if_pos e2,if_pos e3];congr 1;rw [Bool.eq_iff_iff,decide_eq_true_iff,decide_eq_true_iff];exact ⟨fun z=>by rw [z],fun z=>by injection z⟩
    rw [←em,hD];exact k
   ·have ne:¬V.str x.2.1=V.str "load" :=fun z=>e3 (by injection z)
    rw [decide_eq_false ne];refine iK ?_;have em:mt x y=true:=by unfold mt;rw [if_neg e,if_pos e2,if_neg e3]
    rw [←em,hD];exact k
  ·have ne:¬V.int x.2.2=V.int y.2.2:=fun z=>e2 (by injection z)
   rw [decide_eq_false ne];refine iK ?_;have em:mt x y=false:=by unfold mt;rw [if_neg e,if_neg e2]
   refine (show D.rt (.bl false) H from ?_);rw [hD,←em];exact k
theorem qP {f:Addr} {fd:FuncData} (F:lq K "touches_meet" "touches_meet" bZ f fd):cU P w K mg base jC 1 f fd ["one","other"] (Qk K):=by
 refine F.ok qO (fun vs H Q E h=> ?_) (fun cdv A outer s H vs Q E hr h=> ?_)
 ·obtain ⟨a,b,x,y,rfl,_⟩:=h
  rfl
 ·obtain ⟨a,b,x,y,rfl,ha,hb,k⟩:=h
  exact ⟨_,(aD (fj (PW.pt (qy (cG m5 (aP (cO (K:=K) rfl) (pv 0) aF (fun _ _=>rfl)) (aP (cO (K:=K) rfl) (pv 1) aF (fun _ _=>rfl)) (bN _)) (nj (cG kO (aP (cO (K:=K) rfl) (pv 0) aF (fun _ _=>rfl)) (aP (cO (K:=K) rfl) (pv 1) aF (fun _ _=>rfl)) (bN _))))) (aL (bh mZ)) cA)
   (aL (bh (Eb (eX kO (aP (cO (K:=K) rfl) (pv 0) aF (fun _ _=>rfl)) dB (bN _)) (j8 (eX kO (aP (cO (K:=K) rfl) (pv 1) aF (fun _ _=>rfl)) dB (bN _))))))),Nj (K:=K) ha hb k rfl⟩
def Dv (ws:List aY) (i j:Nat):Bool:=match ws[i]?,ws[j]? with |some x,some y=>decide (x.1=y.1)||mt x y|_,_=>false
def iC (ws:List aY) (i j:Nat):Bool:=decide (i<j)&&Dv ws i j
theorem dj {ws:List aY} {i j:Nat} (h:iC ws i j=true):i<j/\j<ws.length:=by
 unfold iC Dv at h;simp only [Bool.and_eq_true,decide_eq_true_eq] at h;refine ⟨h.1, ?_⟩
 by_cases l:j<ws.length
 ·exact l
 ·have e:ws[j]? = none:=by simp;(clear h;omega)
  rw [e] at h;cases ws[i]? <;> simp at h
theorem rP {vs:List V} {i:Nat} {v:V} (h:vs[i]? = some v):rm vs (i:Int)=some v:=aW h
def Bh (K:PySem.W.Frag):Sp:=fun vs H Q _=>∃(a:Addr) (ws:List aY) (i j:Nat),vs=[.ref a,.int i,.int j]/\gZ H a ws/\i<ws.length/\j<ws.length/\Q (.bl (iC ws i j)) H
theorem BL {f:Addr} {fd:FuncData} (F:lq K "is_step" "is_step" eU f fd) (uR:FnAt P w K mg base 1 "touches_meet" ["one","other"] (Qk K)):cU P w K mg base jC 2 f fd ["web","place","later"] (Bh K):=by
 refine F.ok Bp (fun vs H Q E h=> ?_) (fun cdv A outer s H vs Q E hr h=> ?_)
 ·obtain ⟨a,ws,i,j,rfl,_⟩:=h
  rfl
 ·obtain ⟨a,ws,i,j,rfl,W,hi,hj,k⟩:=h
  refine ⟨_,(aD (fj (cG Pa (pv 1) (pv 2) (bN _)) (aL (bh mZ)) cA)
   (aL (bh (Eb (eX m5 (aP (cO (K:=K) rfl) (aP (aH (K:=K) rfl) (pv 0) (pv 1) (fun _ _=>rfl)) aF (fun _ _=>rfl)) (aP (cO (K:=K) rfl) (aP (aH (K:=K) rfl) (pv 0) (pv 2) (fun _ _=>rfl)) aF (fun _ _=>rfl)) (bN _)) (j8 (bO uR (hr.mono (by decide)) (by rfl) (ao (aP (aH (K:=K) rfl) (pv 0) (pv 1) (fun _ _=>rfl)) (ao (aP (aH (K:=K) rfl) (pv 0) (pv 2) (fun _ _=>rfl)) aB)))))))), ?_⟩
  refine ⟨_,rfl,_,rfl,_,_,rfl,rfl,_,rfl, ?_⟩
  by_cases l:i<j
  ·rw [decide_eq_false (show ¬(j:Int)<=(i:Int) by omega)]
   refine fO ?_;obtain ⟨x,ex⟩:∃x,ws[i]? = some x:=⟨ws[i],by simp [hi]⟩;obtain ⟨y,ey⟩:∃y,ws[j]? = some y:=⟨ws[j],by simp [hj]⟩;obtain ⟨vs,t1,ha,e1,ht1⟩:=nW W ex;obtain ⟨vs',t2,ha',e2,ht2⟩:=nW W ey;have ev:vs=vs':=by rw [ha] at ha';injection ha' with q;injection q
   subst ev;have es:iC ws i j=(decide (x.1=y.1)||mt x y):=by unfold iC Dv;rw [ex,ey,decide_eq_true l,Bool.true_and]
   refine ⟨_,rfl,_,rfl,_,_,_,_,rfl,rfl,bw.of ha,rP e1,_,_,_,_,rfl,rfl,fY.of ht1,rfl,_,rfl,_,rfl,_,_,_,_,rfl,rfl,bw.of ha,rP e2,_,_,_,_,rfl,rfl,fY.of ht2,rfl,rfl,_,rfl, ?_⟩
   by_cases q:x.1=y.1
   ·rw [show decide (V.int x.1=V.int y.1)=true by simp [q]]
    refine iK ?_;rw [decide_eq_true q,Bool.true_or] at es;rw [←es];exact k
   ·rw [show decide (V.int x.1=V.int y.1)=false by simp [q]]
    refine fO ?_;rw [decide_eq_false q,Bool.false_or] at es;exact ⟨_,rfl,_,rfl,_,_,_,_,rfl,rfl,bw.of ha,rP e1,_,rfl,_,rfl,_,_,_,_,rfl,rfl,bw.of ha,rP e2,t1,t2,x,y,rfl,ht1,ht2,by rw [←es];exact k⟩
  ·rw [decide_eq_true (show (j:Int)<=(i:Int) by omega)]
   refine iK ?_;have es:iC ws i j=false:=by unfold iC;rw [decide_eq_false l,Bool.false_and]
   rw [←es];exact k
inductive mO (ws:List aY) (j:Nat):Nat->Prop
 | one {i:Nat} (h:iC ws i j=true):mO ws j i
 | more {i k:Nat} (h:iC ws i k=true) (r:mO ws j k):mO ws j i
theorem mO.lt {ws:List aY} {i j:Nat} (r:mO ws j i):i<j/\j<ws.length:=by
 induction r with
 | one h=>exact dj h
 | more h _ ih=>exact ⟨Nat.lt_trans (dj h).1 ih.1,ih.2⟩
abbrev Nt:=Int×Int×Int×Int
def nD (x:Nt):PyData:= .tuple [.int x.1,.int x.2.1,.int x.2.2.1,.int x.2.2.2]
def nV (x:Nt):List V:=[.int x.1,.int x.2.1,.int x.2.2.1,.int x.2.2.2]
theorem iZ (x:Nt):Ln (nD x)=true:=rfl
theorem Cz {H:Hp} {t:Addr} {x:Nt} (h:H t=some (.tup (nV x))):Dat H (.ref t) (nD x):=by
 simp only [nD,Dat];exact ⟨t,_,rfl,h,by simp only [nV,aM,Dat,and_self]⟩
theorem um {H:Hp} {v:V} {x:Nt} (h:Dat H v (nD x)):∃t,v = .ref t/\H t=some (.tup (nV x)):=by
 simp only [nD,Dat] at h;obtain ⟨t,vs,e,q,d⟩:=h
 match vs,d with
 | [a,b,c,z],d=>
   simp only [aM,Dat,and_true] at d;obtain ⟨rfl,rfl,rfl,rfl⟩:=d;exact ⟨t,e,q⟩
 | [],d=>simp only [aM] at d
 | [_],d=>simp only [aM,and_false] at d
 | [_,_],d=>simp only [aM,and_false] at d
 | [_,_,_],d=>simp only [aM,and_false] at d
 | _::_::_::_::_::_,d=>simp only [aM,and_false] at d
def gD (H:Hp) (a:Addr) (ns:List Nt):Prop:=∃vs,H a=some (.lst vs)/\aM H vs (ns.map nD)
theorem gD.kp {H H':Hp} {a r:Addr} {ns:List Nt} (h:gD H a ns) (hr:∀a xs,H a=some (HO.tup xs)->H' a=some (HO.tup xs)) (k:Kp r H H') (n:a≠r):gD H' a ns:=by
 obtain ⟨vs,e,d⟩:=h;exact ⟨vs,k _ _ e n,aM.keep hr _ (cg _ iZ ns) d⟩
theorem gD.same {H H':Hp} {a:Addr} {ns:List Nt} (h:gD H a ns) (k:Same H H'):gD H' a ns:=by
 obtain ⟨vs,e,d⟩:=h;exact ⟨vs,k _ _ e,aM.keep k.tups _ (cg _ iZ ns) d⟩
theorem wN {H:Hp} {vs:List V} {ns:List Nt} {i:Nat} {v:V} (d:aM H vs (ns.map nD)) (e:vs[i]? = some v):∃x t,ns[i]? = some x/\v = .ref t/\H t=some (.tup (nV x)):=by
 obtain ⟨q,eq,dq⟩:=d.get e;rw [List.getElem?_map] at eq;cases ex:ns[i]? with
 | none=>rw [ex] at eq;cases eq
 | some x=>
   rw [ex] at eq;cases eq;obtain ⟨t,rfl,ht⟩:=um dq;exact ⟨x,t,rfl,rfl,ht⟩
def gI (cs:List Int) (h:Int):Int:=(cs[h.toNat]?).getD 0
theorem uL {cs:List Int} {h:Int} (h0:0<=h) (h1:h<cs.length):rm (cs.map V.int) h=some (.int (gI cs h)):=by
 obtain ⟨m,rfl⟩:=Int.eq_ofNat_of_zero_le h0;have:m<cs.length:=by (clear h0;omega)
 refine aW ?_;simp [gI,this]
theorem i_ {cs:List Int} {i:Nat} {c:Int} (h:cs[i]? = some c):gI cs i=c:=by simp [gI,h]
theorem rM {n:Nat} {i:Int} (h0:0<=i) (h1:i<n):J3 n i=some i.toNat:=by unfold J3;rw [if_pos h0,if_pos h1]
theorem xg {cs:List Int} {h k v:Int} (h0:0<=h) (h1:h<cs.length) (k0:0<=k):gI (cs.set h.toNat v) k=if k=h then v else gI cs k:=by
 unfold gI;rw [List.getElem?_set]
 by_cases e:k=h
 ·subst e
  have:k.toNat<cs.length:=by (clear h0;omega)
  simp [this]
 ·have:¬h.toNat=k.toNat:=by (clear h1;omega)
  simp [e,this]
def K3 (cs:List Int) (x:Nt):Prop:=(0<=x.1/\x.1<cs.length)/\(0<=x.2.1/\x.2.1<gI cs x.1)/\(0<=x.2.2.1/\x.2.2.1<cs.length)/\(0<=x.2.2.2/\x.2.2.2<gI cs x.2.2.1)/\x.1≠x.2.2.1
def Ld (cs:List Int):Prop:=cs.length<=8 /\ ∀c∈cs,0<=c/\c<=300
theorem Ld.gI {cs:List Int} (h:Ld cs) (i:Int):0<=gI cs i/\gI cs i<=300:=by
 unfold Prf.gI;cases e:cs[i.toNat]? with
 | none=>simp
 | some c=>exact h.2 c (List.mem_of_getElem? e)
abbrev Lq:=Int×Int
def pD (x:Lq):PyData:= .tuple [.int x.1,.int x.2]
theorem Cp (x:Lq):Ln (pD x)=true:=rfl
theorem Od {H:Hp} {t:Addr} {x:Lq} (h:H t=some (.tup [.int x.1,.int x.2])):Dat H (.ref t) (pD x):=by
 simp only [pD,Dat];exact ⟨t,_,rfl,h,by simp only [aM,Dat,and_self]⟩
theorem zV {H:Hp} {v:V} {x:Lq} (h:Dat H v (pD x)):∃t,v = .ref t/\H t=some (.tup [.int x.1,.int x.2]):=by
 simp only [pD,Dat] at h;obtain ⟨t,vs,e,q,d⟩:=h
 match vs,d with
 | [a,b],d=>
   simp only [aM,Dat,and_true] at d;obtain ⟨rfl,rfl⟩:=d;exact ⟨t,e,q⟩
 | [],d=>simp only [aM] at d
 | [_],d=>simp only [aM,and_false] at d
 | _::_::_::_,d=>simp only [aM,and_false] at d
def kY (H:Hp) (a:Addr) (ps:List Lq):Prop:=∃vs,H a=some (.lst vs)/\aM H vs (ps.map pD)
theorem kY.same {H H':Hp} {a:Addr} {ws:List Lq} (h:kY H a ws) (k:Same H H'):kY H' a ws:=by
 obtain ⟨vs,e,d⟩:=h;exact ⟨vs,k _ _ e,aM.keep k.tups _ (cg _ Cp ws) d⟩
theorem kY.kp {H H':Hp} {a r:Addr} {ws:List Lq} {ys:List V} (h:kY H a ws) (hr:H r=some (.lst ys)) (k:Kp r H H') (n:a≠r):kY H' a ws:=by
 obtain ⟨vs,e,d⟩:=h;exact ⟨vs,k _ _ e n,aM.keep (k.tups hr) _ (cg _ Cp ws) d⟩
def cnt (ws:List aY) (h:Int):Int:=((ws.filter fun x=>decide (x.1=h)).length:Int)
theorem eN (ws:List aY) (x:aY) (h:Int):cnt (ws++[x]) h=if h=x.1 then cnt ws h+1 else cnt ws h:=by
 unfold cnt;rw [List.filter_append,List.length_append]
 by_cases e:h=x.1
 ·subst e;simp
 ·rw [if_neg e]
  have:¬x.1=h:=fun z=>e z.symm;simp [this]
def hnd (ws:List aY) (i:Nat):Int:=match ws[i]? with |some x=>x.1|none=>0
theorem dN {ws:List aY} {i:Nat} {x:aY} (h:ws[i]? = some x):hnd ws i=x.1:=by unfold hnd;rw [h]
def nm (ws:List aY):List Lq:=(List.range ws.length).map fun i=>(hnd ws i,cnt (ws.take i) (hnd ws i))
theorem Nf (ws:List aY) (x:aY):nm (ws++[x])=nm ws++[(x.1,cnt ws x.1)]:=by
 unfold nm;rw [List.length_append,List.length_singleton,List.range_succ,List.map_append];congr 1
 ·refine List.map_congr_left fun i hi=> ?_
  have hi':i<ws.length:=by simpa using hi
  unfold hnd;rw [List.getElem?_append_left hi',List.take_append_of_le_length (by omega)]
 ·simp [hnd]
theorem Gw (ws:List aY):(nm ws).length=ws.length:=by unfold nm;simp
theorem Jh {ws:List aY} {j m:Nat} (r:mO ws j m):∃i,iC ws i j=true/\(m=i\/mO ws i m):=by
 induction r with
 | one h=>exact ⟨_,h,.inl rfl⟩
 | more h _ ih=>
   obtain ⟨i,st,q⟩:=ih;refine ⟨i,st,.inr ?_⟩;rcases q with rfl|q
   ·exact .one h
   ·exact .more h q
theorem Jg {ws:List aY} {i j m:Nat} (st:iC ws i j=true) (r:mO ws i m):mO ws j m:=by
 induction r with
 | one h=>exact .more h (.one st)
 | more h _ ih=>exact .more h ih
theorem fD (ws:List aY) (h:Int) (i:Nat):∀d:Nat,cnt (ws.take i) h<=cnt (ws.take (i+d)) h
 | 0=>Int.le_refl _
 | d+1=>by
   have ih:=fD ws h i d;have e:ws.take (i+(d+1))=ws.take (i+d)++(ws[i+d]?).toList:=by rw [←Nat.add_assoc,List.take_add_one]
   rw [e];cases ws[i+d]? with
   | none=>simpa using ih
   | some x=>
     show _<=cnt (ws.take (i+d)++[x]) h;rw [eN];split<;>(clear e;omega)
theorem gB (ws:List aY) (h:Int):0<=cnt ws h:=by unfold cnt;omega
theorem BZ {ws:List aY} {i:Nat} {x:aY} (e:ws[i]? = some x):(nm ws)[i]? = some (x.1,cnt (ws.take i) x.1):=by
 have:i<ws.length:=(List.getElem?_eq_some_iff.mp e).1;unfold nm;rw [List.getElem?_map,List.getElem?_range this];simp only [Option.map_some,dN e]
theorem Bu {H:Hp} {a:Addr} {ps:List Lq} {i:Nat} {x:Lq} (h:kY H a ps) (e:ps[i]? = some x):∃vs t,H a=some (.lst vs)/\vs[i]? = some (.ref t)/\H t=some (.tup [.int x.1,.int x.2]):=by
 obtain ⟨vs,ha,d⟩:=h;obtain ⟨v,ev,dv⟩:=d.getD (i:=i) (d:=pD x) (by rw [List.getElem?_map,e];rfl);obtain ⟨t,rfl,ht⟩:=zV dv;exact ⟨vs,t,ha,ev,ht⟩
def mx (a b:Int):Int:=if b>a then b else a
theorem JT {c a b:Int}:c<mx a b↔c<a\/c<b:=by unfold mx;split<;>omega
theorem Ug {a b:Int} (h:0<=a):0<=mx a b:=by unfold mx;split<;>omega
def wD (K:PySem.W.Frag):Sp:=fun vs H Q _=>∃(t d:Addr) (h k:Int) (g:Int->Int),vs=[.ref t,.ref d]/\H t=some (.tup [.int h,.int k])/\iz H d g/\Q (.bl (decide (k<g h))) H
theorem JG {f:Addr} {fd:FuncData} (F:lq K "is_known" "is_known" dI f fd):cU P w K mg base jC 1 f fd ["name","known"] (wD K):=by
 refine F.ok yw (fun vs H Q E h=> ?_) (fun cdv A outer s H vs Q E hr h=> ?_)
 ·obtain ⟨t,d,h,k,g,rfl,_⟩:=h
  rfl
 ·obtain ⟨t,d,h,k,g,rfl,ht,kd,q⟩:=h
  have hu:=Et hr;refine ⟨_,(aL (bh (eX vI (aP (cO (K:=K) rfl) (pv 0) aF (fun _ _=>rfl)) (tG hu (pv 1) (aP (cO (K:=K) rfl) (pv 0) aF (fun _ _=>rfl)) aF ⟨rfl,rfl,rfl,rfl⟩) (bN _)))), ?_⟩;obtain ⟨kvs,hd,_,val⟩:=kd.get;refine ⟨_,rfl,_,_,_,_,rfl,rfl,fY.of ht,rfl,_,rfl,d,rfl,.inl ⟨_,.inl hd⟩,_,rfl,_,_,_,_,rfl,rfl,fY.of ht,rfl,_,uT.k (k:=Sum.inl h) hd, ?_⟩;rw [val h];exact ⟨_,_,rfl,rfl,q⟩
def wC (K:PySem.W.Frag):Sp:=fun vs H Q _=>∃(d m:Addr) (g1 g2:Int->Int),vs=[.ref d,.ref m]/\iz H d g1/\iz H m g2/\d≠m /\ ∀H',iz H' d (fun h=>mx (g1 h) (g2 h))->Kp d H H'->Q .non H'
def Sy (hs:List Int) (g1 g2:Int->Int):Int->Int:=fun h=>if h∈hs then mx (g1 h) (g2 h) else g1 h
theorem JF {f:Addr} {fd:FuncData} (F:lq K "learn" "learn" iG f fd) (Bt:rB mg):cU P w K mg base jC 1 f fd ["known","more"] (wC K):=by
 refine F.ok yt (fun vs H Q E h=> ?_) (fun cdv A outer s H vs Q E hr h=> ?_)
 ·obtain ⟨d,m,g1,g2,rfl,_⟩:=h
  rfl
 ·obtain ⟨d,m,g1,g2,rfl,k1,k2,ne,q⟩:=h
  have hu:=Et hr
  refine ⟨_,(aL (Mq (j7 PassesOwn.never rfl (Mx (pv 1)) (bA (i:=2) yt.nd rfl (Or.inl rfl))
   (aL (Ms hu (pv 0) (pv 2) (aQ (vU rfl) (by rfl) Bt.PK Ky (ao (tG hu (pv 0) (pv 2) aF ⟨rfl,rfl,rfl,rfl⟩) (ao (MK hu (pv 1) (pv 2) (fun _ _=>rfl)) aB))) rfl))))), ?_⟩
  obtain ⟨hs,hm,nd,rg,zz⟩:=k2.ex;refine ⟨_,rfl,m,_,rfl,hm,fun o=> ?_⟩;have kf:Kp m H (upd H m (.lA o (.dK (u9 hs g2)))):=Kp.set
  refine Kg (fun i σ H2=>∃v:Option V,σ=[some (.ref d),some (.ref m),v]/\iz H2 d (Sy (hs.take i) g1 g2)/\H2 m=some (.lA o (.dK (u9 hs g2)))/\Kp d (upd H m (.lA o (.dK (u9 hs g2)))) H2)
   ⟨none,rfl,(k1.kp kf ne).ext (fun h=>by simp [Sy]),aq,Kp.refl _ _⟩ (fun i σ H2 _ ⟨_,_,_,e,_⟩=>e) ?_ ?_
  ·rintro i kk v σ H2 hi ⟨x,rfl,kd,fz,kp⟩
   have hi':(u9 hs g2)[i]? = some (kk,v):=hi;unfold u9 at hi';rw [List.getElem?_map] at hi';cases eh:hs[i]? with
   | none=>rw [eh] at hi';cases hi'
   | some h=>
     rw [eh] at hi';cases hi';have hm':h∈hs:=List.mem_of_getElem? eh;obtain ⟨h0,h1⟩:=rg h hm';have tk:hs.take (i+1)=hs.take i++[h]:=by rw [List.take_add_one,eh];rfl
     have nin:h∉hs.take i:=by
      intro z;have:(hs.take i++[h]).Nodup:=by rw [←tk];exact nd.sublist (List.take_sublist _ _)
      rw [List.nodup_append] at this;exact this.2.2 h z h (by simp) rfl
     obtain ⟨kvs,hd2,_,val⟩:=kd.get;have gi:Sy (hs.take i) g1 g2 h=g1 h:=by unfold Sy;rw [if_neg nin]
     refine ⟨_,rfl,d,rfl,.inl ⟨_,.inl hd2⟩,_,rfl,_,uT.k (k:=Sum.inl h) hd2, ?_⟩;rw [val h,gi];have gm:uT H2 m (kV (Sum.inl h)) (some (V.int (g2 h))):= .inl ⟨_,Sum.inl h,.inr ⟨o,fz⟩,rfl,by rw [wW,if_pos hm']⟩;refine ⟨_,rfl,_,rfl,m,_,rfl,gm,_,_,rfl, ?_⟩;obtain ⟨kvs',hd3,hz,put⟩:=kd.put (v:=mx (g1 h) (g2 h)) h0 h1 (Ug (k1.nn h));refine ⟨_,rfl,_,rfl,d,_,rfl,Lb.k (k:=Sum.inl h) hd3 hz, ?_⟩;refine ⟨_,rfl,(put _ aq).ext fun x=> ?_,by rw [aR ne.symm];exact fz,kp.trans Kp.set⟩;unfold zM Sy;rw [tk]
     by_cases e:x=h
     ·subst e;simp
     ·simp [e]
  ·rintro σ H2 ⟨x,rfl,kd,fz,kp⟩
   refine ⟨_,⟨m,_,o,_,hm,fz,rfl⟩, ?_⟩;have kt:Kp m H2 (upd H2 m (.dK (u9 hs g2))):=Kp.set;refine q _ ((kd.kp kt ne).ext fun h=> ?_) fun b u e nb=> ?_
   ·have el:hs.take (u9 hs g2).length=hs:=by rw [u9,List.length_map,List.take_length]
    rw [el];unfold Sy
    by_cases hh:h∈hs
    ·rw [if_pos hh]
    ·rw [if_neg hh,zz h hh]
     have:=k1.nn h;unfold mx;rw [if_neg (by (clear hh el fz hm hu ne;omega))]
   ·by_cases eb:b=m
    ·subst eb
     rw [hm] at e;rw [aq];exact e
    ·rw [aR eb]
     exact kp _ _ (by rw [aR eb];exact e) nb
def K4 (ws:List aY) (g:Int->Int) (R:Nat->Prop):Prop:=∀m x,ws[m]? = some x->(cnt (ws.take m) x.1<g x.1↔R m)
def Df (ws:List aY) (j:Nat) (g:Int->Int):Prop:=K4 ws g (fun m=>m=j\/mO ws j m) /\ ∀h,g h<=cnt (ws.take (j+1)) h
def Dk (ws:List aY) (j lo m:Nat):Prop:=∃x,lo<=x/\iC ws x j=true/\(m=x\/mO ws x m)
def Bare (ws:List aY) (j e:Nat):Prop:=iC ws e j=true /\ ¬Dk ws j (e+1) e
noncomputable instance (ws:List aY) (j e:Nat):Decidable (Bare ws j e):=Classical.propDecidable _
theorem Gb {ws:List aY} {a b c:Nat} (h:mO ws b a) (g:mO ws c b):mO ws c a:=by
 induction h with
 | one h=>exact .more h g
 | more h _ ih=>exact .more h ih
theorem K4.iff {ws:List aY} {g:Int->Int} {R S:Nat->Prop} (h:K4 ws g R) (e:∀m,R m↔S m):K4 ws g S:=fun m x ex=>(h m x ex).trans (e m)
theorem zX {ws:List aY} {j e m:Nat} (h:¬iC ws e j=true):Dk ws j (e+1) m↔Dk ws j e m:=by
 constructor
 ·rintro ⟨x,a,b,c⟩
  exact ⟨x,by omega,b,c⟩
 ·rintro ⟨x,a,b,c⟩
  have:x≠e:=fun z=>h (z▸b);exact ⟨x,by omega,b,c⟩
theorem G8 {ws:List aY} {j e m:Nat} (k:Dk ws j (e+1) e):Dk ws j (e+1) m↔Dk ws j e m:=by
 constructor
 ·rintro ⟨x,a,b,c⟩
  exact ⟨x,by omega,b,c⟩
 ·rintro ⟨x,a,b,c⟩
  by_cases z:x=e
  ·subst z
   obtain ⟨y,y1,y2,y3⟩:=k;have r:mO ws y x:=y3.resolve_left (by (clear y3 y2 a c b;omega));rcases c with c|c
   ·subst c;exact ⟨y,y1,y2,.inr r⟩
   ·exact ⟨y,y1,y2,.inr (Gb c r)⟩
  ·exact ⟨x,by omega,b,c⟩
theorem Fi {ws:List aY} {j e m:Nat} (h:iC ws e j=true):(Dk ws j (e+1) m\/(m=e\/mO ws e m))↔Dk ws j e m:=by
 constructor
 ·rintro (⟨x,a,b,c⟩|c)
  ·exact ⟨x,by omega,b,c⟩
  ·exact ⟨e,Nat.le_refl _,h,c⟩
 ·rintro ⟨x,a,b,c⟩
  by_cases z:x=e
  ·subst z;exact .inr c
  ·exact .inl ⟨x,by (clear c b h;omega),b,c⟩
theorem Np {ws:List aY} {g g':Int->Int} {R S:Nat->Prop} (h:K4 ws g R) (h':K4 ws g' S):K4 ws (fun x=>mx (g x) (g' x)) fun m=>R m\/S m:=fun m x ex=>by
 show cnt _ _<mx _ _↔_;rw [JT,h m x ex,h' m x ex]
theorem Fg {ws:List aY} {j m:Nat}:Dk ws j 0 m↔mO ws j m:=by
 constructor
 ·rintro ⟨x,_,b,c|c⟩
  ·subst c;exact .one b
  ·exact Jg b c
 ·intro r
  obtain ⟨i,s,q⟩:=Jh r;exact ⟨i,Nat.zero_le _,s,q⟩
theorem Nm {ws:List aY} {j:Nat} {y:aY} {g:Int->Int} (h:K4 ws g (mO ws j)) (bd:∀h,g h<=cnt (ws.take j) h) (ey:ws[j]? = some y):Df ws j (fun x=>mx (g x) (if x=y.1 then cnt (ws.take j) y.1+1 else 0)):=by
 have tk:ws.take (j+1)=ws.take j++[y]:=by rw [List.take_add_one,ey];rfl
 refine ⟨?_,fun h=> ?_⟩
 rotate_left
 ·have b1:=bd h
  have b2:=gB (ws.take j) h;rw [tk,eN];show mx _ _<=_;unfold mx
  by_cases e:h=y.1
  ·rw [if_pos e,if_pos e];subst e;split<;>(clear b2 tk ey;omega)
  ·rw [if_neg e,if_neg e];split<;>(clear e tk ey;omega)
 intro m x ex;show cnt _ _<mx _ _↔_;rw [JT,h m x ex]
 by_cases e:x.1=y.1
 ·rw [if_pos e]
  constructor
  ·rintro (z|z)
   ·exact .inr z
   ·rw [e] at z
    by_cases l:m<=j
    ·by_cases em:m=j
     ·exact .inl em
     ·refine .inr (.one ?_)
      unfold iC Dv;rw [ex,ey,decide_eq_true (show m<j by (clear z e ex tk ey;omega))];simp [e]
    ·have:=fD ws y.1 (j+1) (m - (j+1))
     rw [show j+1+(m - (j+1))=m by (clear this z e ex tk ey;omega)] at this;have t:ws.take (j+1)=ws.take j++[y]:=by rw [List.take_add_one,ey];rfl
     rw [t,eN,if_pos rfl] at this;omega
  ·rintro (z|z)
   ·subst z
    rw [e];exact .inr (by (clear tk ey e ex;omega))
   ·exact .inl z
 ·rw [if_neg e]
  constructor
  ·rintro (z|z)
   ·exact .inr z
   ·have:=gB (ws.take m) x.1;(clear e ex tk ey;omega)
  ·rintro (z|z)
   ·subst z
    rw [ex] at ey;cases ey;exact absurd rfl e
   ·exact .inl z
def jM (H:Hp) (kn:Addr) (ws:List aY) (n:Nat):Prop:=∃rs:List Addr,H kn=some (.lst (rs.map V.ref))/\rs.length=n /\ ∀j r,rs[j]? = some r -> ∃g,iz H r g/\Df ws j g
theorem jM.same {H H':Hp} {kn:Addr} {ws:List aY} {n:Nat} (h:jM H kn ws n) (k:Same H H'):jM H' kn ws n:=by
 obtain ⟨rs,e,l,q⟩:=h;refine ⟨rs,k _ _ e,l,fun j r hj=> ?_⟩;obtain ⟨g,a,b⟩:=q j r hj;exact ⟨g,a.same k,b⟩
theorem jM.kp {H H':Hp} {kn r:Addr} {ys:List V} {ws:List aY} {n:Nat} (h:jM H kn ws n) (k:Kp r H H') (hr:H r=some (.lst ys)) (ne:kn≠r):jM H' kn ws n:=by
 obtain ⟨rs,e,l,q⟩:=h;refine ⟨rs,k _ _ e ne,l,fun j r' hj=> ?_⟩;obtain ⟨g,a,b⟩:=q j r' hj;obtain ⟨hs,e',_⟩:=a.ex;exact ⟨g,a.kp k (qF e' hr (by intro z;cases z)),b⟩
noncomputable def bB (ws:List aY) (j i:Nat):List Nat:=((List.range i).map fun t=>j - 1 - t).filter fun e=>decide (Bare ws j e)
theorem uJ (ws:List aY) (j i:Nat):bB ws j (i+1)=bB ws j i++(if Bare ws j (j - 1 - i) then [j - 1 - i] else []):=by
 unfold bB;rw [List.range_succ,List.map_append,List.filter_append];congr 1
 by_cases h:Bare ws j (j - 1 - i)<;>simp [h]
theorem jK (ws:List aY) (j i:Nat):(bB ws j i).length<=i:=by
 unfold bB;exact Nat.le_trans (List.length_filter_le _ _) (by simp)
def bx (l:List Nat):List V:=l.map fun n:Nat=>V.int (n:Int)
def Bl (K:PySem.W.Frag):Sp:=fun vs H Q _=>∃(a nd kn:Addr) (ws:List aY) (j:Nat),vs=[.ref a,.ref nd,.ref kn,.int j]/\gZ H a ws/\kY H nd (nm ws)/\jM H kn ws j/\j<ws.length/\ws.length<=300/\(∀x∈ws,0<=x.1/\x.1<8) /\
 ∀(p b d:Addr) (g:Int->Int) (H':Hp),H' p=some (.tup [.ref b,.ref d])->H' b=some (.lst (bx (bB ws j j)))->iz H' d g->Df ws j g->H b=none->H d=none->H p=none->Same H H'->Q (.ref p) H'
theorem J0 {H:Hp} {d:Addr} (h:H d=some (.dK [])):iz H d fun _=>0:=⟨⟨[],h,List.nodup_nil,fun _ z=>absurd z (by simp),fun _ _=>rfl⟩,fun _=>Int.le_refl _⟩
theorem M8 {f:Addr} {fd:FuncData} (F:lq K "bare_steps" "bare_steps" cT f fd) (Hv:FnAt P w K mg base 2 "is_step" ["web","place","later"] (Bh K)) (Dh:FnAt P w K mg base 1 "is_known" ["name","known"] (wD K)) (Fw:FnAt P w K mg base 1 "learn" ["known","more"] (wC K)) (Bt:rB mg):cU P w K mg base jC 3 f fd ["web","named","knowns","place"] (Bl K):=by
 refine F.ok gQ (fun vs H Q E h=> ?_) (fun cdv A outer s H vs Q E hr h=> ?_)
 ·obtain ⟨a,nd,kn,ws,j,rfl,_⟩:=h
  rfl
 ·obtain ⟨a,nd,kn,ws,j,rfl,W,N,Kn,jl,wl,Sg,k⟩:=h
  have hu:=Et hr
  refine ⟨_,(aD (aZ (i:=4) gQ.nd rfl (Or.inl rfl) (cC aB))
   (aD (aZ (i:=5) gQ.nd rfl (Or.inl rfl) yL)
   (aD (j7 PassesOwn.never rfl (vH (by rfl) Bt.d7 (ao (bI Bw (pv 3) aF) (ao (yH rY aF) (ao (yH rY aF) aB)))) (bA (i:=6) gQ.nd rfl (Or.inl rfl))
   (aL (fj (PW.pt (Bs (gJ (bO Hv (hr.mono (by decide)) (by rfl) (ao (pv 0) (ao (pv 6) (ao (pv 3) aB))))) (wK (jz (gJ (bO Dh (hr.mono (by decide)) (by rfl) (ao (aP (aH (K:=K) rfl) (pv 1) (pv 6) (fun _ _=>rfl)) (ao (pv 5) aB)))))))) (aD (dg (cW (K:=K) rfl (pv 4) (ao (pv 6) aB)))
   (aL (dg (bO Fw (hr.mono (by decide)) (by rfl) (ao (pv 5) (ao (aP (aH (K:=K) rfl) (pv 2) (pv 6) (fun _ _=>rfl)) aB)))))) cA)))
   (aD (dg (bO Fw (hr.mono (by decide)) (by rfl) (ao (pv 5) (ao (MJ (Jp (aP (cO (K:=K) rfl) (aP (aH (K:=K) rfl) (pv 1) (pv 3) (fun _ _=>rfl)) aF (fun _ _=>rfl)) (bI gw (aP (cO (K:=K) rfl) (aP (aH (K:=K) rfl) (pv 1) (pv 3) (fun _ _=>rfl)) aF (fun _ _=>rfl)) aF) Mt) rfl rfl (by simp) (by decide)) aB))))
   (aL (bh (lM (ao (pv 4) (ao (pv 5) aB))))))))), ?_⟩
  refine ⟨(by show 0<=sizeLine;decide),fun b hb=> ?_⟩;have s1:=aG (o:=HO.lst []) hb;intro d hd;have s2:=aG (o:=HO.dK []) hd;have s12:=s1.trans s2;have hd0:H d=none:=s1.free hd;have za:b≠d:=aA aq hd;refine ⟨_,rfl,_,_,rfl,rfl,_,rfl,_,rfl,(j:Int) - 1, -1,rfl,⟨by (clear za hd0 hd hb hu wl jl;omega),by (clear za hd0 hd hb hu;omega),by (clear za hd0 hd hb hu wl jl;omega),by (clear za hd0 hd hb hu wl jl;omega)⟩, ?_⟩;have en:((j:Int) - 1 - (-1)).toNat=j:=by (clear za hd0 hd hb hu wl jl;omega)
  rw [en]
  refine uc (hi:=(j:Int) - 1) (n:=j) (fun i σ H2=>∃(x1:Option V) (g:Int->Int),σ=[some (.ref a),some (.ref nd),some (.ref kn),some (.int j),some (.ref b),some (.ref d),x1]/\Same H H2/\H2 b=some (.lst (bx (bB ws j i)))/\iz H2 d g/\K4 ws g (Dk ws j (j - i)) /\ ∀h,g h<=cnt (ws.take j) h)
   ⟨none,fun _=>0,rfl,s12,s2 _ _ (by rw [aq];rfl),J0 aq,⟨fun m x ex=>⟨fun z=> ?_,fun ⟨x,x1,x2,_⟩=> ?_⟩,fun h=>gB _ _⟩⟩ ?_ ?_
  ·have:=gB (ws.take m) x.1
   have z:cnt (ws.take m) x.1<0:=z;omega
  ·have:=(dj x2).1
   omega
  ·rintro i σ H2 hi ⟨x1,g,rfl,sm,hb2,kd,kp,bd⟩
   have ee:(j:Int) - 1 - (i:Int)=((j - 1 - i:Nat):Int):=by (clear hb2 en za hd0 hd hb hu wl jl;omega)
   rw [ee];have bs:=uJ ws j i;have bl:=jK ws j i;generalize he:j - 1 - i=e at bs;have el:e<ws.length:=by (clear bs bl ee hb2 hi en za hd0 hd hb hu wl;omega)
   have e1:j - i=e+1:=by (clear el bs bl ee hb2 en za hd0 hd hb hu wl jl;omega)
   have e2:j - (i+1)=e:=by (clear e1 el bs bl ee hb2 hi en za hd0 hd hb hu wl jl;omega)
   rw [e1] at kp;rw [e2];obtain ⟨x,ex⟩:∃x,ws[e]? = some x:=⟨ws[e],by simp [el]⟩;refine ⟨_,rfl,_,rfl,_,rfl,a,ws,e,j,rfl,W.same sm,el,jl,_,rfl, ?_⟩
   by_cases st:iC ws e j=true
   ·rw [st]
    refine iK ?_;obtain ⟨ns,t,hn,en,ht⟩:=Bu (N.same sm) (BZ ex);refine ⟨_,rfl,_,rfl,_,_,_,_,rfl,rfl,bw.of hn,aW en,_,rfl,t,d,_,_,g,rfl,ht,kd,_,rfl, ?_⟩;have kx:=kp e x ex
    by_cases kk:Dk ws j (e+1) e
    ·rw [decide_eq_true (kx.mpr kk)]
     refine fO ?_;have nb:¬Bare ws j e:=fun z=>z.2 kk;rw [if_neg nb,List.append_nil] at bs;exact ⟨_,g,rfl,sm,by rw [bs];exact hb2,kd,kp.iff fun m=>G8 kk,bd⟩
    ·rw [decide_eq_false (fun z=>kk (kx.mp z))]
     refine iK ?_;have nb:Bare ws j e:=⟨st,kk⟩;rw [if_pos nb] at bs;refine ⟨_,rfl,.inl ⟨rfl,_,bw.of hb2⟩,_,rfl,b,_,_,rfl,rfl,hb2,by rw [bx,List.length_map,sizeLine_eq];(clear kk kx ht en hn st ex e2 e1 el bs he ee hb2 za hd0 hd hb hu;omega), ?_⟩;have k3:Kp b H2 (upd H2 b (.lst (bx (bB ws j i)++[V.int (e:Int)]))):=Kp.set;obtain ⟨rs,hk,rl,rq⟩:=id (Kn.same sm);have er:e<rs.length:=by (clear hk kk kx ht en hn st ex e2 e1 el bs bl ee hb2 za hd0 hd hb hu wl jl;omega)
     obtain ⟨r,err⟩:∃r,rs[e]? = some r:=⟨rs[e],by simp [er]⟩;obtain ⟨ge,kde,kne⟩:=rq e r err
     have nkb:kn≠b:=by
      obtain ⟨_,hk0,_⟩:=Kn;exact aA hk0 hb
     obtain ⟨_,Ru,_⟩:=kde.ex;have nrb:r≠b:=qF Ru hb2 (by intro z;cases z)
     have nrd:d≠r:=by
      obtain ⟨rs0,hk0,_,rq0⟩:=Kn
      have er0:rs=rs0:=by
       have:=(sm _ _ hk0).symm.trans hk;injection this with this
       injection this with this
       exact (List.map_inj_right (fun x y e=>by injection e)).mp this.symm
      subst er0;obtain ⟨g0,kd0,_⟩:=rq0 e r err;obtain ⟨_,h0,_⟩:=kd0.ex;exact (aA h0 hd0).symm
     have hk3:=k3 _ _ hk nkb;have kd3:=kd.kp k3 za.symm;have aaQ:=kde.kp k3 nrb;refine ⟨_,rfl,_,rfl,_,rfl,_,_,_,_,rfl,rfl,bw.of hk3,aW (by rw [List.getElem?_map,err];rfl),d,r,g,ge,rfl,kd3,aaQ,nrd,fun H4 kd4 k4=> ?_⟩;refine ⟨_,_,rfl,fun y u hy=>k4 _ _ (k3 _ _ (sm _ _ hy) (aA hy hb)) (aA hy hd0), ?_,kd4, ?_,fun h=> ?_⟩
     ·have:=k4 _ _ (aq (H:=H2) (a:=b) (o:= .lst (bx (bB ws j i)++[V.int (e:Int)]))) za
      rw [this,bs];unfold bx;rw [List.map_append];rfl
     ·exact (Np kp kne.1).iff fun m=>Fi st
     ·have b1:=bd h
      have b2:=kne.2 h;have b3:=fD ws h (e+1) (j - (e+1));rw [show e+1+(j - (e+1))=j by (clear b3 b2 b1 hk3 nrd nrb Ru nkb err er rl hk kk kx ht en hn st ex e2 e1 el bs bl ee hb2 za hd0 hd hb hu wl jl;omega)] at b3;show mx _ _<=_;unfold mx;split<;>(clear hk3 nrd nrb Ru nkb err er rl hk kk kx ht en hn st ex e2 e1 el bs he bl ee hb2 hi za hd0 hd hb hu wl jl;omega)
   ·have st':iC ws e j=false:=by simpa using st
    rw [st'];refine fO ?_;have nb:¬Bare ws j e:=fun z=>st z.1;rw [if_neg nb,List.append_nil] at bs;exact ⟨_,g,rfl,sm,by rw [bs];exact hb2,kd,kp.iff fun m=>zX st,bd⟩
  ·rintro σ H2 ⟨x1,g,rfl,sm,hb2,kd,kp,bd⟩
   rw [Nat.sub_self] at kp;obtain ⟨y,ey⟩:∃y,ws[j]? = some y:=⟨ws[j],by simp [jl]⟩;obtain ⟨y0,y1⟩:=Sg y (List.mem_of_getElem? ey);obtain ⟨ns,t,hn,en,ht⟩:=Bu (N.same sm) (BZ ey);refine ⟨_,rfl,fun m hm=> ?_⟩;have s3:=aG (o:=HO.dK []) hm;refine ⟨_,rfl,_,rfl,_,_,_,_,rfl,rfl,bw.of (s3 _ _ hn),aW en,_,_,_,_,rfl,rfl,fY.of (s3 _ _ ht),rfl,_,rfl,_,rfl,_,_,_,_,rfl,rfl,bw.of (s3 _ _ hn),aW en,_,_,_,_,rfl,rfl,fY.of (s3 _ _ ht),rfl,_,_,rfl,rfl,aq,[(Sum.inl y.1,V.int (cnt (ws.take j) y.1+1))],rfl,by show 1<=15;decide, ?_⟩
   have e1:upd (upd H2 m (.dK [])) m (.dK (pX [] [(Sum.inl y.1,V.int (cnt (ws.take j) y.1+1))]))=upd H2 m (.dK (u9 [y.1] fun x=>if x=y.1 then cnt (ws.take j) y.1+1 else 0)):=by
    rw [Lx];congr 2;show [(Sum.inl y.1,V.int (cnt (ws.take j) y.1+1))]=_;simp [u9]
   rw [e1];have s4:Same H2 (upd H2 m (.dK (u9 [y.1] fun x=>if x=y.1 then cnt (ws.take j) y.1+1 else 0))):=aG hm
   have hmd:d≠m:=by
    obtain ⟨_,h,_⟩:=kd.ex;exact aA h hm
   have kdm:iz (upd H2 m (.dK (u9 [y.1] fun x=>if x=y.1 then cnt (ws.take j) y.1+1 else 0))) m (fun x=>if x=y.1 then cnt (ws.take j) y.1+1 else 0):=by
    refine ⟨⟨[y.1],aq,by simp,fun h hh=> ?_,fun h hh=> ?_⟩,fun h=> ?_⟩
    ·have:h=y.1:=by simpa using hh
     subst this;exact ⟨y0,y1⟩
    ·have:h≠y.1:=by simpa using hh
     rw [if_neg this]
    ·have:=gB (ws.take j) y.1
     show (0:Int)<=if h=y.1 then _ else 0;split<;>(clear hmd e1 hm ht en hn y1 y0 ey hb2 za hd0 hd hb hu wl jl;omega)
   refine ⟨d,m,g,_,rfl,kd.same s4,kdm,hmd,fun H5 kd5 k5=> ?_⟩;have hb5:H5 b=some (.lst (bx (bB ws j j))):=k5 _ _ (s4 _ _ hb2) za;refine ⟨_,rfl,_,rfl,(by show 2<=sizeLine;decide),fun p hp=> ?_⟩;have s6:=aG (o:=HO.tup [V.ref b,V.ref d]) hp;have s05:Same H H5:=fun y u hy=>k5 _ _ (s4 _ _ (sm _ _ hy)) (aA hy hd0);exact k p b d _ _ aq (s6 _ _ hb5) (kd5.same s6) (Nm (kp.iff fun m=>Fg) bd ey) hb hd0 (s05.free hp) (s05.trans s6)
def nK (x:Nt):List Int:=[x.1,x.2.1,x.2.2.1,x.2.2.2]
theorem Q6 (x:Nt):(nK x).map V.int=nV x:=rfl
theorem Q7 {x y:Nt} (h:nK x=nK y):x=y:=by
 obtain ⟨a,b,c,d⟩:=x;obtain ⟨a',b',c',d'⟩:=y;simp only [nK,List.cons.injEq,and_true] at h;obtain ⟨rfl,rfl,rfl,rfl⟩:=h;rfl
def rA (ns:List Nt):Prop:=ns.Pairwise fun x y=>Tim.gY (nK y) (nK x)=false
theorem iT:∀{a b:List Nt},a.Perm b->rA a->rA b->a=b
 | [],_,p,_,_=>p.nil_eq
 | x::r,b,p,ha,hb=>by
   cases b with
   | nil=>exact absurd p.length_eq (by simp)
   | cons y t=>
     have hx:x∈y::t:=p.mem_iff.mp (.head _);have hy:y∈x::r:=p.mem_iff.mpr (.head _)
     have e:x=y:=by
      rcases List.mem_cons.mp hx with h|h
      ·exact h
      ·rcases List.mem_cons.mp hy with h'|h'
       ·exact h'.symm
       ·exact Q7 (Tim.zu _ _ ((List.pairwise_cons.mp hb).1 x h) ((List.pairwise_cons.mp ha).1 y h'))
     subst e;rw [iT (List.perm_cons _ |>.mp p) (List.pairwise_cons.mp ha).2 (List.pairwise_cons.mp hb).2]
def vInt:V->Int
 | .int n=>n
 | _=>0
def tupK (H:Hp) (v:V):List Int:=match v with
 | .ref t=>match H t with
   | some (.tup xs)=>xs.map vInt
   | _=>[]
 | _=>[]
def toN:List Int->Nt
 | [a,b,c,d]=>(a,b,c,d)
 | _=>(0,0,0,0)
theorem lZ {H:Hp} {t:Addr} {x:Nt} (h:H t=some (.tup (nV x))):tupK H (.ref t)=nK x:=by
 unfold tupK;dsimp only;rw [h];rfl
theorem Im (x:Nt):toN (nK x)=x:=rfl
theorem Ei {H:Hp} {vs:List V} {ns:List Nt} (d:aM H vs (ns.map nD)) {v:V} (hv:v∈vs):∃t x,v = .ref t/\x∈ns/\H t=some (.tup (nV x)):=by
 obtain ⟨i,hi,e⟩:=List.getElem_of_mem hv;obtain ⟨x,t,ex,ev,ht⟩:=wN d (i:=i) (v:=v) (by rw [List.getElem?_eq_getElem hi,e]);exact ⟨t,x,ev,List.mem_of_getElem? ex,ht⟩
theorem Ej {H:Hp}:∀{vs:List V} {ns:List Nt},aM H vs (ns.map nD)->vs.map (fun v=>toN (tupK H v))=ns
 | [],[],_=>rfl
 | [],_::_,h=>by simp only [List.map_cons,aM] at h
 | _::_,[],h=>by simp only [List.map_nil,aM] at h
 | v::vs,n::ns,h=>by
   simp only [List.map_cons,aM] at h;obtain ⟨t,rfl,ht⟩:=um h.1;rw [List.map_cons,Ej h.2,lZ ht,Im]
theorem JK {H:Hp}:∀{vs:List V},(∀v∈vs,∃t x,v=V.ref t/\H t=some (.tup (nV x)))->aM H vs ((vs.map fun v=>toN (tupK H v)).map nD)
 | [],_=>by simp [aM]
 | v::vs,h=>by
   obtain ⟨t,x,rfl,ht⟩:=h v (.head _);simp only [List.map_cons,aM];exact ⟨by rw [lZ ht,Im];exact Cz ht,JK fun v hv=>h v (.tail _ hv)⟩
theorem sJ {K:PySem.W.Frag} {H:Hp} {p:Addr} {ns:List Nt} {Q:VK} (N:gD H p ns) (k:∀l ns' H',H l=none->gD H' l ns'->ns'.Perm ns->rA ns'->Same H H'->Q (.ref l) H'):Br K [.ref p] H Q:=by
 obtain ⟨ys,hp,d⟩:=N;refine ⟨p,ys,4,tupK H,rfl,bw.of hp,by decide,fun y hy=> ?_,fun l zs hl pz sz=> ?_⟩
 ·obtain ⟨t,x,rfl,_,ht⟩:=Ei d hy
  exact ⟨t,rfl,by rw [lZ ht,Q6];exact fY.of ht,by rw [lZ ht];rfl⟩
 ·have sm:=aG (o:=HO.lst zs) hl
  have all:∀v∈zs,∃t x,v=V.ref t/\H t=some (.tup (nV x)):=fun v hv=>by
   obtain ⟨t,x,e,_,ht⟩:=Ei d (pz.mem_iff.mp hv);exact ⟨t,x,e,ht⟩
  refine k l (zs.map fun v=>toN (tupK H v)) _ hl ⟨zs,aq,aM.keep sm.tups _ (cg _ iZ _) (JK all)⟩ ?_ ?_ sm
  ·rw [←Ej d]
   exact pz.map _
  ·unfold rA
   rw [List.pairwise_map];refine List.Pairwise.imp_of_mem (fun {x y} hx hy h=> ?_) sz;obtain ⟨t,a,rfl,ht⟩:=all x hx;obtain ⟨u,b,rfl,hu⟩:=all y hy;rw [lZ ht,lZ hu] at h ⊢;exact h
def eG (ws:List aY) (i j:Nat):Nt:=(hnd ws i,cnt (ws.take i) (hnd ws i),hnd ws j,cnt (ws.take j) (hnd ws j))
def aV (ws:List aY) (j:Nat) (l:List Nat):List Nt:=(l.filter fun e=>decide (¬hnd ws e=hnd ws j)).map fun e=>eG ws e j
def pK (K:PySem.W.Frag):Sp:=fun vs H Q _=>∃(nd b t:Addr) (ws:List aY) (j:Nat) (l:List Nat),vs=[.ref nd,.ref b,.ref t]/\kY H nd (nm ws)/\H b=some (.lst (bx l))/\H t=some (.tup [.int (hnd ws j),.int (cnt (ws.take j) (hnd ws j))])/\(∀e∈l,e<ws.length)/\l.length<=300 /\
 ∀(r:Addr) (H':Hp),H r=none->gD H' r (aV ws j l)->Same H H'->Q (.ref r) H'
theorem Rz {α β:Type} (l:List α) (f:α->Option β):(List.range l.length).filterMap (fun i=>(l[i]?).bind f)=l.filterMap f:=by
 induction l with
 | nil=>rfl
 | cons x l ih=>
   rw [List.length_cons,List.range_succ_eq_map,List.filterMap_cons,List.filterMap_map,List.filterMap_cons];have e:List.filterMap ((fun i=>((x::l)[i]?).bind f)∘Nat.succ) (List.range l.length)=l.filterMap f:=by rw [←ih];rfl
   rw [e];rfl
theorem BW (ws:List aY) (j:Nat) (l:List Nat):(l.filterMap fun e=>if hnd ws e=hnd ws j then none else some (nD (eG ws e j)))=(aV ws j l).map nD:=by
 unfold aV
 induction l with
 | nil=>rfl
 | cons e l ih=>
   rw [List.filterMap_cons,List.filter_cons]
   by_cases h:hnd ws e=hnd ws j
   ·rw [if_pos h]
    simp only [h,not_true_eq_false,decide_false,Bool.false_eq_true,if_false];exact ih
   ·rw [if_neg h]
    simp only [h,not_false_eq_true,decide_true,if_true,List.map_cons];rw [ih]
theorem BK {f:Addr} {fd:FuncData} (F:lq K "notes_to" "notes_to" dG f fd):cU P w K mg base jC 1 f fd ["named","bare","name"] (pK K):=by
 refine F.ok yr (fun vs H Q E h=> ?_) (fun cdv A outer s H vs Q E hr h=> ?_)
 ·obtain ⟨nd,b,t,ws,j,l,rfl,_⟩:=h
  rfl
 ·obtain ⟨nd,b,t,ws,j,l,rfl,N,hb,ht,el,ll,k⟩:=h
  refine ⟨_,(aL (bh (fH rfl (N:=["earlier","name","named"]) (own:=["earlier"]) (caps:=[2,0]) (aX.of (by kernel_rfl)) (iY (K:=K) rfl (pv 1)) (fun _ _ _ _=>(bA (i:=0) (show List.Nodup (["earlier","name","named"]:List Str) by decide +kernel) rfl (Or.inl rfl))) (fun _ _ _ _=>(DR (cG kO (aP (cO (K:=K) rfl) (aP (aH (K:=K) rfl) (pv 2) (pv 0) (fun _ _=>rfl)) aF (fun _ _=>rfl)) (aP (cO (K:=K) rfl) (pv 1) aF (fun _ _=>rfl)) (bN _)))) (fun _ _ _ _=>(bI (Jz (K:=K) rfl) (aP (aH (K:=K) rfl) (pv 2) (pv 0) (fun _ _=>rfl)) (pv 1)))))), ?_⟩;have il:(bx l).length=l.length:=by rw [bx,List.length_map]
  refine ⟨_,rfl,b,rfl,⟨_,bw.of hb⟩,fun D hD=> ?_⟩;refine Hj (K:=K) (xs:=bx l) (fun i=>(l[i]?).bind fun e=>if hnd ws e=hnd ws j then none else some (nD (eG ws e j))) (fun i d h=> ?_) hD (bw.of hb) (by (clear hD ht hb;omega)) (fun i x H2 G F hi s2 kG kF=> ?_) (fun H2 vs s2 e2 d2=> ?_)
  ·cases e:l[i]? with
   | none=>rw [e] at h;cases h
   | some z=>
     rw [e] at h;simp only [Option.bind_some] at h;split at h
     ·cases h
     ·cases h;rfl
  ·unfold bx at hi
   rw [List.getElem?_map] at hi;cases e:l[i]? with
   | none=>rw [e] at hi;cases hi
   | some z=>
     rw [e] at hi;cases hi;have zl:=el z (List.mem_of_getElem? e);obtain ⟨x,ex⟩:∃x,ws[z]? = some x:=⟨ws[z],by simp [zl]⟩;have hx:=dN ex;obtain ⟨ns,tz,hn,en,htz⟩:=Bu (N.same s2) (BZ ex);rw [←hx] at htz;refine ⟨_,rfl,_,rfl,_,_,_,_,rfl,rfl,bw.of hn,aW en,_,_,_,_,rfl,rfl,fY.of htz,rfl,_,rfl,_,_,_,_,rfl,rfl,fY.of (s2 _ _ ht),rfl,rfl,_,rfl, ?_⟩
     by_cases eh:hnd ws z=hnd ws j
     ·rw [show (!decide (V.int (hnd ws z)=V.int (hnd ws j)))=false by simp [eh]]
      refine fO ?_;exact kG _ (Same.refl _) (by rw [e];simp [eh])
     ·rw [show (!decide (V.int (hnd ws z)=V.int (hnd ws j)))=true by simp [eh]]
      refine iK ?_;refine ⟨_,rfl,_,rfl,_,_,_,_,rfl,rfl,bw.of hn,aW en,_,rfl,tz,t,_,_,rfl,rfl,fY.of htz,fY.of (s2 _ _ ht),by simp,by show 4<=sizeLine;decide,fun z=>absurd z (by simp),fun _ p hp=> ?_⟩;exact kF _ (nD (eG ws z j)) _ (aG hp) (by rw [e];simp [eh]) (Cz (x:=eG ws z j) (by rw [aq];rfl))
  ·rw [il,Rz,BW] at d2
   exact k D H2 hD ⟨vs,e2,d2⟩ s2
noncomputable def jo (ws:List aY) (n:Nat):List Nt:=(List.range n).flatMap fun j=>aV ws j (bB ws j j)
theorem mL (ws:List aY) (n:Nat):jo ws (n+1)=jo ws n++aV ws n (bB ws n n):=by
 unfold jo;rw [List.range_succ,List.flatMap_append];simp
theorem jt (ws:List aY) (j:Nat) (l:List Nat):(aV ws j l).length<=l.length:=by
 unfold aV;rw [List.length_map];exact List.length_filter_le _ _
theorem o9 (ws:List aY):∀n,(jo ws n).length<=n*n
 | 0=>Nat.le_refl _
 | n+1=>by
   rw [mL,List.length_append];have h1:=o9 ws n;have h2:=Nat.le_trans (jt ws n (bB ws n n)) (jK ws n n);have:(n+1)*(n+1)=n*n+n+n+1:=by rw [Nat.add_mul,Nat.mul_add];(clear h2 h1;omega)
   omega
theorem KR {ws:List aY} {j i e:Nat} (h:e∈bB ws j i):e<j\/j=0:=by
 unfold bB at h;obtain ⟨h1,_⟩:=List.mem_filter.mp h;obtain ⟨t,_,rfl⟩:=List.mem_map.mp h1;omega
def nP (ws:List aY) (hn:Nat) (row:List Int) (R:Nat->Prop) (B:Nat):Prop:=row.length=hn/\(∀m x,ws[m]? = some x->(cnt (ws.take m) x.1<gI row x.1↔R m)) /\ ∀h:Nat,0<=gI row (h:Int)/\gI row (h:Int)<=cnt (ws.take B) (h:Int)
theorem nP.mono {ws:List aY} {hn:Nat} {row:List Int} {R:Nat->Prop} {B B':Nat} (h:nP ws hn row R B) (l:B<=B'):nP ws hn row R B':=⟨h.1,h.2.1,fun x=>⟨(h.2.2 x).1,by
 have:=fD ws (x:Int) B (B' - B);rw [show B+(B' - B)=B' by omega] at this;exact Int.le_trans (h.2.2 x).2 this⟩⟩
def bF (H:Hp) (t:Addr) (ex:List Addr) (n:Nat) (C:Hp->Nat->Addr->Prop):Prop:=∃rs:List Addr,H t=some (.lst (rs.map V.ref))/\rs.length=n /\ ∀j r,rs[j]? = some r->(∀e∈ex,r≠e)/\C H j r
def RowC (ws:List aY) (hn:Nat):Hp->Nat->Addr->Prop:=fun H j r=>∃a:List Int,H r=some (.lst (a.map V.int))/\nP ws hn a (fun m=>m=j\/mO ws j m) (j+1)
def HW (ws:List aY):Hp->Nat->Addr->Prop:=fun H j r=>∃ns:List Nt,gD H r ns/\ns.Perm (aV ws j (bB ws j j))/\rA ns
def Keeps (C:Hp->Nat->Addr->Prop):Prop:=∀(H H':Hp) (j:Nat) (r:Addr),C H j r->(∃o,H r=some o)/\((∀a xs,H a=some (HO.tup xs)->H' a=some (HO.tup xs))->(∀o,H r=some o->H' r=some o)->C H' j r)
theorem gM (ws:List aY) (hn:Nat):Keeps (RowC ws hn):=fun H H' j r ⟨a,h,q⟩=>⟨⟨_,h⟩,fun _ k=>⟨a,k _ h,q⟩⟩
theorem lR (ws:List aY):Keeps (HW ws):=fun H H' j r ⟨ns,⟨vs,h,d⟩,q⟩=>⟨⟨_,h⟩,fun t k=>⟨ns,⟨vs,k _ h,aM.keep t _ (cg _ iZ ns) d⟩,q⟩⟩
theorem bF.same {H H':Hp} {t:Addr} {ex:List Addr} {n:Nat} {C:Hp->Nat->Addr->Prop} (kc:Keeps C) (h:bF H t ex n C) (k:Same H H'):bF H' t ex n C:=by
 obtain ⟨rs,e,l,q⟩:=h;exact ⟨rs,k _ _ e,l,fun j r hj=>⟨(q j r hj).1,((kc H H' j r (q j r hj).2).2 k.tups fun o ho=>k _ _ ho)⟩⟩
theorem bF.kp {H H':Hp} {t x:Addr} {ys:List V} {ex:List Addr} {n:Nat} {C:Hp->Nat->Addr->Prop} (kc:Keeps C) (h:bF H t ex n C) (k:Kp x H H') (hx:H x=some (.lst ys)) (ne:t≠x) (m:x∈ex):bF H' t ex n C:=by
 obtain ⟨rs,e,l,q⟩:=h;exact ⟨rs,k _ _ e ne,l,fun j r hj=>⟨(q j r hj).1,((kc H H' j r (q j r hj).2).2 (k.tups hx) fun o ho=>k _ _ ho ((q j r hj).1 x m))⟩⟩
theorem bF.move {H2 H':Hp} {t:Addr} {ex:List Addr} {n:Nat} {C:Hp->Nat->Addr->Prop} (kc:Keeps C) (h:bF H2 t ex n C) (W:List Addr) (k:∀b o,H2 b=some o->b∉W->H' b=some o) (tw:t∉W) (hw:∀x∈W,x∈ex\/H2 x=none) (tp:∀a xs,H2 a=some (HO.tup xs)->H' a=some (HO.tup xs)):bF H' t ex n C:=by
 obtain ⟨rs,e,l,q⟩:=h;refine ⟨rs,k _ _ e tw,l,fun j r hj=>⟨(q j r hj).1, ?_⟩⟩;have c:=(q j r hj).2;refine (kc H2 H' j r c).2 tp fun o ho=>k _ _ ho fun m=> ?_;rcases hw r m with z|z
 ·exact (q j r hj).1 r z rfl
 ·rw [ho] at z;cases z
theorem bF.push {H:Hp} {t r:Addr} {ex:List Addr} {n:Nat} {C:Hp->Nat->Addr->Prop} (kc:Keeps C) (h:bF H t ex n C) (te:t∈ex) (re:∀e∈ex,r≠e) (c:C H n r):∃rs:List Addr,H t=some (.lst (rs.map V.ref))/\rs.length=n/\bF (upd H t (.lst (rs.map V.ref++[V.ref r]))) t ex (n+1) C:=by
 obtain ⟨rs,e,l,q⟩:=h;have k:Kp t H (upd H t (.lst (rs.map V.ref++[V.ref r]))):=Kp.set;have mv:∀j r',(∀e∈ex,r'≠e)->C H j r'->C (upd H t (.lst (rs.map V.ref++[V.ref r]))) j r':=fun j r' x c=>(kc _ _ j r' c).2 (k.tups e) fun o ho=>k _ _ ho (x t te);refine ⟨rs,e,l,rs++[r],by rw [aq,List.map_append];rfl,by simp [l],fun j r' hj=> ?_⟩
 by_cases hl:j<rs.length
 ·rw [List.getElem?_append_left hl] at hj
  exact ⟨(q j r' hj).1,mv _ _ (q j r' hj).1 (q j r' hj).2⟩
 ·have h2:=(List.getElem?_eq_some_iff.mp hj).1
  rw [List.length_append,List.length_singleton] at h2;have em:j=rs.length:=by (clear hj l e;omega)
  subst em;rw [List.getElem?_append_right (Nat.le_refl _)] at hj;simp at hj;subst hj;rw [l];exact ⟨re,mv _ _ re c⟩
def Nh (hn:Nat) (a b:List Int):List Int:=(List.range hn).map fun h:Nat=>mx (gI a (h:Int)) (gI b (h:Int))
theorem Ke {hn:Nat} {a b:List Int} {h:Int} (h0:0<=h) (h1:h<hn):gI (Nh hn a b) h=mx (gI a h) (gI b h):=by
 obtain ⟨m,rfl⟩:=Int.eq_ofNat_of_zero_le h0;have hm:m<hn:=by (clear h0;omega)
 refine i_ ?_;unfold Nh;rw [List.getElem?_map,List.getElem?_range hm];rfl
theorem Jd {ws:List aY} {hn B:Nat} {a b:List Int} {R S:Nat->Prop} (ok:∀x∈ws,0<=x.1/\x.1<(hn:Int)) (p:nP ws hn a R B) (q:nP ws hn b S B):nP ws hn (Nh hn a b) (fun m=>R m\/S m) B:=by
 refine ⟨by unfold Nh;simp,fun m x ex=> ?_,fun h=> ?_⟩
 ·obtain ⟨x0,x1⟩:=ok x (List.mem_of_getElem? ex)
  rw [Ke x0 x1,JT,p.2.1 m x ex,q.2.1 m x ex]
 ·by_cases hl:h<hn
  ·rw [Ke (by omega) (by omega)]
   have p':=p.2.2 h;have q':=q.2.2 h;unfold mx;split<;>exact ⟨by omega,by omega⟩
  ·have e:gI (Nh hn a b) (h:Int)=0:=by
    unfold gI Nh;rw [Int.toNat_natCast,List.getElem?_eq_none (by simp;omega)];rfl
   rw [e];exact ⟨Int.le_refl _,gB _ _⟩
theorem nP.iff {ws:List aY} {hn B:Nat} {a:List Int} {R S:Nat->Prop} (h:nP ws hn a R B) (e:∀m,R m↔S m):nP ws hn a S B:=⟨h.1,fun m x ex=>(h.2.1 m x ex).trans (e m),h.2.2⟩
theorem Je {ws:List aY} {hn j:Nat} {a:List Int} {y:aY} (ok:∀x∈ws,0<=x.1/\x.1<(hn:Int)) (p:nP ws hn a (mO ws j) j) (ey:ws[j]? = some y):nP ws hn (a.set y.1.toNat (cnt (ws.take j) y.1+1)) (fun m=>m=j\/mO ws j m) (j+1):=by
 obtain ⟨y0,y1⟩:=ok y (List.mem_of_getElem? ey);have al:=p.1;refine ⟨by simp [al],fun m x ex=> ?_,fun h=> ?_⟩
 rotate_left
 ·have t:ws.take (j+1)=ws.take j++[y]:=by rw [List.take_add_one,ey];rfl
  have ph:=p.2.2 h;have c0:=gB (ws.take j) y.1;rw [xg y0 (by omega) (by omega),t,eN]
  by_cases e:(h:Int)=y.1
  ·rw [if_pos e,if_pos e,e]
   exact ⟨by omega,by omega⟩
  ·rw [if_neg e,if_neg e]
   exact ph
 obtain ⟨x0,x1⟩:=ok x (List.mem_of_getElem? ex);rw [xg y0 (by (clear x1 x0 ex y0 ey;omega)) x0]
 by_cases e:x.1=y.1
 ·rw [if_pos e,e]
  by_cases l:m<=j
  ·have:=fD ws y.1 m (j - m)
   rw [show m+(j - m)=j by (clear this e x1 x0 ex al y1 y0 ey;omega)] at this;refine ⟨fun _=> ?_,fun _=>by (clear l e x1 x0 ex al y1 y0 ey;omega)⟩
   by_cases em:m=j
   ·exact .inl em
   ·refine .inr (.one ?_)
    unfold iC Dv;rw [ex,ey,decide_eq_true (show m<j by (clear this e x1 x0 ex al y1 y0 ey;omega))];simp [e]
  ·have:=fD ws y.1 (j+1) (m - (j+1))
   rw [show j+1+(m - (j+1))=m by (clear this e x1 x0 ex al y1 y0 ey;omega)] at this;have t:ws.take (j+1)=ws.take j++[y]:=by rw [List.take_add_one,ey];rfl
   rw [t,eN,if_pos rfl] at this;refine ⟨fun h=>by (clear t l e x1 x0 ex al y1 y0 ey;omega),fun h=> ?_⟩;rcases h with h|h
   · (clear t this e x1 x0 ex al y1 y0 ey;omega)
   ·have:=h.lt;(clear t e x1 x0 ex al y1 y0 ey;omega)
 ·rw [if_neg e,p.2.1 m x ex]
  constructor
  ·intro z;exact .inr z
  ·rintro (z|z)
   ·subst z
    rw [ex] at ey;cases ey;exact absurd rfl e
   ·exact z
theorem Qq (hn:Int):(List.replicate hn.toNat [V.int 0]).flatten=(List.replicate hn.toNat (0:Int)).map V.int:=by
 generalize hn.toNat=n
 induction n with
 | zero=>rfl
 | succ n ih=>rw [List.replicate_succ,List.flatten_cons,ih,List.replicate_succ,List.map_cons];rfl
theorem t_ (n:Nat) (h:Int):gI (List.replicate n 0) h=0:=by unfold gI;rw [List.getElem?_replicate];split<;>rfl
def xV (ws:List aY) (n:Nat):List Int:=(List.range n).map fun i=>cnt (ws.take i) (hnd ws i)
theorem Oh {ws:List aY} {n i:Nat} (h:i<n):(xV ws n)[i]? = some (cnt (ws.take i) (hnd ws i)):=by
 unfold xV;rw [List.getElem?_map,List.getElem?_range h];rfl
theorem Kv (ws:List aY) (n:Nat):xV ws (n+1)=xV ws n++[cnt (ws.take n) (hnd ws n)]:=by
 unfold xV;rw [List.range_succ,List.map_append];rfl
theorem qC (ws:List aY) (j:Nat) (l l':List Nat):aV ws j (l++l')=aV ws j l++aV ws j l':=by
 unfold aV;rw [List.filter_append,List.map_append]
def sI (K:PySem.W.Frag):Sp:=fun vs H Q _=>∃(a:Addr) (hn:Int) (ws:List aY),vs=[.ref a,.int hn]/\gZ H a ws/\(∀x∈ws,o_ hn x)/\1<=hn/\hn<=8/\ws.length<=300 /\
 ∀(p t1 t2:Addr) (H':Hp),H' p=some (.tup [.ref t1,.ref t2])->bF H' t1 [] ws.length (RowC ws hn.toNat)->bF H' t2 [] ws.length (HW ws)->H t1=none->H t2=none->Same H H'->Q (.ref p) H'
theorem bF.any {H:Hp} {t:Addr} {ex:List Addr} {n:Nat} {C:Hp->Nat->Addr->Prop} (h:bF H t ex n C):bF H t [] n C:=by
 obtain ⟨rs,e,l,q⟩:=h;exact ⟨rs,e,l,fun j r hj=>⟨fun _ z=>absurd z (by simp),(q j r hj).2⟩⟩
def SM (a:Addr) (hn:Int) (rw' cl br mn:Addr) (x1 x2 x3 x4 x5 x6 x7 x8 x9 x10:Option V):St:=[some (.ref a),some (.int hn),some (.ref rw'),some (.ref cl),some (.ref br),some (.ref mn),x1,x2,x3,x4,x5,x6,x7,x8,x9,x10]
structure Wa (ws:List aY) (hn:Int) (H H2:Hp) (a rw' cl br mn:Addr) (j:Nat):Prop where
 sm:Same H H2
 rows:bF H2 rw' [rw',cl,br,mn] j (RowC ws hn.toNat)
 Xh:bF H2 br [rw',cl,br,mn] j (HW ws)
 called:H2 cl=some (.lst ((xV ws j).map V.int))
 many:∃ms:List Int,H2 mn=some (.lst (ms.map V.int))/\ms.length=hn.toNat /\ ∀h:Int,0<=h->h<hn->gI ms h=cnt (ws.take j) h
theorem Nv {c:Bool} {A B:Prop} (a:A) (b:¬c=true->A->B):if c=true then A else B:=by
 split
 ·exact a
 ·rename_i h
  exact b h a
theorem Gn {f:Addr} {fd:FuncData} (F:lq K "_law_table" "_law_table" gk f fd) (Bt:rB mg):cU P w K mg base jC 1 f fd ["touches","hands"] (sI K):=by
 refine F.ok cu (fun vs H Q E h=> ?_) (fun cdv A outer s H vs Q E hr h=> ?_)
 ·obtain ⟨a,hn,ws,rfl,_⟩:=h
  rfl
 ·obtain ⟨a,hn,ws,rfl,W,ok,hn0,hn1,wl,k⟩:=h
  obtain ⟨vs,ha,dv⟩:=id W;have d9:vs.length=ws.length:=by rw [dv.length,List.length_map]
  have Sg:∀x∈ws,0<=x.1/\x.1<((hn.toNat:Nat):Int):=fun x hx=>⟨(ok x hx).1.1,by have:=(ok x hx).1.2;(clear d9 ha wl hn1 hn0;omega)⟩
  refine ⟨_,(aD (aZ (i:=2) cu.nd rfl (Or.inl rfl) (cC aB))
   (aD (aZ (i:=3) cu.nd rfl (Or.inl rfl) (cC aB))
   (aD (aZ (i:=4) cu.nd rfl (Or.inl rfl) (cC aB))
   (aD (aZ (i:=5) cu.nd rfl (Or.inl rfl) (bI wM (cC (ao aF aB)) (pv 1)))
   (aD (j7 PassesOwn.never rfl (iY (K:=K) rfl (pv 0)) (rE (K:=K) (n:=3) rfl rfl (eF (bA (i:=6) cu.nd rfl (Or.inl rfl)) (eF (bA (i:=7) cu.nd rfl (Or.inl rfl)) (eF (bA (i:=8) cu.nd rfl (Or.inl rfl)) rD))))
   (aD (aZ (i:=9) cu.nd rfl (Or.inl rfl) (bI wM (cC (ao aF aB)) (pv 1)))
   (aD (aZ (i:=10) cu.nd rfl (Or.inl rfl) (cC aB))
   (aD (j7 PassesOwn.never rfl (vH (by rfl) Bt.d7 (ao (bI Bw (aQ (aU (K:=K) rfl) (by rfl) Bt.fU dD (ao (pv 2) aB)) aF) (ao (yH rY aF) (ao (yH rY aF) aB)))) (bA (i:=11) cu.nd rfl (Or.inl rfl))
   (aD (jA (aP (aH (K:=K) rfl) (pv 0) (pv 11) (fun _ _=>rfl)) (rE (K:=K) (n:=3) rfl rfl (eF (bA (i:=12) cu.nd rfl (Or.inl rfl)) (eF (bA (i:=13) cu.nd rfl (Or.inl rfl)) (eF (bA (i:=14) cu.nd rfl (Or.inl rfl)) rD)))))
   (aD (aZ (i:=15) cu.nd rfl (Or.inl rfl) (nq (eX kO (pv 12) (pv 6) (bN _)) (nq (eX m5 (pv 14) (pv 8) (bN _)) (j8 (Eb (eX kO (pv 7) dB (bN _)) (j8 (eX kO (pv 13) dB (bN _))))))))
   (aD (fj (PW.pt (Bs (gJ (pv 15)) (wK (cG Pa (aP (aH (K:=K) rfl) (pv 3) (pv 11) (fun _ _=>rfl)) (aP (aH (K:=K) rfl) (pv 9) (pv 12) (fun _ _=>rfl)) (bN _))))) (aL (dg (cW (K:=K) rfl (pv 10) (ao (lM (ao (pv 12) (ao (aP (aH (K:=K) rfl) (pv 3) (pv 11) (fun _ _=>rfl)) (ao (pv 6) (ao (aP (aH (K:=K) rfl) (pv 5) (pv 6) (fun _ _=>rfl)) aB))))) aB)))) cA)
   (aL (fj (PW.pt (qy (gJ (pv 15)) (nj (cG m5 (pv 12) (pv 6) (bN _))))) (aL (Mr (i:=9) rfl cu.nd rfl (Or.inl rfl) (N:=["a","b"]) (own:=["a","b"]) (caps:=[]) (aX.of (by kernel_rfl)) (Mu (K:=K) rfl (by rfl) Bt.VJ (ao (pv 9) (ao (aP (aH (K:=K) rfl) (pv 2) (pv 11) (fun _ _=>rfl)) aB))) (fun _ _ _ _=>(rE (K:=K) (n:=2) rfl rfl (eF (bA (i:=0) (show List.Nodup (["a","b"]:List Str) by decide +kernel) rfl (Or.inl rfl)) (eF (bA (i:=1) (show List.Nodup (["a","b"]:List Str) by decide +kernel) rfl (Or.inl rfl)) rD)))) (fun _ _ _ _=>fG) (fun _ _ _ _=>(aQ (vU rfl) (by rfl) Bt.PK Ky (ao (pv 0) (ao (pv 1) aB)))))) cA))))))
   (aD (dg (cW (K:=K) rfl (pv 3) (ao (aP (aH (K:=K) rfl) (pv 5) (pv 6) (fun _ _=>rfl)) aB)))
   (aD (jA (bI gw (aP (aH (K:=K) rfl) (pv 5) (pv 6) (fun _ _=>rfl)) aF) (lK (pv 5) (pv 6) set_list))
   (aD (jA (aP (aH (K:=K) rfl) (pv 5) (pv 6) (fun _ _=>rfl)) (lK (pv 9) (pv 6) set_list))
   (aD (dg (cW (K:=K) rfl (pv 2) (ao (pv 9) aB)))
   (aL (dg (cW (K:=K) rfl (pv 4) (ao (aQ (lX (K:=K) rfl) (by rfl) Bt.uH qp (ao (pv 10) aB)) aB))))))))))))
   (aL (bh (lM (ao (pv 2) (ao (pv 4) aB)))))))))), ?_⟩
  refine ⟨(by show 0<=sizeLine;decide),fun rw' h1=> ?_⟩;have s1:=aG (o:=HO.lst []) h1;refine ⟨(by show 0<=sizeLine;decide),fun cl h2=> ?_⟩;have s2:=aG (o:=HO.lst []) h2;refine ⟨(by show 0<=sizeLine;decide),fun br h3=> ?_⟩;have s3:=aG (o:=HO.lst []) h3;refine ⟨(by show 1<=sizeLine;decide),fun l h4=> ?_⟩;have s4:=aG (o:=HO.lst [V.int 0]) h4;refine ⟨_,rfl,l,_,_,rfl,rfl,aq,by (clear h4 h3 h2 h1 d9 ha wl hn1;omega),by (clear h4 h3 h2 h1 d9 ha wl hn0;omega),by rw [sizeLine_eq];simp;(clear h4 h3 h2 h1 d9 ha wl hn0;omega),fun mn h5=> ?_⟩;rw [Qq];have s5:=aG (o:=HO.lst ((List.replicate hn.toNat (0:Int)).map V.int)) h5;have n12:rw'≠cl:=aA aq h2;have n13:rw'≠br:=aA (s2 _ _ aq) h3;have n23:cl≠br:=aA aq h3;have n15:rw'≠mn:=aA (s4 _ _ (s3 _ _ (s2 _ _ aq))) h5;have n25:cl≠mn:=aA (s4 _ _ (s3 _ _ aq)) h5;have n35:br≠mn:=aA (s4 _ _ aq) h5;have Qo:=(((s1.trans s2).trans s3).trans s4).trans s5;have f1:H rw'=none:=h1;have f2:H cl=none:=s1.free h2;have f3:H br=none:=(s1.trans s2).free h3;have f5:H mn=none:=(((s1.trans s2).trans s3).trans s4).free h5
  have I0:Wa ws hn H _ a rw' cl br mn 0:=⟨Qo,⟨[],s5 _ _ (s4 _ _ (s3 _ _ (s2 _ _ aq))),rfl,fun j r hj=>by simp at hj⟩,⟨[],s5 _ _ (s4 _ _ aq),rfl,fun j r hj=>by simp at hj⟩,s5 _ _ (s4 _ _ (s3 _ _ aq)),
   ⟨List.replicate hn.toNat 0,aq,by simp,fun h _ _=>by rw [t_];rfl⟩⟩
  generalize (upd (upd (upd (upd (upd H rw' (HO.lst [])) cl (HO.lst [])) br (HO.lst [])) l (HO.lst [V.int 0])) mn (HO.lst ((List.replicate hn.toNat (0:Int)).map V.int)))=H5 at I0 ⊢;refine ⟨_,rfl,a,rfl,⟨_,bw.of (I0.sm _ _ ha)⟩, ?_⟩
  refine ud (K:=K) (a:=a) (xs:=vs) (fun j σ H2=>∃x1 x2 x3 x4 x5 x6 x7 x8 x9 x10,σ=SM a hn rw' cl br mn x1 x2 x3 x4 x5 x6 x7 x8 x9 x10/\Wa ws hn H H2 a rw' cl br mn j)
   ⟨none,none,none,none,none,none,none,none,none,none,rfl,I0⟩ (fun j σ H2 _ ⟨_,_,_,_,_,_,_,_,_,_,_,I⟩=>bw.of (I.sm _ _ ha)) ?_ ?_
  ·rintro j v σ H2 hj ⟨x1,x2,x3,x4,x5,x6,x7,x8,x9,x10,rfl,I⟩
   have jl:j<ws.length:=by have:=(List.getElem?_eq_some_iff.mp hj).1;(clear hj f5 f3 f2 f1 n35 n25 n15 n23 n13 n12 h5 h4 h3 h2 h1 ha wl hn1 hn0;omega)
   obtain ⟨y,ey⟩:∃y,ws[j]? = some y:=⟨ws[j],by simp [jl]⟩;obtain ⟨dd,ed,dy⟩:=dv.get hj;rw [List.getElem?_map,ey] at ed;cases ed;obtain ⟨t,rfl,ht⟩:=qK dy;obtain ⟨⟨y0,y1⟩,ykd,_⟩:=ok y (List.mem_of_getElem? ey);have lu:=dN ey;refine ⟨t,_,rfl,fY.of (I.sm _ _ ht),rfl,_,_,rfl,_,_,rfl,_,_,rfl,rfl, ?_⟩;refine ⟨(by show 1<=sizeLine;decide),fun l0 hl0=> ?_⟩;have s6:=aG (o:=HO.lst [V.int 0]) hl0;refine ⟨_,rfl,l0,_,_,rfl,rfl,aq,by (clear hl0 lu y1 y0 hj ht ey jl f5 f3 f2 f1 n35 n25 n15 n23 n13 n12 h5 h4 h3 h2 h1 d9 ha wl hn1;omega),by (clear hl0 lu y1 y0 hj ht ey jl f5 f3 f2 f1 n35 n25 n15 n23 n13 n12 h5 h4 h3 h2 h1 d9 ha wl hn0;omega),by rw [sizeLine_eq];simp;(clear hl0 lu y1 y0 hj ht ey jl f5 f3 f2 f1 n35 n25 n15 n23 n13 n12 h5 h4 h3 h2 h1 d9 ha wl hn0;omega),fun gt hgt=> ?_⟩;rw [Qq];have s7:=aG (o:=HO.lst ((List.replicate hn.toNat (0:Int)).map V.int)) hgt;refine ⟨(by show 0<=sizeLine;decide),fun fr hfr=> ?_⟩;have s8:=aG (o:=HO.lst []) hfr;have s27:=s6.trans s7;have Yv:=s27.trans s8;have g0:H2 gt=none:=s6.free hgt;have r0:H2 fr=none:=s27.free hfr;have mG:gt≠fr:=aA aq hfr;have fV:(upd (upd (upd H2 l0 (HO.lst [V.int 0])) gt (HO.lst ((List.replicate hn.toNat (0:Int)).map V.int))) fr (HO.lst [])) gt=some (.lst ((List.replicate hn.toNat (0:Int)).map V.int)):=s8 _ _ aq;have fW:(upd (upd (upd H2 l0 (HO.lst [V.int 0])) gt (HO.lst ((List.replicate hn.toNat (0:Int)).map V.int))) fr (HO.lst [])) fr=some (.lst []):=aq;generalize (upd (upd (upd H2 l0 (HO.lst [V.int 0])) gt (HO.lst ((List.replicate hn.toNat (0:Int)).map V.int))) fr (HO.lst []))=H8 at Yv fV fW ⊢;obtain ⟨rs,hrs,rl,_⟩:=id I.rows;refine ⟨_,rfl,rw',_,rfl,.inl (bw.of (Yv _ _ hrs)),_,_,rfl,rfl,_,rfl,_,rfl,(j:Int) - 1, -1,by rw [List.length_map,rl],⟨by (clear rl hrs fW fV mG r0 g0 hfr hgt hl0 lu y1 y0 hj ht ey jl f5 f3 f2 f1 n35 n25 n15 n23 n13 n12 h5 h4 h3 h2 h1 d9 ha wl hn1 hn0;omega),by (clear rl hrs fW fV mG r0 g0 hfr hgt hl0 lu y1 y0 hj ht ey f5 f3 f2 f1 n35 n25 n15 n23 n13 n12 h5 h4 h3 h2 h1 d9 ha hn1 hn0;omega),by (clear rl hrs fW fV mG r0 g0 hfr hgt hl0 lu y1 y0 hj ht ey jl f5 f3 f2 f1 n35 n25 n15 n23 n13 n12 h5 h4 h3 h2 h1 d9 ha wl hn1 hn0;omega),by (clear rl hrs fW fV mG r0 g0 hfr hgt hl0 lu y1 y0 hj ht ey jl f5 f3 f2 f1 n35 n25 n15 n23 n13 n12 h5 h4 h3 h2 h1 d9 ha wl hn1 hn0;omega)⟩, ?_⟩;rw [show ((j:Int) - 1 - (-1)).toNat=j by (clear rl hrs fW fV mG r0 g0 hfr hgt hl0 lu y1 y0 hj ht ey jl f5 f3 f2 f1 n35 n25 n15 n23 n13 n12 h5 h4 h3 h2 h1 d9 ha wl hn1 hn0;omega)]
   refine uc (hi:=(j:Int) - 1) (n:=j) (fun i σ H9=>∃(gt:Addr) (row:List Int) (x6 x7 x8 x9 x10:Option V),σ=SM a hn rw' cl br mn (some (.int y.1)) (some (.str y.2.1)) (some (.int y.2.2)) (some (.ref gt)) (some (.ref fr)) x6 x7 x8 x9 x10/\Same H2 H9/\H2 gt=none/\gt≠fr/\H9 gt=some (.lst (row.map V.int))/\nP ws hn.toNat row (Dk ws j (j - i)) j/\gD H9 fr (aV ws j (bB ws j i)))
    ⟨gt,List.replicate hn.toNat 0,_,_,_,_,_,rfl,Yv,g0,mG,fV,⟨by simp,fun m x ex=>⟨fun z=> ?_,fun ⟨x,q1,q2,_⟩=> ?_⟩,fun h=>by rw [t_];exact ⟨Int.le_refl _,gB _ _⟩⟩,⟨[],fW,by simp [bB,aV,aM]⟩⟩ ?_ ?_
   ·rw [t_] at z
    have:=gB (ws.take m) x.1;omega
   ·have:=(dj q2).1
    omega
   ·rintro i σ H9 hi ⟨gt,row,x6,x7,x8,x9,x10,rfl,s9,g0,mG,pB,rh,N9⟩
    have ee:(j:Int) - 1 - (i:Int)=((j - 1 - i:Nat):Int):=by (clear pB mG g0 rl hrs fW fV r0 hfr hgt hl0 lu y1 y0 hj ht ey jl f5 f3 f2 f1 n35 n25 n15 n23 n13 n12 h5 h4 h3 h2 h1 d9 ha wl hn1 hn0;omega)
    rw [ee];have bs:=uJ ws j i;have bl:=jK ws j i;generalize he:j - 1 - i=e at bs;have el:e<ws.length:=by (clear bs bl ee pB mG g0 hi rl hrs fW fV r0 hfr hgt hl0 lu y1 y0 hj ht ey f5 f3 f2 f1 n35 n25 n15 n23 n13 n12 h5 h4 h3 h2 h1 d9 ha wl hn1 hn0;omega)
    have ej:e<j:=by (clear el bs bl ee pB mG g0 rl hrs fW fV r0 hfr hgt hl0 lu y1 y0 hj ht ey jl f5 f3 f2 f1 n35 n25 n15 n23 n13 n12 h5 h4 h3 h2 h1 d9 ha wl hn1 hn0;omega)
    have e1:j - i=e+1:=by (clear ej el bs bl ee pB mG g0 rl hrs fW fV r0 hfr hgt hl0 lu y1 y0 hj ht ey jl f5 f3 f2 f1 n35 n25 n15 n23 n13 n12 h5 h4 h3 h2 h1 d9 ha wl hn1 hn0;omega)
    have e2:j - (i+1)=e:=by (clear e1 ej el bs bl ee pB mG g0 hi rl hrs fW fV r0 hfr hgt hl0 lu y1 y0 hj ht ey jl f5 f3 f2 f1 n35 n25 n15 n23 n13 n12 h5 h4 h3 h2 h1 d9 ha wl hn1 hn0;omega)
    rw [e1] at rh;rw [e2];obtain ⟨x,ex⟩:∃x,ws[e]? = some x:=⟨ws[e],by simp [el]⟩;obtain ⟨⟨x0,x1'⟩,xkd,_⟩:=ok x (List.mem_of_getElem? ex);have HB:=dN ex;have sH9:=I.sm.trans s9;obtain ⟨us,tx,hus,PJ,htx⟩:=nW (W.same sH9) ex;have qW:iC ws e j=(decide (x.1=y.1)||mt x y):=by unfold iC Dv;rw [ex,ey,decide_eq_true ej,Bool.true_and]
    have g_:=rh.1;refine ⟨_,rfl,_,rfl,_,_,_,_,rfl,rfl,bw.of hus,aW PJ,tx,_,rfl,fY.of htx,rfl,_,_,rfl,_,_,rfl,_,_,rfl,rfl, ?_⟩;dsimp only;refine iD (fun σ HS=>HS=H9/\σ=SM a hn rw' cl br mn (some (.int y.1)) (some (.str y.2.1)) (some (.int y.2.2)) (some (.ref gt)) (some (.ref fr)) (some (.int (e:Int))) (some (.int x.1)) (some (.str x.2.1)) (some (.int x.2.2)) (some (.bl (mt x y)))) (fun D' hD' _=> ?_) ?_
    ·have fin:∀b:Bool,b=mt x y->D'.nx (SM a hn rw' cl br mn (some (.int y.1)) (some (.str y.2.1)) (some (.int y.2.2)) (some (.ref gt)) (some (.ref fr)) (some (.int (e:Int))) (some (.int x.1)) (some (.str x.2.1)) (some (.int x.2.2)) (some (.bl b))) H9:=fun b hb=>hD' _ _ ⟨rfl,by rw [hb]⟩
     refine ⟨_,rfl,_,rfl,rfl,_,rfl, ?_⟩
     by_cases c1:x.1=y.1
     ·rw [show (!decide (V.int x.1=V.int y.1))=false by simp [c1]]
      refine fO ?_;exact fin false (by unfold mt;rw [if_pos c1])
     rw [show (!decide (V.int x.1=V.int y.1))=true by simp [c1]];refine iK ?_;refine ⟨_,rfl,_,rfl,rfl,_,rfl, ?_⟩
     by_cases c2:x.2.2=y.2.2
     rotate_left
     ·rw [show decide (V.int x.2.2=V.int y.2.2)=false by simp [c2]]
      refine fO ?_;exact fin false (by unfold mt;rw [if_neg c1,if_neg c2])
     rw [show decide (V.int x.2.2=V.int y.2.2)=true by simp [c2]];refine iK ?_;refine ⟨_,rfl,rfl,_,rfl, ?_⟩
     by_cases c3:y.2.1 = "load"
     ·rw [show (!decide (V.str y.2.1=V.str "load"))=false by simp [c3]]
      refine fO ?_;refine ⟨_,rfl,rfl, ?_⟩;refine fin _ ?_;unfold mt;rw [if_neg c1,if_pos c2,c3]
      by_cases c4:x.2.1 = "load"
      ·rw [if_pos c4];simp [c4]
      ·rw [if_neg c4];simp [c4]
     ·rw [show (!decide (V.str y.2.1=V.str "load"))=true by simp [c3]]
      refine iK ?_;refine fin true ?_;unfold mt;rw [if_neg c1,if_pos c2]
      by_cases c4:x.2.1 = "load"
      ·rw [if_pos c4];simp [c3]
      ·rw [if_neg c4]
    rintro σ HS ⟨rfl,rfl⟩;have iw:HS cl=some (.lst ((xV ws j).map V.int)):=s9 _ _ I.called;have hcle:rm ((xV ws j).map V.int) ((e:Nat):Int)=some (V.int (cnt (ws.take e) (hnd ws e))):=aW (by rw [List.getElem?_map,Oh ej];rfl);have rx:=rh.2.1 e x ex;refine iD (fun σ Xr=>σ=SM a hn rw' cl br mn (some (.int y.1)) (some (.str y.2.1)) (some (.int y.2.2)) (some (.ref gt)) (some (.ref fr)) (some (.int (e:Int))) (some (.int x.1)) (some (.str x.2.1)) (some (.int x.2.2)) (some (.bl (mt x y)))/\Same H2 Xr/\Xr gt=some (.lst (row.map V.int))/\gD Xr fr (aV ws j (bB ws j (i+1)))) (fun D' hD' _=> ?_) ?_
    ·have stay:¬(Bare ws j e /\ ¬hnd ws e=hnd ws j)->D'.nx (SM a hn rw' cl br mn (some (.int y.1)) (some (.str y.2.1)) (some (.int y.2.2)) (some (.ref gt)) (some (.ref fr)) (some (.int (e:Int))) (some (.int x.1)) (some (.str x.2.1)) (some (.int x.2.2)) (some (.bl (mt x y)))) HS:=fun nb=>hD' _ _ ⟨rfl,s9,pB,by
      rw [bs,qC]
      by_cases b1:Bare ws j e
      ·have b2:hnd ws e=hnd ws j:=Classical.byContradiction fun z=>nb ⟨b1,z⟩
       rw [if_pos b1];simp only [aV,List.filter_cons,b2,not_true_eq_false,decide_false,Bool.false_eq_true,if_false,List.filter_nil,List.map_nil,List.append_nil];exact N9
      ·rw [if_neg b1]
       simp only [aV,List.filter_nil,List.map_nil,List.append_nil];exact N9⟩
     refine ⟨_,rfl,_,rfl, ?_⟩
     by_cases mm:mt x y=true
     rotate_left
     ·have mm':mt x y=false:=by simpa using mm
      refine qT (fun z=>absurd z mm) (fun _=> ?_);refine qT (fun z=>absurd z (by decide)) (fun _=> ?_);refine stay fun z=> ?_;have st:=z.1.1;rw [qW,mm',Bool.or_false] at st;exact z.2 (by rw [HB,lu];exact of_decide_eq_true st)
     refine qT (fun _=> ?_) (fun z=>absurd mm z);have hne:¬x.1=y.1:=fun z=>by unfold mt at mm;rw [if_pos z] at mm;cases mm
     have st:iC ws e j=true:=by rw [qW,mm,Bool.or_true]
     refine ⟨_,rfl,_,rfl,_,_,_,_,rfl,rfl,bw.of iw,hcle,_,rfl,_,rfl,_,_,_,_,rfl,rfl,bw.of pB,uL x0 (by (clear st hne mm rx hcle iw htx hus pB qW PJ HB x0 ex e2 e1 ej el bs he bl ee mG g0 hi rl hrs fW fV r0 hfr hgt hl0 lu y1 y0 hj ht ey jl f5 f3 f2 f1 n35 n25 n15 n23 n13 n12 h5 h4 h3 h2 h1 d9 ha wl hn1 hn0;omega)),_,_,rfl,rfl,_,rfl, ?_⟩;rw [HB]
     by_cases cv:Dk ws j (e+1) e
     ·have lt:=rx.mpr cv
      rw [decide_eq_false (show ¬gI row x.1<=cnt (ws.take e) x.1 by (clear st hne mm rx hcle iw htx hus pB g_ qW PJ HB x1' x0 ex e2 e1 ej el bs he bl ee mG g0 hi rl hrs fW fV r0 hfr hgt hl0 lu y1 y0 hj ht ey jl f5 f3 f2 f1 n35 n25 n15 n23 n13 n12 h5 h4 h3 h2 h1 d9 ha wl hn1 hn0;omega))];refine fO ?_;exact stay fun z=>z.1.2 cv
     ·have ge:¬cnt (ws.take e) x.1<gI row x.1:=fun z=>cv (rx.mp z)
      rw [decide_eq_true (show gI row x.1<=cnt (ws.take e) x.1 by (clear cv st hne mm rx hcle iw htx hus pB g_ qW PJ HB x1' x0 ex e2 e1 ej el bs he bl ee mG g0 hi rl hrs fW fV r0 hfr hgt hl0 lu y1 y0 hj ht ey jl f5 f3 f2 f1 n35 n25 n15 n23 n13 n12 h5 h4 h3 h2 h1 d9 ha wl hn1 hn0;omega))];refine iK ?_;obtain ⟨ms,hm,ml,mg⟩:=I.many;obtain ⟨ts,hts,dts⟩:=id N9;have tl:ts.length<=i:=by rw [dts.length,List.length_map];exact Nat.le_trans (jt ws j _) bl
      refine ⟨_,rfl,.inl ⟨rfl,_,bw.of hts⟩,_,rfl,_,rfl,_,rfl,_,_,_,_,rfl,rfl,bw.of iw,hcle,_,rfl,_,rfl,_,rfl,_,_,_,_,rfl,rfl,bw.of (s9 _ _ hm),uL y0 (by (clear tl hts hm ge cv st hne mm rx hcle iw htx hus pB g_ qW PJ HB x1' x0 ex e2 e1 ej el bs he bl ee mG g0 hi rl hrs fW fV r0 hfr hgt hl0 lu y0 hj ht ey jl f5 f3 f2 f1 n35 n25 n15 n23 n13 n12 h5 h4 h3 h2 h1 d9 ha wl hn1 hn0;omega)),(by show 4<=sizeLine;decide),fun q hq=> ?_⟩;rw [mg y.1 y0 y1,←HB,←lu];have sq:=aG (o:=HO.tup [V.int (hnd ws e),V.int (cnt (ws.take e) (hnd ws e)),V.int (hnd ws j),V.int (cnt (ws.take j) (hnd ws j))]) hq;refine ⟨fr,ts,_,rfl,rfl,sq _ _ hts,by rw [sizeLine_eq];(clear hq hts ml hm ge cv st hne mm rx hcle iw htx hus pB g_ qW PJ HB x1' x0 ex e2 e1 ej el bs he bl ee mG g0 rl hrs fW fV r0 hfr hgt hl0 lu y1 y0 hj ht ey f5 f3 f2 f1 n35 n25 n15 n23 n13 n12 h5 h4 h3 h2 h1 d9 ha hn1 hn0;omega), ?_⟩;have kf:Kp fr (upd HS q (HO.tup [V.int (hnd ws e),V.int (cnt (ws.take e) (hnd ws e)),V.int (hnd ws j),V.int (cnt (ws.take j) (hnd ws j))])) (upd (upd HS q (HO.tup [V.int (hnd ws e),V.int (cnt (ws.take e) (hnd ws e)),V.int (hnd ws j),V.int (cnt (ws.take j) (hnd ws j))])) fr (.lst (ts++[V.ref q]))):=Kp.set;have tf:=kf.tups (sq _ _ hts);refine hD' _ _ ⟨by rw [HB,lu],fun b u e=>kf _ _ (sq _ _ (s9 _ _ e)) (aA e r0),kf _ _ (sq _ _ pB) mG,ts++[V.ref q],aq, ?_⟩;have nb:Bare ws j e:=⟨st,cv⟩;have hne':¬hnd ws e=hnd ws j:=by rw [HB,lu];exact hne
      rw [bs,if_pos nb,qC,List.map_append];refine aM.append (aM.keep (fun a xs h=>tf _ _ (sq.tups _ _ h)) _ (cg _ iZ _) dts) ?_;simp only [aV,List.filter_cons,hne',not_false_eq_true,decide_true,if_true,List.filter_nil,List.map_cons,List.map_nil];exact zU (Cz (x:=eG ws e j) (tf _ _ aq))
    rintro σ Xr ⟨rfl,Wh,J8,N11⟩;obtain ⟨YB,Rt,rl2,rq2⟩:=I.rows.same (gM ws hn.toNat) Wh;have er:e<YB.length:=by (clear Rt J8 rx hcle iw htx hus pB g_ qW PJ HB x1' x0 ex e2 e1 ej el bs bl ee mG g0 rl hrs fW fV r0 hfr hgt hl0 lu y1 y0 hj ht ey jl f5 f3 f2 f1 n35 n25 n15 n23 n13 n12 h5 h4 h3 h2 h1 d9 ha wl hn1 hn0;omega)
    obtain ⟨rr,err⟩:∃rr,YB[e]? = some rr:=⟨YB[e],by simp [er]⟩;obtain ⟨_,re,Ru,rhe⟩:=rq2 e rr err;have rel:=rhe.1;refine ⟨_,rfl,_,rfl, ?_⟩
    by_cases st:iC ws e j=true
    rotate_left
    ·have mm:mt x y=false:=by
      cases q:mt x y with
      | false=>rfl
      | true=>rw [qW,q,Bool.or_true] at st;exact absurd rfl st
     have hne:¬x.1=y.1:=fun z=>by rw [qW,decide_eq_true z,Bool.true_or] at st;exact absurd rfl st
     rw [mm];refine fO ?_;refine ⟨_,rfl,_,rfl,rfl,_,rfl, ?_⟩;rw [show decide (V.int x.1=V.int y.1)=false by simp [hne]];refine fO ?_;exact ⟨gt,row,_,_,_,_,_,rfl,Wh,g0,mG,J8,rh.iff fun m=>zX st,N11⟩
    refine Nv ?_ (fun mm core=> ?_)
    rotate_left
    ·have mm:mt x y=false:=by simpa using mm
     have heq:x.1=y.1:=by rw [qW,mm,Bool.or_false] at st;exact of_decide_eq_true st
     refine ⟨_,rfl,_,rfl,rfl,_,rfl, ?_⟩;rw [show decide (V.int x.1=V.int y.1)=true by simp [heq]];exact iK core
    refine ⟨_,rfl,_,rfl,_,rfl,_,_,_,_,rfl,rfl,bw.of Rt,aW (by rw [List.getElem?_map,err];rfl),gt,rr,_,_,rfl,bw.of J8,bw.of Ru,fun D hD=> ?_⟩;refine G9 (K:=K) (n:=hn.toNat) (by rw [List.length_map,g_]) (by rw [List.length_map,rel]) (fun h=>some (.int (mx (gI row (h:Int)) (gI re (h:Int))))) hD (bw.of J8) (bw.of Ru) (by (clear hD st rel Ru err er rl2 Rt J8 rx hcle iw htx hus pB g_ qW PJ HB x1' x0 ex e2 e1 ej el bs he bl ee mG g0 hi rl hrs fW fV r0 hfr hgt hl0 lu y1 y0 hj ht ey jl f5 f3 f2 f1 n35 n25 n15 n23 n13 n12 h5 h4 h3 h2 h1 d9 ha wl hn0;omega)) (fun h u v HN G F hu hv s12 kG kF=> ?_) (fun HN s12 e12=> ?_)
    ·rw [List.getElem?_map] at hu hv
     cases eu:row[h]? with
     | none=>rw [eu] at hu;cases hu
     | some uu=>
       cases ev:re[h]? with
       | none=>rw [ev] at hv;cases hv
       | some vv=>
         rw [eu] at hu;rw [ev] at hv;cases hu;cases hv;exact ⟨_,rfl,_,rfl,_,_,rfl,kF _ HN (Same.refl _) (by rw [i_ eu,i_ ev];rfl)⟩
    have abM:HN D=some (.lst ((Nh hn.toNat row re).map V.int)):=by
     rw [e12];unfold Nh;rw [List.map_map,←List.filterMap_eq_map];rfl
    have nDf:D≠fr:=by
     obtain ⟨_,h,_⟩:=N11;exact (aA h hD).symm
    exact ⟨D,Nh hn.toNat row re,_,_,_,_,_,rfl,Wh.trans s12,Wh.free hD,nDf,abM,(Jd Sg rh (rhe.mono (by omega))).iff fun m=>Fi st,N11.same s12⟩
   ·rintro σ H9 ⟨gt,row,x6,x7,x8,x9,x10,rfl,s9,g0,mG,pB,rh,N9⟩
    rw [Nat.sub_self] at rh;have rh':=rh.iff fun m=>Fg;have g_:=rh'.1;obtain ⟨ms,hm,ml,mg⟩:=I.many;have iw:=s9 _ _ I.called;have hm9:=s9 _ _ hm;have Li:y.1<ms.length:=by (clear hm9 iw hm g_ pB mG g0 rl hrs fW fV r0 hfr hgt hl0 lu y0 hj ht ey jl f5 f3 f2 f1 n35 n25 n15 n23 n13 n12 h5 h4 h3 h2 h1 d9 ha wl hn1 hn0;omega)
    have Oe:(xV ws j).length=j:=by unfold xV;simp
    have f1':=I.rows;have RG:=I.Xh;obtain ⟨rs0,qX,_,_⟩:=id I.rows;obtain ⟨bs0,tX,_,_⟩:=id I.Xh;refine ⟨_,rfl,.inl ⟨rfl,_,bw.of iw⟩,_,rfl,_,rfl,_,_,_,_,rfl,rfl,bw.of hm9,uL y0 (by (clear tX qX Oe Li hm9 iw hm g_ pB mG g0 rl hrs fW fV r0 hfr hgt hl0 lu y0 hj ht ey jl f5 f3 f2 f1 n35 n25 n15 n23 n13 n12 h5 h4 h3 h2 h1 d9 ha wl hn1 hn0;omega)),cl,_,_,rfl,rfl,iw,by rw [List.length_map,sizeLine_eq];(clear tX qX Li hm9 iw ml hm g_ pB mG g0 rl hrs fW fV r0 hfr hgt hl0 lu y1 y0 hj ht ey f5 f3 f2 f1 n35 n25 n15 n23 n13 n12 h5 h4 h3 h2 h1 d9 ha hn1 hn0;omega), ?_⟩;rw [mg y.1 y0 y1];have k1:Kp cl H9 (upd H9 cl (.lst ((xV ws j).map V.int++[V.int (cnt (ws.take j) y.1)]))):=Kp.set;have hm1:=k1 _ _ hm9 n25.symm;refine ⟨_,rfl,_,rfl,_,_,_,_,rfl,rfl,bw.of hm1,uL y0 (by (clear hm1 tX qX Oe Li hm9 iw hm g_ pB mG g0 rl hrs fW fV r0 hfr hgt hl0 lu y0 hj ht ey jl f5 f3 f2 f1 n35 n25 n15 n23 n13 n12 h5 h4 h3 h2 h1 d9 ha wl hn1 hn0;omega)),_,_,rfl,rfl,_,rfl,_,rfl,_,_,_,_,rfl,rfl,hm1,rM y0 (by rw [List.length_map];(clear hm1 tX qX Oe Li hm9 iw hm g_ pB mG g0 rl hrs fW fV r0 hfr hgt hl0 lu y0 hj ht ey jl f5 f3 f2 f1 n35 n25 n15 n23 n13 n12 h5 h4 h3 h2 h1 d9 ha wl hn1 hn0;omega)), ?_⟩;rw [mg y.1 y0 y1];have k2:Kp mn (upd H9 cl (.lst ((xV ws j).map V.int++[V.int (cnt (ws.take j) y.1)]))) (upd (upd H9 cl (.lst ((xV ws j).map V.int++[V.int (cnt (ws.take j) y.1)]))) mn (.lst ((ms.map V.int).set y.1.toNat (V.int (cnt (ws.take j) y.1+1))))):=Kp.set;have hm2:(upd (upd H9 cl (.lst ((xV ws j).map V.int++[V.int (cnt (ws.take j) y.1)]))) mn (.lst ((ms.map V.int).set y.1.toNat (V.int (cnt (ws.take j) y.1+1))))) mn=some (.lst ((ms.set y.1.toNat (cnt (ws.take j) y.1+1)).map V.int)):=by rw [aq,List.map_set]
    have zK:=k2 _ _ (aq (H:=H9) (a:=cl) (o:= .lst ((xV ws j).map V.int++[V.int (cnt (ws.take j) y.1)]))) n25;have yZ:gt≠cl:=(aA I.called g0).symm;have yX:gt≠mn:=(aA hm g0).symm;have BP:gt≠rw':=(aA qX g0).symm;have Ce:gt≠br:=(aA tX g0).symm;have hg2:=k2 _ _ (k1 _ _ pB yZ) yX;have Cd:fr≠cl:=(aA I.called r0).symm;have BX:fr≠mn:=(aA hm r0).symm;have BR:fr≠rw':=(aA qX r0).symm;have N2:=(N9.kp (k1.tups iw) k1 Cd).kp (k2.tups hm1) k2 BX;have T2:∀a xs,H2 a=some (HO.tup xs)->(upd (upd H9 cl (.lst ((xV ws j).map V.int++[V.int (cnt (ws.take j) y.1)]))) mn (.lst ((ms.map V.int).set y.1.toNat (V.int (cnt (ws.take j) y.1+1))))) a=some (HO.tup xs):=fun a xs h=>k2.tups hm1 _ _ (k1.tups iw _ _ (s9.tups _ _ h));have S2:∀b u,H2 b=some u->b≠cl->b≠mn->(upd (upd H9 cl (.lst ((xV ws j).map V.int++[V.int (cnt (ws.take j) y.1)]))) mn (.lst ((ms.map V.int).set y.1.toNat (V.int (cnt (ws.take j) y.1+1))))) b=some u:=fun b u e n1 n2=>k2 _ _ (k1 _ _ (s9 _ _ e) n1) n2;generalize (upd (upd H9 cl (.lst ((xV ws j).map V.int++[V.int (cnt (ws.take j) y.1)]))) mn (.lst ((ms.map V.int).set y.1.toNat (V.int (cnt (ws.take j) y.1+1)))))=HN at hm2 zK hg2 N2 S2 T2 ⊢;have Sx:gI (ms.set y.1.toNat (cnt (ws.take j) y.1+1)) y.1=cnt (ws.take j) y.1+1:=by rw [xg y0 (by (clear hg2 zK hm2 BR BX Cd Ce BP yX yZ hm1 tX qX Oe Li hm9 iw hm g_ pB mG g0 rl hrs fW fV r0 hfr hgt hl0 lu y0 hj ht ey jl f5 f3 f2 f1 n35 n25 n15 n23 n13 n12 h5 h4 h3 h2 h1 d9 ha wl hn1 hn0;omega)) y0,if_pos rfl]
    refine ⟨_,rfl,_,rfl,_,_,_,_,rfl,rfl,bw.of hm2,uL y0 (by rw [List.length_set];(clear Sx hg2 zK hm2 BR BX Cd Ce BP yX yZ hm1 tX qX Oe Li hm9 iw hm g_ pB mG g0 rl hrs fW fV r0 hfr hgt hl0 lu y0 hj ht ey jl f5 f3 f2 f1 n35 n25 n15 n23 n13 n12 h5 h4 h3 h2 h1 d9 ha wl hn1 hn0;omega)),_,rfl,_,rfl,_,_,_,_,rfl,rfl,hg2,rM y0 (by rw [List.length_map];(clear Sx hg2 zK hm2 BR BX Cd Ce BP yX yZ hm1 tX qX Oe Li hm9 iw ml hm pB mG g0 rl hrs fW fV r0 hfr hgt hl0 lu y0 hj ht ey jl f5 f3 f2 f1 n35 n25 n15 n23 n13 n12 h5 h4 h3 h2 h1 d9 ha wl hn1 hn0;omega)), ?_⟩;rw [Sx];have k3:Kp gt HN (upd HN gt (.lst ((row.map V.int).set y.1.toNat (V.int (cnt (ws.take j) y.1+1))))):=Kp.set;have W0:(upd HN gt (.lst ((row.map V.int).set y.1.toNat (V.int (cnt (ws.take j) y.1+1))))) gt=some (.lst ((row.set y.1.toNat (cnt (ws.take j) y.1+1)).map V.int)):=by rw [aq,List.map_set]
    have Tp:RowC ws hn.toNat (upd HN gt (.lst ((row.map V.int).set y.1.toNat (V.int (cnt (ws.take j) y.1+1))))) j gt:=⟨_,W0,Je Sg rh' ey⟩
    have S3:∀b u,H2 b=some u->b∉[cl,mn,gt]->(upd HN gt (.lst ((row.map V.int).set y.1.toNat (V.int (cnt (ws.take j) y.1+1))))) b=some u:=fun b u e m=>by
     have m1:b≠cl:=fun z=>m (by simp [z]);have m2:b≠mn:=fun z=>m (by simp [z]);have m3:b≠gt:=fun z=>m (by simp [z]);exact k3 _ _ (S2 b u e m1 m2) m3
    have T3:∀a xs,H2 a=some (HO.tup xs)->(upd HN gt (.lst ((row.map V.int).set y.1.toNat (V.int (cnt (ws.take j) y.1+1))))) a=some (HO.tup xs):=fun a xs h=>k3.tups hg2 _ _ (T2 _ _ h)
    have hW:∀x∈[cl,mn,gt],x∈[rw',cl,br,mn]\/H2 x=none:=fun x hx=>by
     simp only [List.mem_cons,List.not_mem_nil,or_false] at hx;rcases hx with rfl|rfl|rfl
     ·exact .inl (by simp)
     ·exact .inl (by simp)
     ·exact .inr g0
    have R3:=I.rows.move (gM _ _) [cl,mn,gt] S3 (by simp [n12,n15,BP.symm]) hW T3;have B3:=I.Xh.move (lR _) [cl,mn,gt] S3 (by simp [n23.symm,n35,Ce.symm]) hW T3;have N3:=N2.kp (k3.tups hg2) k3 mG.symm;have J_:=k3 _ _ zK yZ.symm;have Uz:=k3 _ _ hm2 yX.symm
    have S3':Same H (upd HN gt (.lst ((row.map V.int).set y.1.toNat (V.int (cnt (ws.take j) y.1+1))))):=fun b u e=>S3 _ _ (I.sm _ _ e) (by
     simp only [List.mem_cons,List.not_mem_nil,or_false];rintro (z|z|z)
     ·exact aA e f2 z
     ·exact aA e f5 z
     ·exact aA e (I.sm.free g0) z)
    generalize (upd HN gt (.lst ((row.map V.int).set y.1.toNat (V.int (cnt (ws.take j) y.1+1)))))=Xq at R3 B3 N3 J_ Uz S3' Tp ⊢
    obtain ⟨Yz,Cr,rl3,R4⟩:=R3.push (gM _ _) (by simp) (fun x hx=>by
     simp only [List.mem_cons,List.not_mem_nil,or_false] at hx;rcases hx with rfl|rfl|rfl|rfl<;>assumption) Tp
    refine ⟨_,rfl,.inl ⟨rfl,_,bw.of Cr⟩,_,rfl,rw',_,_,rfl,rfl,Cr,by rw [List.length_map,sizeLine_eq];(clear Cr Uz J_ W0 Sx hg2 zK hm2 BR BX Cd Ce BP yX yZ hm1 tX qX Oe Li hm9 iw ml hm g_ pB mG g0 rl hrs fW fV r0 hfr hgt hl0 lu y1 y0 hj ht ey f5 f3 f2 f1 n35 n25 n15 n23 n13 n12 h5 h4 h3 h2 h1 d9 ha hn1 hn0;omega), ?_⟩;have k4:Kp rw' Xq (upd Xq rw' (.lst (Yz.map V.ref++[V.ref gt]))):=Kp.set;have B4:=B3.kp (lR _) k4 Cr n13.symm (by simp);have N4:=N3.kp (k4.tups Cr) k4 BR;have J9:=k4 _ _ J_ n12.symm;have Uy:=k4 _ _ Uz n15.symm;have S4:Same H (upd Xq rw' (.lst (Yz.map V.ref++[V.ref gt]))):=fun b u e=>k4 _ _ (S3' _ _ e) (aA e f1);generalize (upd Xq rw' (.lst (Yz.map V.ref++[V.ref gt])))=H14 at R4 B4 N4 J9 Uy S4 ⊢;obtain ⟨bs4,NQ,bl4,_⟩:=id B4;obtain ⟨rs4,Rr,rl4,_⟩:=id R4;refine ⟨_,rfl,.inl ⟨rfl,_,bw.of NQ⟩,_,rfl, ?_⟩;dsimp only [yj];refine sJ (K:=K) N4 fun sl ns H15 hsl NN pp ss Qo=> ?_
    have re:∀e∈[rw',cl,br,mn],sl≠e:=fun x hx=>by
     simp only [List.mem_cons,List.not_mem_nil,or_false] at hx;rcases hx with rfl|rfl|rfl|rfl
     ·exact (aA Rr hsl).symm
     ·exact (aA J9 hsl).symm
     ·exact (aA NQ hsl).symm
     ·exact (aA Uy hsl).symm
    obtain ⟨bs5,NP,bl5,B6⟩:=(B4.same (lR _) Qo).push (lR _) (by simp) re (show HW ws H15 j sl from ⟨ns,NN,pp,ss⟩);refine ⟨br,_,_,rfl,rfl,NP,by rw [List.length_map,sizeLine_eq];(clear NP hsl rl4 Rr bl4 NQ Uy J9 rl3 Cr Uz J_ W0 Sx hg2 zK hm2 BR BX Cd Ce BP yX yZ hm1 tX qX Oe Li hm9 iw ml hm g_ pB mG g0 rl hrs fW fV r0 hfr hgt hl0 lu y1 y0 hj ht ey f5 f3 f2 f1 n35 n25 n15 n23 n13 n12 h5 h4 h3 h2 h1 d9 ha hn1 hn0;omega), ?_⟩;have k6:Kp br H15 (upd H15 br (.lst (bs5.map V.ref++[V.ref sl]))):=Kp.set;refine ⟨_,_,_,_,_,_,_,_,_,_,rfl,⟨fun b u e=>k6 _ _ (Qo _ _ (S4 _ _ e)) (aA e f3),(R4.same (gM _ _) Qo).kp (gM _ _) k6 NP n13 (by simp),B6, ?_,⟨ms.set y.1.toNat (cnt (ws.take j) y.1+1),k6 _ _ (Qo _ _ Uy) n35.symm,by simp [ml],fun h h0 h1=> ?_⟩⟩⟩
    ·rw [k6 _ _ (Qo _ _ J9) n23,Kv,List.map_append,lu]
     rfl
    ·have tk:ws.take (j+1)=ws.take j++[y]:=by rw [List.take_add_one,ey];rfl
     rw [xg y0 (by (clear tk h1 h0 bl5 NP hsl rl4 Rr bl4 NQ Uy J9 rl3 Cr Uz J_ W0 Sx hg2 zK hm2 BR BX Cd Ce BP yX yZ hm1 tX qX Oe Li hm9 iw hm g_ pB mG g0 rl hrs fW fV r0 hfr hgt hl0 lu y0 hj ht ey jl f5 f3 f2 f1 n35 n25 n15 n23 n13 n12 h5 h4 h3 h2 d9 ha wl hn1 hn0;omega)) h0,tk,eN]
     by_cases e:h=y.1
     ·subst e;rw [if_pos rfl,if_pos rfl]
     ·rw [if_neg e,if_neg e];exact mg h h0 h1
  ·rintro σ H2 ⟨x1,x2,x3,x4,x5,x6,x7,x8,x9,x10,rfl,I⟩
   rw [d9] at I;refine ⟨_,rfl,_,rfl,(by show 2<=sizeLine;decide),fun p hp=> ?_⟩;have sp:=aG (o:=HO.tup [V.ref rw',V.ref br]) hp;exact k p rw' br _ aq (I.rows.same (gM _ _) sp).any (I.Xh.same (lR _) sp).any f1 f3 (I.sm.trans sp)
def Uu (i:Int) (n:Nat):Prop:=0<=i/\i<(n:Int)
instance (i:Int) (n:Nat):Decidable (Uu i n):=inferInstanceAs (Decidable (_/\_))
def LR (K:PySem.W.Frag):Sp:=fun vs H Q _=>∃i:Int,vs=[.int i]/\Q (.bl true) H
theorem yP {f:Addr} {fd:FuncData} (F:lq K "is_whole" "is_whole" dH f fd) (Bt:rB mg):cU P w K mg base jC 1 f fd ["value"] (LR K):=by
 refine F.ok yu (fun vs H Q E h=> ?_) (fun cdv A outer s H vs Q E hr h=> ?_)
 ·obtain ⟨i,rfl,_⟩:=h
  rfl
 ·obtain ⟨i,rfl,k⟩:=h
  refine ⟨_,(aL (bh (nq (aQ (eY (K:=K) (cv:= .ty "int") (c:= .type "int") rfl rfl) (by rfl) Bt.cH bY (ao (pv 0) (ao (gR (v:= .ty "int") (by rfl) Bt.PL Kz rfl) aB))) (j8 (Jt (aQ (eY (K:=K) (cv:= .ty "bool") (c:= .type "bool") rfl rfl) (by rfl) Bt.cH bY (ao (pv 0) (ao (gR (v:= .ty "bool") (by rfl) Bt.KN Fp rfl) aB)))))))), ?_⟩;refine ⟨_,rfl,_,_,true,rfl,.int i,qJ K,true,rfl, ?_⟩;refine iK ?_;exact ⟨_,rfl,_,_,false,rfl,.int i,oO K,false,rfl,k⟩
def wG (K:PySem.W.Frag):Sp:=fun vs H Q _=>∃(i:Int) (n:Nat),vs=[.int i,.int n]/\Q (.bl (decide (Uu i n))) H
theorem yQ {f:Addr} {fd:FuncData} (F:lq K "is_below" "is_below" dJ f fd) (nQ:FnAt P w K mg base 1 "is_whole" ["value"] (LR K)):cU P w K mg base jC 2 f fd ["value","count"] (wG K):=by
 refine F.ok yx (fun vs H Q E h=> ?_) (fun cdv A outer s H vs Q E hr h=> ?_)
 ·obtain ⟨i,n,rfl,_⟩:=h
  rfl
 ·obtain ⟨i,n,rfl,k⟩:=h
  refine ⟨_,(aL (bh (nq (bO nQ (hr.mono (by decide)) (by rfl) (ao (pv 0) aB)) (j8 (Jw Ed vI aF (pv 0) (pv 1)))))), ?_⟩;refine ⟨_,rfl,i,rfl,true,rfl, ?_⟩;refine iK ?_;refine ⟨_,rfl,_,_,rfl,rfl,_,rfl, ?_⟩;refine qT (fun h0=> ?_) (fun h0=> ?_)
  ·refine ⟨_,rfl,_,_,rfl,rfl, ?_⟩
   have e:decide (Uu i n)=decide (i<(n:Int)):=by
    have h0:=of_decide_eq_true h0;rw [Bool.eq_iff_iff,decide_eq_true_iff,decide_eq_true_iff];exact ⟨fun z=>z.2,fun z=>⟨h0,z⟩⟩
   show Q (.bl (decide (i<(n:Int)))) H;rw [←e];exact k
  ·have e:decide (Uu i n)=false:=decide_eq_false fun z=>h0 (decide_eq_true z.1)
   rw [←e];exact k
structure Rc where
 (o dx a nd kn tk pl:Addr)
 (ps:List Addr)
def Rc.fp (R:Rc):List Addr:=R.a::R.nd::R.kn::R.tk::R.ps
def rF (a nd kn tk pl:Addr):List (Str×V):=[("web",.ref a),("named",.ref nd),("knowns",.ref kn),("taken",.ref tk),("places",.ref pl)]
def ig (ws:List aY) (h:Int):List Nat:=(List.range ws.length).filter fun i=>decide (hnd ws i=h)
structure RcAt (C:Addr) (H:Hp) (R:Rc) (ws:List aY) (hn:Nat):Prop where
 o:H R.o=some (.ins C R.dx (rF R.a R.nd R.kn R.tk R.pl))
 web:gZ H R.a ws
 named:kY H R.nd (nm ws)
 Uq:jM H R.kn ws ws.length
 tkn:∃ts,gD H R.tk ts/\ts.Perm (jo ws ws.length)
 pl:H R.pl=some (.lst (R.ps.map V.ref))
 O9:R.ps.length=hn
 Sd:∀(h:Nat) (p:Addr),R.ps[h]? = some p->H p=some (.lst (bx (ig ws (h:Int))))
 nd:R.fp.Nodup
 rH:R.pl∉R.fp
def Fv (W:List Addr) (H H':Hp):Prop:=∀b u,H b=some u->b∉W->H' b=some u
theorem Fv.refl (W:List Addr) (H:Hp):Fv W H H:=fun _ _ e _=>e
theorem Fv.same {W:List Addr} {H H':Hp} (s:Same H H'):Fv W H H':=fun b u e _=>s b u e
theorem RcAt.same {C:Addr} {H H':Hp} {R:Rc} {ws:List aY} {hn:Nat} (r:RcAt C H R ws hn) (k:Same H H'):RcAt C H' R ws hn:=by
 obtain ⟨ts,t1,t2⟩:=r.tkn;exact ⟨k _ _ r.o,r.web.same k,r.named.same k,r.Uq.same k,⟨ts,t1.same k,t2⟩,k _ _ r.pl,r.O9,fun h p e=>k _ _ (r.Sd h p e),r.nd,r.rH⟩
theorem iW {ws:List aY} {x:aY} {i j:Nat} (hj:j<ws.length):iC (ws++[x]) i j=iC ws i j:=by
 unfold iC Dv
 by_cases l:i<j
 ·rw [List.getElem?_append_left (by omega),List.getElem?_append_left hj]
 ·rw [decide_eq_false l,Bool.false_and,Bool.false_and]
theorem mF {ws:List aY} {x:aY} {i j:Nat} (hj:j<ws.length):mO (ws++[x]) j i↔mO ws j i:=by
 constructor
 ·intro r
  induction r with
  | one h=>exact .one (by rwa [iW hj] at h)
  | more h r ih=>
    have:=ih.lt;exact .more (by rwa [iW (by (clear h hj;omega))] at h) ih
 ·intro r
  induction r with
  | one h=>exact .one (by rwa [iW hj])
  | more h r ih=>
    have:=r.lt;exact .more (by rwa [iW (by (clear h hj;omega))]) ih
theorem Df.snoc {ws:List aY} {x:aY} {j:Nat} {g:Int->Int} (h:Df ws j g) (hj:j<ws.length):Df (ws++[x]) j g:=by
 refine ⟨fun m y ey=> ?_,fun hh=> ?_⟩
 ·by_cases ml:m<ws.length
  ·rw [List.getElem?_append_left ml] at ey
   rw [List.take_append_of_le_length (by (clear ey hj;omega)),h.1 m y ey];constructor
   ·rintro (z|z)
    ·exact .inl z
    ·exact .inr ((mF hj).mpr z)
   ·rintro (z|z)
    ·exact .inl z
    ·exact .inr ((mF hj).mp z)
  ·have Wt:=(List.getElem?_eq_some_iff.mp ey).1
   rw [List.length_append,List.length_singleton] at Wt;have em:m=ws.length:=by (clear ey hj;omega)
   subst em;rw [List.take_append_of_le_length (Nat.le_refl _),List.take_length];have b1:=h.2 y.1;have b2:=fD ws y.1 (j+1) (ws.length - (j+1));rw [show j+1+(ws.length - (j+1))=ws.length by (clear b2 b1 Wt ml ey;omega),List.take_length] at b2;constructor
   ·intro z;(clear Wt ml ey hj;omega)
   ·rintro (z|z)
    ·omega
    ·have:=z.lt;(clear b2 b1 Wt ml ey;omega)
 ·rw [List.take_append_of_le_length (by omega)]
  exact h.2 hh
theorem jM.snoc {H:Hp} {kn:Addr} {ws:List aY} {x:aY} (h:jM H kn ws ws.length):jM H kn (ws++[x]) ws.length:=by
 obtain ⟨rs,e,l,q⟩:=h;refine ⟨rs,e,l,fun j r hj=> ?_⟩;have jl:=(List.getElem?_eq_some_iff.mp hj).1;obtain ⟨g,a,b⟩:=q j r hj;exact ⟨g,a,b.snoc (by (clear hj e;omega))⟩
theorem uK {ws:List aY} {x:aY} {j i:Nat} (hj:j<ws.length):bB (ws++[x]) j i=bB ws j i:=by
 unfold bB;refine List.filter_congr fun e _=> ?_
 have:Bare (ws++[x]) j e↔Bare ws j e:=by
  unfold Bare Dk;rw [iW hj];constructor
  ·rintro ⟨a,b⟩
   refine ⟨a,fun ⟨y,y1,y2,y3⟩=>b ⟨y,y1,by rw [iW hj];exact y2,y3.imp id (mF (by have:=dj y2;(clear y3 y2 y1 b a hj;omega))).mpr⟩⟩
  ·rintro ⟨a,b⟩
   refine ⟨a,fun ⟨y,y1,y2,y3⟩=> ?_⟩;rw [iW hj] at y2;exact b ⟨y,y1,y2,y3.imp id (mF (by have:=dj y2;(clear y3 y2 y1 b a hj;omega))).mp⟩
 by_cases q:Bare ws j e
 ·rw [decide_eq_true q,decide_eq_true (this.mpr q)]
 ·rw [decide_eq_false q,decide_eq_false (fun z=>q (this.mp z))]
theorem lW {ws:List aY} {x:aY} {i:Nat} (hi:i<ws.length):hnd (ws++[x]) i=hnd ws i:=by
 unfold hnd;rw [List.getElem?_append_left hi]
theorem yU {ws:List aY} {x:aY} {i j:Nat} (hi:i<ws.length) (hj:j<ws.length):eG (ws++[x]) i j=eG ws i j:=by
 unfold eG;rw [lW hi,lW hj,List.take_append_of_le_length (by (clear hj;omega)),List.take_append_of_le_length (by (clear hi;omega))]
theorem oJ {ws:List aY} {x:aY} {j:Nat} (hj:j<ws.length) {l:List Nat} (hl:∀e∈l,e<ws.length):aV (ws++[x]) j l=aV ws j l:=by
 unfold aV;rw [List.filter_congr (q:=fun e=>decide (¬hnd ws e=hnd ws j)) fun e he=>by rw [lW (hl e he),lW hj]];exact List.map_congr_left fun e he=>yU (hl e (List.mem_filter.mp he).1) hj
theorem o8 {ws:List aY} {j i e:Nat} (hj:j<ws.length) (h:e∈bB ws j i):e<ws.length:=by
 rcases KR h with q|q
 ·omega
 ·subst q
  unfold bB at h;have:=(List.mem_filter.mp h).1;obtain ⟨t,_,rfl⟩:=List.mem_map.mp this;omega
theorem v8 {ws:List aY} {x:aY}:∀n,n<=ws.length->jo (ws++[x]) n=jo ws n
 | 0,_=>rfl
 | n+1,h=>by
   rw [mL,mL,v8 n (by omega),uK (by omega),oJ (by omega) fun e he=>o8 (by omega) he]
theorem tu (ws:List aY) (x:aY) (h:Int):ig (ws++[x]) h=ig ws h++(if x.1=h then [ws.length] else []):=by
 unfold ig;rw [List.length_append,List.length_singleton,List.range_succ,List.filter_append];congr 1
 ·refine List.filter_congr fun i hi=> ?_
  rw [lW (List.mem_range.mp hi)]
 ·have:hnd (ws++[x]) ws.length=x.1:=by unfold hnd;simp
  rw [List.filter_cons,this]
  by_cases e:x.1=h<;>simp [e]
theorem yG (h:Int):∀(n:Nat) (ws:List aY),ws.length=n->((ig ws h).length:Int)=cnt ws h
 | 0,ws,e=>by
   cases ws with
   | nil=>rfl
   | cons _ _=>cases e
 | n+1,ws,e=>by
   rcases List.eq_nil_or_concat ws with rfl|⟨l,x,rfl⟩
   ·cases e
   ·have ih:=yG h n l (by simpa using e)
    rw [List.concat_eq_append,tu,List.length_append,eN]
    by_cases e:x.1=h
    ·rw [if_pos e,if_pos e.symm];simp;(clear e;omega)
    ·rw [if_neg e,if_neg (Ne.symm e)];simpa using ih
theorem oG (ws:List aY) (h:Int):((ig ws h).length:Int)=cnt ws h:=yG h _ ws rfl
def oh (K:PySem.W.Frag):Sp:=fun vs H Q _=>∃(pl:Addr) (ps:List V) (h:Int),vs=[.ref pl,.int h]/\H pl=some (.lst ps)/\Uu h ps.length/\Q .non H
theorem Gm {f:Addr} {fd:FuncData} (F:lq K "check_hand" "check_hand" cR f fd) (Di:FnAt P w K mg base 2 "is_below" ["value","count"] (wG K)) (Bt:rB mg):cU P w K mg base jC 3 f fd ["places","hand"] (oh K):=by
 refine F.ok uZ (fun vs H Q E h=> ?_) (fun cdv A outer s H vs Q E hr h=> ?_)
 ·obtain ⟨pl,ps,h,rfl,_⟩:=h
  rfl
 ·obtain ⟨pl,ps,h,rfl,hp,hi,k⟩:=h
  refine ⟨_,(aL (fj (jz (gJ (bO Di (hr.mono (by decide)) (by rfl) (ao (pv 1) (ao (aQ (aU (K:=K) rfl) (by rfl) Bt.fU dD (ao (pv 0) aB)) aB))))) (aL yE) cA)), ?_⟩;refine ⟨_,rfl,_,rfl,pl,_,rfl,.inl (bw.of hp),h,ps.length,rfl,_,rfl, ?_⟩;rw [decide_eq_true hi];refine fO ?_;exact k
def wA (C:Addr) (K:PySem.W.Frag):Sp:=fun vs H Q _=>∃(o dx:Addr) (hn:Int),vs=[.ref o,.int hn]/\H o=some (.ins C dx [])/\1<=hn/\hn<=8 /\
 ∀(R:Rc) (H':Hp),R.o=o->RcAt C H' R [] hn.toNat->(∀b∈R.fp,H b=none)->H R.pl=none->Kp o H H'->Q .non H'
theorem JC {ak:Addr} {f:Addr} {fd:FuncData} (F:lq K "__init__" "Recorder.__init__" bQ f fd) (au:cL K ak) (nQ:FnAt P w K mg base 1 "is_whole" ["value"] (LR K)) (iM:Gv mg "MOST_HANDS" (.int 8)) (Bt:rB mg):cU P w K mg base jC 2 f fd ["self","hands"] (wA ak K):=by
 refine F.ok pP (fun vs H Q E h=> ?_) (fun cdv A outer s H vs Q E hr h=> ?_)
 ·obtain ⟨o,dx,hn,rfl,_⟩:=h
  rfl
 ·obtain ⟨o,dx,hn,rfl,ho,hn0,hn1,k⟩:=h
  refine ⟨_,(aD (fj (PW.pt (qy (jz (gJ (bO nQ (hr.mono (by decide)) (by rfl) (ao (pv 1) aB)))) (nj (jz (Jm Ed Ed aF (pv 1) (Ec (by rfl) iM.choose_spec.1 iM.choose_spec.2)))))) (aL yE) cA)
   (aD (oF (K:=K) rfl (pv 0) (cC aB) rfl)
   (aD (oF (K:=K) rfl (pv 0) (cC aB) rfl)
   (aD (oF (K:=K) rfl (pv 0) (cC aB) rfl)
   (aD (oF (K:=K) rfl (pv 0) (cC aB) rfl)
   (aL (oF (K:=K) rfl (pv 0) (fH rfl (N:=["hand"]) (own:=["hand"]) (caps:=[]) (aX.of (by kernel_rfl)) (dz (by rfl) Bt.d7 (ao (pv 1) aB)) (fun _ _ _ _=>(bA (i:=0) (show List.Nodup (["hand"]:List Str) by decide +kernel) rfl (Or.inl rfl))) (fun _ _ _ _=>fG) (fun _ _ _ _=>(cC aB))) rfl))))))), ?_⟩
  refine ⟨_,rfl,hn,rfl,_,rfl, ?_⟩;refine fO ?_;refine ⟨_,rfl,_,_,rfl,rfl,_,rfl, ?_⟩;refine qT (fun _=> ?_) (fun z=>absurd (decide_eq_true hn0) z);refine ⟨_,_,rfl,rfl,_,rfl, ?_⟩;rw [decide_eq_true hn1];refine fO ?_;refine ⟨(by show 0<=sizeLine;decide),fun a ha=> ?_⟩;have na:a≠o:=(aA ho ha).symm;refine ⟨_,rfl,o,ak,dx,_,rfl,aG ha _ _ ho,au.cls,au.Ek,(by show 0<1000;decide), ?_⟩;refine ⟨(by show 0<=sizeLine;decide),fun nd vf=> ?_⟩;have k1:Kp o H (upd (upd H a (.lst [])) o (.ins ak dx (eV "web" (.ref a) []))):=(Kp.of_same (aG ha)).trans Kp.set;have ha1:(upd (upd H a (.lst [])) o (.ins ak dx (eV "web" (.ref a) []))) a=some (.lst []):=by rw [aR na,aq]
  have ho1:(upd (upd H a (.lst [])) o (.ins ak dx (eV "web" (.ref a) []))) o=some (.ins ak dx [("web",.ref a)]):=aq;generalize (upd (upd H a (.lst [])) o (.ins ak dx (eV "web" (.ref a) [])))=H1 at k1 ha1 ho1 vf ⊢;have Pg:nd≠o:=(aA ho1 vf).symm;refine ⟨_,rfl,o,ak,dx,_,rfl,aG vf _ _ ho1,au.cls,au.rK,(by show 1<1000;decide), ?_⟩;have k2:Kp o H1 (upd (upd H1 nd (.lst [])) o (.ins ak dx (eV "named" (.ref nd) [("web",.ref a)]))):=(Kp.of_same (aG vf)).trans Kp.set;have GQ:(upd (upd H1 nd (.lst [])) o (.ins ak dx (eV "named" (.ref nd) [("web",.ref a)]))) nd=some (.lst []):=by rw [aR Pg,aq]
  have ho2:(upd (upd H1 nd (.lst [])) o (.ins ak dx (eV "named" (.ref nd) [("web",.ref a)]))) o=some (.ins ak dx [("web",.ref a),("named",.ref nd)]):=aq;refine ⟨(by show 0<=sizeLine;decide),fun kn hkn=> ?_⟩;generalize (upd (upd H1 nd (.lst [])) o (.ins ak dx (eV "named" (.ref nd) [("web",.ref a)])))=H2 at k2 GQ ho2 hkn ⊢;have QZ:kn≠o:=(aA ho2 hkn).symm;have ha2:=k2 _ _ ha1 na;refine ⟨_,rfl,o,ak,dx,_,rfl,aG hkn _ _ ho2,au.cls,au.oK,(by show 2<1000;decide), ?_⟩;have k3:Kp o H2 (upd (upd H2 kn (.lst [])) o (.ins ak dx (eV "knowns" (.ref kn) [("web",.ref a),("named",.ref nd)]))):=(Kp.of_same (aG hkn)).trans Kp.set;have GX:(upd (upd H2 kn (.lst [])) o (.ins ak dx (eV "knowns" (.ref kn) [("web",.ref a),("named",.ref nd)]))) kn=some (.lst []):=by rw [aR QZ,aq]
  have Sv:(upd (upd H2 kn (.lst [])) o (.ins ak dx (eV "knowns" (.ref kn) [("web",.ref a),("named",.ref nd)]))) o=some (.ins ak dx [("web",.ref a),("named",.ref nd),("knowns",.ref kn)]):=aq;refine ⟨(by show 0<=sizeLine;decide),fun tk htk=> ?_⟩;generalize (upd (upd H2 kn (.lst [])) o (.ins ak dx (eV "knowns" (.ref kn) [("web",.ref a),("named",.ref nd)])))=H3 at k3 GX Sv htk ⊢;have Sq:tk≠o:=(aA Sv htk).symm;have ha3:=k3 _ _ ha2 na;have J5:=k3 _ _ GQ Pg;refine ⟨_,rfl,o,ak,dx,_,rfl,aG htk _ _ Sv,au.cls,au.rJ,(by show 3<1000;decide), ?_⟩;have k4:Kp o H3 (upd (upd H3 tk (.lst [])) o (.ins ak dx (eV "taken" (.ref tk) [("web",.ref a),("named",.ref nd),("knowns",.ref kn)]))):=(Kp.of_same (aG htk)).trans Kp.set;have Cq:(upd (upd H3 tk (.lst [])) o (.ins ak dx (eV "taken" (.ref tk) [("web",.ref a),("named",.ref nd),("knowns",.ref kn)]))) tk=some (.lst []):=by rw [aR Sq,aq]
  have Py:(upd (upd H3 tk (.lst [])) o (.ins ak dx (eV "taken" (.ref tk) [("web",.ref a),("named",.ref nd),("knowns",.ref kn)]))) o=some (.ins ak dx [("web",.ref a),("named",.ref nd),("knowns",.ref kn),("taken",.ref tk)]):=aq;generalize (upd (upd H3 tk (.lst [])) o (.ins ak dx (eV "taken" (.ref tk) [("web",.ref a),("named",.ref nd),("knowns",.ref kn)])))=H4 at k4 Cq Py ⊢;have Sw:=k4 _ _ ha3 na;have GP:=k4 _ _ J5 Pg;have GR:=k4 _ _ GX QZ;have k04:=((k1.trans k2).trans k3).trans k4;refine ⟨_,rfl,hn,rfl,by (clear GR GP Sw Py Cq J5 ha3 Sq htk Sv GX ha2 QZ hkn ho2 GQ Pg vf ho1 ha1 na ha hn1 ho;omega),by (clear GR GP Sw Py Cq J5 ha3 Sq htk Sv GX ha2 QZ hkn ho2 GQ Pg vf ho1 ha1 na ha hn0 ho;omega),fun pl hpl=> ?_⟩;have npo:pl≠o:=(aA Py hpl).symm
  refine j_ (lo:=0) (n:=hn.toNat) (fun i σ H5=>(∃v,σ=[v]) /\ ∃ps:List Addr,ps.length=i/\H5 pl=some (.lst (ps.map V.ref))/\(∀p∈ps,H4 p=none/\p≠pl/\H5 p=some (.lst []))/\ps.Nodup/\Same H4 H5)
   ⟨⟨none,rfl⟩,[],rfl,aq,fun _ z=>absurd z (by simp),List.nodup_nil,aG hpl⟩ ?_ ?_
  ·rintro i σ H5 hi ⟨⟨v,rfl⟩,ps,Zg,tW,pq,TV,s5⟩
   refine ⟨(by show 0<=sizeLine;decide),fun q hq=> ?_⟩;have sq:=aG (o:=HO.lst []) hq;have nqp:q≠pl:=(aA tW hq).symm;refine ⟨_,sq _ _ tW,by rw [List.length_map,sizeLine_eq];(clear nqp hq tW npo hpl GR GP Sw Py Cq J5 ha3 Sq htk Sv GX ha2 QZ hkn ho2 GQ Pg vf ho1 ha1 na ha hn0 ho;omega),⟨_,rfl⟩,ps++[q],by simp [Zg],by rw [aq,List.map_append];rfl,fun p hp=> ?_, ?_,(s5.trans sq).newly hpl⟩
   ·rcases List.mem_append.mp hp with hp|hp
    ·obtain ⟨p1,p2,p3⟩:=pq p hp
     exact ⟨p1,p2,by rw [aR p2];exact sq _ _ p3⟩
    ·have:p=q:=by simpa using hp
     subst this;exact ⟨s5.free hq,nqp,by rw [aR nqp,aq]⟩
   ·rw [List.nodup_append]
    refine ⟨TV,by simp,fun x hx y hy e=> ?_⟩;have:y=q:=by simpa using hy
    subst this;subst e;have:=(pq x hx).2.2;rw [hq] at this;cases this
  ·rintro σ H5 ⟨⟨v,rfl⟩,ps,Zg,tW,pq,TV,s5⟩
   refine ⟨_,rfl,o,ak,dx,_,rfl,s5 _ _ Py,au.cls,au.gA,(by show 4<1000;decide), ?_⟩;have k6:Kp o H5 (upd H5 o (.ins ak dx (eV "places" (.ref pl) [("web",.ref a),("named",.ref nd),("knowns",.ref kn),("taken",.ref tk)]))):=Kp.set;have mv:∀{b u},H4 b=some u->b≠o->(upd H5 o (.ins ak dx (eV "places" (.ref pl) [("web",.ref a),("named",.ref nd),("knowns",.ref kn),("taken",.ref tk)]))) b=some u:=fun e n=>k6 _ _ (s5 _ _ e) n
   have np:∀p∈ps,p≠o:=fun p hp z=>by
    subst z;rw [(pq p hp).1] at Py;cases Py
   have nn:∀{b u},H4 b=some u->b∉ps:=fun e m=>by rw [(pq _ m).1] at e;cases e
   have n1:a≠nd:=aA ha1 vf;have n2:a≠kn:=aA ha2 hkn;have n3:a≠tk:=aA ha3 htk;have n4:nd≠kn:=aA GQ hkn;have n5:nd≠tk:=aA J5 htk;have n6:kn≠tk:=aA GX htk
   have f4:∀{b},b≠o->H4 b=none->H b=none:=fun n e=>by
    cases q:H _ with
    | none=>rfl
    | some u=>rw [k04 _ _ q n] at e;cases e
   refine k ⟨o,dx,a,nd,kn,tk,pl,ps⟩ _ rfl ⟨aq,⟨[],mv Sw na,by simp [aM]⟩,⟨[],mv GP Pg,by simp [nm,aM]⟩,⟨[],mv GR QZ,rfl,fun j r hj=>by simp at hj⟩,⟨[],⟨[],mv Cq Sq,by simp [aM]⟩,by simp [jo]⟩,k6 _ _ tW npo,by rw [Zg],fun h p e=> ?_, ?_, ?_⟩ (fun b hb=> ?_) (f4 npo hpl) (fun b u e n=>k6 _ _ (s5 _ _ (k04 _ _ e n)) n)
   ·have hm:p∈ps:=List.mem_of_getElem? e
    rw [k6 _ _ (pq p hm).2.2 (np p hm)];rfl
   ·show (a::nd::kn::tk::ps).Nodup
    rw [List.nodup_cons,List.nodup_cons,List.nodup_cons,List.nodup_cons];refine ⟨?_, ?_, ?_,nn Cq,TV⟩
    ·simp [n1,n2,n3,nn Sw]
    ·simp [n4,n5,nn GP]
    ·simp [n6,nn GR]
   ·show pl∉(a::nd::kn::tk::ps)
    have q1:pl≠a:=(aA Sw hpl).symm;have q2:pl≠nd:=(aA GP hpl).symm;have q3:pl≠kn:=(aA GR hpl).symm;have q4:pl≠tk:=(aA Cq hpl).symm;have q5:pl∉ps:=fun m=>(pq pl m).2.1 rfl;simp [q1,q2,q3,q4,q5]
   ·have hb:b∈(a::nd::kn::tk::ps):=hb
    simp only [List.mem_cons] at hb;rcases hb with rfl|rfl|rfl|rfl|hb
    ·exact ha
    ·cases q:H _ with
     | none=>rfl
     | some u=>rw [k1 _ _ q Pg] at vf;cases vf
    ·cases q:H _ with
     | none=>rfl
     | some u=>rw [(k1.trans k2) _ _ q QZ] at hkn;cases hkn
    ·cases q:H _ with
     | none=>rfl
     | some u=>rw [((k1.trans k2).trans k3) _ _ q Sq] at htk;cases htk
    ·exact f4 (np b hb) (pq b hb).1
theorem take_snoc {ws:List aY} {i:Nat} {x:aY} (e:ws[i]? = some x):ws.take i++[x]=ws.take (i+1):=by
 obtain ⟨l,rfl⟩:=List.getElem?_eq_some_iff.mp e;exact List.take_append_getElem l
def I_ (C:Addr) (K:PySem.W.Frag):Sp:=fun vs H Q _=>∃(R:Rc) (ws:List aY) (hn:Nat) (h cl:Int) (kd:Str),vs=[.ref R.o,.int h,.str kd,.int cl]/\RcAt C H R ws hn/\ws.length<300/\(∀x∈ws,0<=x.1/\x.1<8)/\0<=h/\h<hn/\hn<=8 /\
 ∀(r:Addr) (ns:List Nt) (H':Hp),H r=none->gD H' r ns->ns.Perm (aV (ws++[(h,kd,cl)]) ws.length (bB (ws++[(h,kd,cl)]) ws.length ws.length))->rA ns->RcAt C H' R (ws++[(h,kd,cl)]) hn->Fv R.fp H H'->Q (.ref r) H'
theorem QV {ak:Addr} {f:Addr} {fd:FuncData} (F:lq K "did" "Recorder.did" b_ f fd) (au:cL K ak) (kJ:FnAt P w K mg base 3 "check_hand" ["places","hand"] (oh K)) (xP:FnAt P w K mg base 3 "bare_steps" ["web","named","knowns","place"] (Bl K)) (Dg:FnAt P w K mg base 1 "notes_to" ["named","bare","name"] (pK K)) (Bt:rB mg):cU P w K mg base jC 4 f fd ["self","hand","kind","cell"] (I_ ak K):=by
 refine F.ok dR (fun vs H Q E h=> ?_) (fun cdv A outer s H vs Q E hr h=> ?_)
 ·obtain ⟨R,ws,hn,h,cl,kd,rfl,_⟩:=h
  rfl
 ·obtain ⟨R,ws,hn,h,cl,kd,rfl,r,wl,Sg,h0,h1,h8,k⟩:=h
  refine ⟨_,(aD (dg (bO kJ (hr.mono (by decide)) (by rfl) (ao (cN (K:=K) rfl (pv 0) rfl) (ao (pv 1) aB))))
   (aD (aZ (i:=4) dR.nd rfl (Or.inl rfl) (aQ (aU (K:=K) rfl) (by rfl) Bt.fU dD (ao (cN (K:=K) rfl (pv 0) rfl) aB)))
   (aD (aZ (i:=5) dR.nd rfl (Or.inl rfl) (lM (ao (pv 1) (ao (aQ (aU (K:=K) rfl) (by rfl) Bt.fU dD (ao (aP (aH (K:=K) rfl) (cN (K:=K) rfl (pv 0) rfl) (pv 1) (fun _ _=>rfl)) aB)) aB))))
   (aD (dg (cW (K:=K) rfl (cN (K:=K) rfl (pv 0) rfl) (ao (lM (ao (pv 1) (ao (pv 2) (ao (pv 3) aB)))) aB)))
   (aD (dg (cW (K:=K) rfl (cN (K:=K) rfl (pv 0) rfl) (ao (pv 5) aB)))
   (aD (dg (cW (K:=K) rfl (aP (aH (K:=K) rfl) (cN (K:=K) rfl (pv 0) rfl) (pv 1) (fun _ _=>rfl)) (ao (pv 4) aB)))
   (aD (aZ (i:=6) dR.nd rfl (Or.inl rfl) (bO xP (hr.mono (by decide)) (by rfl) (ao (cN (K:=K) rfl (pv 0) rfl) (ao (cN (K:=K) rfl (pv 0) rfl) (ao (cN (K:=K) rfl (pv 0) rfl) (ao (pv 4) aB))))))
   (aD (dg (cW (K:=K) rfl (cN (K:=K) rfl (pv 0) rfl) (ao (aP (cO (K:=K) rfl) (pv 6) aF (fun _ _=>rfl)) aB)))
   (aD (aZ (i:=7) dR.nd rfl (Or.inl rfl) (aQ (lX (K:=K) rfl) (by rfl) Bt.uH qp (ao (bO Dg (hr.mono (by decide)) (by rfl) (ao (cN (K:=K) rfl (pv 0) rfl) (ao (aP (cO (K:=K) rfl) (pv 6) aF (fun _ _=>rfl)) (ao (pv 5) aB)))) aB)))
   (aD (dg (pU (K:=K) rfl PySem.F.plainAttrs_list PySem.F.slot_list_extend PySem.F.type_list_extend vL (cN (K:=K) rfl (pv 0) rfl) (ao (pv 7) aB)))
   (aL (bh (pv 7))))))))))))), ?_⟩
  obtain ⟨ro,rw0,rnd,rkn,⟨ts,Yx,tp⟩,g_,xT,rps,nd0,rH⟩:=r;obtain ⟨wv,hw,dw⟩:=id rw0;obtain ⟨nv,vd,dn⟩:=id rnd;obtain ⟨tv,htv,dt⟩:=id Yx;have uX:wv.length=ws.length:=by rw [dw.length,List.length_map]
  have vJ:nv.length=ws.length:=by rw [dn.length,List.length_map,Gw]
  have xR:tv.length<=ws.length*ws.length:=by rw [dt.length,List.length_map,tp.length_eq];exact o9 ws _
  have tq:ws.length*ws.length<=300*300:=Nat.mul_le_mul (by (clear xR vJ uX htv vd hw rH xT g_ ro h8 h1 h0;omega)) (by (clear xR vJ uX htv vd hw rH xT g_ ro h8 h1 h0;omega));obtain ⟨hN,rfl⟩:∃m:Nat,h=m:=⟨h.toNat,by (clear tq xR vJ uX htv vd hw rH xT g_ ro h8 h1 wl;omega)⟩;have oH:hN<R.ps.length:=by (clear h0 tq xR vJ uX htv vd hw rH g_ ro h8 wl;omega)
  obtain ⟨p,ep⟩:∃p,R.ps[hN]? = some p:=⟨R.ps[hN],by simp [oH]⟩;have hp:=rps hN p ep;have pm:p∈R.ps:=List.mem_of_getElem? ep;have hps:(R.ps.map V.ref)[hN]? = some (.ref p):=by rw [List.getElem?_map,ep];rfl
  have nd1:(R.a::R.nd::R.kn::R.tk::R.ps).Nodup:=nd0;simp only [List.nodup_cons,List.mem_cons,not_or] at nd1;obtain ⟨⟨n1,n2,n3,n4⟩,⟨n5,n6,n7⟩,⟨n8,n9⟩,n10,TV⟩:=nd1;have np1:R.pl∉(R.a::R.nd::R.kn::R.tk::R.ps):=rH;simp only [List.mem_cons,not_or] at np1;obtain ⟨q1,q2,q3,q4,q5⟩:=np1;have yS:R.a≠p:=fun z=>n4 (z▸pm);have yR:R.nd≠p:=fun z=>n7 (z▸pm);have Aj:R.kn≠p:=fun z=>n9 (z▸pm);have Ah:R.tk≠p:=fun z=>n10 (z▸pm);have Ai:R.pl≠p:=fun z=>q5 (z▸pm);have Uc:∀{b:Addr} {ys:List V},H b=some (.lst ys)->R.o≠b:=fun e=>qF ro e (by intro z;cases z);have xU:=Uc hw;have non:=Uc vd;have nop:=Uc hp;have not_:=Uc htv;obtain ⟨_,hkv,_⟩:=id rkn;have Ak:=Uc hkv;have yF:(bx (ig ws (hN:Int))).length=(ig ws (hN:Int)).length:=by rw [bx,List.length_map]
  have plb:(ig ws (hN:Int)).length<=ws.length:=by unfold ig;exact Nat.le_trans (List.length_filter_le _ _) (by simp)
  refine ⟨_,rfl,R.o,ak,R.dx,_,_,rfl,ro,au.cls,au.gA,rfl,_,rfl,R.pl,R.ps.map V.ref,(hN:Int),rfl,g_,⟨by (clear plb yF Ak hkv not_ nop non xU Ai Ah Aj yR yS q5 q4 q3 q2 q1 n10 n9 n8 n7 n6 n5 n4 n3 n2 n1 hps hp ep oH h1 h0 tq xR vJ uX htv vd hw rH xT g_ ro h8 wl;omega),by rw [List.length_map];(clear plb yF Ak hkv not_ nop non xU Ai Ah Aj yR yS q5 q4 q3 q2 q1 n10 n9 n8 n7 n6 n5 n4 n3 n2 n1 hps hp ep oH h0 tq xR vJ uX htv vd hw rH g_ ro h8 wl;omega)⟩, ?_⟩;refine ⟨_,rfl,R.o,ak,R.dx,_,_,rfl,ro,au.cls,au.Ek,rfl,R.a,wv,rfl,.inl (bw.of hw), ?_⟩;rw [uX];refine ⟨_,rfl,_,rfl,R.o,ak,R.dx,_,_,rfl,ro,au.cls,au.gA,rfl,_,rfl,_,_,_,_,rfl,rfl,bw.of g_,aW hps,p,_,rfl,.inl (bw.of hp),(by show 2<=sizeLine;decide),fun tn htn=> ?_⟩;rw [yF,oG];have s1:=aG (o:=HO.tup [V.int hN,V.int (cnt ws (hN:Int))]) htn;have mU:(upd H tn (.tup [V.int hN,V.int (cnt ws (hN:Int))])) tn=some (.tup [V.int hN,V.int (cnt ws (hN:Int))]):=aq;generalize (upd H tn (.tup [V.int hN,V.int (cnt ws (hN:Int))]))=H1 at s1 mU ⊢;refine ⟨_,rfl,R.o,ak,R.dx,_,_,rfl,s1 _ _ ro,au.cls,au.Ek,rfl,.inl ⟨rfl,_,bw.of (s1 _ _ hw)⟩,_,rfl,_,rfl,_,rfl,(by show 3<=sizeLine;decide),fun tw htw=> ?_⟩;have s2:=aG (o:=HO.tup [V.int hN,V.str kd,V.int cl]) htw;have nF:(upd H1 tw (.tup [V.int hN,V.str kd,V.int cl])) tw=some (.tup [V.int hN,V.str kd,V.int cl]):=aq;generalize (upd H1 tw (.tup [V.int hN,V.str kd,V.int cl]))=H2 at s2 nF ⊢;have s12:=s1.trans s2;refine ⟨R.a,_,_,rfl,rfl,s12 _ _ hw,by rw [uX,sizeLine_eq];(clear nF htw mU htn plb yF Ak hkv not_ nop non xU Ai Ah Aj yR yS q5 q4 q3 q2 q1 n10 n9 n8 n7 n6 n5 n4 n3 n2 n1 hps hp ep oH h1 h0 tq xR vJ uX htv vd hw rH xT g_ ro h8;omega), ?_⟩;have k3:Kp R.a H2 (upd H2 R.a (.lst (wv++[V.ref tw]))):=Kp.set;have t3:=k3.tups (s12 _ _ hw);have Es:(upd H2 R.a (.lst (wv++[V.ref tw]))) R.a=some (.lst (wv++[V.ref tw])):=aq;generalize (upd H2 R.a (.lst (wv++[V.ref tw])))=H3 at k3 t3 Es ⊢;have mV:=k3 _ _ (s12 _ _ vd) (Ne.symm n1);refine ⟨_,rfl,R.o,ak,R.dx,_,_,rfl,k3 _ _ (s12 _ _ ro) xU,au.cls,au.rK,rfl,.inl ⟨rfl,_,bw.of mV⟩,_,rfl,R.nd,_,_,rfl,rfl,mV,by rw [vJ,sizeLine_eq];(clear mV Es nF htw mU htn plb yF Ak hkv not_ nop non xU Ai Ah Aj yR yS q5 q4 q3 q2 q1 n10 n9 n8 n7 n6 n5 n4 n3 n2 n1 hps hp ep oH h1 h0 tq xR vJ uX htv vd hw rH xT g_ ro h8;omega), ?_⟩;have k4:Kp R.nd H3 (upd H3 R.nd (.lst (nv++[V.ref tn]))):=Kp.set;have t4:=k4.tups mV;have zJ:(upd H3 R.nd (.lst (nv++[V.ref tn]))) R.nd=some (.lst (nv++[V.ref tn])):=aq;generalize (upd H3 R.nd (.lst (nv++[V.ref tn])))=H4 at k4 t4 zJ ⊢;have mv4:∀{b u},H b=some u->b≠R.a->b≠R.nd->H4 b=some u:=fun e a b=>k4 _ _ (k3 _ _ (s12 _ _ e) a) b;have Cu:=mv4 hp yS.symm yR.symm;refine ⟨_,rfl,R.o,ak,R.dx,_,_,rfl,mv4 ro xU non,au.cls,au.gA,rfl,_,rfl,_,_,_,_,rfl,rfl,bw.of (mv4 g_ q1 q2),aW hps,.inl ⟨rfl,_,bw.of Cu⟩,_,rfl,p,_,_,rfl,rfl,Cu,by rw [yF,sizeLine_eq];(clear Cu zJ mV Es nF htw mU htn yF Ak hkv not_ nop non xU Ai Ah Aj yR yS q5 q4 q3 q2 q1 n10 n9 n8 n7 n6 n5 n4 n3 n2 n1 hps hp ep oH h1 h0 tq xR vJ uX htv vd hw rH xT g_ ro h8;omega), ?_⟩;have k5:Kp p H4 (upd H4 p (.lst (bx (ig ws (hN:Int))++[V.int (ws.length:Int)]))):=Kp.set;have t5:=k5.tups Cu;have tW:(upd H4 p (.lst (bx (ig ws (hN:Int))++[V.int (ws.length:Int)]))) p=some (.lst (bx (ig ws (hN:Int))++[V.int (ws.length:Int)])):=aq;generalize (upd H4 p (.lst (bx (ig ws (hN:Int))++[V.int (ws.length:Int)])))=H5 at k5 t5 tW ⊢;have Ss:∀{b u},H b=some u->b≠R.a->b≠R.nd->b≠p->H5 b=some u:=fun e a b c=>k5 _ _ (mv4 e a b) c;have Xy:∀a xs,H a=some (HO.tup xs)->H5 a=some (HO.tup xs):=fun a xs e=>t5 _ _ (t4 _ _ (t3 _ _ (s12 _ _ e)))
  have W5:gZ H5 R.a (ws++[((hN:Int),kd,cl)]):=by
   refine ⟨wv++[V.ref tw],k5 _ _ (k4 _ _ Es n1) yS, ?_⟩;rw [List.map_append];refine aM.append (aM.keep Xy _ (cg _ w5 _) dw) ⟨Fe (x:=((hN:Int),kd,cl)) (t5 _ _ (t4 _ _ (t3 _ _ nF))),trivial⟩
  have N5:kY H5 R.nd (nm (ws++[((hN:Int),kd,cl)])):=by
   refine ⟨nv++[V.ref tn],k5 _ _ zJ yR, ?_⟩;rw [Nf,List.map_append];refine aM.append (aM.keep Xy _ (cg _ Cp _) dn) ⟨Od (x:=((hN:Int),cnt ws (hN:Int))) (t5 _ _ (t4 _ _ (t3 _ _ (s2 _ _ mU)))),trivial⟩
  have K5:jM H5 R.kn (ws++[((hN:Int),kd,cl)]) ws.length:=((((rkn.snoc.same s12).kp k3 (s12 _ _ hw) (Ne.symm n2)).kp k4 mV (Ne.symm n5)).kp k5 Cu Aj);have T5:H5 R.tk=some (.lst tv):=Ss htv (Ne.symm n3) (Ne.symm n6) Ah;have kl5:Fv R.fp H H5:=fun b u e n=>Ss e (fun z=>n (z ▸ .head _)) (fun z=>n (z ▸ .tail _ (.head _))) (fun z=>n (z ▸ .tail _ (.tail _ (.tail _ (.tail _ pm)))));have Bq:=Ss ro xU non nop;have sW:=Ss g_ q1 q2 Ai
  have ps5:∀(h:Nat) (x:Addr),R.ps[h]? = some x->H5 x=some (.lst (bx (ig (ws++[((hN:Int),kd,cl)]) (h:Int)))):=fun h x e=>by
   have xm:x∈R.ps:=List.mem_of_getElem? e;rw [tu]
   by_cases eh:h=hN
   ·subst eh
    rw [ep] at e;cases e;rw [tW,if_pos rfl];simp [bx]
   ·rw [if_neg (by show ¬(hN:Int)=(h:Int);(clear e sW Bq T5 tW Cu zJ mV Es nF htw mU htn plb yF Ak hkv not_ nop non xU Ai Ah Aj yR yS q5 q4 q3 q2 q1 n10 n9 n8 n7 n6 n5 n4 n3 n2 n1 hps hp ep oH h1 h0 tq xR vJ uX htv vd hw rH xT g_ ro h8 wl;omega)),List.append_nil]
    refine Ss (rps h x e) (fun z=>n4 (z▸xm)) (fun z=>n7 (z▸xm)) fun z=>eh ?_;subst z;have l1:=(List.getElem?_eq_some_iff.mp e).1;rw [←ep] at e;exact (List.getElem?_inj l1 TV).mp e
  have Zj:∀x∈ws++[((hN:Int),kd,cl)],0<=x.1/\x.1<8:=fun x hx=>by
   rcases List.mem_append.mp hx with hx|hx
   ·exact Sg x hx
   ·have:x=((hN:Int),kd,cl):=by simpa using hx
    subst this;exact ⟨by show 0<=(hN:Int);(clear sW Bq T5 tW Cu zJ mV Es nF htw mU htn plb yF Ak hkv not_ nop non xU Ai Ah Aj yR yS q5 q4 q3 q2 q1 n10 n9 n8 n7 n6 n5 n4 n3 n2 n1 hps hp ep oH h1 h0 tq xR vJ uX htv vd hw rH xT g_ ro h8 wl;omega),by show (hN:Int)<8;(clear sW Bq T5 tW Cu zJ mV Es nF htw mU htn plb yF Ak hkv not_ nop non xU Ai Ah Aj yR yS q5 q4 q3 q2 q1 n10 n9 n8 n7 n6 n5 n4 n3 n2 n1 hps hp ep oH h0 tq xR vJ uX htv vd hw rH xT g_ ro wl;omega)⟩
  have f5:∀{b},H5 b=none->H b=none:=fun {b} e=>by
   cases q:H b with
   | none=>rfl
   | some u=>
     by_cases c1:b=R.a
     ·subst c1;obtain ⟨_,z,_⟩:=W5;rw [z] at e;cases e
     ·by_cases c2:b=R.nd
      ·subst c2;obtain ⟨_,z,_⟩:=N5;rw [z] at e;cases e
      ·by_cases c3:b=p
       ·subst c3;rw [tW] at e;cases e
       ·rw [Ss q c1 c2 c3] at e;cases e
  have R8:(ws++[((hN:Int),kd,cl)]).length=ws.length+1:=by simp
  have hnx:hnd (ws++[((hN:Int),kd,cl)]) ws.length=(hN:Int):=by unfold hnd;simp
  have Oz:(ws++[((hN:Int),kd,cl)]).take ws.length=ws:=by simp
  have zH:H5 tn=some (.tup [V.int hN,V.int (cnt ws (hN:Int))]):=t5 _ _ (t4 _ _ (t3 _ _ (s2 _ _ mU)));have al:=v8 (x:=((hN:Int),kd,cl)) ws.length (Nat.le_refl _);have as:=mL (ws++[((hN:Int),kd,cl)]) ws.length;generalize ws++[((hN:Int),kd,cl)]=ws' at *;refine ⟨_,rfl,R.o,ak,R.dx,_,_,rfl,Bq,au.cls,au.Ek,rfl,_,rfl,R.o,ak,R.dx,_,_,rfl,Bq,au.cls,au.rK,rfl,_,rfl,R.o,ak,R.dx,_,_,rfl,Bq,au.cls,au.oK,rfl,_,rfl,R.a,R.nd,R.kn,ws',ws.length,rfl,W5,N5,K5,by (clear as al Oz hnx zH sW Bq T5 tW Cu zJ mV Es nF htw mU htn plb yF Ak hkv not_ nop non xU Ai Ah Aj yR yS q5 q4 q3 q2 q1 n10 n9 n8 n7 n6 n5 n4 n3 n2 n1 hps hp ep oH h1 h0 tq xR vJ uX htv vd hw rH xT g_ ro h8 wl;omega),by (clear as al Oz hnx zH sW Bq T5 tW Cu zJ mV Es nF htw mU htn plb yF Ak hkv not_ nop non xU Ai Ah Aj yR yS q5 q4 q3 q2 q1 n10 n9 n8 n7 n6 n5 n4 n3 n2 n1 hps hp ep oH h1 h0 tq xR vJ uX htv vd hw rH xT g_ ro h8;omega),Zj,fun pr b d g H6 hpr hb kd6 ko hb0 hd0 hp0 s6=> ?_⟩;obtain ⟨rs,hk,rl,rq⟩:=id (K5.same s6);refine ⟨_,rfl,R.o,ak,R.dx,_,_,rfl,s6 _ _ Bq,au.cls,au.oK,rfl,.inl ⟨rfl,_,bw.of hk⟩,_,rfl,_,_,_,_,rfl,rfl,fY.of hpr,rfl,R.kn,_,_,rfl,rfl,hk,by rw [List.length_map,sizeLine_eq];(clear hk hp0 hd0 hb0 hb hpr as al Oz hnx R8 zH sW Bq T5 tW Cu zJ mV Es nF htw mU htn plb yF Ak hkv not_ nop non xU Ai Ah Aj yR yS q5 q4 q3 q2 q1 n10 n9 n8 n7 n6 n5 n4 n3 n2 n1 hps hp ep oH h1 h0 tq xR vJ uX htv vd hw rH xT g_ ro h8;omega), ?_⟩;have k7:Kp R.kn H6 (upd H6 R.kn (.lst (rs.map V.ref++[V.ref d]))):=Kp.set;have t7:=k7.tups hk
  have K7:jM (upd H6 R.kn (.lst (rs.map V.ref++[V.ref d]))) R.kn ws' (ws.length+1):=by
   refine ⟨rs++[d],by rw [aq,List.map_append];rfl,by simp [rl],fun m r' hm=> ?_⟩
   by_cases hml:m<rs.length
   ·rw [List.getElem?_append_left hml] at hm
    obtain ⟨g',kd',ko'⟩:=rq m r' hm;obtain ⟨_,h,_⟩:=kd'.ex;exact ⟨g',kd'.kp k7 (qF h hk (by intro z;cases z)),ko'⟩
   ·have hm2:=(List.getElem?_eq_some_iff.mp hm).1
    rw [List.length_append,List.length_singleton] at hm2;have em:m=rs.length:=by (clear hm rl hk hp0 hd0 hb0 hb hpr as al Oz hnx R8 zH sW Bq T5 tW Cu zJ mV Es nF htw mU htn plb yF Ak hkv not_ nop non xU Ai Ah Aj yR yS q5 q4 q3 q2 q1 n10 n9 n8 n7 n6 n5 n4 n3 n2 n1 hps hp ep oH h1 h0 tq xR vJ uX htv vd hw rH xT g_ ro h8 wl;omega)
    subst em;rw [List.getElem?_append_right (Nat.le_refl _)] at hm;simp at hm;subst hm;rw [rl];obtain ⟨_,h,_⟩:=kd6.ex;exact ⟨g,kd6.kp k7 (qF h hk (by intro z;cases z)),ko⟩
  generalize (upd H6 R.kn (.lst (rs.map V.ref++[V.ref d])))=H7 at k7 t7 K7 ⊢;have Pj:∀{b u},H5 b=some u->b≠R.kn->H7 b=some u:=fun e n=>k7 _ _ (s6 _ _ e) n;have W7:gZ H7 R.a ws':=(W5.same s6).kp hk k7 n2;have N7:kY H7 R.nd (nm ws'):=(N5.same s6).kp hk k7 n5;have R_:=Pj Bq Ak
  have W2:H7 b=some (.lst (bx (bB ws' ws.length ws.length))):=k7 _ _ hb fun z=>by
   obtain ⟨_,z5,_⟩:=K5;rw [z,z5] at hb0;cases hb0
  have T7:gD H7 R.tk ts:=by
   refine ⟨tv,Pj T5 (Ne.symm n8),aM.keep (fun a xs e=>t7 _ _ (s6.tups _ _ (Xy _ _ e))) _ (cg _ iZ _) dt⟩
  have f7:∀{b},H7 b=none->H5 b=none:=fun {b} e=>by
   cases q:H5 b with
   | none=>rfl
   | some u=>
     by_cases c:b=R.kn
     ·subst c;obtain ⟨_,z,_⟩:=K7;rw [z] at e;cases e
     ·rw [Pj q c] at e;cases e
  have bl:=jK ws' ws.length ws.length
  have Ny:H7 tn=some (.tup [.int (hnd ws' ws.length),.int (cnt (ws'.take ws.length) (hnd ws' ws.length))]):=by
   rw [hnx,Oz];exact t7 _ _ (s6.tups _ _ zH)
  refine ⟨_,rfl,R.o,ak,R.dx,_,_,rfl,R_,au.cls,au.rK,rfl,_,rfl,_,_,_,_,rfl,rfl,fY.of (t7 _ _ hpr),rfl,_,rfl,R.nd,b,tn,ws',ws.length,_,rfl,N7,W2,Ny,fun e he=>o8 (by (clear Ny bl W2 R_ rl hk hp0 hd0 hb0 hb hpr as al Oz hnx zH sW Bq T5 tW Cu zJ mV Es nF htw mU htn plb yF Ak hkv not_ nop non xU Ai Ah Aj yR yS q5 q4 q3 q2 q1 n10 n9 n8 n7 n6 n5 n4 n3 n2 n1 hps hp ep oH h1 h0 tq xR vJ uX htv vd hw rH xT g_ ro h8 wl;omega)) he,by (clear Ny W2 R_ rl hk hp0 hd0 hb0 hb hpr as al Oz hnx R8 zH sW Bq T5 tW Cu zJ mV Es nF htw mU htn plb yF Ak hkv not_ nop non xU Ai Ah Aj yR yS q5 q4 q3 q2 q1 n10 n9 n8 n7 n6 n5 n4 n3 n2 n1 hps hp ep oH h1 h0 tq xR vJ uX htv vd hw rH xT g_ ro h8;omega),fun r8 H8 hr8 NT s8=> ?_⟩;dsimp only [yj];refine sJ (K:=K) NT fun l ns H9 hl NN pp ss s9=> ?_;have Lj:=s8.trans s9;have T9:=T7.same Lj;obtain ⟨Xx,zG,dt9⟩:=id T9;obtain ⟨nsv,hns,dns⟩:=id NN;have ntl:=jt ws' ws.length (bB ws' ws.length ws.length);have l1:nsv.length=(aV ws' ws.length (bB ws' ws.length ws.length)).length:=by rw [dns.length,List.length_map,pp.length_eq]
  have etv:Xx=tv:=by
   have z:=Lj _ _ (Pj T5 (Ne.symm n8));rw [zG] at z;injection z with z;injection z
  subst etv
  have nlt:l≠R.tk:=fun z=>by
   subst z;rw [s8 _ _ (Pj T5 (Ne.symm n8))] at hl;cases hl
  refine ⟨_,rfl,R.o,ak,R.dx,_,_,rfl,Lj _ _ R_,au.cls,au.rJ,rfl,.inl ⟨rfl,_,bw.of zG⟩,_,rfl,R.tk,l,_,_,rfl,rfl,zG,hns,by rw [sizeLine_eq];(clear nlt T5 htv hns zG hl hr8 Ny W2 R_ rl hk hp0 hd0 hb0 hb hpr as al Oz hnx R8 zH sW Bq tW Cu zJ mV Es nF htw mU htn plb yF Ak hkv not_ nop non xU Ai Ah Aj yR yS q5 q4 q3 q2 q1 n10 n9 n8 n7 n6 n5 n4 n3 n2 n1 hps hp ep oH h1 h0 vJ uX vd hw rH xT g_ ro h8;omega), ?_⟩;have k10:Kp R.tk H9 (upd H9 R.tk (.lst (Xx++nsv))):=Kp.set;have t10:=k10.tups zG;have hl0:H l=none:=f5 (f7 (s8.free hl));refine ⟨_,rfl,k l ns _ hl0 ?_ pp ss ?_ ?_⟩
  ·exact NN.kp t10 k10 nlt
  ·refine ⟨k10 _ _ (Lj _ _ R_) not_,(W7.same Lj).kp zG k10 n3,(N7.same Lj).kp zG k10 n6,by rw [R8];exact (K7.same Lj).kp k10 zG n8,⟨ts++ns,⟨Xx++nsv,aq, ?_⟩, ?_⟩,k10 _ _ (Lj _ _ (Pj sW q3)) q4,xT,fun h x e=> ?_,nd0,rH⟩
   ·rw [List.map_append]
    exact aM.append (aM.keep t10 _ (cg _ iZ _) dt9) (aM.keep t10 _ (cg _ iZ _) dns)
   ·rw [R8,as,al]
    exact tp.append pp
   ·have xm:x∈R.ps:=List.mem_of_getElem? e
    exact k10 _ _ (Lj _ _ (Pj (ps5 h x e) (fun z=>n9 (z▸xm)))) (fun z=>n10 (z▸xm))
  ·intro b u e n
   exact k10 _ _ (Lj _ _ (Pj (kl5 _ _ e n) (fun z=>n (z ▸ .tail _ (.tail _ (.head _)))))) (fun z=>n (z ▸ .tail _ (.tail _ (.tail _ (.head _)))))
def lF (C:Addr) (K:PySem.W.Frag):Sp:=fun vs H Q _=>∃(R:Rc) (ws:List aY) (hn:Nat),vs=[.ref R.o]/\RcAt C H R ws hn /\
 ∀(r:Addr) (ns:List Nt) (H':Hp),H r=none->gD H' r ns->ns.Perm (jo ws ws.length)->rA ns->Same H H'->Q (.ref r) H'
theorem Gi {ak:Addr} {f:Addr} {fd:FuncData} (F:lq K "notes" "Recorder.notes" bL f fd) (au:cL K ak) (Bt:rB mg):cU P w K mg base jC 1 f fd ["self"] (lF ak K):=by
 refine F.ok ou (fun vs H Q E h=> ?_) (fun cdv A outer s H vs Q E hr h=> ?_)
 ·obtain ⟨R,ws,hn,rfl,_⟩:=h
  rfl
 ·obtain ⟨R,ws,hn,rfl,r,k⟩:=h
  refine ⟨_,(aL (bh (aQ (lX (K:=K) rfl) (by rfl) Bt.uH qp (ao (cN (K:=K) rfl (pv 0) rfl) aB)))), ?_⟩;obtain ⟨ts,Yx,tp⟩:=r.tkn;refine ⟨_,rfl,R.o,ak,R.dx,_,_,rfl,r.o,au.cls,au.rJ,rfl, ?_⟩;dsimp only [yj];exact sJ (K:=K) Yx fun l ns H9 hl NN pp ss s9=>k l ns H9 hl NN (pp.trans tp) ss s9
def Xm (ws:List aY) (h:Int) (g:Int->Int):Prop:=(ig ws h=[] -> ∀i,g i=0) /\ ∀j,(ig ws h).getLast?=some j->Df ws j g /\ ∀i,0<=g i
def sH (C:Addr) (K:PySem.W.Frag):Sp:=fun vs H Q _=>∃(R:Rc) (ws:List aY) (hn:Nat) (h:Int),vs=[.ref R.o,.int h]/\RcAt C H R ws hn/\0<=h/\h<hn/\hn<=8 /\
 ∀(r:Addr) (g:Int->Int) (H':Hp),H r=none->H' r=some (.lst ((List.range hn).map fun i:Nat=>V.int (g (i:Int))))->Xm ws h g->Same H H'->Q (.ref r) H'
theorem Gj {ak:Addr} {f:Addr} {fd:FuncData} (F:lq K "known" "Recorder.known" bM f fd) (au:cL K ak) (kJ:FnAt P w K mg base 3 "check_hand" ["places","hand"] (oh K)) (Bt:rB mg):cU P w K mg base jC 4 f fd ["self","hand"] (sH ak K):=by
 refine F.ok jr (fun vs H Q E h=> ?_) (fun cdv A outer s H vs Q E hr h=> ?_)
 ·obtain ⟨R,ws,hn,h,rfl,_⟩:=h
  rfl
 ·obtain ⟨R,ws,hn,h,rfl,r,h0,h1,h8,k⟩:=h
  obtain ⟨hN,rfl⟩:∃m:Nat,h=m:=⟨h.toNat,by (clear h8 h1;omega)⟩;have g_:=r.pl;have oH:hN<R.ps.length:=by rw [r.O9];(clear g_ h0 h8;omega)
  obtain ⟨p,ep⟩:∃p,R.ps[hN]? = some p:=⟨R.ps[hN],by simp [oH]⟩;have hp:=r.Sd hN p ep;have hps:(R.ps.map V.ref)[hN]? = some (.ref p):=by rw [List.getElem?_map,ep];rfl
  have hu:=Et hr
  refine ⟨_,(aD (dg (bO kJ (hr.mono (by decide)) (by rfl) (ao (cN (K:=K) rfl (pv 0) rfl) (ao (pv 1) aB))))
   (aD (aZ (i:=2) jr.nd rfl (Or.inr rfl) (Jv (Gd (K:=K) rfl (aP (aH (K:=K) rfl) (cN (K:=K) rfl (pv 0) rfl) (pv 1) (fun _ _=>rfl))) (aP (aH (K:=K) rfl) (cN (K:=K) rfl (pv 0) rfl) (aP (aH (K:=K) rfl) (aP (aH (K:=K) rfl) (cN (K:=K) rfl (pv 0) rfl) (pv 1) (fun _ _=>rfl)) (yH rY aF) (fun _ _=>rfl)) (fun _ _=>rfl)) yL))
   (aL (bh (fH rfl (N:=["other","known"]) (own:=["other"]) (caps:=[2]) (aX.of (by kernel_rfl)) (dz (by rfl) Bt.d7 (ao (aQ (aU (K:=K) rfl) (by rfl) Bt.fU dD (ao (cN (K:=K) rfl (pv 0) rfl) aB)) aB)) (fun _ _ _ _=>(bA (i:=0) (show List.Nodup (["other","known"]:List Str) by decide +kernel) rfl (Or.inl rfl))) (fun _ _ _ _=>fG) (fun _ _ _ _=>(tG hu (pv 1) (pv 0) aF ⟨rfl,rfl,rfl,rfl⟩))))))), ?_⟩
  refine ⟨_,rfl,R.o,ak,R.dx,_,_,rfl,r.o,au.cls,au.gA,rfl,_,rfl,R.pl,R.ps.map V.ref,(hN:Int),rfl,g_,⟨by (clear hu hps hp ep oH g_ h1 h0 h8;omega),by rw [List.length_map];(clear hu hps hp ep g_ h1 h0 h8;omega)⟩, ?_⟩;refine ⟨_,rfl,R.o,ak,R.dx,_,_,rfl,r.o,au.cls,au.gA,rfl,_,rfl,_,_,_,_,rfl,rfl,bw.of g_,aW hps,_,.inl ⟨_,bw.of hp,rfl⟩, ?_⟩
  have rest:∀(d:Addr) (g:Int->Int) (H1:Hp),iz H1 d g->Same H H1->Xm ws (hN:Int) g->(Lz (vC ["other"] [2] (Pq (Iu (XQ (Tw K) (Iu (Qg K (su 0) "places") yj)) yj)) (dZ 0) Qi (Ir (su 1) (su 0) (tC (V.int 0))))) {nx:=fun x H'=>Q V.non H',rt:=Q} [some (.ref R.o),some (.int (hN:Int)),some (.ref d)] H1:=by
   intro d g H1 kd s1 kl;have r:=r.same s1;refine ⟨_,rfl,R.o,ak,R.dx,_,_,rfl,r.o,au.cls,au.gA,rfl,R.pl,_,rfl,.inl (bw.of r.pl),_,rfl,by (clear hu hps hp ep oH g_ h1 h0 h8;omega),by rw [List.length_map,r.O9];(clear hu hps hp ep oH g_ h1 h0;omega),fun D hD=> ?_⟩;rw [List.length_map,r.O9,Int.toNat_natCast];refine iU (fun i:Nat=>some (V.int (g (i:Int)))) hD (by (clear hD hu hps hp ep oH g_ h1 h0;omega)) (fun i H2 G F hi s2 kG kF=> ?_) (fun H2 s2 e2=> ?_)
   ·obtain ⟨kvs,e,_,gv⟩:=(kd.same s2).get
    refine ⟨_,rfl,d,rfl,.inl ⟨_,.inl e⟩,_,rfl,_,uT.k (k:=Sum.inl (0+(i:Int))) e,kF _ H2 (Same.refl _) ?_⟩;rw [gv,Int.zero_add]
   ·refine k D g H2 (s1.free hD) ?_ kl (s1.trans s2)
    rw [e2];congr 2;rw [←List.filterMap_eq_map];rfl
  rcases List.eq_nil_or_concat (ig ws (hN:Int)) with e|⟨l,j,e⟩
  ·rw [e]
   refine fO ?_;intro d hd;exact rest d (fun _=>0) _ (J0 aq) (aG hd) ⟨fun _ _=>rfl,fun j z=>by rw [e] at z;cases z⟩
  ·rw [List.concat_eq_append] at e
   have e1:(!(bx (ig ws (hN:Int))).isEmpty)=true:=by rw [e];simp [bx]
   rw [e1];refine iK ?_;obtain ⟨rs,hk,rl,rq⟩:=r.Uq
   have jl:j<ws.length:=by
    have:j∈ig ws (hN:Int):=by rw [e];simp
    unfold ig at this;exact List.mem_range.mp (List.mem_filter.mp this).1
   obtain ⟨d,ed⟩:∃d,rs[j]? = some d:=⟨rs[j],by simp [rl,jl]⟩;obtain ⟨g,kd,ko⟩:=rq j d ed;refine ⟨_,rfl,R.o,ak,R.dx,_,_,rfl,r.o,au.cls,au.oK,rfl,_,rfl,R.o,ak,R.dx,_,_,rfl,r.o,au.cls,au.gA,rfl,_,rfl,_,_,_,_,rfl,rfl,bw.of g_,aW hps,_,rfl,_,_,_,_,rfl,rfl,bw.of hp,(show rm (bx (ig ws (hN:Int))) (-1)=some (V.int (j:Int)) from by rw [e,bx,List.map_append];exact KY _ _),_,_,_,_,rfl,rfl,bw.of hk,(aW (j:=j) (v:=V.ref d) (by rw [List.getElem?_map,ed];rfl)), ?_⟩;refine rest d g H kd (Same.refl _) ⟨fun z=> ?_,fun j' z=> ?_⟩
   ·rw [e] at z
    exact absurd z (by simp)
   ·rw [e] at z
    simp at z;subst z;exact ⟨ko,kd.2⟩
theorem RcAt.kp {C:Addr} {H H':Hp} {R:Rc} {ws:List aY} {hn:Nat} {x:Addr} {ys:List V} (r:RcAt C H R ws hn) (k:Kp x H H') (hx:H x=some (.lst ys)) (n1:x∉R.fp) (n2:R.pl≠x):RcAt C H' R ws hn:=by
 obtain ⟨ts,t1,t2⟩:=r.tkn;have na:R.a≠x:=fun z=>n1 (z ▸ .head _);have nn:R.nd≠x:=fun z=>n1 (z ▸ .tail _ (.head _));have nk:R.kn≠x:=fun z=>n1 (z ▸ .tail _ (.tail _ (.head _)));have nt:R.tk≠x:=fun z=>n1 (z ▸ .tail _ (.tail _ (.tail _ (.head _))));have np:∀p∈R.ps,p≠x:=fun p m z=>n1 (z ▸ .tail _ (.tail _ (.tail _ (.tail _ m))));have no:R.o≠x:=qF r.o hx (by intro z;cases z);exact ⟨k _ _ r.o no,r.web.kp hx k na,r.named.kp hx k nn,r.Uq.kp k hx nk,⟨ts,t1.kp (k.tups hx) k nt,t2⟩,k _ _ r.pl n2,r.O9,fun h p e=>k _ _ (r.Sd h p e) (np p (List.mem_of_getElem? e)),r.nd,r.rH⟩
theorem RcAt.rO {C:Addr} {H:Hp} {R:Rc} {ws:List aY} {hn:Nat} (r:RcAt C H R ws hn) {b:Addr} (m:b∈R.fp):∃u,H b=some u:=by
 obtain ⟨_,w,_⟩:=r.web;obtain ⟨_,n,_⟩:=r.named;obtain ⟨_,k,_⟩:=r.Uq;obtain ⟨_,⟨_,t,_⟩,_⟩:=r.tkn;have m:b∈(R.a::R.nd::R.kn::R.tk::R.ps):=m;simp only [List.mem_cons] at m;rcases m with rfl|rfl|rfl|rfl|m
 ·exact ⟨_,w⟩
 ·exact ⟨_,n⟩
 ·exact ⟨_,k⟩
 ·exact ⟨_,t⟩
 ·obtain ⟨i,e⟩:=List.getElem?_of_mem m
  exact ⟨_,r.Sd i b e⟩
theorem vK:∀(suf pre:List aY) {j:Nat},j<pre.length->aV (pre++suf) j (bB (pre++suf) j j)=aV pre j (bB pre j j)
 | [],pre,j,_=>by rw [List.append_nil]
 | x::s,pre,j,h=>by
   rw [show pre++x::s=(pre++[x])++s by simp,vK s (pre++[x]) (by rw [List.length_append];omega),uK h,oJ h fun e he=>o8 h he]
theorem JL {ws:List aY} {i:Nat} (h:i<ws.length):aV (ws.take (i+1)) i (bB (ws.take (i+1)) i i)=aV ws i (bB ws i i):=by
 have:=vK (ws.drop (i+1)) (ws.take (i+1)) (j:=i) (by rw [List.length_take];omega);rw [List.take_append_drop] at this;exact this.symm
theorem Io {hn:Int} {ws:List aY} (h:∀x∈ws,o_ hn x) (h8:hn<=8):∀x∈ws,VN x:=fun x hx=>⟨⟨(h x hx).1.1,by have:=(h x hx).1.2;omega⟩,(h x hx).2.1,(h x hx).2.2⟩
theorem RJ (x y:Nt):PyData.eqv (nD x) (nD y)=decide (x=y):=by
 obtain ⟨a,b,c,d⟩:=x;obtain ⟨a',b',c',d'⟩:=y;simp only [nD,PyData.eqv,PyData.eqvAll,Bool.and_true]
 by_cases e1:a=a'
 ·subst e1
  by_cases e2:b=b'
  ·subst e2
   by_cases e3:c=c'
   ·subst e3
    by_cases e4:d=d'
    ·subst e4;simp
    ·simp [e4]
   ·simp [e3]
  ·simp [e2]
 ·simp [e1]
theorem sS (ns:List Nt):SeqAt.shaped (.list (ns.map nD))=true:=
 qx nD 1 (by decide) (fun _ _=>rfl) (fun _ _=>by show (max 0 (max 0 (max 0 (max 0 0))))+1<=1;decide)
def RecAt (H:Hp) (t c a:Addr) (cs:List Int) (ns:List Nt):Prop:=H t=some (.tup [.ref c,.ref a])/\H c=some (.lst (cs.map V.int))/\gD H a ns
theorem Vg (a b c d:V):qY [a,b,c,d] none (some 2)=[a,b]:=Ko _ 2
theorem Vf (a b c d:V):qY [a,b,c,d] (some 2) none=[c,d]:=Kq _ 2
theorem QF {α:Type} (xs:List α) (h:xs.length=4):¬(HT.jk xs.length 0 none=0/\HT.jk xs.length xs.length (some 2)=xs.length):=by
 rw [h];decide
theorem QD {α:Type} (xs:List α) (h:xs.length=4):¬(HT.jk xs.length 0 (some 2)=0/\HT.jk xs.length xs.length none=xs.length):=by
 rw [h];decide
def uM (cs:List Int) (ns:List Nt):Prop:=Ld cs/\ns.length<=100000 /\ ∀x∈ns,K3 cs x
def num (i:Int):Str:=Str.ofString (toString i)
def nT (x:Nt):Str:=num x.1++Str.ofString "." ++ num x.2.1++Str.ofString " " ++ num x.2.2.1++Str.ofString "." ++ num x.2.2.2
def rT (cs:List Int) (ns:List Nt):Str:=Str.ofString "counts" ++ cat (cs.map fun c=>Str.ofString " " ++ num c)++cat (ns.map fun x=>Str.ofString "\n" ++ nT x)
theorem Fo:∀xs:List Str,(cat xs).length=(xs.map (·.length)).sum
 | []=>rfl
 | x::xs=>by rw [cat,Str.length_append,Fo xs,List.map_cons,List.sum_cons]
theorem sum_bound {α:Type} (f:α->Nat) (b:Nat):∀l:List α,(∀x∈l,f x<=b)->(l.map f).sum<=b*l.length
 | [],_=>by simp
 | x::l,h=>by
   have a:=h x (by simp);have ih:=sum_bound f b l fun y hy=>h y (by simp [hy]);rw [List.map_cons,List.sum_cons,List.length_cons,Nat.mul_add];omega
theorem wU:(Str.ofString ".").length=1:=rfl
theorem wR:(Str.ofString " ").length=1:=rfl
theorem Rb:(Str.ofString "\n").length=1:=rfl
theorem tR:(Str.ofString "counts").length=6:=rfl
theorem K3.small {cs:List Int} {x:Nt} (cok:Ld cs) (h:K3 cs x):(0<=x.1/\x.1<=1000)/\(0<=x.2.1/\x.2.1<=1000)/\(0<=x.2.2.1/\x.2.2.1<=1000)/\(0<=x.2.2.2/\x.2.2.2<=1000):=by
 obtain ⟨⟨a0,a1⟩,⟨b0,b1⟩,⟨c0,c1⟩,⟨d0,d1⟩,_⟩:=h;have l:=cok.1;have g1:=cok.gI x.1;have g2:=cok.gI x.2.2.1;refine ⟨⟨a0,by omega⟩,⟨b0,by omega⟩,⟨c0,by omega⟩,⟨d0,by omega⟩⟩
theorem Q5 {x:Nt} (h:(0<=x.1/\x.1<=1000)/\(0<=x.2.1/\x.2.1<=1000)/\(0<=x.2.2.1/\x.2.2.1<=1000)/\(0<=x.2.2.2/\x.2.2.2<=1000)):(nT x).length<=19:=by
 obtain ⟨⟨a0,a1⟩,⟨b0,b1⟩,⟨c0,c1⟩,⟨d0,d1⟩⟩:=h;unfold nT num;simp only [Str.length_append,wU,wR];have:=dU a0 a1;have:=dU b0 b1;have:=dU c0 c1;have:=dU d0 d1;omega
def sE (K:PySem.W.Frag):Sp:=fun vs H Q _=>∃(t:Addr) (a b:Int),vs=[.ref t]/\H t=some (.tup [.int a,.int b])/\(0<=a/\a<=1000)/\(0<=b/\b<=1000) /\ ∀H',Same H H'->Q (.str (num a++Str.ofString "." ++ num b)) H'
theorem Gg {f:Addr} {fd:FuncData} (F:lq K "touch_text" "touch_text" cQ f fd) (Bt:rB mg):cU P w K mg base jC 1 f fd ["touch"] (sE K):=by
 refine F.ok uY (fun vs H Q E h=> ?_) (fun cdv A outer s H vs Q E hr h=> ?_)
 ·obtain ⟨t,a,b,rfl,_⟩:=h
  rfl
 ·obtain ⟨t,a,b,rfl,ht,⟨a0,a1⟩,⟨b0,b1⟩,k⟩:=h
  refine ⟨_,(aL (bh (pU (K:=K) rfl PySem.F.plainAttrs_str PySem.F.slot_str_join PySem.F.type_str_join (oM (K:=K) rfl) dB (ao (fH rfl (N:=["number"]) (own:=["number"]) (caps:=[]) (aX.of (by kernel_rfl)) (Mv (K:=K) rfl (pv 0)) (fun _ _ _ _=>(bA (i:=0) (show List.Nodup (["number"]:List Str) by decide +kernel) rfl (Or.inl rfl))) (fun _ _ _ _=>fG) (fun _ _ _ _=>(iR kh (by rfl) Bt.Ab uF (ao (pv 0) aB)))) aB)))), ?_⟩;refine ⟨rfl,_,rfl,t,rfl,⟨_,fY.of ht⟩,fun D hD=> ?_⟩;refine G_ (K:=K) (fun i=>([a,b][i]?).map fun z=>V.str (num z)) hD ht (by show 2<=100000;decide) (fun i v H2 G F hi s2 kG kF=> ?_) (fun H2 s2 e2=> ?_)
  ·obtain ⟨z,rfl,ez,z0,z1⟩:∃z,v=V.int z/\[a,b][i]? = some z/\0<=z/\z<=1000:=by
    match i,hi with
    | 0,hi=>exact ⟨a,(by simpa using hi.symm),rfl,a0,a1⟩
    | 1,hi=>exact ⟨b,(by simpa using hi.symm),rfl,b0,b1⟩
    | i+2,hi=>simp at hi
   exact ⟨_,rfl,z,rfl,Eh z0 z1,kF _ H2 (Same.refl _) (by rw [ez];rfl)⟩
  ·refine ⟨_,D,[num a,num b],rfl,rfl,bw.of e2, ?_, ?_⟩
   ·have:=dU a0 a1
    have:=dU b0 b1;simp only [List.map_cons,List.map_nil,List.sum_cons,List.sum_nil,List.length_cons,List.length_nil,wU,num];omega
   ·have e:Txt.join (Str.ofString ".") [num a,num b]=num a++Str.ofString "." ++ num b:=by
     rw [glued_cons,List.map_cons,List.map_nil,cat,cat,gH,Str.append_assoc]
    rw [e];exact k H2 s2
def wB (K:PySem.W.Frag):Sp:=fun vs H Q _=>∃(t:Addr) (x:Nt),vs=[.ref t]/\H t=some (.tup (nV x))/\((0<=x.1/\x.1<=1000)/\(0<=x.2.1/\x.2.1<=1000)/\(0<=x.2.2.1/\x.2.2.1<=1000)/\(0<=x.2.2.2/\x.2.2.2<=1000)) /\ ∀H',Same H H'->Q (.str (nT x)) H'
theorem JD {f:Addr} {fd:FuncData} (F:lq K "note_text" "note_text" cZ f fd) (pA:FnAt P w K mg base 1 "touch_text" ["touch"] (sE K)) (Bt:rB mg):cU P w K mg base jC 2 f fd ["note"] (wB K):=by
 refine F.ok wH (fun vs H Q E h=> ?_) (fun cdv A outer s H vs Q E hr h=> ?_)
 ·obtain ⟨t,x,rfl,_⟩:=h
  rfl
 ·obtain ⟨t,x,rfl,ht,⟨xa,xb,xc,xd⟩,k⟩:=h
  refine ⟨_,(aL (bh (pU (K:=K) rfl PySem.F.plainAttrs_str PySem.F.slot_str_join PySem.F.type_str_join (oM (K:=K) rfl) dB (ao (cC (ao (bO pA (hr.mono (by decide)) (by rfl) (ao (yI (Dy (K:=K) rfl) (pv 0) DX (DW aF)) aB)) (ao (bO pA (hr.mono (by decide)) (by rfl) (ao (yI (Dy (K:=K) rfl) (pv 0) (DW aF) DX) aB)) aB))) aB)))), ?_⟩;refine ⟨rfl,_,rfl,_,rfl,_,_,rfl,fY.of ht,QF _ rfl,fun p1 hp1=> ?_⟩;have c1:qY (nV x) none (some 2)=[.int x.1,.int x.2.1]:=Vg ..;rw [c1];have s1:=aG (o:=HO.tup [V.int x.1,V.int x.2.1]) hp1;refine ⟨p1,_,_,rfl,aq,xa,xb,fun H2 s2=> ?_⟩;have s12:=s1.trans s2;refine ⟨_,rfl,_,rfl,_,_,rfl,fY.of (s12 _ _ ht),QD _ rfl,fun p2 hp2=> ?_⟩;have c2:qY (nV x) (some 2) none=[.int x.2.2.1,.int x.2.2.2]:=Vf ..;rw [c2];have s3:=aG (o:=HO.tup [V.int x.2.2.1,V.int x.2.2.2]) hp2;refine ⟨p2,_,_,rfl,aq,xc,xd,fun H4 s4=> ?_⟩;refine ⟨(by show 2<=sizeLine;decide),fun l hl=> ?_⟩;have s5:=aG (o:=HO.lst [V.str (num x.1++Str.ofString "." ++ num x.2.1),V.str (num x.2.2.1++Str.ofString "." ++ num x.2.2.2)]) hl;refine ⟨_,l,[num x.1++Str.ofString "." ++ num x.2.1,num x.2.2.1++Str.ofString "." ++ num x.2.2.2],rfl,rfl,bw.of aq, ?_, ?_⟩
  ·have:=dU xa.1 xa.2
   have:=dU xb.1 xb.2;have:=dU xc.1 xc.2;have:=dU xd.1 xd.2;simp only [List.map_cons,List.map_nil,List.sum_cons,List.sum_nil,List.length_cons,List.length_nil,Str.length_append,wU,wR,num];omega
  ·have e:Txt.join (Str.ofString " ") [num x.1++Str.ofString "." ++ num x.2.1,num x.2.2.1++Str.ofString "." ++ num x.2.2.2]=nT x:=by
    rw [glued_cons,List.map_cons,List.map_nil,cat,cat,gH];unfold nT;simp only [Str.append_assoc]
   rw [e];exact k _ (((s12.trans s3).trans s4).trans s5)
theorem Mi {cs:List Int} (ok:Ld cs):(Str.ofString "counts" ++ cat (cs.map fun c=>Str.ofString " " ++ num c)).length<=46:=by
 rw [Str.length_append,Fo,List.map_map,tR]
 have:=sum_bound ((fun s:Str=>s.length)∘fun c:Int=>Str.ofString " " ++ num c) 5 cs fun c hc=>by
  have q:=ok.2 c hc;have:=dU (i:=c) q.1 (by omega);simp only [Function.comp,Str.length_append,wR,num];omega
 have l:=ok.1;omega
theorem Gr {cs:List Int} {ns:List Nt} (ok:uM cs ns):((ns.map nT).map (·.length)).sum<=19*ns.length:=by
 rw [List.map_map];exact sum_bound ((fun s:Str=>s.length)∘nT) 19 ns fun x hx=>Q5 ((ok.2.2 x hx).small ok.1)
theorem Ao (cs:List Int) (ns:List Nt):Txt.join (Str.ofString "\n") ((Str.ofString "counts" ++ cat (cs.map fun c=>Str.ofString " " ++ num c))::ns.map nT)=rT cs ns:=by
 rw [glued_cons,List.map_map];rfl
theorem Aq {cs:List Int} {ns:List Nt} (ok:uM cs ns):((((Str.ofString "counts" ++ cat (cs.map fun c=>Str.ofString " " ++ num c))::ns.map nT).map (·.length)).sum+((Str.ofString "counts" ++ cat (cs.map fun c=>Str.ofString " " ++ num c))::ns.map nT).length*(Str.ofString "\n").length<=16777216):=by
 have a:=Mi ok.1;have b:=Gr ok;have c:=ok.2.1;rw [List.map_cons,List.sum_cons,List.length_cons,List.length_map,Rb];omega
def pI (K:PySem.W.Frag):Sp:=fun vs H Q _=>∃(t c a:Addr) (cs:List Int) (ns:List Nt),vs=[.ref t]/\RecAt H t c a cs ns/\uM cs ns /\ ∀H',Same H H'->Q (.str (rT cs ns)) H'
theorem tH {f:Addr} {fd:FuncData} (F:lq K "record_text" "record_text" cF f fd) (Af:FnAt P w K mg base 2 "note_text" ["note"] (wB K)) (Bt:rB mg):cU P w K mg base jC 3 f fd ["record"] (pI K):=by
 refine F.ok lH (fun vs H Q E h=> ?_) (fun cdv A outer s H vs Q E hr h=> ?_)
 ·obtain ⟨t,c,a,cs,ns,rfl,_⟩:=h
  rfl
 ·obtain ⟨t,c,a,cs,ns,rfl,⟨ht,hc,hN⟩,ok,k⟩:=h
  obtain ⟨vs,ha,dv⟩:=id hN;have vl:vs.length=ns.length:=by rw [dv.length,List.length_map]
  have nl:=ok.2.1;have c8:=ok.1.1
  refine ⟨_,(aD (aZ (i:=1) lH.nd rfl (Or.inl rfl) (cC (ao (pU (K:=K) rfl PySem.F.plainAttrs_str PySem.F.slot_str_join PySem.F.type_str_join (oM (K:=K) rfl) dB (ao (bI QL (cC (ao dB aB)) (fH rfl (N:=["count"]) (own:=["count"]) (caps:=[]) (aX.of (by kernel_rfl)) (iY (K:=K) rfl (aP (cO (K:=K) rfl) (pv 0) aF (fun _ _=>rfl))) (fun _ _ _ _=>(bA (i:=0) (show List.Nodup (["count"]:List Str) by decide +kernel) rfl (Or.inl rfl))) (fun _ _ _ _=>fG) (fun _ _ _ _=>(iR kh (by rfl) Bt.Ab uF (ao (pv 0) aB))))) aB)) aB)))
   (aD (dg (pU (K:=K) rfl PySem.F.plainAttrs_list PySem.F.slot_list_extend PySem.F.type_list_extend vL (pv 1) (ao (fH rfl (N:=["note"]) (own:=["note"]) (caps:=[]) (aX.of (by kernel_rfl)) (iY (K:=K) rfl (aP (cO (K:=K) rfl) (pv 0) aF (fun _ _=>rfl))) (fun _ _ _ _=>(bA (i:=0) (show List.Nodup (["note"]:List Str) by decide +kernel) rfl (Or.inl rfl))) (fun _ _ _ _=>fG) (fun _ _ _ _=>(bO Af (hr.mono (by decide)) (by rfl) (ao (pv 0) aB)))) aB)))
   (aL (bh (pU (K:=K) rfl PySem.F.plainAttrs_str PySem.F.slot_str_join PySem.F.type_str_join (oM (K:=K) rfl) dB (ao (pv 1) aB)))))), ?_⟩
  refine ⟨rfl,(by show 1<=sizeLine;decide),fun l1 hl1=> ?_⟩;have s1:=aG (o:=HO.lst [V.str (Str.ofString "counts")]) hl1;refine ⟨_,rfl,_,_,_,_,rfl,rfl,fY.of (s1 _ _ ht),rfl,c,rfl,⟨_,bw.of (s1 _ _ hc)⟩,fun D hD=> ?_⟩;refine uq (K:=K) (fun i=>(cs[i]?).map fun z=>V.str (num z)) hD (bw.of (s1 _ _ hc)) (by rw [List.length_map];omega) (fun i v H2 G F hi s2 kG kF=> ?_) (fun H2 s2 e2=> ?_)
  ·rw [List.getElem?_map] at hi
   cases ei:cs[i]? with
   | none=>rw [ei] at hi;cases hi
   | some z=>
     rw [ei] at hi;cases hi;have q:=ok.1.2 z (List.mem_of_getElem? ei);exact ⟨_,rfl,z,rfl,Eh q.1 (by omega),kF _ H2 (Same.refl _) (by rw [ei];rfl)⟩
  rw [List.length_map,Ez] at e2;refine ⟨l1,D,_,_,rfl,rfl,s2 _ _ aq,e2,by rw [List.length_map,sizeLine_eq];simp;omega,fun l2 hl2=> ?_⟩;have s3:=aG (o:=HO.lst ([V.str (Str.ofString "counts")]++cs.map fun z=>V.str (num z))) hl2;have s13:=(s1.trans s2).trans s3;have Va:[V.str (Str.ofString "counts")]++cs.map (fun z=>V.str (num z))=(Str.ofString "counts" :: cs.map num).map V.str:=by simp
  refine ⟨_,l2,Str.ofString "counts" :: cs.map num,rfl,rfl,bw.of (by rw [aq,Va]), ?_, ?_⟩
  ·have:=sum_bound ((fun s:Str=>s.length)∘num) 4 cs fun z hz=>dU (ok.1.2 z hz).1 (by have:=ok.1.2 z hz;omega)
   rw [List.map_cons,List.sum_cons,List.map_map,List.length_cons,List.length_map,tR,wR];omega
  have abD:Txt.join (Str.ofString " ") (Str.ofString "counts" :: cs.map num)=Str.ofString "counts" ++ cat (cs.map fun c=>Str.ofString " " ++ num c):=by
   rw [glued_cons,List.map_map];rfl
  rw [abD];refine ⟨(by show 1<=sizeLine;decide),fun p hp=> ?_⟩;have s4:=aG (o:=HO.lst [V.str (Str.ofString "counts" ++ cat (cs.map fun c=>Str.ofString " " ++ num c))]) hp;have Mf:=s13.trans s4;have hp0:H p=none:=s13.free hp;refine ⟨_,rfl,.inl ⟨rfl,_,bw.of aq⟩,_,rfl,_,_,_,_,rfl,rfl,fY.of (Mf _ _ ht),rfl,a,rfl,⟨_,bw.of (Mf _ _ ha)⟩,fun D2 hD2=> ?_⟩;refine uq (K:=K) (fun i=>(ns[i]?).map fun x=>V.str (nT x)) hD2 (bw.of (Mf _ _ ha)) (by omega) (fun i v H5 G F hi s5 kG kF=> ?_) (fun H5 s5 e5=> ?_)
  ·obtain ⟨x,q,ex,rfl,hx⟩:=wN dv hi
   exact ⟨_,rfl,q,x,rfl,s5 _ _ (Mf _ _ hx),(ok.2.2 x (List.mem_of_getElem? ex)).small ok.1,fun H6 s6=>kF _ H6 s6 (by rw [ex];rfl)⟩
  rw [vl,Ez] at e5;have tW:=s5 _ _ (aq (H:=_) (a:=p) (o:=HO.lst [V.str (Str.ofString "counts" ++ cat (cs.map fun c=>Str.ofString " " ++ num c))]));refine ⟨p,D2,_,_,rfl,rfl,tW,e5,by rw [List.length_map,sizeLine_eq];simp;omega, ?_⟩;have k6:Kp p H5 (upd H5 p (.lst ([V.str (Str.ofString "counts" ++ cat (cs.map fun c=>Str.ofString " " ++ num c))]++ns.map fun x=>V.str (nT x)))):=Kp.set;have el2:[V.str (Str.ofString "counts" ++ cat (cs.map fun c=>Str.ofString " " ++ num c))]++ns.map (fun x=>V.str (nT x))=((Str.ofString "counts" ++ cat (cs.map fun c=>Str.ofString " " ++ num c))::ns.map nT).map V.str:=by simp
  refine ⟨rfl,_,rfl,_,p,_,rfl,rfl,bw.of (by rw [aq,el2]),Aq ok, ?_⟩;rw [Ao];exact k _ fun b o e=>k6 _ _ ((Mf.trans s5) _ _ e) (aA e hp0)
def lG (C:Addr) (K:PySem.W.Frag):Sp:=fun vs H Q _=>∃(R:Rc) (ws:List aY) (hn:Nat),vs=[.ref R.o]/\RcAt C H R ws hn/\hn<=8 /\
 ∀(r:Addr) (H':Hp),H r=none->H' r=some (.lst (((List.range hn).map fun h:Nat=>cnt ws (h:Int)).map V.int))->Same H H'->Q (.ref r) H'
theorem Gk {ak:Addr} {f:Addr} {fd:FuncData} (F:lq K "counts" "Recorder.counts" bG f fd) (au:cL K ak) (Bt:rB mg):cU P w K mg base jC 1 f fd ["self"] (lG ak K):=by
 refine F.ok m_ (fun vs H Q E h=> ?_) (fun cdv A outer s H vs Q E hr h=> ?_)
 ·obtain ⟨R,ws,hn,rfl,_⟩:=h
  rfl
 ·obtain ⟨R,ws,hn,rfl,r,h8,k⟩:=h
  refine ⟨_,(aL (bh (fH rfl (N:=["places"]) (own:=["places"]) (caps:=[]) (aX.of (by kernel_rfl)) (iY (K:=K) rfl (cN (K:=K) rfl (pv 0) rfl)) (fun _ _ _ _=>(bA (i:=0) (show List.Nodup (["places"]:List Str) by decide +kernel) rfl (Or.inl rfl))) (fun _ _ _ _=>fG) (fun _ _ _ _=>(aQ (aU (K:=K) rfl) (by rfl) Bt.fU dD (ao (pv 0) aB)))))), ?_⟩;have O9:=r.O9;refine ⟨_,rfl,R.o,ak,R.dx,_,_,rfl,r.o,au.cls,au.gA,rfl,R.pl,rfl,⟨_,bw.of r.pl⟩,fun D hD=> ?_⟩;refine uq (K:=K) (fun i:Nat=>some (V.int (cnt ws (i:Int)))) hD (bw.of r.pl) (by rw [List.length_map];omega) (fun i v H2 G F hi s2 kG kF=> ?_) (fun H2 s2 e2=> ?_)
  ·rw [List.getElem?_map] at hi
   obtain ⟨p,ep,rfl⟩:∃p,R.ps[i]? = some p/\v = .ref p:=by
    cases e:R.ps[i]? with
    | none=>rw [e] at hi;cases hi
    | some q=>rw [e] at hi;exact ⟨q,rfl,(Option.some.inj hi).symm⟩
   refine ⟨_,rfl,p,_,rfl,.inl (bw.of (s2 _ _ (r.Sd i p ep))),kF _ H2 (Same.refl _) ?_⟩;have e:=oG ws (i:Int);show some (V.int (cnt ws (i:Int)))=some (V.int (((bx (ig ws (i:Int))).length:Nat):Int));rw [←e];unfold bx;rw [List.length_map]
  ·refine k D H2 hD ?_ s2
   rw [e2,List.length_map,O9,List.map_map,←List.filterMap_eq_map];rfl
def Bk (C:Addr) (K:PySem.W.Frag):Sp:=fun vs H Q _=>∃(R:Rc) (ws:List aY) (hn:Nat),vs=[.ref R.o]/\RcAt C H R ws hn/\Q (.int ((jo ws ws.length).length:Nat)) H
theorem M6 {ak:Addr} {f:Addr} {fd:FuncData} (F:lq K "__len__" "Recorder.__len__" bD f fd) (au:cL K ak) (Bt:rB mg):cU P w K mg base jC 1 f fd ["self"] (Bk ak K):=by
 refine F.ok mR (fun vs H Q E h=> ?_) (fun cdv A outer s H vs Q E hr h=> ?_)
 ·obtain ⟨R,ws,hn,rfl,_⟩:=h
  rfl
 ·obtain ⟨R,ws,hn,rfl,r,k⟩:=h
  refine ⟨_,(aL (bh (aQ (aU (K:=K) rfl) (by rfl) Bt.fU dD (ao (cN (K:=K) rfl (pv 0) rfl) aB)))), ?_⟩;obtain ⟨ts,⟨vs,hv,dv⟩,tp⟩:=r.tkn;refine ⟨_,rfl,R.o,ak,R.dx,_,_,rfl,r.o,au.cls,au.rJ,rfl,R.tk,_,rfl,.inl (bw.of hv), ?_⟩;have e:vs.length=(jo ws ws.length).length:=by rw [dv.length,List.length_map,tp.length_eq]
  rw [e];exact k
def Bj (C:Addr) (K:PySem.W.Frag):Sp:=fun vs H Q _=>∃(R:Rc) (ws:List aY) (hn:Nat),vs=[.ref R.o]/\RcAt C H R ws hn/\hn<=8 /\
 (∀ns:List Nt,ns.Perm (jo ws ws.length)->uM ((List.range hn).map fun h:Nat=>cnt ws (h:Int)) ns) /\
 ∀(ns:List Nt) (H':Hp),ns.Perm (jo ws ws.length)->rA ns->Same H H'->Q (.str (rT ((List.range hn).map fun h:Nat=>cnt ws (h:Int)) ns)) H'
theorem M5 {ak:Addr} {f:Addr} {fd:FuncData} (F:lq K "__str__" "Recorder.__str__" bC f fd) (au:cL K ak) (vq:FnAt P w K mg base 3 "record_text" ["record"] (pI K)) (cj:MethAt P w K mg base 1 ak "counts" ["self"] (lG ak K)) (cD:MethAt P w K mg base 1 ak "notes" ["self"] (lF ak K)) (Bt:rB mg):cU P w K mg base jC 4 f fd ["self"] (Bj ak K):=by
 refine F.ok mQ (fun vs H Q E h=> ?_) (fun cdv A outer s H vs Q E hr h=> ?_)
 ·obtain ⟨R,ws,hn,rfl,_⟩:=h
  rfl
 ·obtain ⟨R,ws,hn,rfl,r,h8,okk,k⟩:=h
  refine ⟨_,(aL (bh (iR CK (by rfl) Bt.Ab uF (ao (bO vq (hr.mono (by decide)) (by rfl) (ao (lM (ao (dX cj au.cls (hr.mono (by decide)) (pv 0)) (ao (dX cD au.cls (hr.mono (by decide)) (pv 0)) aB))) aB)) aB)))), ?_⟩;refine ⟨_,rfl,R.o,R.dx,_,rfl,r.o,rfl,R,ws,hn,rfl,r,h8,fun c H1 hc ec s1=> ?_⟩;have r1:=r.same s1;refine ⟨_,rfl,R.o,R.dx,_,rfl,r1.o,rfl,R,ws,hn,rfl,r1,fun a ns H2 ha N2 pm sr s2=> ?_⟩;refine ⟨(by show 2<=sizeLine;decide),fun t ht=> ?_⟩;have s3:=aG (o:=HO.tup [V.ref c,V.ref a]) ht;refine ⟨t,c,a,_,ns,rfl,⟨aq,s3 _ _ (s2 _ _ ec),N2.same s3⟩,okk ns pm,fun H4 s4=> ?_⟩;exact .inr ⟨_,rfl,k ns H4 pm sr (((s1.trans s2).trans s3).trans s4)⟩
def v9:Nat->PyData->Prop
 | 0,_=>False
 | _+1,.int _=>True
 | n+1,.list ds=>ds.length<=100000 /\ ∀d∈ds,v9 n d
 | n+1,.tuple ds=>ds.length<=100000 /\ ∀d∈ds,v9 n d
 | _+1,_=>False
theorem vO (n:Nat) (v:V):(List.range n).filterMap (fun _=>some v)=List.replicate n v:=by
 induction n with
 | zero=>rfl
 | succ n ih=>rw [fJ,ih,List.replicate_succ'];rfl
def gP (n:Nat) (K:PySem.W.Frag):Sp:=fun vs H Q _=>∃(x y:V) (d:PyData),vs=[x,y]/\Dat H x d/\Dat H y d/\v9 n d /\ ∀H',Same H H'->Q (.bl true) H'
theorem Gp {f:Addr} {fd:FuncData} (F:lq K "_law_alike" "_law_alike" fB f fd):cU P w K mg base jC 1 f fd ["found","due"] (gP 0 K):=by
 refine F.ok vD (fun vs H Q E h=> ?_) (fun cdv A outer s H vs Q E hr h=> ?_)
 ·obtain ⟨x,y,d,_,_,_,z,_⟩:=h
  exact z.elim
 ·obtain ⟨x,y,d,_,_,_,z,_⟩:=h
  exact z.elim
theorem jF {n:Nat} {f:Addr} {fd:FuncData} (F:lq K "_law_alike" "_law_alike" fB f fd) (jN:FnAt P w K mg base (n+1) "_law_alike" ["found","due"] (gP n K)) (Bt:rB mg):cU P w K mg base jC (n+1+1) f fd ["found","due"] (gP (n+1) K):=by
 refine F.ok vD (fun vs H Q E h=> ?_) (fun cdv A outer s H vs Q E hr h=> ?_)
 ·obtain ⟨x,y,d,rfl,_⟩:=h
  rfl
 ·obtain ⟨x,y,d,rfl,dx,dy,pl,k⟩:=h
  refine ⟨_,(aD (fj (gJ (aQ (CP (K:=K) rfl) (by rfl) Bt.cH bY (ao (pv 1) (ao (lM (ao (gR (v:= .ty "list") (by rfl) Bt.uI oY rfl) (ao (gR (v:= .ty "tuple") (by rfl) Bt.xK uE rfl) aB))) aB)))) (aD (fj (PW.pt (qy (cG kO (aQ (eY (K:=K) (cv:= .ty "list") (c:= .type "list") rfl rfl) (by rfl) Bt.cH bY (ao (pv 0) (ao (gR (v:= .ty "list") (by rfl) Bt.uI oY rfl) aB))) (aQ (eY (K:=K) (cv:= .ty "list") (c:= .type "list") rfl rfl) (by rfl) Bt.cH bY (ao (pv 1) (ao (gR (v:= .ty "list") (by rfl) Bt.uI oY rfl) aB))) (bN _)) (nj (cG kO (aQ (eY (K:=K) (cv:= .ty "tuple") (c:= .type "tuple") rfl rfl) (by rfl) Bt.cH bY (ao (pv 0) (ao (gR (v:= .ty "tuple") (by rfl) Bt.xK uE rfl) aB))) (aQ (eY (K:=K) (cv:= .ty "tuple") (c:= .type "tuple") rfl rfl) (by rfl) Bt.cH bY (ao (pv 1) (ao (gR (v:= .ty "tuple") (by rfl) Bt.xK uE rfl) aB))) (bN _))))) (aL (bh mZ)) cA)
   (aD (fj (cG kO (aQ (aU (K:=K) rfl) (by rfl) Bt.fU dD (ao (pv 0) aB)) (aQ (aU (K:=K) rfl) (by rfl) Bt.fU dD (ao (pv 1) aB)) (bN _)) (aL (bh mZ)) cA)
   (aL (bh (aQ (iy (K:=K) rfl rfl) (by rfl) Bt.KQ CT (ao (fH rfl (N:=["k","found","due"]) (own:=["k"]) (caps:=[0,1]) (aX.of (by kernel_rfl)) (dz (by rfl) Bt.d7 (ao (aQ (aU (K:=K) rfl) (by rfl) Bt.fU dD (ao (pv 1) aB)) aB)) (fun _ _ _ _=>(bA (i:=0) (show List.Nodup (["k","found","due"]:List Str) by decide +kernel) rfl (Or.inl rfl))) (fun _ _ _ _=>fG) (fun _ _ _ _=>(bO jN (hr.mono (Nat.le_refl _)) (by rfl) (ao (aP (En (K:=K) rfl) (pv 1) (pv 0) (fun _ _=>rfl)) (ao (aP (En (K:=K) rfl) (pv 2) (pv 0) (fun _ _=>rfl)) aB))))) aB)))))) cA)
   (aL (bh (nq (aQ (eY (K:=K) (cv:= .ty "int") (c:= .type "int") rfl rfl) (by rfl) Bt.cH bY (ao (pv 0) (ao (gR (v:= .ty "int") (by rfl) Bt.PL Kz rfl) aB))) (nq (Jt (aQ (eY (K:=K) (cv:= .ty "bool") (c:= .type "bool") rfl rfl) (by rfl) Bt.cH bY (ao (pv 0) (ao (gR (v:= .ty "bool") (by rfl) Bt.KN Fp rfl) aB)))) (j8 (eX m5 (pv 0) (pv 1) (bN _)))))))), ?_⟩
  match d,pl,dx,dy with
  | .int i,pl,dx,dy=>
    simp only [Dat] at dx dy;subst dx dy;refine ⟨_,rfl,(by show 2<=sizeLine;decide),fun p hp=> ?_⟩;have s1:=aG (o:=HO.tup [V.ty "list",V.ty "tuple"]) hp;refine ⟨_,_,p,["list","tuple"],false,rfl,.int i,aq,CW K,_,rfl, ?_⟩;refine fO ?_;refine ⟨_,rfl,_,_,true,rfl,.int i,qJ K,_,rfl, ?_⟩;refine iK ?_;refine ⟨_,rfl,_,_,false,rfl,.int i,oO K,_,rfl,_,rfl, ?_⟩;refine iK ?_;refine ⟨_,rfl,_,rfl,rfl, ?_⟩;rw [decide_eq_true rfl];exact k _ s1
  | .list ds,pl,dx,dy=>
    simp only [Dat] at dx dy;obtain ⟨a,vs,rfl,ha,da⟩:=dx;obtain ⟨b,ws,rfl,hb,db⟩:=dy;have la:vs.length=ds.length:=da.length;have lb:ws.length=ds.length:=db.length;have oH:ds.length<=100000:=pl.1;refine ⟨_,rfl,(by show 2<=sizeLine;decide),fun p hp=> ?_⟩;have s1:=aG (o:=HO.tup [V.ty "list",V.ty "tuple"]) hp;have ha1:=s1 _ _ ha;have hb1:=s1 _ _ hb;refine ⟨_,_,p,["list","tuple"],true,rfl,.lst hb1,aq,Ad K,_,rfl, ?_⟩;refine iK ?_;refine ⟨_,rfl,_,_,true,rfl,.lst ha1,m7 K,_,rfl,_,_,true,rfl,.lst hb1,m7 K,rfl,_,rfl, ?_⟩;refine qI rfl ?_;refine ⟨_,rfl,_,_,false,rfl,.lst ha1,lV K,_,rfl,_,_,false,rfl,.lst hb1,lV K,rfl,_,rfl, ?_⟩;refine qI rfl ?_;refine ⟨_,rfl,a,_,rfl,.inl (bw.of ha1),_,rfl,b,_,rfl,.inl (bw.of hb1),rfl,_,rfl, ?_⟩;refine qI (by rw [la,lb]) ?_;refine ⟨_,rfl,b,_,rfl,.inl (bw.of hb1),_,rfl,by (clear hb1 ha1 hp oH lb la hb ha;omega),by (clear hb1 ha1 hp la hb ha;omega),fun D hD=> ?_⟩;rw [show ((ws.length:Int)).toNat=ds.length by omega];refine iU (fun i=>some (.bl true)) hD (by omega) (fun i H2 G F hi s2 kG kF=> ?_) (fun H2 s2 e2=> ?_)
    ·obtain ⟨d,ed⟩:∃d,ds[i]? = some d:=⟨ds[i],by simp [hi]⟩
     obtain ⟨x,ex,dx⟩:=da.getD ed;obtain ⟨y,ey,dy⟩:=db.getD ed;have Tn:=s1.trans s2;have a1:rm vs (0+(i:Int))=some x:=by rw [Int.zero_add];exact aW ex
     have a2:rm ws (0+(i:Int))=some y:=by rw [Int.zero_add];exact aW ey
     exact ⟨_,rfl,_,rfl,.inl ⟨_,_,_,_,rfl,rfl,bw.of (s2 _ _ ha1),a1,_,rfl,_,rfl,.inl ⟨_,_,_,_,rfl,rfl,bw.of (s2 _ _ hb1),a2,x,y,d,rfl,dx.same Tn d,dy.same Tn d,pl.2 d (List.mem_of_getElem? ed),fun H3 s3=>kF _ H3 s3 rfl⟩⟩⟩
    ·rw [vO] at e2
     refine ⟨D,List.replicate ds.length true,rfl,bw.of (by rw [e2,List.map_replicate]), ?_⟩;rw [show (List.replicate ds.length true).all id=true by simp];exact k H2 (s1.trans s2)
  | .tuple ds,pl,dx,dy=>
    simp only [Dat] at dx dy;obtain ⟨a,vs,rfl,ha,da⟩:=dx;obtain ⟨b,ws,rfl,hb,db⟩:=dy;have la:vs.length=ds.length:=da.length;have lb:ws.length=ds.length:=db.length;have oH:ds.length<=100000:=pl.1;refine ⟨_,rfl,(by show 2<=sizeLine;decide),fun p hp=> ?_⟩;have s1:=aG (o:=HO.tup [V.ty "list",V.ty "tuple"]) hp;have ha1:=s1 _ _ ha;have hb1:=s1 _ _ hb;refine ⟨_,_,p,["list","tuple"],true,rfl,.tup hb1,aq,xO K,_,rfl, ?_⟩;refine iK ?_;refine ⟨_,rfl,_,_,false,rfl,.tup ha1,lU K,_,rfl,_,_,false,rfl,.tup hb1,lU K,rfl,_,rfl, ?_⟩;refine qI rfl ?_;refine ⟨_,rfl,_,_,true,rfl,.tup ha1,kW K,_,rfl,_,_,true,rfl,.tup hb1,kW K,rfl,_,rfl, ?_⟩;refine qI rfl ?_;refine ⟨_,rfl,a,_,rfl,.inr (fY.of ha1),_,rfl,b,_,rfl,.inr (fY.of hb1),rfl,_,rfl, ?_⟩;refine qI (by rw [la,lb]) ?_;refine ⟨_,rfl,b,_,rfl,.inr (fY.of hb1),_,rfl,by (clear hb1 ha1 hp oH lb la hb ha;omega),by (clear hb1 ha1 hp la hb ha;omega),fun D hD=> ?_⟩;rw [show ((ws.length:Int)).toNat=ds.length by omega];refine iU (fun i=>some (.bl true)) hD (by omega) (fun i H2 G F hi s2 kG kF=> ?_) (fun H2 s2 e2=> ?_)
    ·obtain ⟨d,ed⟩:∃d,ds[i]? = some d:=⟨ds[i],by simp [hi]⟩
     obtain ⟨x,ex,dx⟩:=da.getD ed;obtain ⟨y,ey,dy⟩:=db.getD ed;have Tn:=s1.trans s2;have a1:rm vs (0+(i:Int))=some x:=by rw [Int.zero_add];exact aW ex
     have a2:rm ws (0+(i:Int))=some y:=by rw [Int.zero_add];exact aW ey
     exact ⟨_,rfl,_,rfl,.inr (.inl ⟨_,_,_,_,rfl,rfl,fY.of (s2 _ _ ha1),a1,_,rfl,_,rfl,.inr (.inl ⟨_,_,_,_,rfl,rfl,fY.of (s2 _ _ hb1),a2,x,y,d,rfl,dx.same Tn d,dy.same Tn d,pl.2 d (List.mem_of_getElem? ed),fun H3 s3=>kF _ H3 s3 rfl⟩)⟩)⟩
    ·rw [vO] at e2
     refine ⟨D,List.replicate ds.length true,rfl,bw.of (by rw [e2,List.map_replicate]), ?_⟩;rw [show (List.replicate ds.length true).all id=true by simp];exact k H2 (s1.trans s2)
theorem Ob (x y:Int):PyData.eqv (.int x) (.int y)=decide (x=y):=by
 simp only [PyData.eqv];rw [Bool.eq_iff_iff];simp
theorem jJ {H:Hp} {a:Addr} {ns:List Int} (h:H a=some (.lst (ns.map V.int))):Dat H (.ref a) (.list (ns.map PyData.int)):=jc h (aM.ints ns)
theorem shaped_ints (ns:List Int):SeqAt.shaped (.list (ns.map PyData.int))=true:=qx PyData.int 0 (by decide) (fun _ _=>rfl) (fun _ _=>by show 0<=0;decide)
theorem v9.up:∀{n:Nat} {d:PyData},v9 n d->v9 (n+1) d
 | _+1,.int _,_=>True.intro
 | n+1,.list ds,h=>⟨h.1,fun d hd=>v9.up (h.2 d hd)⟩
 | n+1,.tuple ds,h=>⟨h.1,fun d hd=>v9.up (h.2 d hd)⟩
 | 0,_,h=>h.elim
theorem TY (ns:List Nt) (h2:ns.length<=100000):v9 3 (.list (ns.map nD)):=by
 refine ⟨by rw [List.length_map];exact h2,fun d hd=> ?_⟩;obtain ⟨x,_,rfl⟩:=List.mem_map.mp hd;refine ⟨by show 4<=100000;decide,fun d hd=> ?_⟩;simp only [List.mem_cons,List.not_mem_nil,or_false] at hd;rcases hd with rfl|rfl|rfl|rfl<;>exact True.intro
theorem JZ (K:PySem.W.Frag) (C:Addr):PySem.W.kitOne K (.ref C) (.ref C)=some true:=by simp [PySem.W.kitOne]
def IW (C:Addr) (K:PySem.W.Frag):Sp:=fun vs H Q _=>∃(R R':Rc) (ws ws':List aY) (hn hn':Nat),vs=[.ref R.o,.ref R'.o]/\RcAt C H R ws hn/\RcAt C H R' ws' hn'/\hn<=8/\hn'<=8 /\
 (¬((List.range hn).map fun h:Nat=>cnt ws (h:Int))=((List.range hn').map fun h:Nat=>cnt ws' (h:Int)) -> ∀H',Same H H'->Q (.bl false) H') /\
 (((List.range hn).map fun h:Nat=>cnt ws (h:Int))=((List.range hn').map fun h:Nat=>cnt ws' (h:Int)) -> ∀(ns ns':List Nt) (H':Hp),ns.Perm (jo ws ws.length)->rA ns->ns'.Perm (jo ws' ws'.length)->rA ns'->Same H H'->Q (.bl (decide (ns=ns'))) H')
theorem QS {ak:Addr} {f:Addr} {fd:FuncData} (F:lq K "__eq__" "Recorder.__eq__" bH f fd) (au:cL K ak) (kE:Xp K mg ak "Recorder") (cj:MethAt P w K mg base 1 ak "counts" ["self"] (lG ak K)) (cD:MethAt P w K mg base 1 ak "notes" ["self"] (lF ak K)) (Bt:rB mg):cU P w K mg base jC 2 f fd ["self","other"] (IW ak K):=by
 refine F.ok ni (fun vs H Q E h=> ?_) (fun cdv A outer s H vs Q E hr h=> ?_)
 ·obtain ⟨R,R',ws,ws',hn,hn',rfl,_⟩:=h
  rfl
 ·obtain ⟨R,R',ws,ws',hn,hn',rfl,r,r',h8,h8',k0,k⟩:=h
  have jm:=hr.units
  refine ⟨_,(aD (fj (jz (gJ (aQ (eY (K:=K) (cv:= .ref ak) (c:= .ref ak) rfl rfl) (by rfl) Bt.cH bY (ao (pv 1) (ao (Ec (v:= .ref ak) (by rfl) kE.bd rfl) aB))))) (aL (bh mZ)) cA)
   (aL (bh (nq (eX (Ef (K:=K) rfl jm) (dX cj au.cls (hr.mono (by decide)) (pv 0)) (dX cj au.cls (hr.mono (by decide)) (pv 1)) (bN _)) (j8 (eX (Ef (K:=K) rfl jm) (dX cD au.cls (hr.mono (by decide)) (pv 0)) (dX cD au.cls (hr.mono (by decide)) (pv 1)) (bN _))))))), ?_⟩
  refine ⟨_,rfl,_,_,true,rfl,kE.ty r'.o au.cls,JZ K _,_,rfl,fO ?_⟩;unfold Ip;dsimp only;refine ⟨_,rfl,R.o,R.dx,_,rfl,r.o,rfl,R,ws,hn,rfl,r,h8,fun c1 H1 hc1 e1 s1=> ?_⟩;refine ⟨_,rfl,R'.o,R'.dx,_,rfl,(r'.same s1).o,rfl,R',ws',hn',rfl,r'.same s1,h8',fun c2 H2 hc2 e2 s2=> ?_⟩;refine ⟨_,_,jJ (s2 _ _ e1),jJ e2,shaped_ints _,shaped_ints _, ?_⟩;rw [if_neg Bool.false_ne_true,zO PyData.int Ob];have s12:=s1.trans s2
  by_cases q:((List.range hn).map fun h:Nat=>cnt ws (h:Int))=((List.range hn').map fun h:Nat=>cnt ws' (h:Int))
  ·rw [decide_eq_true q]
   refine ⟨_,rfl,iK ?_⟩;have r2:=r.same s12;refine ⟨_,rfl,R.o,R.dx,_,rfl,r2.o,rfl,R,ws,hn,rfl,r2,fun l1 ns H3 hl1 N1 p1 X7 s3=> ?_⟩;have r3:=r'.same (s12.trans s3);refine ⟨_,rfl,R'.o,R'.dx,_,rfl,r3.o,rfl,R',ws',hn',rfl,r3,fun l2 ns' H4 hl2 N2 p2 X6 s4=> ?_⟩;obtain ⟨v1,f1,d1⟩:=N1.same s4;obtain ⟨v2,f2,d2⟩:=N2;refine ⟨_,_,jc f1 d1,jc f2 d2,sS _,sS _, ?_⟩;rw [if_neg Bool.false_ne_true,zO nD RJ];exact k q ns ns' H4 p1 X7 p2 X6 ((s12.trans s3).trans s4)
  ·rw [decide_eq_false q]
   refine ⟨_,rfl,fO ?_⟩;exact k0 q H2 s12
theorem jd {ws:List aY} {h:Int}:∀(n:Nat) {c:Int},0<=c->c<cnt (ws.take n) h -> ∃m x,ws[m]? = some x/\x.1=h/\cnt (ws.take m) h=c
 | 0,c,h0,h1=>by
   rw [List.take_zero] at h1;have:cnt [] h=0:=rfl;omega
 | n+1,c,h0,h1=>by
   cases e:ws[n]? with
   | none=>
     have:ws.take (n+1)=ws.take n:=by rw [List.take_add_one,e];simp
     rw [this] at h1;exact jd n h0 h1
   | some x=>
     have t:ws.take (n+1)=ws.take n++[x]:=by rw [List.take_add_one,e];rfl
     rw [t,eN] at h1
     by_cases q:h=x.1
     ·rw [if_pos q] at h1
      by_cases l:c<cnt (ws.take n) h
      ·exact jd n h0 l
      ·exact ⟨n,x,e,q.symm,by omega⟩
     ·rw [if_neg q] at h1
      exact jd n h0 h1
def fQ (ws:List aY) (o:List Nat):List aY:=o.map fun i=>(ws[i]?).getD (0,"",0)
theorem get_some {α:Type} {l:List α} {i:Nat} (h:i<l.length):∃x,l[i]? = some x:=⟨_,List.getElem?_eq_getElem h⟩
structure Ord (ws:List aY) (o:List Nat):Prop where
 perm:o.Perm (List.range ws.length)
 keep:∀(i j a b:Nat),o[i]? = some a->o[j]? = some b->iC ws a b=true->i<j
 nm:∀(i a:Nat) (x:aY),o[i]? = some a->ws[a]? = some x->cnt ((fQ ws o).take i) x.1=cnt (ws.take a) x.1
theorem Ni (x y:aY):mt x y=mt y x:=by
 unfold mt
 by_cases h:x.1=y.1
 ·rw [if_pos h,if_pos h.symm]
 ·rw [if_neg h,if_neg (fun z:y.1=x.1=>h z.symm)]
  by_cases c:x.2.2=y.2.2
  ·rw [if_pos c,if_pos c.symm]
   by_cases l:x.2.1 = "load" <;> by_cases m:y.2.1 = "load" <;> simp [l,m]
  ·rw [if_neg c,if_neg (fun z:y.2.2=x.2.2=>c z.symm)]
theorem Iw (ws:List aY) (i j:Nat):Dv ws i j=Dv ws j i:=by
 unfold Dv;cases ws[i]? with
 | none=>cases ws[j]? <;> rfl
 | some x=>
   cases ws[j]? with
   | none=>rfl
   | some y=>
     show (decide (x.1=y.1)||mt x y)=(decide (y.1=x.1)||mt y x);rw [Ni x y];congr 1
     by_cases h:x.1=y.1
     ·rw [decide_eq_true h,decide_eq_true h.symm]
     ·rw [decide_eq_false h,decide_eq_false (fun z=>h z.symm)]
theorem oE (ws:List aY) (o:List Nat):(fQ ws o).length=o.length:=by unfold fQ;simp
theorem mz {ws:List aY} {o:List Nat} {i a:Nat} {x:aY} (h:o[i]? = some a) (e:ws[a]? = some x):(fQ ws o)[i]? = some x:=by
 unfold fQ;rw [List.getElem?_map,h];show some ((ws[a]?).getD (0,"",0))=some x;rw [e];rfl
theorem pQ (ws:List aY):fQ ws (List.range ws.length)=ws:=by
 refine List.ext_getElem? fun i=> ?_
 by_cases h:i<ws.length
 ·exact (mz (List.getElem?_range h) (List.getElem?_eq_getElem h)).trans (List.getElem?_eq_getElem h).symm
 ·rw [List.getElem?_eq_none (by rw [oE,List.length_range];omega),List.getElem?_eq_none (by omega)]
section
variable {ws:List aY} {o:List Nat}
theorem Ord.len (O:Ord ws o):o.length=ws.length:=by rw [O.perm.length_eq,List.length_range]
theorem Ord.lt (O:Ord ws o) {i a:Nat} (h:o[i]? = some a):a<ws.length:=List.mem_range.mp (O.perm.mem_iff.mp (List.mem_of_getElem? h))
theorem Ord.wk (O:Ord ws o):(fQ ws o).length=ws.length:=by rw [oE,O.len]
theorem Ord.nodup (O:Ord ws o):o.Nodup:=O.perm.nodup_iff.mpr List.nodup_range
theorem Ord.inj (O:Ord ws o) {i j a:Nat} (hi:o[i]? = some a) (hj:o[j]? = some a):i=j:=by
 obtain ⟨li,ei⟩:=List.getElem?_eq_some_iff.mp hi;obtain ⟨lj,ej⟩:=List.getElem?_eq_some_iff.mp hj;have nd:=List.pairwise_iff_getElem.mp (List.nodup_iff_pairwise_ne.mp O.nodup);rcases Nat.lt_trichotomy i j with l|l|l
 ·exact absurd (ei.trans ej.symm) (nd i j li lj l)
 ·exact l
 ·exact absurd (ej.trans ei.symm) (nd j i lj li l)
theorem Ord.onto (O:Ord ws o) {a:Nat} (h:a<ws.length):∃i:Nat,o[i]? = some a:=List.getElem?_of_mem (O.perm.mem_iff.mpr (List.mem_range.mpr h))
theorem Ord.of (O:Ord ws o) {i:Nat} (h:i<ws.length):∃a,o[i]? = some a:=get_some (by rw [O.len];exact h)
theorem Ord.iC (O:Ord ws o) {i j a b:Nat} (hi:o[i]? = some a) (hj:o[j]? = some b):iC (fQ ws o) i j=true↔Prf.iC ws a b=true:=by
 obtain ⟨xa,ea⟩:=get_some (O.lt hi);obtain ⟨xb,eb⟩:=get_some (O.lt hj)
 have es:Dv (fQ ws o) i j=Dv ws a b:=by
  unfold Dv;rw [mz hi ea,mz hj eb,ea,eb]
 constructor
 ·intro q
  unfold Prf.iC at q;rw [Bool.and_eq_true,es] at q;obtain ⟨lij,st⟩:=q;have lij:=of_decide_eq_true lij;rcases Nat.lt_trichotomy a b with l|l|l
  ·unfold Prf.iC
   rw [decide_eq_true l,st];rfl
  ·subst l
   exact absurd (O.inj hi hj) (by omega)
  ·have:Prf.iC ws b a=true:=by
    unfold Prf.iC;rw [decide_eq_true l,Iw,st];rfl
   have:=O.keep j i b a hj hi this;omega
 ·intro q
  have l:=O.keep i j a b hi hj q;unfold Prf.iC at q ⊢;rw [Bool.and_eq_true] at q;rw [decide_eq_true l,es,q.2];rfl
theorem Ord.YD (O:Ord ws o) {j b:Nat} (hj:o[j]? = some b):∀{i:Nat},mO (fQ ws o) j i -> ∀a,o[i]? = some a->mO ws b a:=by
 intro i r
 induction r with
 | one h=>exact fun a ha=> .one ((O.iC ha hj).mp h)
 | more h r ih=>
   intro a ha;have:=(dj h).2;rw [O.wk] at this;obtain ⟨c,hc⟩:=O.of this;exact .more ((O.iC ha hc).mp h) (ih c hc)
theorem Ord.YC (O:Ord ws o) {j b:Nat} (hj:o[j]? = some b):∀{a:Nat},mO ws b a -> ∀i,o[i]? = some a->mO (fQ ws o) j i:=by
 intro a r
 induction r with
 | one h=>exact fun i hi=> .one ((O.iC hi hj).mpr h)
 | more h r ih=>
   intro i hi;obtain ⟨k,hk⟩:=O.onto (dj h).2;exact .more ((O.iC hi hk).mpr h) (ih k hk)
theorem Ord.YF (O:Ord ws o) {i j a b:Nat} (hi:o[i]? = some a) (hj:o[j]? = some b):mO (fQ ws o) j i↔mO ws b a:=⟨fun r=>O.YD hj r a hi,fun r=>O.YC hj r i hi⟩
theorem Aa {ws:List aY} {j e:Nat}:Bare ws j e↔Prf.iC ws e j=true /\ ¬ ∃x,Prf.iC ws x j=true/\mO ws x e:=by
 unfold Bare Dk;constructor
 ·rintro ⟨s,q⟩
  refine ⟨s,fun ⟨x,sx,r⟩=>q ⟨x,r.lt.1,sx,.inr r⟩⟩
 ·rintro ⟨s,q⟩
  refine ⟨s,fun ⟨x,l,sx,r⟩=>q ⟨x,sx, ?_⟩⟩;rcases r with r|r
  ·omega
  ·exact r
theorem Ord.bare (O:Ord ws o) {i j a b:Nat} (hi:o[i]? = some a) (hj:o[j]? = some b):Bare (fQ ws o) j i↔Bare ws b a:=by
 rw [Aa,Aa,O.iC hi hj];constructor
 ·rintro ⟨s,q⟩
  refine ⟨s,fun ⟨x,sx,r⟩=> ?_⟩;obtain ⟨k,hk⟩:=O.onto (Nat.lt_trans (dj sx).1 (dj sx).2);exact q ⟨k,(O.iC hk hj).mpr sx,(O.YF hi hk).mpr r⟩
 ·rintro ⟨s,q⟩
  refine ⟨s,fun ⟨k,sk,r⟩=> ?_⟩;have:=Nat.lt_trans (dj sk).1 (dj sk).2;rw [O.wk] at this;obtain ⟨x,hx⟩:=O.of this;exact q ⟨x,(O.iC hx hj).mp sk,(O.YF hi hx).mp r⟩
theorem jG {ws:List aY} {j e:Nat}:e∈bB ws j j↔Bare ws j e:=by
 unfold bB;rw [List.mem_filter];constructor
 ·exact fun h=>of_decide_eq_true h.2
 ·intro h
  have l:=(dj h.1).1;exact ⟨List.mem_map.mpr ⟨j - 1 - e,List.mem_range.mpr (by omega),by omega⟩,decide_eq_true h⟩
theorem qD (ws:List aY) (j:Nat):(bB ws j j).Nodup:=by
 unfold bB;rw [List.nodup_iff_pairwise_ne];refine List.Pairwise.filter _ ?_;rw [List.pairwise_map];refine List.Pairwise.imp_of_mem ?_ List.nodup_range;intro a b ha hb ne;have ha:=List.mem_range.mp ha;have hb:=List.mem_range.mp hb;omega
theorem Ord.down (O:Ord ws o) {j b:Nat} (hj:o[j]? = some b):((bB (fQ ws o) j j).map fun i=>(o[i]?).getD 0).Perm (bB ws b b):=by
 have lt:∀{e:Nat},e∈bB (fQ ws o) j j -> ∃a,o[e]? = some a:=fun {e} h=>by
  have:=dj (jG.mp h).1;rw [O.wk] at this;exact O.of (by omega)
 refine (List.perm_ext_iff_of_nodup ?_ (qD _ _)).mpr fun a=> ?_
 ·rw [List.nodup_iff_pairwise_ne,List.pairwise_map]
  refine List.Pairwise.imp_of_mem ?_ (qD _ _);intro x y hx hy ne z;obtain ⟨a,ha⟩:=lt hx;obtain ⟨c,hc⟩:=lt hy;rw [ha,hc] at z;have z:a=c:=z;subst z;exact ne (O.inj ha hc)
 ·rw [jG,List.mem_map]
  constructor
  ·rintro ⟨i,hi,e⟩
   obtain ⟨c,hc⟩:=lt hi;rw [hc] at e;have e:c=a:=e;subst e;exact (O.bare hc hj).mp (jG.mp hi)
  ·intro h
   obtain ⟨i,hi⟩:=O.onto (Nat.lt_trans (dj h.1).1 (dj h.1).2);exact ⟨i,jG.mpr ((O.bare hi hj).mpr h),by rw [hi];rfl⟩
theorem Ord.hnd (O:Ord ws o) {i a:Nat} (hi:o[i]? = some a):hnd (fQ ws o) i=Prf.hnd ws a:=by
 obtain ⟨xa,ea⟩:=get_some (O.lt hi);rw [dN (mz hi ea),dN ea]
theorem Ord.note (O:Ord ws o) {i j a b:Nat} (hi:o[i]? = some a) (hj:o[j]? = some b):eG (fQ ws o) i j=eG ws a b:=by
 obtain ⟨xa,ea⟩:=get_some (O.lt hi);obtain ⟨xb,eb⟩:=get_some (O.lt hj);have n1:=O.nm i a _ hi ea;have n2:=O.nm j b _ hj eb;unfold eG;rw [O.hnd hi,O.hnd hj,dN ea,dN eb,n1,n2]
theorem Ord.notes (O:Ord ws o) {j b:Nat} (hj:o[j]? = some b):(aV (fQ ws o) j (bB (fQ ws o) j j)).Perm (aV ws b (bB ws b b)):=by
 have q:=((O.down hj).filter fun e=>decide (¬Prf.hnd ws e=Prf.hnd ws b)).map fun e=>eG ws e b;refine List.Perm.trans (List.Perm.of_eq ?_) q;unfold aV;rw [List.filter_map,List.map_map]
 have lt:∀{e:Nat},e∈bB (fQ ws o) j j -> ∃a,o[e]? = some a:=fun {e} h=>by
  have:=dj (jG.mp h).1;rw [O.wk] at this;exact O.of (by omega)
 have ef:(bB (fQ ws o) j j).filter (fun e=>decide (¬Prf.hnd (fQ ws o) e=Prf.hnd (fQ ws o) j))=(bB (fQ ws o) j j).filter ((fun e=>decide (¬Prf.hnd ws e=Prf.hnd ws b))∘fun i=>(o[i]?).getD 0):=by
  refine List.filter_congr fun e he=> ?_;obtain ⟨a,ha⟩:=lt he;show decide _=decide (¬Prf.hnd ws ((o[e]?).getD 0)=Prf.hnd ws b);rw [O.hnd ha,O.hnd hj,ha];rfl
 rw [ef];refine List.map_congr_left fun e he=> ?_;obtain ⟨a,ha⟩:=lt (List.mem_filter.mp he).1;show eG _ _ _=eG ws ((o[e]?).getD 0) b;rw [ha];exact O.note ha hj
theorem Ea {α β:Type} {f g:α->List β}:∀(l:List α),(∀i∈l,(f i).Perm (g i))->(l.flatMap f).Perm (l.flatMap g)
 | [],_=>List.Perm.refl _
 | a::l,h=>by
   rw [List.flatMap_cons,List.flatMap_cons];exact (h a (.head _)).append (Ea l fun i hi=>h i (.tail _ hi))
theorem Ord.all (O:Ord ws o):(jo (fQ ws o) (fQ ws o).length).Perm (jo ws ws.length):=by
 unfold jo;rw [O.wk];have p:(o.flatMap fun b=>aV ws b (bB ws b b)).Perm ((List.range ws.length).flatMap fun b=>aV ws b (bB ws b b)):=O.perm.flatMap_right _;refine List.Perm.trans ?_ p
 have eo:o=(List.range ws.length).map fun i=>(o[i]?).getD 0:=by
  refine List.ext_getElem? fun i=> ?_
  by_cases h:i<ws.length
  ·rw [List.getElem?_map,List.getElem?_range h]
   obtain ⟨a,ha⟩:=O.of h;show o[i]? = some ((o[i]?).getD 0);rw [ha];rfl
  ·rw [List.getElem?_eq_none (by rw [O.len];omega),List.getElem?_eq_none (by simp;omega)]
 have e2:(o.flatMap fun b=>aV ws b (bB ws b b))=(List.range ws.length).flatMap fun i=>aV ws ((o[i]?).getD 0) (bB ws ((o[i]?).getD 0) ((o[i]?).getD 0)):=by
  conv=>lhs;rw [eo];rw [List.flatMap_map]
 rw [e2];refine Ea _ fun i hi=> ?_;obtain ⟨a,ha⟩:=O.of (List.mem_range.mp hi);rw [ha];exact O.notes ha
theorem Ord.xX (O:Ord ws o):(fQ ws o).Perm ws:=by
 have q:(fQ ws o).Perm (fQ ws (List.range ws.length)):=O.perm.map _;rwa [pQ] at q
theorem ur {a b:List aY} (p:a.Perm b) (h:Int):cnt a h=cnt b h:=by
 unfold cnt;rw [(p.filter _).length_eq]
theorem zB {l:List Nat} (s:l.Pairwise (· < ·)) {j:Nat} (h:l.getLast?=some j):∀m∈l,m<=j:=by
 obtain ⟨l',rfl⟩:=List.getLast?_eq_some_iff.mp h;intro m hm;rcases List.mem_append.mp hm with q|q
 ·exact Nat.le_of_lt ((List.pairwise_append.mp s).2.2 m q j (by simp))
 ·rw [List.mem_singleton.mp q]
  exact Nat.le_refl _
theorem sZ (ws:List aY) (h:Int):(ig ws h).Pairwise (· < ·):=by
 unfold ig;exact List.Pairwise.filter _ List.pairwise_lt_range
theorem oN {ws:List aY} {h:Int} {i:Nat}:i∈ig ws h↔i<ws.length/\Prf.hnd ws i=h:=by
 unfold ig;rw [List.mem_filter,List.mem_range,decide_eq_true_iff]
theorem IK {ws:List aY} {i j:Nat} (l:i<j) (hj:j<ws.length) (e:Prf.hnd ws i=Prf.hnd ws j):Prf.iC ws i j=true:=by
 obtain ⟨xi,ei⟩:=get_some (l:=ws) (i:=i) (by omega);obtain ⟨xj,ej⟩:=get_some hj;unfold Prf.iC Dv;rw [decide_eq_true l,ei,ej];rw [dN ei,dN ej] at e;show (true&&(decide (_=_)||_))=true;rw [decide_eq_true e];rfl
theorem Nq {R:Nat->Prop} {g g':Int->Int} (k:K4 ws g R) (k':K4 ws g' R) {h:Int} (b:0<=g h/\g h<=cnt ws h) (b':0<=g' h/\g' h<=cnt ws h):g h=g' h:=by
 have tk:ws.take ws.length=ws:=List.take_length;rcases Int.lt_trichotomy (g h) (g' h) with l|l|l
 ·obtain ⟨m,x,ex,e,ec⟩:=jd (ws:=ws) (h:=h) ws.length b.1 (by rw [tk];omega)
  have i1:=k m x ex;have i2:=k' m x ex;rw [e,ec] at i1 i2;exact absurd (i1.mpr (i2.mp l)) (Int.lt_irrefl _)
 ·exact l
 ·obtain ⟨m,x,ex,e,ec⟩:=jd (ws:=ws) (h:=h) ws.length b'.1 (by rw [tk];omega)
  have i1:=k m x ex;have i2:=k' m x ex;rw [e,ec] at i1 i2;exact absurd (i2.mpr (i1.mp l)) (Int.lt_irrefl _)
theorem Ord.known (O:Ord ws o) {h:Int} {g g':Int->Int} (k:Xm (fQ ws o) h g) (k':Xm ws h g') (i:Int):g i=g' i:=by
 have ep:(ig (fQ ws o) h).length=(ig ws h).length:=by
  have a:=oG (fQ ws o) h;have b:=oG ws h;rw [ur O.xX h] at a;omega
 cases e':(ig (fQ ws o) h).getLast? with
 | none=>
   have z:=List.getLast?_eq_none_iff.mp e';rw [z] at ep;have z':ig ws h=[]:=List.length_eq_zero_iff.mp ep.symm;rw [k.1 z,k'.1 z']
 | some j'=>
   cases e:(ig ws h).getLast? with
   | none=>
     rw [List.getLast?_eq_none_iff.mp e] at ep;rw [List.length_eq_zero_iff.mp ep] at e';cases e'
   | some j=>
     obtain ⟨j'l,j'h⟩:=oN.mp (List.mem_of_getLast? e');obtain ⟨jl,jh⟩:=oN.mp (List.mem_of_getLast? e);rw [O.wk] at j'l;obtain ⟨a,ha⟩:=O.of j'l;have ah:Prf.hnd ws a=h:=by rw [←O.hnd ha];exact j'h
     have aj:a=j:=by
      have l:=zB (sZ _ _) e a (oN.mpr ⟨O.lt ha,ah⟩);rcases Nat.lt_or_ge a j with q|q
      ·obtain ⟨k2,hk2⟩:=O.onto jl
       have l2:=O.keep j' k2 a j ha hk2 (IK q jl (ah.trans jh.symm));have l3:=zB (sZ _ _) e' k2 (oN.mpr ⟨by rw [O.wk,←O.len];exact (List.getElem?_eq_some_iff.mp hk2).1,by rw [O.hnd hk2];exact jh⟩);omega
      ·omega
     subst aj;obtain ⟨⟨p1,b1⟩,n1⟩:=k.2 j' e';obtain ⟨⟨p2,b2⟩,n2⟩:=k'.2 a e
     have tl:∀(us:List aY) (n:Nat),cnt (us.take n) i<=cnt us i:=fun us n=>by
      have:=fD us i n us.length;rwa [List.take_of_length_le (by omega:us.length<=n+us.length)] at this
     refine Nq (R:=fun m=>m=a\/mO ws a m) (fun m x ex=> ?_) p2 ⟨n1 i, ?_⟩ ⟨n2 i,Int.le_trans (b2 i) (tl _ _)⟩
     ·obtain ⟨t,ht⟩:=O.onto (List.getElem?_eq_some_iff.mp ex).1
      rw [←O.nm t m x ht ex,p1 t x (mz ht ex)];show (t=j'\/mO (fQ ws o) j' t)↔_;rw [O.YF ht ha];constructor
      ·rintro (q|q)
       ·subst q
        rw [ha] at ht;exact .inl (Option.some.inj ht).symm
       ·exact .inr q
      ·rintro (q|q)
       ·subst q
        exact .inl (O.inj ht ha)
       ·exact .inr q
     ·rw [←ur O.xX i]
      exact Int.le_trans (b1 i) (tl _ _)
end
theorem Gf (ws:List aY):Ord ws (List.range ws.length):=by
 have get:∀{i a:Nat},(List.range ws.length)[i]? = some a->i=a:=fun {i a} h=>by
  obtain ⟨l,e⟩:=List.getElem?_eq_some_iff.mp h;rw [List.getElem_range] at e;exact e
 refine ⟨List.Perm.refl _,fun i j a b hi hj s=> ?_,fun i a x hi hx=> ?_⟩
 ·rw [get hi,get hj]
  exact (dj s).1
 ·rw [pQ,get hi]
theorem wL {ws:List aY} {h:Int}:∀{c a:Nat},(ig ws h)[c]? = some a->a<ws.length/\hnd ws a=h/\cnt (ws.take a) h=(c:Int):=by
 have gen:∀(n:Nat) (us:List aY),us.length=n -> ∀{c a:Nat},(ig us h)[c]? = some a->a<us.length/\hnd us a=h/\cnt (us.take a) h=(c:Int):=by
  intro n
  induction n with
  | zero=>
    intro us e c a q;rw [List.length_eq_zero_iff.mp e] at q;cases q
  | succ n ih=>
    intro us e c a q;rcases List.eq_nil_or_concat us with z|⟨l,x,z⟩
    ·rw [z] at e;cases e
    ·rw [List.concat_eq_append] at z
     subst z;have ln:l.length=n:=by simpa using e
     rw [tu] at q;rcases Nat.lt_or_ge c (ig l h).length with lc|lc
     ·rw [List.getElem?_append_left lc] at q
      obtain ⟨a1,a2,a3⟩:=ih l ln q;refine ⟨by rw [List.length_append];omega, ?_,by rw [List.take_append_of_le_length (by omega)];exact a3⟩;obtain ⟨y,ey⟩:=get_some a1;rw [dN ey] at a2;rw [dN (x:=y) (by rw [List.getElem?_append_left a1];exact ey)];exact a2
     ·rw [List.getElem?_append_right lc] at q
      split at q
      ·rename_i eh
       have c0:c - (ig l h).length=0:=by
        have:=(List.getElem?_eq_some_iff.mp q).1;simp at this;omega
       rw [c0] at q;simp at q;subst q;refine ⟨by rw [List.length_append];simp, ?_, ?_⟩
       ·rw [dN (x:=x) (by rw [List.getElem?_append_right (Nat.le_refl _)];simp)]
        exact eh
       ·rw [List.take_left']
        ·rw [←oG];omega
        ·rfl
      ·cases q
 exact fun {c a} q=>gen ws.length ws rfl q
theorem Jr {ws:List aY} {h:Int} {m:Nat} {x:aY} (ex:ws[m]? = some x) (e:x.1=h):(ig ws h)[(cnt (ws.take m) h).toNat]? = some m:=by
 have ml:=(List.getElem?_eq_some_iff.mp ex).1;have mp:m∈ig ws h:=oN.mpr ⟨ml,by rw [dN ex];exact e⟩;obtain ⟨c,hc⟩:=List.getElem?_of_mem mp;have:=(wL hc).2.2;rw [this];simpa using hc
theorem Ca:∀{l l':List Nat},l.Nodup->(∀x∈l,x∈l')->l.length<=l'.length/\(l'.length<=l.length->l.Perm l')
 | [],l',_,_=>⟨Nat.zero_le _,fun z=>by rw [List.length_eq_zero_iff.mp (Nat.le_zero.mp z)]⟩
 | a::l,l',nd,s=>by
   obtain ⟨na,nd'⟩:=List.nodup_cons.mp nd;have p:=List.perm_cons_erase (s a (.head _));have le:=p.length_eq;rw [List.length_cons] at le;obtain ⟨i1,i2⟩:=Ca (l:=l) (l':=l'.erase a) nd' fun x hx=>(List.mem_erase_of_ne (fun z:x=a=>na (z▸hx))).mpr (s x (.tail _ hx));rw [List.length_cons];exact ⟨by omega,fun z=>((i2 (by omega)).cons a).trans p.symm⟩
structure Dn (ws:List aY) (hn:Nat) (o:List Nat) (dn:List Int):Prop where
 len:dn.length=hn
 nd:o.Nodup
 lt:∀m∈o,m<ws.length
 mem:∀(m:Nat) (x:aY),ws[m]? = some x->(m∈o↔cnt (ws.take m) x.1<gI dn x.1)
 cn:∀h:Nat,h<hn->gI dn (h:Int)=cnt (fQ ws o) (h:Int)
 keep:∀(i j a b:Nat),o[i]? = some a->o[j]? = some b->iC ws a b=true->i<j
 cl:∀b∈o,∀a,iC ws a b=true->a∈o
 nm:∀(i a:Nat) (x:aY),o[i]? = some a->ws[a]? = some x->cnt ((fQ ws o).take i) x.1=cnt (ws.take a) x.1
def SN (ws:List aY) (hn:Nat) (rf:Nat->List Int) (dn:List Int) (h:Nat):Prop:=∃a,(ig ws (h:Int))[(gI dn (h:Int)).toNat]? = some a /\ ∀t:Nat,t<hn->t=h\/gI (rf a) (t:Int)<=gI dn (t:Int)
def RX (ws:List aY) (hn:Nat) (rf:Nat->List Int):Prop:=∀j,j<ws.length->nP ws hn (rf j) (fun m=>m=j\/mO ws j m) (j+1)
section
variable {ws:List aY} {hn:Nat} {o:List Nat} {dn:List Int} {rf:Nat->List Int}
theorem Oc (ws:List aY) (hn:Nat):Dn ws hn [] (List.replicate hn 0):=by
 refine ⟨by simp,List.nodup_nil,by simp,fun m x ex=> ?_,fun h _=>by rw [t_];rfl,by simp,by simp,by simp⟩;rw [t_];have:=gB (ws.take m) x.1;constructor
 ·intro z;cases z
 ·intro z;omega
theorem Dn.nn (D:Dn ws hn o dn) {h:Nat} (hh:h<hn):0<=gI dn (h:Int):=by
 rw [D.cn h hh];exact gB _ _
theorem qM {ws:List aY} {c a:Nat} {x y:aY} (ex:ws[c]? = some x) (ey:ws[a]? = some y) (l:c<a) (e:x.1=y.1):cnt (ws.take c) x.1<cnt (ws.take a) x.1:=by
 have t:ws.take (c+1)=ws.take c++[x]:=by rw [List.take_add_one,ex];rfl
 have:=fD ws x.1 (c+1) (a - (c+1));rw [show c+1+(a - (c+1))=a by omega,t,eN,if_pos rfl] at this;omega
theorem Dn.step (D:Dn ws hn o dn) (R:RX ws hn rf) (ok:∀x∈ws,0<=x.1/\x.1<(hn:Int)) {h a:Nat} (hh:h<hn) (ea:(ig ws (h:Int))[(gI dn (h:Int)).toNat]? = some a) (q:∀t:Nat,t<hn->t=h\/gI (rf a) (t:Int)<=gI dn (t:Int)):Dn ws hn (o++[a]) (dn.set h (gI dn (h:Int)+1)):=by
 obtain ⟨al,ah,ac⟩:=wL ea;have h0:=D.nn hh;rw [Int.toNat_of_nonneg h0] at ac;obtain ⟨y,ey⟩:=get_some al;rw [dN ey] at ah
 have an:a∉o:=fun z=>by
  have:=(D.mem a y ey).mp z;rw [ah,ac] at this;omega
 have gs:∀t:Int,0<=t->t<hn->gI (dn.set h (gI dn (h:Int)+1)) t=if t=(h:Int) then gI dn (h:Int)+1 else gI dn t:=fun t t0 t1=>by
  obtain ⟨t,rfl⟩:=Int.eq_ofNat_of_zero_le t0;have tl:t<dn.length:=by rw [D.len];omega
  obtain ⟨v,ev⟩:=get_some tl;split
  ·rename_i e
   have e:h=t:=by omega
   subst e;exact i_ (by rw [List.getElem?_set,if_pos rfl,if_pos tl])
  ·rename_i e
   rw [i_ ev];exact i_ (by rw [List.getElem?_set,if_neg (by omega)];exact ev)
 have Yy:fQ ws (o++[a])=fQ ws o++[y]:=by
  unfold fQ;rw [List.map_append];show _++[(ws[a]?).getD (0,"",0)]=_;rw [ey];rfl
 have cl':∀c,iC ws c a=true->c∈o:=fun c sc=>by
  obtain ⟨lc,_⟩:=dj sc;obtain ⟨x,ex⟩:=get_some (l:=ws) (i:=c) (by omega);refine (D.mem c x ex).mpr ?_;have xr:=ok x (List.mem_of_getElem? ex)
  by_cases e:x.1=y.1
  ·have:=qM ex ey lc e
   rw [e,ah,ac] at this;rw [e,ah];exact this
  ·obtain ⟨t,et⟩:=Int.eq_ofNat_of_zero_le xr.1
   have z:=((R a al).2.1 c x ex).mpr (.inr (.one sc));rcases q t (by omega) with w|w
   ·exact absurd (by rw [et,w,ah]) e
   ·rw [et] at z ⊢
    omega
 refine ⟨by rw [List.length_set];exact D.len, ?_, ?_, ?_, ?_, ?_, ?_, ?_⟩
 ·rw [List.nodup_append]
  refine ⟨D.nd,by simp,fun u hu v hv=> ?_⟩;rw [List.mem_singleton.mp hv];exact fun z=>an (z▸hu)
 ·intro m hm
  rcases List.mem_append.mp hm with z|z
  ·exact D.lt m z
  ·rw [List.mem_singleton.mp z];exact al
 ·intro m x ex
  have xr:=ok x (List.mem_of_getElem? ex);rw [gs _ xr.1 xr.2,List.mem_append,List.mem_singleton,D.mem m x ex];split
  ·rename_i e
   rw [e];constructor
   ·rintro (z|z)
    ·omega
    ·subst z
     rw [ac];omega
   ·intro z
    by_cases w:cnt (ws.take m) (h:Int)<gI dn (h:Int)
    ·exact .inl w
    ·have z:cnt (ws.take m) (h:Int)=gI dn (h:Int):=by omega
     have:=Jr ex e;rw [z,ea] at this;exact .inr (Option.some.inj this).symm
  ·rename_i e
   constructor
   ·rintro (z|z)
    ·exact z
    ·subst z
     rw [ey] at ex;cases ex;exact absurd ah e
   ·exact .inl
 ·intro t ht
  rw [gs _ (by omega) (by omega),Yy,eN,ah];split
  ·rename_i e
   rw [e,D.cn h hh]
  ·exact D.cn t ht
 ·intro i j u v hi hj s
  rcases Nat.lt_or_ge i o.length with li|li
  ·rcases Nat.lt_or_ge j o.length with lj|lj
   ·rw [List.getElem?_append_left li] at hi
    rw [List.getElem?_append_left lj] at hj;exact D.keep i j u v hi hj s
   ·omega
  ·rw [List.getElem?_append_right li] at hi
   have i0:i - o.length=0:=by
    have:=(List.getElem?_eq_some_iff.mp hi).1;simp at this;omega
   rw [i0] at hi;simp at hi;subst hi;exfalso;rcases Nat.lt_or_ge j o.length with lj|lj
   ·rw [List.getElem?_append_left lj] at hj
    exact an (D.cl v (List.mem_of_getElem? hj) a s)
   ·rw [List.getElem?_append_right lj] at hj
    have j0:j - o.length=0:=by
     have:=(List.getElem?_eq_some_iff.mp hj).1;simp at this;omega
    rw [j0] at hj;simp at hj;subst hj;exact absurd (dj s).1 (Nat.lt_irrefl _)
 ·intro v hv c s
  rcases List.mem_append.mp hv with z|z
  ·exact List.mem_append_left _ (D.cl v z c s)
  ·rw [List.mem_singleton.mp z] at s
   exact List.mem_append_left _ (cl' c s)
 ·intro i u x hi hx
  rcases Nat.lt_or_ge i o.length with li|li
  ·rw [List.getElem?_append_left li] at hi
   rw [Yy,List.take_append_of_le_length (by rw [oE];omega)];exact D.nm i u x hi hx
  ·rw [List.getElem?_append_right li] at hi
   have i0:i=o.length:=by
    have:=(List.getElem?_eq_some_iff.mp hi).1;simp at this;omega
   subst i0;simp at hi;subst hi;rw [ey] at hx;cases hx;rw [Yy,List.take_left' (oE _ _),ah,ac,D.cn h hh]
theorem Dn.more (D:Dn ws hn o dn) (R:RX ws hn rf) (ok:∀x∈ws,0<=x.1/\x.1<(hn:Int)) (l:o.length<ws.length):∃h,h<hn/\SN ws hn rf dn h:=by
 have ex1:∃m,m<ws.length/\m∉o:=by
  apply Classical.byContradiction;intro z;have sub:∀m∈List.range ws.length,m∈o:=fun m hm=>Classical.byContradiction fun w=>z ⟨m,List.mem_range.mp hm,w⟩;have:=(Ca List.nodup_range sub).1;rw [List.length_range] at this;omega
 obtain ⟨m,⟨ml,mo⟩,Uh⟩:∃m,(m<ws.length/\m∉o) /\ ∀k,k<m->k∈o:=by
  obtain ⟨m0,q0⟩:=ex1
  have gen:∀n m,m<=n->(m<ws.length/\m∉o) -> ∃m,(m<ws.length/\m∉o) /\ ∀k,k<m->k∈o:=by
   intro n
   induction n with
   | zero=>exact fun m lm q=>⟨m,q,fun k lk=>by omega⟩
   | succ n ih=>
     intro m lm q
     by_cases w:∀k,k<m->k∈o
     ·exact ⟨m,q,w⟩
     ·obtain ⟨k,w⟩:=Classical.not_forall.mp w
      obtain ⟨lk,ko⟩:=Classical.not_imp.mp w;exact ih k (by omega) ⟨by omega,ko⟩
  exact gen m0 m0 (Nat.le_refl _) q0
 obtain ⟨x,ex⟩:=get_some ml;have xr:=ok x (List.mem_of_getElem? ex);obtain ⟨h,eh⟩:=Int.eq_ofNat_of_zero_le xr.1;have hh:h<hn:=by omega
 have low:∀(t:Nat) (c:Int),t<hn->gI dn (t:Int)<c->c<=cnt (ws.take (m+1)) (t:Int) -> ∃m' y,ws[m']? = some y/\y.1=(t:Int)/\cnt (ws.take m') (t:Int)=gI dn (t:Int):=fun t c ht lc lc2=>jd (m+1) (D.nn ht) (by omega);have c1:¬cnt (ws.take m) (h:Int)<gI dn (h:Int):=fun z=>mo ((D.mem m x ex).mpr (by rw [eh];exact z))
 have c2:cnt (ws.take m) (h:Int)=gI dn (h:Int):=by
  apply Classical.byContradiction;intro z;obtain ⟨m',y,ey,e1,e2⟩:=jd (ws:=ws) (h:=(h:Int)) m (D.nn hh) (by omega)
  have nin:m'∉o:=fun w=>by
   have:=(D.mem m' y ey).mp w;rw [e1,e2] at this;omega
  rcases Nat.lt_trichotomy m' m with q|q|q
  ·exact nin (Uh m' q)
  ·subst q
   omega
  ·have:=qM ex ey q (by rw [eh,e1])
   rw [eh,e2] at this;exact c1 this
 refine ⟨h,hh,m,by rw [←c2];exact Jr ex eh,fun t ht=> ?_⟩
 by_cases e:t=h
 ·exact .inl e
 ·refine .inr (Classical.byContradiction fun z=> ?_)
  have rb:=(R m ml).2.2 t;obtain ⟨m',y,ey,e1,e2⟩:=low t _ ht (by omega) rb.2;have z2:=((R m ml).2.1 m' y ey).mp (by rw [e1,e2];omega)
  have nin:m'∉o:=fun w=>by
   have:=(D.mem m' y ey).mp w;rw [e1,e2] at this;omega
  rcases z2 with z2|z2
  ·subst z2
   rw [ex] at ey;cases ey;omega
  ·exact nin (Uh m' z2.lt.1)
theorem Dn.all (D:Dn ws hn o dn) (l:o.length=ws.length):Ord ws o:=by
 have p:o.Perm (List.range ws.length):=(Ca D.nd fun m hm=>List.mem_range.mpr (D.lt m hm)).2 (by rw [List.length_range];omega);exact ⟨p,D.keep,D.nm⟩
end
theorem Jc {ws:List aY} {hn:Nat} {H:Hp} {t1:Addr} {ex:List Addr} (L:bF H t1 ex ws.length (RowC ws hn)):∃(rs:List Addr) (rf:Nat->List Int),H t1=some (.lst (rs.map V.ref))/\rs.length=ws.length/\RX ws hn rf /\ ∀(j:Nat) (r:Addr),rs[j]? = some r->(∀e∈ex,r≠e)/\H r=some (.lst ((rf j).map V.int)):=by
 obtain ⟨rs,h1,h2,q⟩:=L;have get:∀j,j<ws.length -> ∃r,rs[j]? = some r:=fun j hj=>get_some (by rw [h2];exact hj)
 have ch:∀j,∃a:List Int,j<ws.length -> ∀r,rs[j]? = some r->H r=some (.lst (a.map V.int))/\nP ws hn a (fun m=>m=j\/mO ws j m) (j+1):=fun j=>by
  by_cases hj:j<ws.length
  ·obtain ⟨r,er⟩:=get j hj
   obtain ⟨_,a,ha,rh⟩:=q j r er;exact ⟨a,fun _ r' er'=>by rw [er] at er';cases er';exact ⟨ha,rh⟩⟩
  ·exact ⟨[],fun z=>absurd z hj⟩
 refine ⟨rs,fun j=>Classical.choose (ch j),h1,h2,fun j hj=> ?_,fun j r er=> ?_⟩
 ·obtain ⟨r,er⟩:=get j hj
  exact (Classical.choose_spec (ch j) hj r er).2
 ·have hj:j<ws.length:=by rw [←h2];exact (List.getElem?_eq_some_iff.mp er).1
  exact ⟨(q j r er).1,(Classical.choose_spec (ch j) hj r er).1⟩
def pJ (K:PySem.W.Frag):Sp:=fun vs H Q _=>∃(r b w t1:Addr) (ws:List aY) (hn m:Nat),vs=[.ref r,.ref w,.ref t1,.int hn]/\bV H r b m/\m<540000000000/\w≠r/\t1≠r/\gZ H w ws/\bF H t1 [r] ws.length (RowC ws hn)/\(∀x∈ws,0<=x.1/\x.1<(hn:Int))/\ws.length<=300/\hn<=8 /\
 ∀(od:Addr) (o:List Nat) (H':Hp),H od=none->H' od=some (.lst (bx o))->Ord ws o->bV H' r b (m+ws.length)->Kp r H H'->Q (.ref od) H'
theorem BJ {f:Addr} {fd:FuncData} (F:lq K "_law_other" "_law_other" gn f fd) (dO:FnAt P w K mg base 2 "_law_draw" ["bag","many"] (pL K)) (Bt:rB mg):cU P w K mg base jC 3 f fd ["bag","touches","rows","hands"] (pJ K):=by
 refine F.ok eO (fun vs H Q E h=> ?_) (fun cdv A outer s H vs Q E hr h=> ?_)
 ·obtain ⟨r,b,w,t1,ws,hn,m,rfl,_⟩:=h
  rfl
 ·obtain ⟨r,b,w,t1,ws,hn,m,rfl,B,mb,Wm,ntr,W,L1,ok,wl,h8,k⟩:=h
  refine ⟨_,(aD (Jo (i:=4) rfl eO.nd rfl (Or.inl rfl) (xc:= "hand") (N:=["hand","touches"]) (own:=["hand"]) (caps:=[1]) (bK.of (by kernel_rfl)) (dz (by rfl) Bt.d7 (ao (pv 3) aB)) (fun _ _ _ _=>(bA (i:=0) (show List.Nodup (["hand","touches"]:List Str) by decide +kernel) rfl (Or.inr rfl) (Or.inl CG))) (fun _ _ _ _=>fG) (fun _ _ _ _=>(fH rfl (N:=["at","hand","touches"]) (own:=["at"]) (caps:=[0,1]) (aX.of (by kernel_rfl)) (dz (by rfl) Bt.d7 (ao (aQ (aU (K:=K) rfl) (by rfl) Bt.fU dD (ao (pv 1) aB)) aB)) (fun _ _ _ _=>(bA (i:=0) (show List.Nodup (["at","hand","touches"]:List Str) by decide +kernel) rfl (Or.inl rfl))) (fun _ _ _ _=>(DR (cG m5 (aP (cO (K:=K) rfl) (aP (aH (K:=K) rfl) (pv 2) (pv 0) (fun _ _=>rfl)) aF (fun _ _=>rfl)) (pv 1) (bN _)))) (fun _ _ _ _=>(pv 0)))))
   (aD (aZ (i:=5) eO.nd rfl (Or.inr rfl) (bI wM (cC (ao aF aB)) (pv 3)))
   (aD (aZ (i:=6) eO.nd rfl (Or.inl rfl) (cC aB))
   (aD (j7 PassesOwn.never rfl (dz (by rfl) Bt.d7 (ao (aQ (aU (K:=K) rfl) (by rfl) Bt.fU dD (ao (pv 1) aB)) aB)) (bA (i:=7) eO.nd rfl (Or.inl rfl))
   (aD (aZ (i:=8) eO.nd rfl (Or.inl rfl) (cC aB))
   (aD (j7 PassesOwn.never rfl (dz (by rfl) Bt.d7 (ao (pv 3) aB)) (bA (i:=9) eO.nd rfl (Or.inr rfl))
   (aL (fj (cG vI (aP (aH (K:=K) rfl) (pv 5) (pv 9) (fun _ _=>rfl)) (aQ (aU (K:=K) rfl) (by rfl) Bt.fU dD (ao (aP (aH (K:=K) rfl) (pv 4) (pv 9) (fun _ _=>rfl)) aB)) (bN _)) (aD (aZ (i:=10) eO.nd rfl (Or.inr rfl) (aP (aH (K:=K) rfl) (pv 2) (aP (aH (K:=K) rfl) (aP (aH (K:=K) rfl) (pv 4) (pv 9) (fun _ _=>rfl)) (aP (aH (K:=K) rfl) (pv 5) (pv 9) (fun _ _=>rfl)) (fun _ _=>rfl)) (fun _ _=>rfl)))
   (aL (fj (gJ (aQ (iy (K:=K) rfl rfl) (by rfl) Bt.KQ CT (ao (fH rfl (N:=["other","hand","due","done"]) (own:=["other"]) (caps:=[9,10,5]) (aX.of (by kernel_rfl)) (dz (by rfl) Bt.d7 (ao (pv 3) aB)) (fun _ _ _ _=>(bA (i:=0) (show List.Nodup (["other","hand","due","done"]:List Str) by decide +kernel) rfl (Or.inl rfl))) (fun _ _ _ _=>fG) (fun _ _ _ _=>(Eb (eX m5 (pv 0) (pv 1) (bN _)) (j8 (eX Ed (aP (aH (K:=K) rfl) (pv 2) (pv 0) (fun _ _=>rfl)) (aP (aH (K:=K) rfl) (pv 3) (pv 0) (fun _ _=>rfl)) (bN _)))))) aB))) (aL (dg (cW (K:=K) rfl (pv 8) (ao (pv 9) aB)))) cA))) cA)))
   (aD (aZ (i:=9) eO.nd rfl (Or.inr rfl) (aP (aH (K:=K) rfl) (pv 8) (bO dO (hr.mono (by decide)) (by rfl) (ao (pv 0) (ao (aQ (aU (K:=K) rfl) (by rfl) Bt.fU dD (ao (pv 8) aB)) aB))) (fun _ _=>rfl)))
   (aD (dg (cW (K:=K) rfl (pv 6) (ao (aP (aH (K:=K) rfl) (aP (aH (K:=K) rfl) (pv 4) (pv 9) (fun _ _=>rfl)) (aP (aH (K:=K) rfl) (pv 5) (pv 9) (fun _ _=>rfl)) (fun _ _=>rfl)) aB)))
   (aL (jA (bI gw (aP (aH (K:=K) rfl) (pv 5) (pv 9) (fun _ _=>rfl)) aF) (lK (pv 5) (pv 9) set_list))))))))
   (aL (bh (pv 6))))))), ?_⟩
  obtain ⟨rs1,rf,ht1,rl1,RF,rq1⟩:=Jc L1;obtain ⟨vs,hv,dv⟩:=id W;have vl:vs.length=ws.length:=by rw [dv.length,List.length_map]
  refine ⟨_,rfl,_,rfl,by omega,by omega,fun D hD=> ?_⟩;rw [Int.toNat_natCast];refine j_ (lo:=0) (n:=hn) (fun i σ Hc=>∃(v:Option V) (ps:List Addr),σ=[v,some (.ref w)]/\ps.length=i/\Same H Hc/\Hc D=some (.lst (ps.map V.ref)) /\ ∀(h:Nat) (p:Addr),ps[h]? = some p->p≠D/\H p=none/\Hc p=some (.lst (bx (ig ws (h:Int))))) ⟨none,[],rfl,rfl,aG hD,aq,by simp⟩ ?_ ?_
  ·rintro i σ Hc hi ⟨v,ps,rfl,pl,sm,eD,hq⟩
   dsimp only [dZ,Qi];rw [if_pos rfl];rw [Int.zero_add];refine ⟨_,rfl,w,vs,rfl,.inl (bw.of (sm _ _ hv)),_,rfl,by omega,by omega,fun D2 hD2=> ?_⟩;rw [Int.toNat_natCast,vl];refine iU (fun j:Nat=>if hnd ws j=(i:Int) then some (V.int (j:Int)) else none) hD2 (by omega) (fun j H9 G F hj s9 kG kF=> ?_) (fun H9 s9 e9=> ?_)
   ·obtain ⟨x,ex⟩:=get_some hj
    obtain ⟨vs',t,hv',et,ht⟩:=nW (W.same (sm.trans s9)) ex;rw [Int.zero_add];refine ⟨_,rfl,_,rfl,_,_,_,_,rfl,rfl,bw.of hv',aW et,_,_,_,_,rfl,rfl,fY.of ht,rfl,_,rfl,rfl,_,rfl, ?_⟩
    by_cases c:x.1=(i:Int)
    ·rw [decide_eq_true (show V.int x.1=V.int (i:Int) by rw [c])]
     refine iK ?_;exact ⟨_,rfl,kF _ H9 (Same.refl _) (by rw [dN ex,if_pos c])⟩
    ·rw [decide_eq_false (show ¬V.int x.1=V.int (i:Int) from fun q=>c (by injection q))]
     refine fO ?_;exact kG H9 (Same.refl _) (by rw [dN ex,if_neg c])
   have ep:(List.range ws.length).filterMap (fun j:Nat=>if hnd ws j=(i:Int) then some (V.int (j:Int)) else none)=bx (ig ws (i:Int)):=by
    unfold bx ig;rw [←List.filterMap_eq_map,←List.filterMap_eq_filter,List.filterMap_filterMap];congr 1;funext j
    by_cases c:hnd ws j=(i:Int)
    ·rw [if_pos c]
     simp [Option.guard,c]
    ·rw [if_neg c]
     simp [Option.guard,c]
   rw [ep] at e9;have nD2:D2≠D:=(aA eD hD2).symm;refine ⟨_,s9 _ _ eD,by rw [List.length_map,sizeLine_eq];omega,_,ps++[D2],rfl,by simp [pl],(sm.trans s9).newly hD,by rw [aq,List.map_append];rfl,fun h p e=> ?_⟩;rcases Nat.lt_or_ge h ps.length with lh|lh
   ·rw [List.getElem?_append_left lh] at e
    obtain ⟨a1,a2,a3⟩:=hq h p e;exact ⟨a1,a2,by rw [aR a1];exact s9 _ _ a3⟩
   ·rw [List.getElem?_append_right lh] at e
    have h0:h=ps.length:=by
     have:=(List.getElem?_eq_some_iff.mp e).1;simp at this;omega
    subst h0;simp at e;subst e;exact ⟨nD2,sm.free hD2,by rw [aR nD2,e9,pl]⟩
  rintro σ H2 ⟨v,ps,rfl,pl,s2,eD,hq⟩;refine ⟨(by show 1<=sizeLine;decide),fun q hq0=>⟨_,rfl,q,_,_,rfl,rfl,aq,by omega,by omega,by rw [sizeLine_eq];simp;omega,fun dn hdn=> ?_⟩⟩;rw [Qq,Int.toNat_natCast];have sq:=aG (o:=HO.lst [V.int 0]) hq0;have sd:=aG (o:=HO.lst ((List.replicate hn (0:Int)).map V.int)) hdn;have ed:(upd (upd H2 q (.lst [V.int 0])) dn (.lst ((List.replicate hn (0:Int)).map V.int))) dn=some (.lst ((List.replicate hn (0:Int)).map V.int)):=aq;have s3:=(s2.trans sq).trans sd;have Wg:=sq.trans sd;have fdn:H2 dn=none:=sq.free hdn;generalize (upd (upd H2 q (.lst [V.int 0])) dn (.lst ((List.replicate hn (0:Int)).map V.int)))=H3 at ed s3 Wg ⊢;refine ⟨(by show 0<=sizeLine;decide),fun od hod=> ?_⟩;have so:=aG (o:=HO.lst []) hod;have eo:(upd H3 od (.lst [])) od=some (.lst (bx [])):=aq;have S4:=s3.trans so;have Yw:=Wg.trans so;have ed4:=so _ _ ed;have W3:H od=none:=s3.free hod;have Ph:dn≠od:=aA ed hod;have UW:H2 od=none:=Wg.free hod;generalize (upd H3 od (.lst []))=H4 at eo S4 Yw ed4 ⊢;have RD:H dn=none:=s2.free fdn;have B4:=B.keep S4;obtain ⟨ndr,ndb⟩:=B.ne RD;obtain ⟨nor,nob⟩:=B.ne W3;obtain ⟨Lk,Q8⟩:=B.ne hD;clear so ed sd sq hq0 s3 Wg hod hdn H3;have hv4:=S4 _ _ hv;dsimp only [dZ];refine iD (fun σ Hz=>∃(x7 x8 x9 x10:Option V) (o:List Nat),σ=[some (.ref r),some (.ref w),some (.ref t1),some (.int hn),some (.ref D),some (.ref dn),some (.ref od),x7,x8,x9,x10]/\Hz od=some (.lst (bx o))/\Ord ws o/\bV Hz r b (m+ws.length)/\Kp r H Hz) (fun D' hD' _=> ?_) ?_
  ·refine ⟨_,rfl,w,vs,rfl,.inl (bw.of hv4),_,rfl,by omega,by omega, ?_⟩
   rw [Int.toNat_natCast,vl]
   refine qg (lo:=0) (n:=ws.length) (fun i σ Hc=>∃(x7 x8 x9 x10:Option V) (o:List Nat) (dl:List Int),σ=[some (.ref r),some (.ref w),some (.ref t1),some (.int hn),some (.ref D),some (.ref dn),some (.ref od),x7,x8,x9,x10]/\o.length=i/\Hc od=some (.lst (bx o))/\Hc dn=some (.lst (dl.map V.int))/\Dn ws hn o dl/\bV Hc r b (m+i)/\Fv [r,dn,od] H4 Hc)
    ⟨none,none,none,none,[],_,rfl,rfl,eo,ed4,Oc ws hn,B4,Fv.refl _ _⟩ ?_ ?_
   ·rintro i σ Hc hi ⟨x7,x8,x9,x10,o,dl,rfl,ol,eoc,Vb,DN,Bc,kc⟩
    have stay:∀{x:Addr} {u:HO},H x=some u->x≠r->Hc x=some u:=fun {x u} e n=>kc _ _ (S4 _ _ e) (by
     have n1:=aA e RD;have n2:=aA e W3;simp [n,n1,n2])
    have IV:Hc D=some (.lst (ps.map V.ref)):=kc _ _ (Yw _ _ eD) (by
     have n1:=aA eD fdn;have n2:=aA eD UW;simp [Lk,n1,n2])
    have O4:∀(h:Nat) (p:Addr),ps[h]? = some p->Hc p=some (.lst (bx (ig ws (h:Int)))):=fun h p e=>by
     obtain ⟨a1,a2,a3⟩:=hq h p e;have n1:=aA a3 fdn;have n2:=aA a3 UW;exact kc _ _ (Yw _ _ a3) (by simp [(B.ne a2).1,n1,n2])
    refine ⟨(by show 0<=sizeLine;decide),fun sa hsa=> ?_⟩;have ssa:=aG (o:=HO.lst []) hsa;have esa:(upd Hc sa (.lst [])) sa=some (.lst (([]:List Int).map V.int)):=aq;generalize (upd Hc sa (.lst []))=Hs at ssa esa ⊢;dsimp only [dZ];refine iD (fun σ Hd=>∃(y9 y10:Option V) (ss:List Int),σ=[some (.ref r),some (.ref w),some (.ref t1),some (.int hn),some (.ref D),some (.ref dn),some (.ref od),some (.int (0+(i:Int))),some (.ref sa),y9,y10]/\Same Hc Hd/\Hd sa=some (.lst (ss.map V.int))/\ss≠[]/\ss.length<=8 /\ ∀z∈ss,∃h:Nat,z=(h:Int)/\h<hn/\SN ws hn rf dl h) (fun D2 hD2 _=> ?_) ?_
    ·refine ⟨_,rfl,_,rfl,by omega,by omega, ?_⟩
     rw [Int.toNat_natCast]
     refine qg (lo:=0) (n:=hn) (fun t σ Hd=>∃(y9 y10:Option V) (ss:List Int),σ=[some (.ref r),some (.ref w),some (.ref t1),some (.int hn),some (.ref D),some (.ref dn),some (.ref od),some (.int (0+(i:Int))),some (.ref sa),y9,y10]/\Same Hc Hd/\Hd sa=some (.lst (ss.map V.int))/\ss.length<=t/\(∀z∈ss,∃h:Nat,z=(h:Int)/\h<hn/\SN ws hn rf dl h) /\ ∀h:Nat,h<t->SN ws hn rf dl h->(h:Int)∈ss)
      ⟨x9,x10,[],rfl,ssa,esa,Nat.le_refl _,by simp,fun h z=>by omega⟩ ?_ ?_
     ·rintro t σ Hd ht ⟨y9,y10,ss,rfl,sd,esd,sl,Ql,Ma⟩
      rw [Int.zero_add];obtain ⟨v,ev⟩:=get_some (l:=dl) (i:=t) (by rw [DN.len];exact ht);obtain ⟨p,ep⟩:=get_some (l:=ps) (i:=t) (by omega);have gv:gI dl (t:Int)=v:=i_ ev;have v0:0<=v:=by rw [←gv];exact DN.nn ht
      have hp:=sd _ _ (O4 t p ep)
      have skip:¬SN ws hn rf dl t -> ∀h:Nat,h<t+1->SN ws hn rf dl h->(h:Int)∈ss:=fun n h lh q=>by
       rcases Nat.lt_or_ge h t with l|l
       ·exact Ma h l q
       ·have:h=t:=by omega
        subst this;exact absurd q n
      refine ⟨_,rfl,_,rfl,_,_,_,_,rfl,rfl,bw.of (sd _ _ Vb),aW (by rw [List.getElem?_map,ev];rfl),_,rfl,_,rfl,_,_,_,_,rfl,rfl,bw.of (sd _ _ IV),aW (by rw [List.getElem?_map,ep];rfl),p,_,rfl,.inl (bw.of hp),_,_,rfl,rfl,_,rfl, ?_⟩;have il:(bx (ig ws (t:Int))).length=(ig ws (t:Int)).length:=by unfold bx;rw [List.length_map]
      rw [il];refine qT (fun q=> ?_) (fun q=> ?_)
      ·have q:v<((ig ws (t:Int)).length:Int):=of_decide_eq_true q
       obtain ⟨a,ea⟩:=get_some (l:=ig ws (t:Int)) (i:=v.toNat) (by omega);have al:=(wL ea).1;obtain ⟨ra,era⟩:=get_some (l:=rs1) (i:=a) (by omega);have hra:=sd _ _ (stay (rq1 a ra era).2 ((rq1 a ra era).1 r (by simp)))
       have av:rm (bx (ig ws (t:Int))) v=some (V.int (a:Int)):=by
        have e1:v=((v.toNat:Nat):Int):=(Int.toNat_of_nonneg v0).symm;rw [e1];refine aW ?_;unfold bx;rw [List.getElem?_map,ea];rfl
       refine ⟨_,rfl,_,rfl,_,rfl,_,_,_,_,rfl,rfl,bw.of (sd _ _ IV),aW (by rw [List.getElem?_map,ep];rfl),_,rfl,_,rfl,_,_,_,_,rfl,rfl,bw.of (sd _ _ Vb),aW (by rw [List.getElem?_map,ev];rfl),_,_,_,_,rfl,rfl,bw.of hp,av,_,_,_,_,rfl,rfl,bw.of (sd _ _ (stay ht1 ntr)),aW (by rw [List.getElem?_map,era];rfl), ?_⟩;dsimp only [dZ];refine ⟨_,rfl,_,rfl,by omega,by omega,fun D3 hD3=> ?_⟩;rw [Int.toNat_natCast];refine iU (fun u:Nat=>some (V.bl (decide (u=t\/gI (rf a) (u:Int)<=gI dl (u:Int))))) hD3 (by omega) (fun u H9 G F hu s9 kG kF=> ?_) (fun H9 s9 e9=> ?_)
       ·rw [Int.zero_add]
        obtain ⟨dv',edv⟩:=get_some (l:=dl) (i:=u) (by rw [DN.len];exact hu);have RL:=(RF a al).1;obtain ⟨rv,erv⟩:=get_some (l:=rf a) (i:=u) (by rw [RL];exact hu);have g1:gI dl (u:Int)=dv':=i_ edv;have g2:gI (rf a) (u:Int)=rv:=i_ erv;refine ⟨_,rfl,_,rfl,rfl,_,rfl, ?_⟩
        by_cases c:u=t
        ·rw [decide_eq_true (show V.int (u:Int)=V.int (t:Int) by rw [c])]
         refine iK ?_;exact kF _ H9 (Same.refl _) (by rw [decide_eq_true (.inl c)])
        ·rw [decide_eq_false (show ¬V.int (u:Int)=V.int (t:Int) from fun z=>c (by injection z with z;omega))]
         refine fO ?_;refine ⟨_,rfl,_,rfl,_,_,_,_,rfl,rfl,bw.of (s9 _ _ hra),aW (by rw [List.getElem?_map,erv];rfl),_,rfl,_,rfl,_,_,_,_,rfl,rfl,bw.of (s9 _ _ (sd _ _ Vb)),aW (by rw [List.getElem?_map,edv];rfl),_,_,rfl,rfl, ?_⟩;refine kF _ H9 (Same.refl _) ?_;rw [g1,g2];show _=some (V.bl (decide (rv<=dv')))
         by_cases d:rv<=dv'
         ·rw [decide_eq_true d,decide_eq_true (.inr d)]
         ·rw [decide_eq_false d,decide_eq_false fun z=>z.elim c d]
       have e9':H9 D3=some (.lst (((List.range hn).map fun u:Nat=>decide (u=t\/gI (rf a) (u:Int)<=gI dl (u:Int))).map V.bl)):=by
        rw [e9,List.map_map,←List.filterMap_eq_map];rfl
       refine ⟨D3,_,rfl,bw.of e9',_,rfl, ?_⟩;have sd9:=sd.trans s9;refine qT (fun q2=> ?_) (fun q2=> ?_)
       ·rw [List.all_map,List.all_eq_true] at q2
        have q3:∀u:Nat,u<hn->u=t\/gI (rf a) (u:Int)<=gI dl (u:Int):=fun u hu=>of_decide_eq_true (q2 u (List.mem_range.mpr hu));have es9:=s9 _ _ esd;refine ⟨_,rfl,.inl ⟨rfl,_,bw.of es9⟩,_,rfl,sa,_,_,rfl,rfl,es9,by rw [List.length_map,sizeLine_eq];omega, ?_⟩;refine ⟨_,_,ss++[(t:Int)],rfl,sd9.newly hsa,by rw [aq,List.map_append];rfl,by rw [List.length_append];simp;omega,fun z hz=> ?_,fun h lh qh=> ?_⟩
        ·rcases List.mem_append.mp hz with hz|hz
         ·exact Ql z hz
         ·rw [List.mem_singleton.mp hz]
          exact ⟨t,rfl,ht,a,by rw [gv];exact ea,q3⟩
        ·rcases Nat.lt_or_ge h t with l|l
         ·exact List.mem_append_left _ (Ma h l qh)
         ·have:h=t:=by omega
          subst this;exact List.mem_append_right _ (by simp)
       ·refine ⟨_,_,ss,rfl,sd9,s9 _ _ esd,by omega,Ql,skip fun ⟨a',ea',z⟩=>q2 ?_⟩
        rw [gv,ea] at ea';cases ea';rw [List.all_map,List.all_eq_true];exact fun u hu=>decide_eq_true (z u (List.mem_range.mp hu))
      ·refine ⟨_,_,ss,rfl,sd,esd,by omega,Ql,skip fun ⟨a,ea,_⟩=> ?_⟩
       have:=(List.getElem?_eq_some_iff.mp ea).1;rw [gv] at this;have q:¬v<((ig ws (t:Int)).length:Int):=fun z=>q (decide_eq_true z);omega
     ·rintro σ Hd ⟨y9,y10,ss,rfl,sd,esd,sl,Ql,Ma⟩
      obtain ⟨h,hh,qh⟩:=DN.more RF ok (by omega);exact hD2 _ _ ⟨y9,y10,ss,rfl,sd,esd,(fun z=>by have:=Ma h hh qh;rw [z] at this;cases this),by omega,Ql⟩
    rintro σ Hd ⟨y9,y10,ss,rfl,sd,esd,sne,sl,Ql⟩
    have sl1:1<=ss.length:=by
     rcases ss with _|⟨a,as⟩
     ·exact absurd rfl sne
     ·simp
    have Bd:=Bc.keep sd;have nsr:=(Bc.ne hsa).1;refine ⟨_,rfl,_,rfl,_,rfl,sa,_,rfl,.inl (bw.of esd), ?_⟩;rw [List.length_map];refine ⟨r,b,ss.length,m+i,rfl,Bd,by omega,by omega,by omega,fun z He z0 z1 Be ke=> ?_⟩;obtain ⟨z,rfl⟩:=Int.eq_ofNat_of_zero_le z0;obtain ⟨hz,ehz⟩:=get_some (l:=ss) (i:=z) (by omega);obtain ⟨h,rfl,hh,a,ea,qa⟩:=Ql hz (List.mem_of_getElem? ehz);refine ⟨_,_,_,_,rfl,rfl,bw.of (ke _ _ esd nsr),aW (by rw [List.getElem?_map,ehz];rfl), ?_⟩;have stE:∀{x:Addr} {u:HO},Hc x=some u->x≠r->He x=some u:=fun e n=>ke _ _ (sd _ _ e) n;obtain ⟨v,ev⟩:=get_some (l:=dl) (i:=h) (by rw [DN.len];exact hh);obtain ⟨p,ep⟩:=get_some (l:=ps) (i:=h) (by omega);have gv:gI dl (h:Int)=v:=i_ ev;have v0:0<=v:=by rw [←gv];exact DN.nn hh
    obtain ⟨b1,b2,b3⟩:=hq h p ep;have hp:=stE (O4 h p ep) (B.ne b2).1;have hDe:=stE IV Lk;have hde:=stE Vb ndr;have hoe:=stE eoc nor
    have av:rm (bx (ig ws (h:Int))) v=some (V.int (a:Int)):=by
     rw [gv] at ea;have e1:v=((v.toNat:Nat):Int):=(Int.toNat_of_nonneg v0).symm;rw [e1];refine aW ?_;unfold bx;rw [List.getElem?_map,ea];rfl
    dsimp only [dZ];refine ⟨_,rfl,.inl ⟨rfl,_,bw.of hoe⟩,_,rfl,_,rfl,_,_,_,_,rfl,rfl,bw.of hDe,aW (by rw [List.getElem?_map,ep];rfl),_,rfl,_,rfl,_,_,_,_,rfl,rfl,bw.of hde,aW (by rw [List.getElem?_map,ev];rfl),_,_,_,_,rfl,rfl,bw.of hp,av,od,_,_,rfl,rfl,hoe, ?_, ?_⟩
    ·unfold bx
     rw [List.length_map,sizeLine_eq];omega
    have ko:Kp od He (upd He od (.lst (bx o++[V.int (a:Int)]))):=Kp.set
    have eof:(upd He od (.lst (bx o++[V.int (a:Int)]))) od=some (.lst (bx (o++[a]))):=by
     rw [aq];unfold bx;rw [List.map_append];rfl
    have hdf:=ko _ _ hde Ph;have Bf:bV (upd He od (.lst (bx o++[V.int (a:Int)]))) r b (m+i+1):=Be.kp ko nor.symm nob.symm;generalize (upd He od (.lst (bx o++[V.int (a:Int)])))=Hf at ko eof hdf Bf ⊢;refine ⟨_,rfl,_,rfl,_,_,_,_,rfl,rfl,bw.of hdf,aW (by rw [List.getElem?_map,ev];rfl),_,_,rfl,rfl,_,rfl,_,rfl,dn,_,_,_,rfl,rfl,hdf,rM (by omega) (by rw [List.length_map,DN.len];omega), ?_⟩;have kd:Kp dn Hf (upd Hf dn (.lst ((dl.map V.int).set (h:Int).toNat (V.int (v+1))))):=Kp.set;refine ⟨_,_,_,_,o++[a],dl.set h (v+1),rfl,by rw [List.length_append,ol];rfl,kd _ _ eof Ph.symm,by rw [aq,List.map_set];rfl, ?_,Bf.kp kd ndr.symm ndb.symm,fun x u e n=> ?_⟩
    ·rw [←gv]
     exact DN.step RF ok hh ea qa
    ·have n1:x≠r:=fun z=>n (by simp [z])
     have n2:x≠dn:=fun z=>n (by simp [z]);have n3:x≠od:=fun z=>n (by simp [z]);exact kd _ _ (ko _ _ (stE (kc _ _ e n) n1) n3) n2
   ·rintro σ Hc ⟨x7,x8,x9,x10,o,dl,rfl,ol,eoc,Vb,DN,Bc,kc⟩
    refine hD' _ _ ⟨x7,x8,x9,x10,o,rfl,eoc,DN.all ol,Bc,fun x u e n=>kc _ _ (S4 _ _ e) ?_⟩;have n1:=aA e RD;have n2:=aA e W3;simp [n,n1,n2]
  rintro σ Hz ⟨x7,x8,x9,x10,o,rfl,eo',OO,Bz,kz⟩;exact ⟨_,rfl,k od o Hz W3 eo' OO Bz kz⟩
def nG (ws:List aY) (hn:Nat):List Int:=(List.range hn).map fun h:Nat=>cnt ws (h:Int)
theorem oX (ws:List aY) (hn:Nat):(nG ws hn).length=hn:=by unfold nG;simp
theorem Ew {ws:List aY} {hn:Nat} {h:Int} (h0:0<=h) (h1:h<hn):gI (nG ws hn) h=cnt ws h:=by
 obtain ⟨m,rfl⟩:=Int.eq_ofNat_of_zero_le h0;refine i_ ?_;unfold nG;rw [List.getElem?_map,List.getElem?_range (by omega)];rfl
theorem CJ (ws:List aY) (h:Int):cnt ws h<=ws.length:=by
 unfold cnt;have:=List.length_filter_le (fun x:aY=>decide (x.1=h)) ws;omega
theorem qL {ws:List aY} {i:Nat} (h:i<ws.length):cnt (ws.take i) (hnd ws i)<cnt ws (hnd ws i):=by
 have ex:ws[i]? = some ws[i]:=List.getElem?_eq_getElem h;have t:ws.take (i+1)=ws.take i++[ws[i]]:=by rw [List.take_add_one,ex];rfl
 have m:=fD ws (hnd ws i) (i+1) (ws.length - (i+1));rw [show i+1+(ws.length - (i+1))=ws.length by omega,List.take_length,t,eN,if_pos (dN ex)] at m;omega
theorem Nb {ws:List aY} {hn:Nat} {e j:Nat} (ok:∀x∈ws,o_ (hn:Int) x) (he:e<ws.length) (hj:j<ws.length) (ne:¬hnd ws e=hnd ws j):K3 (nG ws hn) (eG ws e j):=by
 have r:∀i,i<ws.length->0<=hnd ws i/\hnd ws i<hn:=fun i hi=>by
  have ex:ws[i]? = some ws[i]:=List.getElem?_eq_getElem hi;rw [dN ex];exact (ok _ (List.getElem_mem hi)).1
 obtain ⟨a0,a1⟩:=r e he;obtain ⟨b0,b1⟩:=r j hj;unfold eG;refine ⟨⟨a0,by rw [oX];exact a1⟩,⟨gB _ _, ?_⟩,⟨b0,by rw [oX];exact b1⟩,⟨gB _ _, ?_⟩,ne⟩
 ·show cnt (ws.take e) (hnd ws e)<gI (nG ws hn) (hnd ws e)
  rw [Ew a0 a1];exact qL he
 ·show cnt (ws.take j) (hnd ws j)<gI (nG ws hn) (hnd ws j)
  rw [Ew b0 b1];exact qL hj
theorem Ov {ws:List aY} {hn:Nat} (ok:∀x∈ws,o_ (hn:Int) x) {n:Nat} (hn':n<=ws.length):∀x∈jo ws n,K3 (nG ws hn) x:=fun x hx=>by
 unfold jo at hx;obtain ⟨j,hj,hx⟩:=List.mem_flatMap.mp hx;have hj:=List.mem_range.mp hj;unfold aV at hx;obtain ⟨e,he,rfl⟩:=List.mem_map.mp hx;obtain ⟨h1,h2⟩:=List.mem_filter.mp he;exact Nb ok (o8 (by omega) h1) (by omega) (of_decide_eq_true h2)
theorem Jf {ws:List aY} {hn:Nat} {ns:List Nt} (ok:∀x∈ws,o_ (hn:Int) x) (h8:hn<=8) (wl:ws.length<=300) (pm:ns.Perm (jo ws ws.length)):uM (nG ws hn) ns:=by
 refine ⟨⟨by rw [oX];exact h8,fun c hc=> ?_⟩, ?_,fun x hx=>Ov ok (Nat.le_refl _) x (pm.mem_iff.mp hx)⟩
 ·unfold nG at hc
  obtain ⟨h,_,rfl⟩:=List.mem_map.mp hc;have:=CJ ws (h:Int);exact ⟨gB _ _,by omega⟩
 ·rw [pm.length_eq]
  have:=o9 ws ws.length;have:ws.length*ws.length<=300*300:=Nat.mul_le_mul wl wl;omega
theorem RcAt.Ry {C:Addr} {H:Hp} {R:Rc} {ws:List aY} {hn:Nat} (r:RcAt C H R ws hn) {b:Addr} (m:b∈R.fp):∃xs,H b=some (.lst xs):=by
 obtain ⟨_,w,_⟩:=r.web;obtain ⟨_,n,_⟩:=r.named;obtain ⟨_,k,_⟩:=r.Uq;obtain ⟨_,⟨_,t,_⟩,_⟩:=r.tkn;have m:b∈(R.a::R.nd::R.kn::R.tk::R.ps):=m;simp only [List.mem_cons] at m;rcases m with rfl|rfl|rfl|rfl|m
 ·exact ⟨_,w⟩
 ·exact ⟨_,n⟩
 ·exact ⟨_,k⟩
 ·exact ⟨_,t⟩
 ·obtain ⟨i,e⟩:=List.getElem?_of_mem m
  exact ⟨_,r.Sd i b e⟩
theorem Fv.tups {C:Addr} {H H':Hp} {R:Rc} {ws:List aY} {hn:Nat} (k:Fv R.fp H H') (r:RcAt C H R ws hn):∀a xs,H a=some (HO.tup xs)->H' a=some (HO.tup xs):=fun a xs e=>k _ _ e fun m=>by
 obtain ⟨ys,q⟩:=r.Ry m;rw [e] at q;cases q
theorem DY {ns:List Int} (h:ns.length<=100000):v9 2 (.list (ns.map PyData.int)):=by
 refine ⟨by rw [List.length_map];exact h,fun d hd=> ?_⟩;obtain ⟨x,_,rfl⟩:=List.mem_map.mp hd;exact True.intro
theorem bV.kpl {H H':Hp} {r b:Addr} {n:Nat} (W:List Addr) (h:bV H r b n) (k:∀x u,H x=some u->x∉W->H' x=some u) (n1:r∉W) (n2:b∉W):bV H' r b n:=by
 obtain ⟨ns,i,f,c,t,e1,e2,q⟩:=h;exact ⟨ns,i,f,c,t,k _ _ e1 n1,k _ _ e2 n2,q⟩
def sG (C:Addr) (K:PySem.W.Frag):Sp:=fun vs H Q _=>∃(R:Rc) (w od:Addr) (ws:List aY) (o:List Nat) (hn:Nat),vs=[.ref R.o,.ref w,.ref od]/\RcAt C H R [] hn/\w∉R.fp/\od∉R.fp/\gZ H w ws/\H od=some (.lst (bx o))/\Ord ws o/\(∀x∈ws,0<=x.1/\x.1<(hn:Int))/\hn<=8/\ws.length<=300 /\
 ∀(fo:Addr) (H':Hp),H fo=none->bF H' fo [] ws.length (HW ws)->fo∉R.fp->RcAt C H' R (fQ ws o) hn->Fv R.fp H H'->Q (.ref fo) H'
theorem Gh {ak:Addr} {f:Addr} {fd:FuncData} (F:lq K "_law_told" "_law_told" iH f fd) (au:cL K ak) (uQ:MethAt P w K mg base 4 ak "did" ["self","hand","kind","cell"] (I_ ak K)) (Bt:rB mg):cU P w K mg base jC 5 f fd ["recorder","touches","order"] (sG ak K):=by
 refine F.ok jE (fun vs H Q E h=> ?_) (fun cdv A outer s H vs Q E hr h=> ?_)
 ·obtain ⟨R,w,od,ws,o,hn,rfl,_⟩:=h
  rfl
 ·obtain ⟨R,w,od,ws,o,hn,rfl,r,nw,no,W,eo,O,ok,h8,wl,k⟩:=h
  refine ⟨_,(aD (aZ (i:=3) jE.nd rfl (Or.inl rfl) (bI wM (cC (ao QB aB)) (aQ (aU (K:=K) rfl) (by rfl) Bt.fU dD (ao (pv 1) aB))))
   (aD (j7 PassesOwn.never rfl (iY (K:=K) rfl (pv 2)) (bA (i:=4) jE.nd rfl (Or.inl rfl))
   (aD (jA (aP (aH (K:=K) rfl) (pv 1) (pv 4) (fun _ _=>rfl)) (rE (K:=K) (n:=3) rfl rfl (eF (bA (i:=5) jE.nd rfl (Or.inl rfl)) (eF (bA (i:=6) jE.nd rfl (Or.inl rfl)) (eF (bA (i:=7) jE.nd rfl (Or.inl rfl)) rD)))))
   (aL (jA (tE uQ au.cls (hr.mono (by decide)) (pv 0) (ao (pv 5) (ao (pv 6) (ao (pv 7) aB)))) (lK (pv 3) (pv 4) set_list)))))
   (aL (bh (pv 3))))), ?_⟩
  obtain ⟨vs,hv,dv⟩:=id W;have vl:vs.length=ws.length:=by rw [dv.length,List.length_map]
  refine ⟨(by show 1<=sizeLine;decide),fun q hq=> ?_⟩;have sq:=aG (o:=HO.lst [V.non]) hq;refine ⟨_,rfl,w,vs,rfl,.inl (bw.of (sq _ _ hv)),q,_,_,rfl,rfl,aq,by omega,by omega,by rw [sizeLine_eq];simp;omega,fun fo hfo=> ?_⟩;have sfo:=aG (o:=HO.lst (List.replicate ((vs.length:Int)).toNat [V.non]).flatten) hfo
  have efo:(upd (upd H q (.lst [V.non])) fo (.lst (List.replicate ((vs.length:Int)).toNat [V.non]).flatten)) fo=some (.lst (List.replicate ws.length V.non)):=by
   rw [aq,Int.toNat_natCast,vl];congr 2;generalize ws.length=n
   induction n with
   | zero=>rfl
   | succ n ih=>rw [List.replicate_succ,List.flatten_cons,ih];rfl
  have S2:=sq.trans sfo;have SJ:H fo=none:=sq.free hfo;generalize (upd (upd H q (.lst [V.non])) fo (.lst (List.replicate ((vs.length:Int)).toNat [V.non]).flatten))=H2 at efo S2 ⊢
  have Wr:fo∉R.fp:=fun m=>by
   obtain ⟨u,e⟩:=r.rO m;rw [SJ] at e;cases e
  have nfw:fo≠w:=(aA hv SJ).symm;have nfo:fo≠od:=(aA eo SJ).symm;have oin:(bx o).length=ws.length:=by unfold bx;rw [List.length_map,O.len]
  dsimp only [dZ];refine iD (fun σ Hz=>∃(x4 x5 x6 x7:Option V),σ=[some (.ref R.o),some (.ref w),some (.ref od),some (.ref fo),x4,x5,x6,x7]/\bF Hz fo [] ws.length (HW ws)/\RcAt ak Hz R (fQ ws o) hn/\Fv R.fp H Hz) (fun D' hD' _=> ?_) ?_
  ·refine ⟨_,rfl,od,rfl,⟨_,bw.of (S2 _ _ eo)⟩, ?_⟩
   refine ud (K:=K) (a:=od) (xs:=bx o) (fun i σ Hc=>∃(x4 x5 x6 x7:Option V) (fv:List V),σ=[some (.ref R.o),some (.ref w),some (.ref od),some (.ref fo),x4,x5,x6,x7]/\Hc fo=some (.lst fv)/\fv.length=ws.length/\RcAt ak Hc R (fQ ws (o.take i)) hn/\Fv R.fp H Hc /\ ∀(t a:Nat),t<i->o[t]? = some a -> ∃(l:Addr) (ns:List Nt),fv[a]? = some (.ref l)/\gD Hc l ns/\ns.Perm (aV ws a (bB ws a a))/\rA ns/\l≠fo/\l∉R.fp)
    ⟨none,none,none,none,_,rfl,efo,by simp,by rw [List.take_zero];exact r.same S2,Fv.same S2,fun t a z=>by omega⟩ (fun i σ Hc _ ⟨_,_,_,_,_,_,_,_,_,kc,_⟩=>bw.of (kc _ _ eo no)) ?_ ?_
   ·rintro i v σ Hc hi ⟨x4,x5,x6,x7,fv,rfl,Xg,fl,rc,kc,old⟩
    have il:i<ws.length:=by rw [←oin];exact (List.getElem?_eq_some_iff.mp hi).1
    obtain ⟨a,ea⟩:=O.of il
    obtain rfl:v=V.int (a:Int):=by
     unfold bx at hi;rw [List.getElem?_map,ea] at hi;exact (Option.some.inj hi).symm
    have al:=O.lt ea;obtain ⟨x,ex⟩:=get_some al;have tps:∀y xs,H y=some (HO.tup xs)->Hc y=some (HO.tup xs):=kc.tups r;obtain ⟨vs',t,hv',et,ht⟩:=nW W ex;have hvc:=kc _ _ hv' nw;dsimp only [dZ];refine ⟨_,rfl,_,rfl,_,_,_,_,rfl,rfl,bw.of hvc,aW et,t,_,rfl,fY.of (tps _ _ ht),rfl,_,_,rfl,_,_,rfl,_,_,rfl,rfl, ?_⟩;have wi:(fQ ws (o.take i)).length=i:=by rw [oE,List.length_take,O.len];omega
    have tk:fQ ws (o.take i)=(fQ ws o).take i:=by unfold fQ;rw [List.map_take]
    have tk1:fQ ws (o.take i)++[(x.1,x.2.1,x.2.2)]=(fQ ws o).take (i+1):=by
     rw [tk];exact take_snoc (mz ea ex)
    have xr:=ok x (List.mem_of_getElem? ex);refine ⟨_,rfl,R.o,R.dx,_,rfl,rc.o,rfl,_,rfl,_,rfl,_,rfl,R,fQ ws (o.take i),hn,x.1,x.2.2,x.2.1,rfl,rc,by omega,fun y hy=> ?_,xr.1,xr.2,h8,fun l ns Hd hl NN pp ss rd kd=> ?_⟩
    ·rw [tk] at hy
     have:=O.xX.mem_iff.mp (List.mem_of_mem_take hy);have:=ok y this;exact ⟨this.1,by omega⟩
    rw [tk1,wi,JL (by rw [O.wk];exact il)] at pp;have pq:=pp.trans (O.notes ea)
    have nlf:l∉R.fp:=fun m=>by
     obtain ⟨u,e⟩:=rc.rO m;rw [hl] at e;cases e
    have nlo:l≠fo:=(aA Xg hl).symm;have efd:=kd _ _ Xg Wr;rw [tk1] at rd;refine ⟨_,rfl,_,rfl,fo,_,_,_,rfl,rfl,efd,rM (by omega) (by omega), ?_⟩;have ks:Kp fo Hd (upd Hd fo (.lst (fv.set (a:Int).toNat (V.ref l)))):=Kp.set;rw [Int.toNat_natCast] at ks ⊢;have tkd:=kd.tups rc;have tks:=ks.tups efd;refine ⟨_,_,_,_,fv.set a (V.ref l),rfl,aq,by rw [List.length_set];exact fl, ?_,fun y u e n=>ks _ _ (kd _ _ (kc _ _ e n) n) (aA e SJ),fun t' a' lt' et'=> ?_⟩
    ·have:fQ ws (o.take (i+1))=(fQ ws o).take (i+1):=by unfold fQ;rw [List.map_take]
     rw [this];exact rd.kp ks efd Wr (aA r.pl SJ)
    ·rcases Nat.lt_or_ge t' i with q|q
     ·obtain ⟨l',ns',e1,N1,p1,s1,n1,n2⟩:=old t' a' q et'
      obtain ⟨us,eu,du⟩:=N1;refine ⟨l',ns', ?_,⟨us,ks _ _ (kd _ _ eu n2) n1,aM.keep (fun y xs e=>tks _ _ (tkd _ _ e)) _ (cg _ iZ _) du⟩,p1,s1,n1,n2⟩;rw [List.getElem?_set,if_neg]
      ·exact e1
      ·intro z
       subst z;have:=O.inj ea et';omega
     ·have:t'=i:=by omega
      subst this;rw [ea] at et';cases et';obtain ⟨us,eu,du⟩:=NN;exact ⟨l,ns,by rw [List.getElem?_set,if_pos rfl,if_pos (by omega)],⟨us,ks _ _ eu nlo,aM.keep tks _ (cg _ iZ _) du⟩,pq,ss,nlo,nlf⟩
   ·rintro σ Hc ⟨x4,x5,x6,x7,fv,rfl,Xg,fl,rc,kc,old⟩
    rw [oin] at rc old;have full:o.take ws.length=o:=List.take_of_length_le (by rw [O.len];exact Nat.le_refl _);rw [full] at rc
    have all:∀a,a<ws.length -> ∃(l:Addr),fv[a]? = some (.ref l)/\HW ws Hc a l:=fun a ha=>by
     obtain ⟨t,et⟩:=O.onto ha;obtain ⟨l,ns,e1,N1,p1,s1,_,_⟩:=old t a (by rw [←O.len];exact (List.getElem?_eq_some_iff.mp et).1) et;exact ⟨l,e1,ns,N1,p1,s1⟩
    refine hD' _ _ ⟨x4,x5,x6,x7,rfl, ?_,rc,kc⟩;refine ⟨fv.map fun v=>match v with | .ref l=>l|_=>fo, ?_,by rw [List.length_map];exact fl,fun j l hj=>⟨fun _ z=>absurd z (by simp), ?_⟩⟩
    ·rw [Xg,List.map_map]
     congr 2;refine List.ext_getElem? fun a=> ?_;rw [List.getElem?_map]
     by_cases ha:a<ws.length
     ·obtain ⟨l,e1,_⟩:=all a ha
      rw [e1];rfl
     ·rw [List.getElem?_eq_none (by omega)]
      rfl
    ·rw [List.getElem?_map] at hj
     have jl:j<ws.length:=by
      rw [←fl];cases e:fv[j]? with
      | none=>rw [e] at hj;cases hj
      | some v=>exact (List.getElem?_eq_some_iff.mp e).1
     obtain ⟨l',e1,q1⟩:=all j jl;rw [e1] at hj;cases hj;exact q1
  rintro σ Hz ⟨x4,x5,x6,x7,rfl,LZ,rz,kz⟩;exact ⟨_,rfl,k fo Hz SJ LZ Wr rz kz⟩
theorem Ey:∀n:Nat,(List.range n).filterMap (fun _:Nat=>some (V.bl true))=(List.replicate n true).map V.bl
 | 0=>rfl
 | n+1=>by
   rw [List.range_succ,List.filterMap_append,Ey n,List.replicate_succ',List.map_append];rfl
theorem Fd {H:Hp}:∀(vs:List V) (ds:List PyData),vs.length=ds.length->(∀(i:Nat) (v:V) (d:PyData),vs[i]? = some v->ds[i]? = some d->Dat H v d)->aM H vs ds
 | [],[],_,_=>by simp [aM]
 | [],_::_,h,_=>by simp at h
 | _::_,[],h,_=>by simp at h
 | v::vs,d::ds,h,q=>by
   simp only [aM];exact ⟨q 0 v d rfl rfl,Fd vs ds (by simpa using h) fun i v' d' h1 h2=>q (i+1) v' d' h1 h2⟩
theorem Ol {ws:List aY} {H:Hp} {t t':Addr} {n:Nat} (L:bF H t [] n (HW ws)) (L':bF H t' [] n (HW ws)) (nl:n<=300) (wl:∀j,j<n->(aV ws j (bB ws j j)).length<=300):∃dd,Dat H (.ref t) dd/\Dat H (.ref t') dd/\v9 5 dd:=by
 obtain ⟨rs,h1,h2,q⟩:=L;obtain ⟨rs',h1',h2',q'⟩:=L'
 have ch:∀j,∃ns:List Nt,j<n->ns.Perm (aV ws j (bB ws j j))/\rA ns:=fun j=>by
  by_cases hj:j<n
  ·obtain ⟨r,er⟩:=get_some (l:=rs) (i:=j) (by omega)
   obtain ⟨_,ns,_,p,s⟩:=q j r er;exact ⟨ns,fun _=>⟨p,s⟩⟩
  ·exact ⟨[],fun z=>absurd z hj⟩
 have mk:∀(rs:List Addr) (t:Addr),H t=some (.lst (rs.map V.ref))->rs.length=n->(∀j r,rs[j]? = some r->(∀e∈([]:List Addr),r≠e)/\HW ws H j r)->Dat H (.ref t) (.list ((List.range n).map fun j=>PyData.list ((Classical.choose (ch j)).map nD))):=fun rs t h1 h2 q=>by
  refine jc h1 (Fd _ _ (by simp [h2]) fun i v d hv hd=> ?_);rw [List.getElem?_map] at hv;cases er:rs[i]? with
  | none=>rw [er] at hv;cases hv
  | some r=>
    rw [er] at hv;cases hv;have hi:i<n:=by rw [←h2];exact (List.getElem?_eq_some_iff.mp er).1
    rw [List.getElem?_map,List.getElem?_range hi] at hd;cases hd;obtain ⟨_,ns,⟨us,eu,du⟩,p,s⟩:=q i r er;obtain ⟨p0,s0⟩:=Classical.choose_spec (ch i) hi;have e:ns=Classical.choose (ch i):=iT (p.trans p0.symm) s s0;show Dat H (V.ref r) (PyData.list ((Classical.choose (ch i)).map nD));rw [←e];exact jc eu du
 refine ⟨_,mk rs t h1 h2 q,mk rs' t' h1' h2' q', ?_⟩;refine v9.up ⟨by rw [List.length_map,List.length_range];omega,fun d hd=> ?_⟩;obtain ⟨j,hj,rfl⟩:=List.mem_map.mp hd;have hj:=List.mem_range.mp hj;obtain ⟨p0,_⟩:=Classical.choose_spec (ch j) hj;have:=wl j hj;exact TY _ (by rw [p0.length_eq];omega)
theorem Qp {ws:List aY} {hn n m:Nat} {H Hc:Hp} {t r b:Addr} (B:bV H r b m) (L:bF H t [] n (RowC ws hn)) (nt:t≠r) (kc:Kp r H Hc):bF Hc t [r] n (RowC ws hn):=by
 obtain ⟨rs,e,l,q⟩:=L;obtain ⟨bns,i1,f1,c1,t1',e1,_⟩:=B;refine ⟨rs,kc _ _ e nt,l,fun jj r1 hj=> ?_⟩;obtain ⟨_,a,ha,rh⟩:=q jj r1 hj
 have n1:r1≠r:=fun z=>by
  rw [z,e1] at ha;have:=HO.lst.inj (Option.some.inj ha);cases a with
  | nil=>cases this
  | cons y ys=>cases this
 exact ⟨fun x z=>by rw [List.mem_singleton.mp z];exact n1,a,kc _ _ ha n1,rh⟩
theorem VH {ws:List aY} {n m:Nat} {H Hc:Hp} {t r b:Addr} (B:bV H r b m) (L:bF H t [] n (HW ws)) (nt:t≠r) (kc:Kp r H Hc):bF Hc t [] n (HW ws):=by
 have tps:=B.tups kc;obtain ⟨rs,e,l,q⟩:=L;obtain ⟨bns,i1,f1,c1,t1',e1,_⟩:=id B;refine ⟨rs,kc _ _ e nt,l,fun jj r1 hj=> ?_⟩;obtain ⟨_,nn,⟨us,hus,dus⟩,q2⟩:=q jj r1 hj
 have n1:r1≠r:=fun z=>by
  rw [z,e1] at hus;have e2:=HO.lst.inj (Option.some.inj hus);obtain ⟨y,t,_,ev,_⟩:=wN dus (i:=1) (v:= .int i1) (by rw [←e2];rfl);cases ev
 exact ⟨fun _ z=>absurd z (by simp),nn,⟨us,kc _ _ hus n1,aM.keep tps _ (cg _ iZ _) dus⟩,q2⟩
def Dw (K:PySem.W.Frag):Sp:=fun vs H Q _=>∃(a:Addr) (ns:List Int),vs=[.ref a]/\bw K H a (ns.map V.int)/\ns.length<=63 /\ ∀H',Q (.bl true) H'
theorem QT {ak:Addr} {f:Addr} {fd:FuncData} (F:lq K "law" "law" oA f fd) (au:cL K ak) (nM:Xl K ak) (R0:FnAt P w K mg base 1 "_law_bag" ["script"] (Ja K)) (La:FnAt P w K mg base 3 "_law_hands" ["bag"] (wF K)) (Dj:FnAt P w K mg base 4 "_law_touches" ["bag","hands"] (pH K)) (K9:FnAt P w K mg base 1 "_law_table" ["touches","hands"] (sI K)) (uP:Dd P w K mg base 2 ak "Recorder" ["self","hands"] [] (wA ak K)) (Fx:FnAt P w K mg base 5 "_law_told" ["recorder","touches","order"] (sG ak K)) (K_:FnAt P w K mg base 3 "_law_other" ["bag","touches","rows","hands"] (pJ K)) (jN:FnAt P w K mg base 6 "_law_alike" ["found","due"] (gP 5 K)) (cD:MethAt P w K mg base 1 ak "notes" ["self"] (lF ak K)) (cj:MethAt P w K mg base 1 ak "counts" ["self"] (lG ak K)) (jL:MethAt P w K mg base 4 ak "known" ["self","hand"] (sH ak K)) (jx:MethAt P w K mg base 2 ak "__eq__" ["self","other"] (IW ak K)) (ji:MethAt P w K mg base 1 ak "__len__" ["self"] (Bk ak K)) (jg:MethAt P w K mg base 4 ak "__str__" ["self"] (Bj ak K)) (Bt:rB mg):cU P w K mg base jC 7 f fd ["script"] (Dw K):=by
 refine F.ok jy (fun vs H Q E h=> ?_) (fun cdv A outer s H vs Q E hr h=> ?_)
 ·obtain ⟨a,ns,rfl,_⟩:=h
  rfl
 ·obtain ⟨sa,sns,rfl,hS,hlen,k⟩:=h
  have jm:=hr.units
  refine ⟨_,(aD (aZ (i:=1) jy.nd rfl (Or.inl rfl) (bO R0 (hr.mono (by decide)) (by rfl) (ao (pv 0) aB)))
   (aD (aZ (i:=2) jy.nd rfl (Or.inl rfl) (bO La (hr.mono (by decide)) (by rfl) (ao (pv 1) aB)))
   (aD (aZ (i:=3) jy.nd rfl (Or.inl rfl) (bO Dj (hr.mono (by decide)) (by rfl) (ao (pv 1) (ao (pv 2) aB))))
   (aD (aZ (i:=4) jy.nd rfl (Or.inl rfl) (aP (cO (K:=K) rfl) (bO K9 (hr.mono (by decide)) (by rfl) (ao (pv 3) (ao (pv 2) aB))) aF (fun _ _=>rfl)))
   (aD (aZ (i:=5) jy.nd rfl (Or.inr rfl) (yJ uP (hr.mono (by decide)) (by rfl) (ao (pv 2) aB)))
   (aD (aZ (i:=6) jy.nd rfl (Or.inl rfl) (bO Fx (hr.mono (by decide)) (by rfl) (ao (pv 5) (ao (pv 3) (ao (yK rfl (by rfl) Bt.uI (by rfl) Bt.d7 (ao (aQ (aU (K:=K) rfl) (by rfl) Bt.fU dD (ao (pv 3) aB)) aB)) aB)))))
   (aD (j7 PassesOwn.never rfl (dz (by rfl) Bt.d7 (ao aF aB)) (bA (i:=7) jy.nd rfl (Or.inl rfl))
   (aD (aZ (i:=8) jy.nd rfl (Or.inr rfl) (yJ uP (hr.mono (by decide)) (by rfl) (ao (pv 2) aB)))
   (aD (aZ (i:=9) jy.nd rfl (Or.inl rfl) (bO Fx (hr.mono (by decide)) (by rfl) (ao (pv 8) (ao (pv 3) (ao (bO K_ (hr.mono (by decide)) (by rfl) (ao (pv 1) (ao (pv 3) (ao (pv 4) (ao (pv 2) aB))))) aB)))))
   (aD (fj (PW.pt (qy (jz (gJ (bO jN (hr.mono (by decide)) (by rfl) (ao (pv 9) (ao (pv 6) aB))))) (qy (jz (cG (QJ jx (hr.mono (by decide))) (pv 8) (pv 5) (bN _))) (nj (cG (QH nM jx (hr.mono (by decide))) (pv 8) (pv 5) (bN _)))))) (aL (bh mZ)) cA)
   (aD (fj (PW.pt (qy (jz (gJ (bO jN (hr.mono (by decide)) (by rfl) (ao (dX cD au.cls (hr.mono (by decide)) (pv 8)) (ao (dX cD au.cls (hr.mono (by decide)) (pv 5)) aB))))) (nj (jz (gJ (bO jN (hr.mono (by decide)) (by rfl) (ao (dX cj au.cls (hr.mono (by decide)) (pv 8)) (ao (dX cj au.cls (hr.mono (by decide)) (pv 5)) aB)))))))) (aL (bh mZ)) cA)
   (aD (fj (PW.pt (qy (cG kO (aQ (vV ji (hr.mono (by decide))) (by rfl) Bt.fU dD (ao (pv 8) aB)) (aQ (vV ji (hr.mono (by decide))) (by rfl) Bt.fU dD (ao (pv 5) aB)) (bN _)) (nj (cG kO (iR (vR jg (hr.mono (by decide))) (by rfl) Bt.Ab uF (ao (pv 8) aB)) (iR (vR jg (hr.mono (by decide))) (by rfl) Bt.Ab uF (ao (pv 5) aB)) (bN _))))) (aL (bh mZ)) cA)
   (aL (fj (jz (gJ (aQ (iy (K:=K) rfl rfl) (by rfl) Bt.KQ CT (ao (fH rfl (N:=["hand","recorder","first"]) (own:=["hand"]) (caps:=[8,5]) (aX.of (by kernel_rfl)) (dz (by rfl) Bt.d7 (ao (pv 2) aB)) (fun _ _ _ _=>(bA (i:=0) (show List.Nodup (["hand","recorder","first"]:List Str) by decide +kernel) rfl (Or.inl rfl))) (fun _ _ _ _=>fG) (fun _ _ _ _=>(bO jN (hr.mono (by decide)) (by rfl) (ao (tE jL au.cls (hr.mono (by decide)) (pv 1) (ao (pv 0) aB)) (ao (tE jL au.cls (hr.mono (by decide)) (pv 2) (ao (pv 0) aB)) aB))))) aB)))) (aL (bh mZ)) cA))))))))
   (aL (bh mZ))))))))), ?_⟩
  refine ⟨_,rfl,sa,sns,rfl,hS,hlen,fun r b H1 hr1 hb1 B1 sm1=> ?_⟩;refine ⟨_,rfl,r,b,0,rfl,B1,by decide,fun hn H3 hn0 hn1 B3 k3=> ?_⟩;refine ⟨_,rfl,_,rfl,r,b,_,hn,rfl,B3,by decide,hn0,hn1,fun w ws H4 hw0 W Ls wl B4 k4=> ?_⟩;obtain ⟨hn,rfl⟩:=Int.eq_ofNat_of_zero_le (show 0<=hn by omega);have tok:=Io Ls hn1;have ok:∀x∈ws,0<=x.1/\x.1<(hn:Int):=fun x hx=>(Ls x hx).1;have h8:hn<=8:=by omega
  refine ⟨_,rfl,_,rfl,w,hn,ws,rfl,W,Ls,hn0,hn1,wl,fun p t1 t2 H5 tW L1 L2 ft1 ft2 s5=> ?_⟩;rw [Int.toNat_natCast] at L1;have W5:=W.same s5;have B5:bV H5 r b 100000:=(B4.keep s5).mono (by omega);obtain ⟨o4,u_⟩:=B4.at;obtain ⟨o3,Px⟩:=B3.at;have Wm:w≠r:=(aA Px hw0).symm;have nt1:t1≠r:=(aA u_ ft1).symm;refine ⟨_,_,_,_,rfl,rfl,fY.of tW,rfl, ?_⟩;clear L2 ft2 Px o3 k3 k4 B1 B3 B4 sm1 hr1 hb1;dsimp only [dZ];refine ⟨_,rfl,fun o dx ho hdx Ph=> ?_⟩;have s6:Same H5 (upd (upd H5 dx (.own o)) o (.ins ak dx [])):=(aG hdx).trans (aG (by rw [aR (Ne.symm Ph)];exact ho));refine ⟨o,dx,hn,rfl,aq,hn0,hn1,fun R1 H7 ero RC fr UL k7=>⟨rfl, ?_⟩⟩;rw [Int.toNat_natCast] at RC;have s7:Same H5 H7:=fun c u e=>k7 _ _ (s6 _ _ e) (aA e ho);have Lp:∀c∈R1.fp,H5 c=none:=fun c m=>s6.free (fr c m);have UJ:H5 R1.pl=none:=s6.free UL;generalize (upd (upd H5 dx (.own o)) o (.ins ak dx []))=H6 at *;subst ero;clear s6 fr UL k7 ho hdx Ph;have B7:=B5.keep s7;have W7:=W5.same s7;obtain ⟨v7,Rp,dv7⟩:=id W7;have vl7:v7.length=ws.length:=by rw [dv7.length,List.length_map]
  dsimp only [dZ];refine ⟨_,rfl,_,rfl,_,rfl,w,v7,rfl,.inl (bw.of Rp), ?_⟩;rw [vl7];refine ⟨ws.length,rfl,by omega,fun od hod=> ?_⟩;have Te:=aG (o:=HO.lst (((List.range ws.length).map fun k:Nat=>(k:Int)).map V.int)) hod
  have eod:(upd H7 od (.lst (((List.range ws.length).map fun k:Nat=>(k:Int)).map V.int))) od=some (.lst (bx (List.range ws.length))):=by
   rw [aq,List.map_map];rfl
  have nf7:∀{x:Addr},H7 x=none->x∉R1.fp:=fun {x} e m=>by
   obtain ⟨u,e'⟩:=RC.rO m;rw [e] at e';cases e'
  have Ub:=nf7 hod
  have nwf:w∉R1.fp:=fun m=>by
   obtain ⟨v5,hv5,_⟩:=W5;rw [Lp _ m] at hv5;cases hv5
  have s8:=s7.trans Te;have RC8:=RC.same Te;generalize (upd H7 od (.lst (((List.range ws.length).map fun k:Nat=>(k:Int)).map V.int)))=H8 at Te eod s8 RC8 ⊢;refine ⟨R1,w,od,ws,List.range ws.length,hn,rfl,RC8,nwf,Ub,W7.same Te,eod,Gf ws,ok,h8,wl,fun fo H9 hfo LF Wr R9 k9=> ?_⟩;rw [pQ] at R9;have S9:Same H5 H9:=fun x u e=>k9 _ _ (s8 _ _ e) (fun m=>by rw [Lp _ m] at e;cases e);have B9:bV H9 r b 100000:=B5.keep S9;have er5:=B5.at
  have nrf:r∉R1.fp:=fun m=>by
   obtain ⟨u,e⟩:=er5;rw [Lp _ m] at e;cases e
  have nrp:R1.pl≠r:=by
   obtain ⟨u,e⟩:=er5;exact (aA e UJ).symm
  have nfor:fo≠r:=by
   obtain ⟨u,e⟩:=er5;exact (aA (s8 _ _ e) hfo).symm
  have W9:=W5.same S9;have L9:bF H9 t1 [] ws.length (RowC ws hn):=L1.same (gM _ _) S9;obtain ⟨ys9,hr9⟩:=B9.lst;clear k9 s8 Te eod hod Ub RC8 RC s7 W7 Rp dv7 Lp UJ B5 W5 L1 B7;dsimp only [dZ];refine iD (fun σ Hz=>True) (fun D' hD' rt=> ?_) (fun σ Hz _=>k _);refine ⟨_,rfl,by decide,by decide, ?_⟩;refine qg (lo:=0) (n:=(2:Int).toNat) (fun i σ Hc=>∃(x7 x8 x9:Option V) (m:Nat),σ=[some (.ref sa),some (.ref r),some (.int hn),some (.ref w),some (.ref t1),some (.ref R1.o),some (.ref fo),x7,x8,x9]/\bV Hc r b m/\m<=100000+1000*i/\Kp r H9 Hc) ⟨none,none,none,100000,rfl,B9,by omega,Kp.refl _ _⟩ ?_ (fun σ Hc _=>hD' _ _ True.intro);rintro i σ Hc hi ⟨x7,x8,x9,m,rfl,Bc,mb,kc⟩;have hi:i<2:=hi;have Rc1:∀{Hx:Hp},Kp r H9 Hx->RcAt ak Hx R1 ws hn:=fun kx=>R9.kp kx hr9 nrf nrp
  have hlen:∀j,j<ws.length->(aV ws j (bB ws j j)).length<=300:=fun j hj=>by
   have:=jt ws j (bB ws j j);have:=jK ws j j;omega
  dsimp only [dZ];refine ⟨_,rfl,fun o Vc ho hdx Ph=> ?_⟩;have s6:Same Hc (upd (upd Hc Vc (.own o)) o (.ins ak Vc [])):=(aG hdx).trans (aG (by rw [aR (Ne.symm Ph)];exact ho));refine ⟨o,Vc,hn,rfl,aq,hn0,hn1,fun R H7 ero RC fr UL k7=>⟨rfl, ?_⟩⟩;rw [Int.toNat_natCast] at RC;have s7:Same Hc H7:=fun c u e=>k7 _ _ (s6 _ _ e) (aA e ho);have frc:∀c∈R.fp,Hc c=none:=fun c m=>s6.free (fr c m);have abz:Hc R.pl=none:=s6.free UL;generalize (upd (upd Hc Vc (.own o)) o (.ins ak Vc []))=H6 at *;subst ero;clear s6 fr UL k7 ho hdx Ph;have inc:∀{x:Addr} {u:HO},Hc x=some u->x∉R.fp:=fun {x u} e m=>by rw [frc _ m] at e;cases e
  obtain ⟨ysc,hrc⟩:=Bc.lst;have T_:=inc hrc;have aal:R.pl≠r:=(aA hrc abz).symm;have Wc:=W9.kp hr9 kc Wm;obtain ⟨vc,hvc,_⟩:=id Wc;have aag:=inc hvc;have Lc:=Qp B9 L9 nt1 (kc.trans (Kp.of_same s7));dsimp only [dZ];refine ⟨_,rfl,_,rfl,_,rfl,_,rfl,_,rfl,_,rfl,r,b,w,t1,ws,hn,m,rfl,Bc.keep s7,by omega,Wm,nt1,Wc.same s7,Lc,ok,wl,h8,fun Sh oo H2 abm abG OO B2 k2=> ?_⟩;have R2:=RC.kp k2 (s7 _ _ hrc) T_ aal
  have aas:Sh∉R.fp:=fun m=>by
   obtain ⟨u,e⟩:=RC.rO m;rw [abm] at e;cases e
  obtain ⟨ys7,hr7⟩:=(Bc.keep s7).lst;refine ⟨R,w,Sh,ws,oo,hn,rfl,R2,aag,aas,(Wc.same s7).kp hr7 k2 Wm,abG,OO,ok,h8,wl,fun fo2 HS agw LF2 afW Xi k10=> ?_⟩;have K10:Kp r Hc HS:=fun x u e n=>k10 _ _ (k2 _ _ (s7 _ _ e) n) (inc e)
  have B10:bV HS r b (m+ws.length):=B2.kpl R.fp k10 T_ (by
   obtain ⟨_,_,_,_,_,_,e,_⟩:=Bc;exact inc e)
  have F10:=Rc1 (kc.trans K10);have D10:=VH B9 LF nfor (kc.trans K10);dsimp only [dZ]
  have Og:nG (fQ ws oo) hn=nG ws hn:=by
   unfold nG;refine List.map_congr_left fun h _=> ?_;exact ur OO.xX _
  have clL:=oX ws hn;have Hu:=OO.all
  have nl9:∀{ns:List Nt},ns.Perm (jo ws ws.length)->ns.length<=90000:=fun {ns} q=>by
   rw [q.length_eq];have:=o9 ws ws.length;have:ws.length*ws.length<=300*300:=Nat.mul_le_mul wl wl;omega
  obtain ⟨dd,d1,d2,pl⟩:=Ol LF2 D10 wl hlen;refine iD (fun σ Hz=>σ=[some (.ref sa),some (.ref r),some (.int hn),some (.ref w),some (.ref t1),some (.ref R1.o),some (.ref fo),some (.int (0+(i:Int))),some (.ref R.o),some (.ref fo2)]/\Same HS Hz) (fun D1 hD1 _=> ?_) ?_
  ·refine ⟨_,rfl,_,rfl,_,_,_,rfl,d1,d2,pl,fun Ha sa'=>⟨_,rfl,fO ?_⟩⟩
   have ra:=Xi.same sa';have fa:=F10.same sa';refine ⟨_,rfl,_,rfl,R.o,R1.o,R.dx,R1.dx,_,_,rfl,rfl,ra.o,fa.o,R,R1,fQ ws oo,ws,hn,hn,rfl,ra,fa,h8,h8,fun z=>absurd Og z,fun _ ns ns' Hb p6 sr6 p6' X5 sb=> ?_⟩;have e6:ns=ns':=iT ((p6.trans Hu).trans p6'.symm) sr6 X5;subst e6;rw [decide_eq_true rfl];refine ⟨_,rfl,_,rfl,fO ?_⟩;have rb:=ra.same sb;have fb:=fa.same sb;refine ⟨_,rfl,_,rfl,R.o,R1.o,R.dx,R1.dx,_,_,rfl,rfl,rb.o,fb.o,R,R1,fQ ws oo,ws,hn,hn,rfl,rb,fb,h8,h8,fun z=>absurd Og z,fun _ ns ns' He p7 X4 p7' X3 se=> ?_⟩;have e7:ns=ns':=iT ((p7.trans Hu).trans p7'.symm) X4 X3;subst e7;rw [decide_eq_true rfl];refine ⟨_,rfl,_,rfl,fO ?_⟩;exact hD1 _ _ ⟨rfl,(sa'.trans sb).trans se⟩
  rintro σ Hz ⟨rfl,sz⟩;have rz:=Xi.same sz;have fz:=F10.same sz;refine iD (fun σ Hy=>σ=[some (.ref sa),some (.ref r),some (.int hn),some (.ref w),some (.ref t1),some (.ref R1.o),some (.ref fo),some (.int (0+(i:Int))),some (.ref R.o),some (.ref fo2)]/\Same HS Hy) (fun D1 hD1 _=> ?_) ?_
  ·refine ⟨_,rfl,R.o,R.dx,_,rfl,rz.o,rfl,R,fQ ws oo,hn,rfl,rz,fun l1 Wo Ha hl1 N1 p1 X7 sa'=> ?_⟩
   have fa:=fz.same sa';refine ⟨_,rfl,R1.o,R1.dx,_,rfl,fa.o,rfl,R1,ws,hn,rfl,fa,fun l2 ns2 Hb hl2 N2 p2 X6 sb=> ?_⟩;have e1:Wo=ns2:=iT ((p1.trans Hu).trans p2.symm) X7 X6;subst e1;obtain ⟨va,ea,da⟩:=id (N1.same sb);obtain ⟨vb,eb,db⟩:=id N2;have:=nl9 p2;refine ⟨_,_,_,rfl,jc ea da,jc eb db,v9.up (v9.up (TY Wo (by omega))),fun He se=>⟨_,rfl,fO ?_⟩⟩;have s3:=((sa'.trans sb).trans se);have re:=rz.same s3;refine ⟨_,rfl,R.o,R.dx,_,rfl,re.o,rfl,R,fQ ws oo,hn,rfl,re,h8,fun c1 Hf hc1 ec1 sf=> ?_⟩;have ff:=(fz.same s3).same sf;refine ⟨_,rfl,R1.o,R1.dx,_,rfl,ff.o,rfl,R1,ws,hn,rfl,ff,h8,fun c2 Hg hc2 ec2 sg=> ?_⟩;have abL:Hg c1=some (.lst ((nG ws hn).map V.int)):=by rw [←Og];exact sg _ _ ec1
   have abK:Hg c2=some (.lst ((nG ws hn).map V.int)):=ec2;refine ⟨_,_,_,rfl,jJ abL,jJ abK,v9.up (v9.up (v9.up (DY (by omega)))),fun Hh sh=>⟨_,rfl,fO ?_⟩⟩;exact hD1 _ _ ⟨rfl,(((sz.trans s3).trans sf).trans sg).trans sh⟩
  rintro σ Hy ⟨rfl,sy⟩;have ry:=Xi.same sy;have fy:=F10.same sy;have okr:∀x∈fQ ws oo,o_ (hn:Int) x:=fun x hx=>Ls x (OO.xX.mem_iff.mp hx);refine iD (fun σ Hy=>σ=[some (.ref sa),some (.ref r),some (.int hn),some (.ref w),some (.ref t1),some (.ref R1.o),some (.ref fo),some (.int (0+(i:Int))),some (.ref R.o),some (.ref fo2)]/\Same HS Hy) (fun D1 hD1 _=> ?_) ?_
  ·have al9:=nl9 (List.Perm.refl _)
   refine ⟨_,rfl,R.o,R.dx,_,rfl,ry.o,⟨R,fQ ws oo,hn,rfl,ry,_,rfl,by omega,by rw [Hu.length_eq];omega, ?_⟩⟩;refine ⟨_,rfl,R1.o,R1.dx,_,rfl,fy.o,⟨R1,ws,hn,rfl,fy,_,rfl,by omega,by omega, ?_⟩⟩;rw [Hu.length_eq];refine ⟨rfl,_,rfl, ?_⟩;rw [decide_eq_true rfl];refine fO ?_;refine ⟨_,rfl,R.o,R.dx,_,rfl,ry.o,R,fQ ws oo,hn,rfl,ry,h8,fun ns q=>Jf okr h8 (by rw [OO.wk];exact wl) q,fun Wo Ha p7 X4 sa'=>⟨_,rfl, ?_⟩⟩;have fa:=fy.same sa';refine ⟨_,rfl,R1.o,R1.dx,_,rfl,fa.o,R1,ws,hn,rfl,fa,h8,fun ns q=>Jf Ls h8 wl q,fun ns2 Hb p8 sr8 sb=>⟨_,rfl, ?_⟩⟩;have e8:Wo=ns2:=iT ((p7.trans Hu).trans p8.symm) X4 sr8;subst e8;have ecl:((List.range hn).map fun h:Nat=>cnt (fQ ws oo) (h:Int))=((List.range hn).map fun h:Nat=>cnt ws (h:Int)):=Og;rw [ecl];refine ⟨rfl,_,rfl, ?_⟩;rw [decide_eq_true rfl];exact fO (hD1 _ _ ⟨rfl,(sy.trans sa').trans sb⟩)
  rintro σ Hx ⟨rfl,sx⟩;have rx:=Xi.same sx;have fx:=F10.same sx;refine ⟨_,rfl,_,rfl,by omega,by omega,fun D3 hD3=> ?_⟩;rw [Int.toNat_natCast];refine iU (fun _:Nat=>some (V.bl true)) hD3 (by omega) (fun u Ha G F hu sa' kG kF=> ?_) (fun Ha sa' ea=> ?_)
  ·have ra:=rx.same sa'
   rw [Int.zero_add];refine ⟨_,rfl,R.o,R.dx,_,rfl,ra.o,rfl,_,rfl,R,fQ ws oo,hn,(u:Int),rfl,ra,by omega,by omega,h8,fun l1 g1 Hb hl1 e1 JX sb=> ?_⟩;have fb:=(fx.same sa').same sb;refine ⟨_,rfl,R1.o,R1.dx,_,rfl,fb.o,rfl,_,rfl,R1,ws,hn,(u:Int),rfl,fb,by omega,by omega,h8,fun l2 g2 He hl2 e2 kl2 se=> ?_⟩;have eg:g1=g2:=funext fun z=>OO.known JX kl2 z;subst eg;have em:(List.range hn).map (fun i:Nat=>V.int (g1 (i:Int)))=((List.range hn).map fun i:Nat=>g1 (i:Int)).map V.int:=by rw [List.map_map];rfl
   rw [em] at e1 e2;exact ⟨_,_,_,rfl,jJ (se _ _ e1),jJ e2,v9.up (v9.up (v9.up (DY (by simp;omega)))),fun Hf sf=>kF _ Hf ((sb.trans se).trans sf) rfl⟩
  have ea':Ha D3=some (.lst ((List.replicate hn true).map V.bl)):=by
   rw [ea,Ey]
  refine ⟨D3,_,rfl,bw.of ea',_,rfl, ?_⟩;rw [show (List.replicate hn true).all id=true by simp];refine fO ?_;have kx:=K10.trans (Kp.of_same (sx.trans sa'));exact ⟨_,_,_,m+ws.length,rfl,B10.keep (sx.trans sa'),by omega,kc.trans kx⟩
end
theorem len0 {us:List Value} (h:us.length=0):us=[]:=List.eq_nil_of_length_eq_zero h
theorem bT {us:List Value} {n:Nat} (h:us.length=n+1):∃a vs,us=a::vs/\vs.length=n:=by
 cases us with
 | nil=>cases h
 | cons a t=>exact ⟨a,t,rfl,Nat.succ.inj h⟩
theorem Om (kV doc pm:Value) (an:Option Addr) (cdv ct:Value) (us:List Value) (hl:us.length=(["script"]:List Str).length):bindArgs (PySem.W.fnOf "_law_bag" "_law_bag" (aK j6) (aJ j6) (aC j6) .none kV doc pm an cdv ct) ⟨us,[]⟩=pure ((["script"]:List Str).zip us):=by obtain ⟨_,_,rfl,h1⟩:=bT hl;cases len0 h1;rfl
theorem KH (kV doc pm:Value) (an:Option Addr) (cdv ct:Value) (us:List Value) (hl:us.length=(["number","place"]:List Str).length):bindArgs (PySem.W.fnOf "_law_stir" "_law_stir" (aK iI) (aJ iI) (aC iI) .none kV doc pm an cdv ct) ⟨us,[]⟩=pure ((["number","place"]:List Str).zip us):=by obtain ⟨_,_,rfl,h1⟩:=bT hl;obtain ⟨_,_,rfl,h2⟩:=bT h1;cases len0 h2;rfl
theorem KJ (kV doc pm:Value) (an:Option Addr) (cdv ct:Value) (us:List Value) (hl:us.length=(["bag","many"]:List Str).length):bindArgs (PySem.W.fnOf "_law_draw" "_law_draw" (aK iJ) (aJ iJ) (aC iJ) .none kV doc pm an cdv ct) ⟨us,[]⟩=pure ((["bag","many"]:List Str).zip us):=by obtain ⟨_,_,rfl,h1⟩:=bT hl;obtain ⟨_,_,rfl,h2⟩:=bT h1;cases len0 h2;rfl
theorem Ht (kV doc pm:Value) (an:Option Addr) (cdv ct:Value) (us:List Value) (hl:us.length=(["bag"]:List Str).length):bindArgs (PySem.W.fnOf "_law_hands" "_law_hands" (aK gq) (aJ gq) (aC gq) .none kV doc pm an cdv ct) ⟨us,[]⟩=pure ((["bag"]:List Str).zip us):=by obtain ⟨_,_,rfl,h1⟩:=bT hl;cases len0 h1;rfl
theorem Ho (kV doc pm:Value) (an:Option Addr) (cdv ct:Value) (us:List Value) (hl:us.length=(["bag","hands","cells","loads","apart"]:List Str).length):bindArgs (PySem.W.fnOf "_law_touch" "_law_touch" (aK gj) (aJ gj) (aC gj) .none kV doc pm an cdv ct) ⟨us,[]⟩=pure ((["bag","hands","cells","loads","apart"]:List Str).zip us):=by obtain ⟨_,_,rfl,h1⟩:=bT hl;obtain ⟨_,_,rfl,h2⟩:=bT h1;obtain ⟨_,_,rfl,h3⟩:=bT h2;obtain ⟨_,_,rfl,h4⟩:=bT h3;obtain ⟨_,_,rfl,h5⟩:=bT h4;cases len0 h5;rfl
theorem z_ (kV doc pm:Value) (an:Option Addr) (cdv ct:Value) (us:List Value) (hl:us.length=(["bag","hands"]:List Str).length):bindArgs (PySem.W.fnOf "_law_touches" "_law_touches" (aK dM) (aJ dM) (aC dM) .none kV doc pm an cdv ct) ⟨us,[]⟩=pure ((["bag","hands"]:List Str).zip us):=by obtain ⟨_,_,rfl,h1⟩:=bT hl;obtain ⟨_,_,rfl,h2⟩:=bT h1;cases len0 h2;rfl
theorem qZ (kV doc pm:Value) (an:Option Addr) (cdv ct:Value) (us:List Value) (hl:us.length=(["one","other"]:List Str).length):bindArgs (PySem.W.fnOf "touches_meet" "touches_meet" (aK bZ) (aJ bZ) (aC bZ) .none kV doc pm an cdv ct) ⟨us,[]⟩=pure ((["one","other"]:List Str).zip us):=by obtain ⟨_,_,rfl,h1⟩:=bT hl;obtain ⟨_,_,rfl,h2⟩:=bT h1;cases len0 h2;rfl
theorem CV (kV doc pm:Value) (an:Option Addr) (cdv ct:Value) (us:List Value) (hl:us.length=(["web","place","later"]:List Str).length):bindArgs (PySem.W.fnOf "is_step" "is_step" (aK eU) (aJ eU) (aC eU) .none kV doc pm an cdv ct) ⟨us,[]⟩=pure ((["web","place","later"]:List Str).zip us):=by obtain ⟨_,_,rfl,h1⟩:=bT hl;obtain ⟨_,_,rfl,h2⟩:=bT h1;obtain ⟨_,_,rfl,h3⟩:=bT h2;cases len0 h3;rfl
theorem z8 (kV doc pm:Value) (an:Option Addr) (cdv ct:Value) (us:List Value) (hl:us.length=(["name","known"]:List Str).length):bindArgs (PySem.W.fnOf "is_known" "is_known" (aK dI) (aJ dI) (aC dI) .none kV doc pm an cdv ct) ⟨us,[]⟩=pure ((["name","known"]:List Str).zip us):=by obtain ⟨_,_,rfl,h1⟩:=bT hl;obtain ⟨_,_,rfl,h2⟩:=bT h1;cases len0 h2;rfl
theorem KC (kV doc pm:Value) (an:Option Addr) (cdv ct:Value) (us:List Value) (hl:us.length=(["known","more"]:List Str).length):bindArgs (PySem.W.fnOf "learn" "learn" (aK iG) (aJ iG) (aC iG) .none kV doc pm an cdv ct) ⟨us,[]⟩=pure ((["known","more"]:List Str).zip us):=by obtain ⟨_,_,rfl,h1⟩:=bT hl;obtain ⟨_,_,rfl,h2⟩:=bT h1;cases len0 h2;rfl
theorem vp (kV doc pm:Value) (an:Option Addr) (cdv ct:Value) (us:List Value) (hl:us.length=(["web","named","knowns","place"]:List Str).length):bindArgs (PySem.W.fnOf "bare_steps" "bare_steps" (aK cT) (aJ cT) (aC cT) .none kV doc pm an cdv ct) ⟨us,[]⟩=pure ((["web","named","knowns","place"]:List Str).zip us):=by obtain ⟨_,_,rfl,h1⟩:=bT hl;obtain ⟨_,_,rfl,h2⟩:=bT h1;obtain ⟨_,_,rfl,h3⟩:=bT h2;obtain ⟨_,_,rfl,h4⟩:=bT h3;cases len0 h4;rfl
theorem z6 (kV doc pm:Value) (an:Option Addr) (cdv ct:Value) (us:List Value) (hl:us.length=(["named","bare","name"]:List Str).length):bindArgs (PySem.W.fnOf "notes_to" "notes_to" (aK dG) (aJ dG) (aC dG) .none kV doc pm an cdv ct) ⟨us,[]⟩=pure ((["named","bare","name"]:List Str).zip us):=by obtain ⟨_,_,rfl,h1⟩:=bT hl;obtain ⟨_,_,rfl,h2⟩:=bT h1;obtain ⟨_,_,rfl,h3⟩:=bT h2;cases len0 h3;rfl
theorem Hq (kV doc pm:Value) (an:Option Addr) (cdv ct:Value) (us:List Value) (hl:us.length=(["touches","hands"]:List Str).length):bindArgs (PySem.W.fnOf "_law_table" "_law_table" (aK gk) (aJ gk) (aC gk) .none kV doc pm an cdv ct) ⟨us,[]⟩=pure ((["touches","hands"]:List Str).zip us):=by obtain ⟨_,_,rfl,h1⟩:=bT hl;obtain ⟨_,_,rfl,h2⟩:=bT h1;cases len0 h2;rfl
theorem z7 (kV doc pm:Value) (an:Option Addr) (cdv ct:Value) (us:List Value) (hl:us.length=(["value"]:List Str).length):bindArgs (PySem.W.fnOf "is_whole" "is_whole" (aK dH) (aJ dH) (aC dH) .none kV doc pm an cdv ct) ⟨us,[]⟩=pure ((["value"]:List Str).zip us):=by obtain ⟨_,_,rfl,h1⟩:=bT hl;cases len0 h1;rfl
theorem z9 (kV doc pm:Value) (an:Option Addr) (cdv ct:Value) (us:List Value) (hl:us.length=(["value","count"]:List Str).length):bindArgs (PySem.W.fnOf "is_below" "is_below" (aK dJ) (aJ dJ) (aC dJ) .none kV doc pm an cdv ct) ⟨us,[]⟩=pure ((["value","count"]:List Str).zip us):=by obtain ⟨_,_,rfl,h1⟩:=bT hl;obtain ⟨_,_,rfl,h2⟩:=bT h1;cases len0 h2;rfl
theorem vo (kV doc pm:Value) (an:Option Addr) (cdv ct:Value) (us:List Value) (hl:us.length=(["places","hand"]:List Str).length):bindArgs (PySem.W.fnOf "check_hand" "check_hand" (aK cR) (aJ cR) (aC cR) .none kV doc pm an cdv ct) ⟨us,[]⟩=pure ((["places","hand"]:List Str).zip us):=by obtain ⟨_,_,rfl,h1⟩:=bT hl;obtain ⟨_,_,rfl,h2⟩:=bT h1;cases len0 h2;rfl
theorem qt (kV doc pm:Value) (an:Option Addr) (cdv ct:Value) (us:List Value) (hl:us.length=(["self","hands"]:List Str).length):bindArgs (PySem.W.fnOf "__init__" "Recorder.__init__" (aK bQ) (aJ bQ) (aC bQ) .none kV doc pm an cdv ct) ⟨us,[]⟩=pure ((["self","hands"]:List Str).zip us):=by obtain ⟨_,_,rfl,h1⟩:=bT hl;obtain ⟨_,_,rfl,h2⟩:=bT h1;cases len0 h2;rfl
theorem q_ (kV doc pm:Value) (an:Option Addr) (cdv ct:Value) (us:List Value) (hl:us.length=(["self","hand","kind","cell"]:List Str).length):bindArgs (PySem.W.fnOf "did" "Recorder.did" (aK b_) (aJ b_) (aC b_) .none kV doc pm an cdv ct) ⟨us,[]⟩=pure ((["self","hand","kind","cell"]:List Str).zip us):=by obtain ⟨_,_,rfl,h1⟩:=bT hl;obtain ⟨_,_,rfl,h2⟩:=bT h1;obtain ⟨_,_,rfl,h3⟩:=bT h2;obtain ⟨_,_,rfl,h4⟩:=bT h3;cases len0 h4;rfl
theorem oZ (kV doc pm:Value) (an:Option Addr) (cdv ct:Value) (us:List Value) (hl:us.length=(["self"]:List Str).length):bindArgs (PySem.W.fnOf "notes" "Recorder.notes" (aK bL) (aJ bL) (aC bL) .none kV doc pm an cdv ct) ⟨us,[]⟩=pure ((["self"]:List Str).zip us):=by obtain ⟨_,_,rfl,h1⟩:=bT hl;cases len0 h1;rfl
theorem o7 (kV doc pm:Value) (an:Option Addr) (cdv ct:Value) (us:List Value) (hl:us.length=(["self","hand"]:List Str).length):bindArgs (PySem.W.fnOf "known" "Recorder.known" (aK bM) (aJ bM) (aC bM) .none kV doc pm an cdv ct) ⟨us,[]⟩=pure ((["self","hand"]:List Str).zip us):=by obtain ⟨_,_,rfl,h1⟩:=bT hl;obtain ⟨_,_,rfl,h2⟩:=bT h1;cases len0 h2;rfl
theorem nH (kV doc pm:Value) (an:Option Addr) (cdv ct:Value) (us:List Value) (hl:us.length=(["self"]:List Str).length):bindArgs (PySem.W.fnOf "counts" "Recorder.counts" (aK bG) (aJ bG) (aC bG) .none kV doc pm an cdv ct) ⟨us,[]⟩=pure ((["self"]:List Str).zip us):=by obtain ⟨_,_,rfl,h1⟩:=bT hl;cases len0 h1;rfl
theorem mX (kV doc pm:Value) (an:Option Addr) (cdv ct:Value) (us:List Value) (hl:us.length=(["self"]:List Str).length):bindArgs (PySem.W.fnOf "__len__" "Recorder.__len__" (aK bD) (aJ bD) (aC bD) .none kV doc pm an cdv ct) ⟨us,[]⟩=pure ((["self"]:List Str).zip us):=by obtain ⟨_,_,rfl,h1⟩:=bT hl;cases len0 h1;rfl
theorem vm (kV doc pm:Value) (an:Option Addr) (cdv ct:Value) (us:List Value) (hl:us.length=(["touch"]:List Str).length):bindArgs (PySem.W.fnOf "touch_text" "touch_text" (aK cQ) (aJ cQ) (aC cQ) .none kV doc pm an cdv ct) ⟨us,[]⟩=pure ((["touch"]:List Str).zip us):=by obtain ⟨_,_,rfl,h1⟩:=bT hl;cases len0 h1;rfl
theorem xJ (kV doc pm:Value) (an:Option Addr) (cdv ct:Value) (us:List Value) (hl:us.length=(["note"]:List Str).length):bindArgs (PySem.W.fnOf "note_text" "note_text" (aK cZ) (aJ cZ) (aC cZ) .none kV doc pm an cdv ct) ⟨us,[]⟩=pure ((["note"]:List Str).zip us):=by obtain ⟨_,_,rfl,h1⟩:=bT hl;cases len0 h1;rfl
theorem uG (kV doc pm:Value) (an:Option Addr) (cdv ct:Value) (us:List Value) (hl:us.length=(["record"]:List Str).length):bindArgs (PySem.W.fnOf "record_text" "record_text" (aK cF) (aJ cF) (aC cF) .none kV doc pm an cdv ct) ⟨us,[]⟩=pure ((["record"]:List Str).zip us):=by obtain ⟨_,_,rfl,h1⟩:=bT hl;cases len0 h1;rfl
theorem mW (kV doc pm:Value) (an:Option Addr) (cdv ct:Value) (us:List Value) (hl:us.length=(["self"]:List Str).length):bindArgs (PySem.W.fnOf "__str__" "Recorder.__str__" (aK bC) (aJ bC) (aC bC) .none kV doc pm an cdv ct) ⟨us,[]⟩=pure ((["self"]:List Str).zip us):=by obtain ⟨_,_,rfl,h1⟩:=bT hl;cases len0 h1;rfl
theorem nJ (kV doc pm:Value) (an:Option Addr) (cdv ct:Value) (us:List Value) (hl:us.length=(["self","other"]:List Str).length):bindArgs (PySem.W.fnOf "__eq__" "Recorder.__eq__" (aK bH) (aJ bH) (aC bH) .none kV doc pm an cdv ct) ⟨us,[]⟩=pure ((["self","other"]:List Str).zip us):=by obtain ⟨_,_,rfl,h1⟩:=bT hl;obtain ⟨_,_,rfl,h2⟩:=bT h1;cases len0 h2;rfl
theorem iV (kV doc pm:Value) (an:Option Addr) (cdv ct:Value) (us:List Value) (hl:us.length=(["found","due"]:List Str).length):bindArgs (PySem.W.fnOf "_law_alike" "_law_alike" (aK fB) (aJ fB) (aC fB) .none kV doc pm an cdv ct) ⟨us,[]⟩=pure ((["found","due"]:List Str).zip us):=by obtain ⟨_,_,rfl,h1⟩:=bT hl;obtain ⟨_,_,rfl,h2⟩:=bT h1;cases len0 h2;rfl
theorem Hr (kV doc pm:Value) (an:Option Addr) (cdv ct:Value) (us:List Value) (hl:us.length=(["bag","touches","rows","hands"]:List Str).length):bindArgs (PySem.W.fnOf "_law_other" "_law_other" (aK gn) (aJ gn) (aC gn) .none kV doc pm an cdv ct) ⟨us,[]⟩=pure ((["bag","touches","rows","hands"]:List Str).zip us):=by obtain ⟨_,_,rfl,h1⟩:=bT hl;obtain ⟨_,_,rfl,h2⟩:=bT h1;obtain ⟨_,_,rfl,h3⟩:=bT h2;obtain ⟨_,_,rfl,h4⟩:=bT h3;cases len0 h4;rfl
theorem KD (kV doc pm:Value) (an:Option Addr) (cdv ct:Value) (us:List Value) (hl:us.length=(["recorder","touches","order"]:List Str).length):bindArgs (PySem.W.fnOf "_law_told" "_law_told" (aK iH) (aJ iH) (aC iH) .none kV doc pm an cdv ct) ⟨us,[]⟩=pure ((["recorder","touches","order"]:List Str).zip us):=by obtain ⟨_,_,rfl,h1⟩:=bT hl;obtain ⟨_,_,rfl,h2⟩:=bT h1;obtain ⟨_,_,rfl,h3⟩:=bT h2;cases len0 h3;rfl
theorem all_mk {l:PySem.W.OpenLaw} {w:World} {K:PySem.W.Frag} {h:Heap} {mg:Str->Option Value} {fa f0 f1 f2 f3 f4 f5 f6 f7 f8 f9 Xf f11 Xe Xd Xc Xb U_ U9 U8 U7 U6 U5 Xa W_ W8 U4 U3 N8 W6 W4 f30 ak:Addr} (X:K.In h) (G:h.Ns mainGlobals mg) (hfa:mg "law" = some (.ref fa))
 {od0 an0 od1 an1 Sh an2 od3 an3 od4 an4 od5 an5 od6 an6 od7 an7 od8 an8 od9 an9 ZM ac9 ZL ac8 ZK ac7 ZJ ac6 ZG ac5 ZF ac4 ZD ac3 ZC ac2 Zz ac1 Zy ac0 Zx acZ Zw acY Zv acX Zu acW Zt acV Zr acU Zq acT Zo acS Zn acR Zm acQ Zk VL:Option Addr} {sl0 sl1 sl2 sl3 sl4 sl5 sl6 sl7 sl8 sl9 Yu Yt Ys Yr Yq Yp Yo Yn Ym Yl Yk Yj Yi Yh Yg Ye Yd Yc Yb X_ X8:Array (Option Value)} {oc0 kV0 dc0 pm0 cd0 ct0 oc1 kV1 dc1 pm1 cd1 ct1 oc2 kV2 dc2 pm2 cd2 ct2 oc3 kV3 dc3 pm3 cd3 ct3 oc4 kV4 dc4 pm4 cd4 ct4 oc5 kV5 dc5 pm5 cd5 ct5 oc6 kV6 dc6 pm6 cd6 ct6 oc7 kV7 dc7 pm7 cd7 ct7 oc8 kV8 dc8 pm8 cd8 ct8 oc9 kV9 dc9 pm9 cd9 ct9 aaf aa_ ab6 Zf VG acv aae aa9 ab5 Ze VF acu aad aa8 ab4 Zd VD acs aac aa7 ab3 Zc VB acr Z_ aa6 ab2 Zb Vz acq Z9 aa5 ab1 Za Vy acp Z8 aa4 ab0 Y_ Vx aco Z7 aa3 abZ Y9 Vw acn Z6 aa2 abY Y8 Vv acj Z5 aa1 abX Y7 Vu aci Z4 aa0 abW Y6 Vt ach Z2 aaZ abV Y5 Vs acg Z1 aaY abU Y4 Vr acf Z0 aaX abT Y0 Vq ace ZX aaW abS YZ Vp acd ZW aaV abR YX Vo ab' ZV aaU abQ YW Vn ab_ ZS aaT abP YT Vm ab9 ZR aaS abO YS Vl ab8 ZQ aaR abN YQ Vk ab7 ZP Ur Ve TX RQ Vh:Value}
 (a0:PySem.W.nsIn K mainGlobals "_law_bag" = some (some (.ref f0))) (l0:K.lookup f0=some ⟨oc0,od0,.func (PySem.W.fnOf "_law_bag" "_law_bag" (aK j6) (aJ j6) (aC j6) .none kV0 dc0 pm0 an0 cd0 ct0),sl0⟩) (c0:PySem.W.codeIn K cd0 "_law_bag" = true) (k0:PySem.W.keepIn K (.ref f0)=true)
 (a1:PySem.W.nsIn K mainGlobals "_law_stir" = some (some (.ref f1))) (l1:K.lookup f1=some ⟨oc1,od1,.func (PySem.W.fnOf "_law_stir" "_law_stir" (aK iI) (aJ iI) (aC iI) .none kV1 dc1 pm1 an1 cd1 ct1),sl1⟩) (c1:PySem.W.codeIn K cd1 "_law_stir" = true) (k1:PySem.W.keepIn K (.ref f1)=true)
 (a2:PySem.W.nsIn K mainGlobals "_law_draw" = some (some (.ref f2))) (l2:K.lookup f2=some ⟨oc2,Sh,.func (PySem.W.fnOf "_law_draw" "_law_draw" (aK iJ) (aJ iJ) (aC iJ) .none kV2 dc2 pm2 an2 cd2 ct2),sl2⟩) (c2:PySem.W.codeIn K cd2 "_law_draw" = true) (k2:PySem.W.keepIn K (.ref f2)=true)
 (a3:PySem.W.nsIn K mainGlobals "_law_hands" = some (some (.ref f3))) (l3:K.lookup f3=some ⟨oc3,od3,.func (PySem.W.fnOf "_law_hands" "_law_hands" (aK gq) (aJ gq) (aC gq) .none kV3 dc3 pm3 an3 cd3 ct3),sl3⟩) (c3:PySem.W.codeIn K cd3 "_law_hands" = true) (k3:PySem.W.keepIn K (.ref f3)=true)
 (a4:PySem.W.nsIn K mainGlobals "_law_touch" = some (some (.ref f4))) (l4:K.lookup f4=some ⟨oc4,od4,.func (PySem.W.fnOf "_law_touch" "_law_touch" (aK gj) (aJ gj) (aC gj) .none kV4 dc4 pm4 an4 cd4 ct4),sl4⟩) (c4:PySem.W.codeIn K cd4 "_law_touch" = true) (k4:PySem.W.keepIn K (.ref f4)=true)
 (a5:PySem.W.nsIn K mainGlobals "_law_touches" = some (some (.ref f5))) (l5:K.lookup f5=some ⟨oc5,od5,.func (PySem.W.fnOf "_law_touches" "_law_touches" (aK dM) (aJ dM) (aC dM) .none kV5 dc5 pm5 an5 cd5 ct5),sl5⟩) (c5:PySem.W.codeIn K cd5 "_law_touches" = true) (k5:PySem.W.keepIn K (.ref f5)=true)
 (a6:PySem.W.nsIn K mainGlobals "touches_meet" = some (some (.ref f6))) (l6:K.lookup f6=some ⟨oc6,od6,.func (PySem.W.fnOf "touches_meet" "touches_meet" (aK bZ) (aJ bZ) (aC bZ) .none kV6 dc6 pm6 an6 cd6 ct6),sl6⟩) (c6:PySem.W.codeIn K cd6 "touches_meet" = true) (k6:PySem.W.keepIn K (.ref f6)=true)
 (a7:PySem.W.nsIn K mainGlobals "is_step" = some (some (.ref f7))) (l7:K.lookup f7=some ⟨oc7,od7,.func (PySem.W.fnOf "is_step" "is_step" (aK eU) (aJ eU) (aC eU) .none kV7 dc7 pm7 an7 cd7 ct7),sl7⟩) (c7:PySem.W.codeIn K cd7 "is_step" = true) (k7:PySem.W.keepIn K (.ref f7)=true)
 (a8:PySem.W.nsIn K mainGlobals "is_known" = some (some (.ref f8))) (l8:K.lookup f8=some ⟨oc8,od8,.func (PySem.W.fnOf "is_known" "is_known" (aK dI) (aJ dI) (aC dI) .none kV8 dc8 pm8 an8 cd8 ct8),sl8⟩) (c8:PySem.W.codeIn K cd8 "is_known" = true) (k8:PySem.W.keepIn K (.ref f8)=true)
 (a9:PySem.W.nsIn K mainGlobals "learn" = some (some (.ref f9))) (l9:K.lookup f9=some ⟨oc9,od9,.func (PySem.W.fnOf "learn" "learn" (aK iG) (aJ iG) (aC iG) .none kV9 dc9 pm9 an9 cd9 ct9),sl9⟩) (c9:PySem.W.codeIn K cd9 "learn" = true) (k9:PySem.W.keepIn K (.ref f9)=true)
 (a10:PySem.W.nsIn K mainGlobals "bare_steps" = some (some (.ref Xf))) (l10:K.lookup Xf=some ⟨aaf,ZM,.func (PySem.W.fnOf "bare_steps" "bare_steps" (aK cT) (aJ cT) (aC cT) .none aa_ ab6 Zf ac9 VG acv),Yu⟩) (c10:PySem.W.codeIn K VG "bare_steps" = true) (k10:PySem.W.keepIn K (.ref Xf)=true)
 (a11:PySem.W.nsIn K mainGlobals "notes_to" = some (some (.ref f11))) (l11:K.lookup f11=some ⟨aae,ZL,.func (PySem.W.fnOf "notes_to" "notes_to" (aK dG) (aJ dG) (aC dG) .none aa9 ab5 Ze ac8 VF acu),Yt⟩) (c11:PySem.W.codeIn K VF "notes_to" = true) (k11:PySem.W.keepIn K (.ref f11)=true)
 (a12:PySem.W.nsIn K mainGlobals "_law_table" = some (some (.ref Xe))) (l12:K.lookup Xe=some ⟨aad,ZK,.func (PySem.W.fnOf "_law_table" "_law_table" (aK gk) (aJ gk) (aC gk) .none aa8 ab4 Zd ac7 VD acs),Ys⟩) (c12:PySem.W.codeIn K VD "_law_table" = true) (k12:PySem.W.keepIn K (.ref Xe)=true)
 (a13:PySem.W.nsIn K mainGlobals "is_whole" = some (some (.ref Xd))) (l13:K.lookup Xd=some ⟨aac,ZJ,.func (PySem.W.fnOf "is_whole" "is_whole" (aK dH) (aJ dH) (aC dH) .none aa7 ab3 Zc ac6 VB acr),Yr⟩) (c13:PySem.W.codeIn K VB "is_whole" = true) (k13:PySem.W.keepIn K (.ref Xd)=true)
 (a14:PySem.W.nsIn K mainGlobals "is_below" = some (some (.ref Xc))) (l14:K.lookup Xc=some ⟨Z_,ZG,.func (PySem.W.fnOf "is_below" "is_below" (aK dJ) (aJ dJ) (aC dJ) .none aa6 ab2 Zb ac5 Vz acq),Yq⟩) (c14:PySem.W.codeIn K Vz "is_below" = true) (k14:PySem.W.keepIn K (.ref Xc)=true)
 (a15:PySem.W.nsIn K mainGlobals "check_hand" = some (some (.ref Xb))) (l15:K.lookup Xb=some ⟨Z9,ZF,.func (PySem.W.fnOf "check_hand" "check_hand" (aK cR) (aJ cR) (aC cR) .none aa5 ab1 Za ac4 Vy acp),Yp⟩) (c15:PySem.W.codeIn K Vy "check_hand" = true) (WY:PySem.W.keepIn K (.ref Xb)=true)
 (a16:PySem.W.findIn K (.ref ak) "__init__" = some (some (.ref U_))) (l16:K.lookup U_=some ⟨Z8,ZD,.func (PySem.W.fnOf "__init__" "Recorder.__init__" (aK bQ) (aJ bQ) (aC bQ) .none aa4 ab0 Y_ ac3 Vx aco),Yo⟩) (c16:PySem.W.codeIn K Vx "Recorder.__init__" = true) (k16:PySem.W.keepIn K (.ref U_)=true) (n16:PySem.W.isFn K (.ref U_)=true)
 (a17:PySem.W.findIn K (.ref ak) "did" = some (some (.ref U9))) (l17:K.lookup U9=some ⟨Z7,ZC,.func (PySem.W.fnOf "did" "Recorder.did" (aK b_) (aJ b_) (aC b_) .none aa3 abZ Y9 ac2 Vw acn),Yn⟩) (c17:PySem.W.codeIn K Vw "Recorder.did" = true) (WX:PySem.W.keepIn K (.ref U9)=true) (n17:PySem.W.isFn K (.ref U9)=true)
 (a18:PySem.W.findIn K (.ref ak) "notes" = some (some (.ref U8))) (l18:K.lookup U8=some ⟨Z6,Zz,.func (PySem.W.fnOf "notes" "Recorder.notes" (aK bL) (aJ bL) (aC bL) .none aa2 abY Y8 ac1 Vv acj),Ym⟩) (c18:PySem.W.codeIn K Vv "Recorder.notes" = true) (WW:PySem.W.keepIn K (.ref U8)=true) (n18:PySem.W.isFn K (.ref U8)=true)
 (a19:PySem.W.findIn K (.ref ak) "known" = some (some (.ref U7))) (l19:K.lookup U7=some ⟨Z5,Zy,.func (PySem.W.fnOf "known" "Recorder.known" (aK bM) (aJ bM) (aC bM) .none aa1 abX Y7 ac0 Vu aci),Yl⟩) (c19:PySem.W.codeIn K Vu "Recorder.known" = true) (WT:PySem.W.keepIn K (.ref U7)=true) (n19:PySem.W.isFn K (.ref U7)=true)
 (a20:PySem.W.findIn K (.ref ak) "counts" = some (some (.ref U6))) (l20:K.lookup U6=some ⟨Z4,Zx,.func (PySem.W.fnOf "counts" "Recorder.counts" (aK bG) (aJ bG) (aC bG) .none aa0 abW Y6 acZ Vt ach),Yk⟩) (c20:PySem.W.codeIn K Vt "Recorder.counts" = true) (WR:PySem.W.keepIn K (.ref U6)=true) (n20:PySem.W.isFn K (.ref U6)=true)
 (a21:PySem.W.findIn K (.ref ak) "__len__" = some (some (.ref U5))) (l21:K.lookup U5=some ⟨Z2,Zw,.func (PySem.W.fnOf "__len__" "Recorder.__len__" (aK bD) (aJ bD) (aC bD) .none aaZ abV Y5 acY Vs acg),Yj⟩) (c21:PySem.W.codeIn K Vs "Recorder.__len__" = true) (WQ:PySem.W.keepIn K (.ref U5)=true) (n21:PySem.W.isFn K (.ref U5)=true)
 (a22:PySem.W.nsIn K mainGlobals "touch_text" = some (some (.ref Xa))) (l22:K.lookup Xa=some ⟨Z1,Zv,.func (PySem.W.fnOf "touch_text" "touch_text" (aK cQ) (aJ cQ) (aC cQ) .none aaY abU Y4 acX Vr acf),Yi⟩) (c22:PySem.W.codeIn K Vr "touch_text" = true) (WM:PySem.W.keepIn K (.ref Xa)=true)
 (a23:PySem.W.nsIn K mainGlobals "note_text" = some (some (.ref W_))) (l23:K.lookup W_=some ⟨Z0,Zu,.func (PySem.W.fnOf "note_text" "note_text" (aK cZ) (aJ cZ) (aC cZ) .none aaX abT Y0 acW Vq ace),Yh⟩) (c23:PySem.W.codeIn K Vq "note_text" = true) (WL:PySem.W.keepIn K (.ref W_)=true)
 (a24:PySem.W.nsIn K mainGlobals "record_text" = some (some (.ref W8))) (l24:K.lookup W8=some ⟨ZX,Zt,.func (PySem.W.fnOf "record_text" "record_text" (aK cF) (aJ cF) (aC cF) .none aaW abS YZ acV Vp acd),Yg⟩) (c24:PySem.W.codeIn K Vp "record_text" = true) (WK:PySem.W.keepIn K (.ref W8)=true)
 (a25:PySem.W.findIn K (.ref ak) "__str__" = some (some (.ref U4))) (l25:K.lookup U4=some ⟨ZW,Zr,.func (PySem.W.fnOf "__str__" "Recorder.__str__" (aK bC) (aJ bC) (aC bC) .none aaV abR YX acU Vo ab'),Ye⟩) (c25:PySem.W.codeIn K Vo "Recorder.__str__" = true) (WD:PySem.W.keepIn K (.ref U4)=true) (n25:PySem.W.isFn K (.ref U4)=true)
 (a26:PySem.W.findIn K (.ref ak) "__eq__" = some (some (.ref U3))) (l26:K.lookup U3=some ⟨ZV,Zq,.func (PySem.W.fnOf "__eq__" "Recorder.__eq__" (aK bH) (aJ bH) (aC bH) .none aaU abQ YW acT Vn ab_),Yd⟩) (c26:PySem.W.codeIn K Vn "Recorder.__eq__" = true) (Wz:PySem.W.keepIn K (.ref U3)=true) (n26:PySem.W.isFn K (.ref U3)=true)
 (a27:PySem.W.nsIn K mainGlobals "_law_alike" = some (some (.ref N8))) (l27:K.lookup N8=some ⟨ZS,Zo,.func (PySem.W.fnOf "_law_alike" "_law_alike" (aK fB) (aJ fB) (aC fB) .none aaT abP YT acS Vm ab9),Yc⟩) (c27:PySem.W.codeIn K Vm "_law_alike" = true) (Nu:PySem.W.keepIn K (.ref N8)=true)
 (a28:PySem.W.nsIn K mainGlobals "_law_other" = some (some (.ref W6))) (l28:K.lookup W6=some ⟨ZR,Zn,.func (PySem.W.fnOf "_law_other" "_law_other" (aK gn) (aJ gn) (aC gn) .none aaS abO YS acR Vl ab8),Yb⟩) (c28:PySem.W.codeIn K Vl "_law_other" = true) (Wy:PySem.W.keepIn K (.ref W6)=true)
 (a29:PySem.W.nsIn K mainGlobals "_law_told" = some (some (.ref W4))) (l29:K.lookup W4=some ⟨ZQ,Zm,.func (PySem.W.fnOf "_law_told" "_law_told" (aK iH) (aJ iH) (aC iH) .none aaR abN YQ acQ Vk ab7),X_⟩) (c29:PySem.W.codeIn K Vk "_law_told" = true) (Wx:PySem.W.keepIn K (.ref W4)=true)
 (a30:PySem.W.nsIn K mainGlobals "law" = some (some (.ref f30))) (l30:K.lookup f30=some ⟨ZP,Zk,.func (PySem.W.fnOf "law" "law" (aK oA) (aJ oA) (aC oA) .none Ur Ve TX VL RQ Vh),X8⟩) (c30:PySem.W.codeIn K RQ "law" = true) (k30:PySem.W.keepIn K (.ref f30)=true)
 (jq:PySem.W.nsIn K mainGlobals "Recorder" = some (some (.ref ak)))
 (jT:PySem.W.plainGet K ak Str.empty=true)
 (jW:PySem.W.hasDictIn K ak=true)
 (jR:PySem.W.plainOver K ak=true)
 (jQ:PySem.W.findIn K (.ref ak) "__setattr__" = some (some (.builtin "object.__setattr__")))
 (jU:PySem.W.makesIn K ak=true)
 (jV:PySem.W.keepIn K (.ref ak)=true)
 (h_:PySem.W.findIn K (.ref ak) "web" = some none)
 (gb:PySem.W.findIn K (.ref ak) "named" = some none)
 (fL:PySem.W.findIn K (.ref ak) "knowns" = some none)
 (fZ:PySem.W.findIn K (.ref ak) "taken" = some none)
 (fK:PySem.W.findIn K (.ref ak) "places" = some none)
 (Xw:PySem.W.specialIn K (.builtin "object.__class__") "__get__" = some (some (.builtin "getset_descriptor.__get__")))
 (Xv:PySem.W.takesIn K (.builtin "object.__class__")=some true)
 (jZ:PySem.W.findIn K (.ref ak) "__ne__" = some (some (.builtin "object.__ne__")))
 (j4:PySem.W.findIn K (.ref ak) "__class__" = some (some (.builtin "object.__class__")))
 (iB:PySem.W.mroIn K ak (.type "object")=some true)
 {vg:Tok} (j9:PySem.W.nsIn K mainGlobals "MOST_HANDS" = some (some (.int 8 vg)))
 (jY:PySem.W.nsIn K mainGlobals "ValueError" = some none) (Ih:PySem.W.nsIn K mainGlobals "all" = some none) (Am:PySem.W.nsIn K mainGlobals "bool" = some none) (lB:PySem.W.nsIn K mainGlobals "enumerate" = some none) (Ig:PySem.W.nsIn K mainGlobals "int" = some none) (jX:PySem.W.nsIn K mainGlobals "isinstance" = some none) (Ie:PySem.W.nsIn K mainGlobals "len" = some none) (Al:PySem.W.nsIn K mainGlobals "list" = some none) (Ib:PySem.W.nsIn K mainGlobals "max" = some none) (Ia:PySem.W.nsIn K mainGlobals "min" = some none) (wj:PySem.W.nsIn K mainGlobals "range" = some none) (rQ:PySem.W.nsIn K mainGlobals "sorted" = some none) (H_:PySem.W.nsIn K mainGlobals "str" = some none) (HY:PySem.W.nsIn K mainGlobals "sum" = some none) (wg:PySem.W.nsIn K mainGlobals "tuple" = some none) (HX:PySem.W.nsIn K mainGlobals "zip" = some none):
 ∃fd:FuncData,(∀(s:Shared) (v:Value),BindsTo s fd ⟨[v],[]⟩ [("script",v)]) /\ ∀base:Heap,K.In base->base.Ns mainGlobals mg->cU l.prog w K mg base jC 7 fa fd ["script"] (Dw K):=by
 have e:=hfa.symm.trans (PySem.W.mg_of X G a30);cases e;have Bt:rB mg:=⟨PySem.W.mg_none_of X G jY,PySem.W.mg_none_of X G Ih,PySem.W.mg_none_of X G Am,PySem.W.mg_none_of X G lB,PySem.W.mg_none_of X G Ig,PySem.W.mg_none_of X G jX,PySem.W.mg_none_of X G Ie,PySem.W.mg_none_of X G Al,PySem.W.mg_none_of X G Ib,PySem.W.mg_none_of X G Ia,PySem.W.mg_none_of X G wj,PySem.W.mg_none_of X G rQ,PySem.W.mg_none_of X G H_,PySem.W.mg_none_of X G HY,PySem.W.mg_none_of X G wg,PySem.W.mg_none_of X G HX⟩;have au:cL K ak:=⟨⟨jT,jW,jR,jQ⟩,h_,gb,fL,fZ,fK⟩;have nM:Xl K ak:=⟨jZ,iB⟩;have kE:Xp K mg ak "Recorder" :=⟨PySem.W.mg_of X G jq,j4,Xw,Xv,iB⟩;have iM:Gv mg "MOST_HANDS" (.int 8):=⟨_,PySem.W.mg_of X G j9,⟨_,rfl⟩⟩;have F0:=bR (st:=j6) l0 c0 k0;have F1:=bR (st:=iI) l1 c1 k1;have F2:=bR (st:=iJ) l2 c2 k2;have F3:=bR (st:=gq) l3 c3 k3;have F4:=bR (st:=gj) l4 c4 k4;have F5:=bR (st:=dM) l5 c5 k5;have F6:=bR (st:=bZ) l6 c6 k6;have F7:=bR (st:=eU) l7 c7 k7;have F8:=bR (st:=dI) l8 c8 k8;have F9:=bR (st:=iG) l9 c9 k9;have F10:=bR (st:=cT) l10 c10 k10;have F11:=bR (st:=dG) l11 c11 k11;have F12:=bR (st:=gk) l12 c12 k12;have F13:=bR (st:=dH) l13 c13 k13;have F14:=bR (st:=dJ) l14 c14 k14;have F15:=bR (st:=cR) l15 c15 WY;have F16:=bR (st:=bQ) l16 c16 k16;have F17:=bR (st:=b_) l17 c17 WX;have F18:=bR (st:=bL) l18 c18 WW;have F19:=bR (st:=bM) l19 c19 WT;have F20:=bR (st:=bG) l20 c20 WR;have F21:=bR (st:=bD) l21 c21 WQ;have F22:=bR (st:=cQ) l22 c22 WM;have F23:=bR (st:=cZ) l23 c23 WL;have F24:=bR (st:=cF) l24 c24 WK;have F25:=bR (st:=bC) l25 c25 WD;have F26:=bR (st:=bH) l26 c26 Wz;have F27:=bR (st:=fB) l27 c27 Nu;have F28:=bR (st:=gn) l28 c28 Wy;have F29:=bR (st:=iH) l29 c29 Wx;have F30:=bR (st:=oA) l30 c30 k30;refine ⟨PySem.W.fnOf "law" "law" (aK oA) (aJ oA) (aC oA) .none Ur Ve TX VL RQ Vh,fun s v=> .of_eq rfl,fun base _ _=> ?_⟩;have A0:FnAt l.prog w K mg base 1 "_law_bag" ["script"] (Ja K):=⟨f0,_,QW F0 Bt,PySem.W.mg_of X G a0,k0,F0.binds (ps:=["script"]) Om⟩;have A1:FnAt l.prog w K mg base 1 "_law_stir" ["number","place"] (Bg K):=⟨f1,_,M4 F1,PySem.W.mg_of X G a1,k1,F1.binds (ps:=["number","place"]) KH⟩;have A2:FnAt l.prog w K mg base 2 "_law_draw" ["bag","many"] (pL K):=⟨f2,_,M7 F2 A1 Bt,PySem.W.mg_of X G a2,k2,F2.binds (ps:=["bag","many"]) KJ⟩;have A3:FnAt l.prog w K mg base 3 "_law_hands" ["bag"] (wF K):=⟨f3,_,JH F3 A2,PySem.W.mg_of X G a3,k3,F3.binds (ps:=["bag"]) Ht⟩;have A4:FnAt l.prog w K mg base 3 "_law_touch" ["bag","hands","cells","loads","apart"] (wz K):=⟨f4,_,JB F4 A2 Bt,PySem.W.mg_of X G a4,k4,F4.binds (ps:=["bag","hands","cells","loads","apart"]) Ho⟩;have A5:FnAt l.prog w K mg base 4 "_law_touches" ["bag","hands"] (pH K):=⟨f5,_,Bx F5 A2 A4 Bt,PySem.W.mg_of X G a5,k5,F5.binds (ps:=["bag","hands"]) z_⟩;have A6:FnAt l.prog w K mg base 1 "touches_meet" ["one","other"] (Qk K):=⟨f6,_,qP F6,PySem.W.mg_of X G a6,k6,F6.binds (ps:=["one","other"]) qZ⟩;have A7:FnAt l.prog w K mg base 2 "is_step" ["web","place","later"] (Bh K):=⟨f7,_,BL F7 A6,PySem.W.mg_of X G a7,k7,F7.binds (ps:=["web","place","later"]) CV⟩;have A8:FnAt l.prog w K mg base 1 "is_known" ["name","known"] (wD K):=⟨f8,_,JG F8,PySem.W.mg_of X G a8,k8,F8.binds (ps:=["name","known"]) z8⟩;have A9:FnAt l.prog w K mg base 1 "learn" ["known","more"] (wC K):=⟨f9,_,JF F9 Bt,PySem.W.mg_of X G a9,k9,F9.binds (ps:=["known","more"]) KC⟩;have A10:FnAt l.prog w K mg base 3 "bare_steps" ["web","named","knowns","place"] (Bl K):=⟨Xf,_,M8 F10 A7 A8 A9 Bt,PySem.W.mg_of X G a10,k10,F10.binds (ps:=["web","named","knowns","place"]) vp⟩;have A11:FnAt l.prog w K mg base 1 "notes_to" ["named","bare","name"] (pK K):=⟨f11,_,BK F11,PySem.W.mg_of X G a11,k11,F11.binds (ps:=["named","bare","name"]) z6⟩;have A12:FnAt l.prog w K mg base 1 "_law_table" ["touches","hands"] (sI K):=⟨Xe,_,Gn F12 Bt,PySem.W.mg_of X G a12,k12,F12.binds (ps:=["touches","hands"]) Hq⟩;have A13:FnAt l.prog w K mg base 1 "is_whole" ["value"] (LR K):=⟨Xd,_,yP F13 Bt,PySem.W.mg_of X G a13,k13,F13.binds (ps:=["value"]) z7⟩;have A14:FnAt l.prog w K mg base 2 "is_below" ["value","count"] (wG K):=⟨Xc,_,yQ F14 A13,PySem.W.mg_of X G a14,k14,F14.binds (ps:=["value","count"]) z9⟩;have A15:FnAt l.prog w K mg base 3 "check_hand" ["places","hand"] (oh K):=⟨Xb,_,Gm F15 A14 Bt,PySem.W.mg_of X G a15,WY,F15.binds (ps:=["places","hand"]) vo⟩;have A16:Dd l.prog w K mg base 2 ak "Recorder" ["self","hands"] [] (wA ak K):=⟨U_,_,[],JC F16 au A13 iM Bt,⟨jU,a16,n16,jV⟩,PySem.W.mg_of X G jq,F16.binds (ps:=["self","hands"]) qt,.nil⟩;have A17:MethAt l.prog w K mg base 4 ak "did" ["self","hand","kind","cell"] (I_ ak K):=⟨U9,_,QV F17 au A15 A10 A11 Bt,⟨a17,n17,WX⟩,F17.binds (ps:=["self","hand","kind","cell"]) q_⟩;have A18:MethAt l.prog w K mg base 1 ak "notes" ["self"] (lF ak K):=⟨U8,_,Gi F18 au Bt,⟨a18,n18,WW⟩,F18.binds (ps:=["self"]) oZ⟩;have A19:MethAt l.prog w K mg base 4 ak "known" ["self","hand"] (sH ak K):=⟨U7,_,Gj F19 au A15 Bt,⟨a19,n19,WT⟩,F19.binds (ps:=["self","hand"]) o7⟩;have A20:MethAt l.prog w K mg base 1 ak "counts" ["self"] (lG ak K):=⟨U6,_,Gk F20 au Bt,⟨a20,n20,WR⟩,F20.binds (ps:=["self"]) nH⟩;have A21:MethAt l.prog w K mg base 1 ak "__len__" ["self"] (Bk ak K):=⟨U5,_,M6 F21 au Bt,⟨a21,n21,WQ⟩,F21.binds (ps:=["self"]) mX⟩;have A22:FnAt l.prog w K mg base 1 "touch_text" ["touch"] (sE K):=⟨Xa,_,Gg F22 Bt,PySem.W.mg_of X G a22,WM,F22.binds (ps:=["touch"]) vm⟩;have A23:FnAt l.prog w K mg base 2 "note_text" ["note"] (wB K):=⟨W_,_,JD F23 A22 Bt,PySem.W.mg_of X G a23,WL,F23.binds (ps:=["note"]) xJ⟩;have A24:FnAt l.prog w K mg base 3 "record_text" ["record"] (pI K):=⟨W8,_,tH F24 A23 Bt,PySem.W.mg_of X G a24,WK,F24.binds (ps:=["record"]) uG⟩;have A25:MethAt l.prog w K mg base 4 ak "__str__" ["self"] (Bj ak K):=⟨U4,_,M5 F25 au A24 A20 A18 Bt,⟨a25,n25,WD⟩,F25.binds (ps:=["self"]) mW⟩;have A26:MethAt l.prog w K mg base 2 ak "__eq__" ["self","other"] (IW ak K):=⟨U3,_,QS F26 au kE A20 A18 Bt,⟨a26,n26,Wz⟩,F26.binds (ps:=["self","other"]) nJ⟩;have V2:FnAt l.prog w K mg base 1 "_law_alike" ["found","due"] (gP 0 K):=⟨N8,_,Gp F27,PySem.W.mg_of X G a27,Nu,F27.binds (ps:=["found","due"]) iV⟩;have V1:FnAt l.prog w K mg base 2 "_law_alike" ["found","due"] (gP 1 K):=⟨N8,_,jF (n:=0) F27 V2 Bt,PySem.W.mg_of X G a27,Nu,F27.binds (ps:=["found","due"]) iV⟩;have V0:FnAt l.prog w K mg base 3 "_law_alike" ["found","due"] (gP 2 K):=⟨N8,_,jF (n:=1) F27 V1 Bt,PySem.W.mg_of X G a27,Nu,F27.binds (ps:=["found","due"]) iV⟩;have VR:FnAt l.prog w K mg base 4 "_law_alike" ["found","due"] (gP 3 K):=⟨N8,_,jF (n:=2) F27 V0 Bt,PySem.W.mg_of X G a27,Nu,F27.binds (ps:=["found","due"]) iV⟩;have VP:FnAt l.prog w K mg base 5 "_law_alike" ["found","due"] (gP 4 K):=⟨N8,_,jF (n:=3) F27 VR Bt,PySem.W.mg_of X G a27,Nu,F27.binds (ps:=["found","due"]) iV⟩;have A27:FnAt l.prog w K mg base 6 "_law_alike" ["found","due"] (gP 5 K):=⟨N8,_,jF (n:=4) F27 VP Bt,PySem.W.mg_of X G a27,Nu,F27.binds (ps:=["found","due"]) iV⟩;have A28:FnAt l.prog w K mg base 3 "_law_other" ["bag","touches","rows","hands"] (pJ K):=⟨W6,_,BJ F28 A2 Bt,PySem.W.mg_of X G a28,Wy,F28.binds (ps:=["bag","touches","rows","hands"]) Hr⟩;have A29:FnAt l.prog w K mg base 5 "_law_told" ["recorder","touches","order"] (sG ak K):=⟨W4,_,Gh F29 au A17 Bt,PySem.W.mg_of X G a29,Wx,F29.binds (ps:=["recorder","touches","order"]) KD⟩;exact QT F30 au nM A0 A3 A5 A12 A16 A29 A28 A27 A18 A20 A19 A26 A21 A25 Bt
theorem walk {l:PySem.W.OpenLaw} {q:Program} {loose:List Str} {XP:(Str->Option Value)->Heap->Prop} {YP:World->Heap->Prop} {d:DefRec} {K:Params->PySem.W.Frag} (hn:l.most=some 63) (hdf:d.params.defaults=[])
 (hY:∀(w:World) (h:Heap),YP w h->(K w.params).In h)
 (F:∀(w:World) (mg:Str->Option Value) (fa:Addr) (h:Heap),(K w.params).In h->h.Ns mainGlobals mg->mg d.name=some (.ref fa) ->
   ∃fd:FuncData,(∀(s:Shared) (u:Value),BindsTo s fd ⟨[u],[]⟩ [("script",u)]) /\ ∀base:Heap,(K w.params).In base->base.Ns mainGlobals mg->cU l.prog w (K w.params) mg base jC 7 fa fd ["script"] (Dw (K w.params))):
 PySem.W.WalkO q loose XP YP l.row.toRowW d [] (fun f vs=>PySem.call f vs):=
 L2.Lw (n:=63) (k:=7) (x:= "script") (CX:=fun _=>jC) (sp:=fun w=>Dw (K w.params)) hn (by decide) hdf ⟨rfl,by decide,by decide⟩ hY F (fun _ _ a ns hl _ hS=>⟨a,ns,rfl,hS,hl,fun _=>rfl⟩) fun _ _ _ _ _ z=>z
end Prf
namespace PySem.W.Fast
def tw962519543253401944:=()
def tw14343495094160346142:=()
def tw11796275888349375790:=()
def tw4091199256102584850:=()
def tw5451022305940249659:=()
def tw10283148606414269222:=()
def tw3914277481667082319:=()
def tw13908853550923192042:=()
def tw4924977902531495233:=()
def tw2037062676016828725:=()
def tw15502272727366232793:=()
def tw9743696261921089730:=()
def tw6449463017070212829:=()
def tw17430443228991965347:=()
def tw4207737552357851805:=()
def tw13217480531360178306:=()
def tw15710422232834340336:=()
def tw1805289122077875727:=()
def tw8359343794716491083:=()
def tw10166845494518352313:=()
def tw10420508057810385360:=()
def tw10294197036392187677:=()
def tw6511522140206988304:=()
def tw3061389677335088177:=()
def tw10957109201710273439:=()
def tw5074171613654992805:=()
def tw3299903491149536929:=()
def tw10053053537826193758:=()
def tw5279832590570301736:=()
def tw6535804752599398490:=()
def tw10935782407798995668:=()
def tw4648882942255336590:=()
def tw14563870031598356973:=()
def tw8179340784713202741:=()
def tw15210747903929474022:=()
def tw7029238651424220831:=()
def tw6650989924003019988:=()
def tw5309095897217042041:=()
def tw515359913827593512:=()
def tw17909200648884281468:=()
def tw5072960071914856280:=()
def tw4881052666574285927:=()
def tw16907003820208179266:=()
def tw12002573210121618955:=()
def tw4885442355090287012:=()
def tw11607951409102896672:=()
def tw9456910767551779578:=()
def tw15163702284981491252:=()
def tw9878628127885649718:=()
def tw17799344244607060298:=()
def tw9004571039302612282:=()
def tw16249634402043299864:=()
def tw3208425139658923010:=()
def tw12489849703581510631:=()
def tw16258085800432495749:=()
def tw17905544264566902791:=()
def tw7739849410907249032:=()
def tw12271134599685738060:=()
def tw5439081621177167231:=()
def tw542934911854308330:=()
def tw7073627206677864267:=()
def tw4968651660158855003:=()
def tw13762752940668254303:=()
def tw8305318650469118832:=()
def tw7138862940814951959:=()
def tw13690923922002744596:=()
def tw16703318028607463500:=()
def tw10534927737270065385:=()
def tw12564807921668093658:=()
def tw9148683925047249618:=()
def tw11673564871805308544:=()
def tw11882801518425568040:=()
def tw7806383859234741188:=()
def tw4337565491208117214:=()
def tw13896797677070152337:=()
def tw9008496246959225888:=()
def tw14115113574827340193:=()
def tw4854714825949577621:=()
def tw5774865159935486206:=()
def tw13239227893915460367:=()
def tw7731649692873313701:=()
def tw16150196454916063588:=()
def tw18120590658387150337:=()
def tw11767704403172738320:=()
def tw9061594684532488254:=()
def tw3312767860912682611:=()
def tw9270205755283870785:=()
def tw5789682838222939103:=()
def tw12458018464930529702:=()
def tw17273167252135862308:=()
def tw9595573633822590735:=()
def tw15683436533390088698:=()
def tw4795786800613509802:=()
def tw2652568857194165850:=()
def tw11160544061116878636:=()
def tw9136570831122931340:=()
def tw10496517403042515539:=()
def tw14008206636196336528:=()
def tw10696919897545216792:=()
def tw9775381625938400387:=()
def tw10753457991629613056:=()
def tw10129462376305589071:=()
def tw16628326909797330271:=()
def tw2408638293623683676:=()
def tw11398402761442827814:=()
def tw10357573163930427990:=()
def tw11735413945966134007:=()
def tw9987841646451447434:=()
def tw13815788196356505894:=()
def tw15551479709136781380:=()
def tw12985916146087449270:=()
def tw6662845186179008997:=()
def tw1914802924301630648:=()
def tw5711587735132602080:=()
def tw17476625312944853620:=()
def tw16212854691566047483:=()
def tw5094016381032902198:=()
def tw14567565587393161907:=()
def tw8432802865200285102:=()
def tw10801516153437797176:=()
def tw3038184063955195993:=()
def tw8821020223059067612:=()
def tw17677483697758421072:=()
def tw13120470448387143726:=()
def tw17133010950478193436:=()
def tw12550629322730482392:=()
def tw16769179111154064870:=()
def tw1844735552532661673:=()
def tw16370409580078895781:=()
def tw7413898986765780649:=()
def tw4792313854865728753:=()
def tw3229089138167743472:=()
def tw17662931517841798879:=()
def tw17734742862751071604:=()
def tw6484246049140447993:=()
def tw8099972709048980305:=()
def tw341437855908623752:=()
def tw4319164274497866952:=()
def tw14571917473700952044:=()
def tw11028999231943407065:=()
def tw6657488542143066455:=()
def tw10644550377983462523:=()
def tw8599162472065425541:=()
def tw12213387869174060265:=()
def tw16798636983212823640:=()
def tw2729747514254552697:=()
def tw14541827358590318760:=()
def tw13679531533037840345:=()
def tw17507682449329512708:=()
def tw9591442373745734582:=()
def tw1642387385205201236:=()
def tw8839325621868074305:=()
def tw10698487352135249626:=()
def tw8764686199036865320:=()
def tw7694416299782523536:=()
def tw5138325114116457131:=()
def tw1981598740622698139:=()
def tw6425571505614163629:=()
def tw11116596559882421176:=()
def tw2125822369719044155:=()
def tw15466106087961129904:=()
def tw9931294604710693683:=()
def tw1696639070342569848:=()
def tw11488351725691978026:=()
def tw6198996666341815191:=()
def tw10326788147589155115:=()
def tw5093067568213633693:=()
def tw14631274188318304369:=()
def tw5747095244422679322:=()
def tw17942848503468863928:=()
def tw12623461889656515884:=()
def tw6992532805097046722:=()
def tw16259135536951988975:=()
def tw2793582591989722321:=()
def tw14240401006103891484:=()
def tw9173236295106320498:=()
def tw2699388807888099998:=()
def tw14945522735417983605:=()
def tw9815574947563484820:=()
def tw7347004172682875400:=()
def tw4572666011148557831:=()
def tw6105635189148646405:=()
def tw4382922863008022604:=()
def tw11525846167283019270:=()
def tw1576585657948712249:=()
def tw7915903466383791157:=()
def tw18282866154436427384:=()
def tw16236643598284790188:=()
def tw12968024763638660942:=()
def tw17177920637570388256:=()
def tw6922047738271984729:=()
def tw16650267747534390303:=()
def tw16899052836032956996:=()
def tw5862479392778039676:=()
def tw1924483620473714388:=()
def tw2397817281487788575:=()
def tw485877541769144412:=()
def tw16677414163351210842:=()
def tw12328177297141789358:=()
def tw15693781271131597300:=()
def tw13806354676620325011:=()
def tw8911990699756475513:=()
def tw17851863339383921953:=()
def tw6140788635749112541:=()
def tw16613392525251062297:=()
def tw17780895580496631451:=()
def tw9855224691560693898:=()
def tw16165175970743935140:=()
def tw6437154570113937151:=()
def tw14746324885596067506:=()
def tw4846021199317880121:=()
def tw6472453211357639983:=()
def tw8338966339747154807:=()
def tw7203646206057000022:=()
def tw13020298946965293253:=()
def tw11620297149181461243:=()
def tw14492727536274376645:=()
def tw13062461153095869282:=()
def tw7219569792613945890:=()
def tw17236607802588447147:=()
def tw3710839491551859898:=()
def tw14777154386474069787:=()
def tw9329983202679955615:=()
def tw17201092521782328621:=()
def tw625057602980386535:=()
def tw13530082490427339746:=()
def tw4803794557683798671:=()
def tw14937424002395616515:=()
def tw8806455562727727409:=()
def tw12247085825837769891:=()
def tw13226283890815514111:=()
def tw4481935053184322533:=()
def tw3619833052469493897:=()
def tw11585373780500213912:=()
def tw13006681901990814425:=()
def tw7888845029068110789:=()
def tw9016177010198926529:=()
def tw16598314009777704161:=()
def tw13106539579140514886:=()
end PySem.W.Fast
open PySem PySem.W PyProof.Rows
set_option maxRecDepth 100000 in
set_option maxHeartbeats 0 in
theorem PySem.Challenge.cw_fewnotes_k48_whole_one_run_in_many_order_holds : PySem.Challenge.rw_fewnotes_k48_whole_one_run_in_many_order.Holds := by
 w_on;o_law;k_head;(case hw=>w_witness2)
 k_fill
 refine Prf.walk (l:=PySem.Challenge.rw_fewnotes_k48_whole_one_run_in_many_order) rfl rfl (fun w h Y=>PySem.W.kIn_of Y) ?F
 case F=>
  intro w mg fa h KX G hmg
  replace hmg:mg (Str.ofString "law")=some (.ref fa):=hmg
  refine' Prf.all_mk KX G hmg ?a0 ?l0 ?c0 ?k0 ?a1 ?l1 ?c1 ?k1 ?a2 ?l2 ?c2 ?k2 ?a3 ?l3 ?c3 ?k3 ?a4 ?l4 ?c4 ?k4 ?a5 ?l5 ?c5 ?k5 ?a6 ?l6 ?c6 ?k6 ?a7 ?l7 ?c7 ?k7 ?a8 ?l8 ?c8 ?k8 ?a9 ?l9 ?c9 ?k9 ?a10 ?l10 ?c10 ?k10 ?a11 ?l11 ?c11 ?k11 ?a12 ?l12 ?c12 ?k12 ?a13 ?l13 ?c13 ?k13 ?a14 ?l14 ?c14 ?k14 ?a15 ?l15 ?c15 ?WY ?a16 ?l16 ?c16 ?k16 ?n16 ?a17 ?l17 ?c17 ?WX ?n17 ?a18 ?l18 ?c18 ?WW ?n18 ?a19 ?l19 ?c19 ?WT ?n19 ?a20 ?l20 ?c20 ?WR ?n20 ?a21 ?l21 ?c21 ?WQ ?n21 ?a22 ?l22 ?c22 ?WM ?a23 ?l23 ?c23 ?WL ?a24 ?l24 ?c24 ?WK ?a25 ?l25 ?c25 ?WD ?n25 ?a26 ?l26 ?c26 ?Wz ?n26 ?a27 ?l27 ?c27 ?Nu ?a28 ?l28 ?c28 ?Wy ?a29 ?l29 ?c29 ?Wx ?a30 ?l30 ?c30 ?k30 ?jq ?jT ?jW ?jR ?jQ ?jU ?jV ?h_ ?gb ?fL ?fZ ?fK ?Xw ?Xv ?jZ ?j4 ?iB ?j9 ?jY ?Ih ?Am ?lB ?Ig ?jX ?Ie ?Al ?Ib ?Ia ?wj ?rQ ?H_ ?HY ?wg ?HX
  (case jq=>k_is)
  (case jT=>k_is)
  (case jW=>k_is)
  (case jR=>k_is)
  (case jQ=>k_is)
  (case jU=>k_is)
  (case jV=>k_is)
  (case h_=>k_is)
  (case gb=>k_is)
  (case fL=>k_is)
  (case fZ=>k_is)
  (case fK=>k_is)
  (case Xw=>k_is)
  (case Xv=>k_is)
  (case jZ=>k_is)
  (case j4=>k_is)
  (case iB=>k_is)
  (case j9=>k_is)
  (case a0=>k_is)
  (case l0=>k_is)
  (case c0=>k_is)
  (case k0=>k_is)
  (case a1=>k_is)
  (case l1=>k_is)
  (case c1=>k_is)
  (case k1=>k_is)
  (case a2=>k_is)
  (case l2=>k_is)
  (case c2=>k_is)
  (case k2=>k_is)
  (case a3=>k_is)
  (case l3=>k_is)
  (case c3=>k_is)
  (case k3=>k_is)
  (case a4=>k_is)
  (case l4=>k_is)
  (case c4=>k_is)
  (case k4=>k_is)
  (case a5=>k_is)
  (case l5=>k_is)
  (case c5=>k_is)
  (case k5=>k_is)
  (case a6=>k_is)
  (case l6=>k_is)
  (case c6=>k_is)
  (case k6=>k_is)
  (case a7=>k_is)
  (case l7=>k_is)
  (case c7=>k_is)
  (case k7=>k_is)
  (case a8=>k_is)
  (case l8=>k_is)
  (case c8=>k_is)
  (case k8=>k_is)
  (case a9=>k_is)
  (case l9=>k_is)
  (case c9=>k_is)
  (case k9=>k_is)
  (case a10=>k_is)
  (case l10=>k_is)
  (case c10=>k_is)
  (case k10=>k_is)
  (case a11=>k_is)
  (case l11=>k_is)
  (case c11=>k_is)
  (case k11=>k_is)
  (case a12=>k_is)
  (case l12=>k_is)
  (case c12=>k_is)
  (case k12=>k_is)
  (case a13=>k_is)
  (case l13=>k_is)
  (case c13=>k_is)
  (case k13=>k_is)
  (case a14=>k_is)
  (case l14=>k_is)
  (case c14=>k_is)
  (case k14=>k_is)
  (case a15=>k_is)
  (case l15=>k_is)
  (case c15=>k_is)
  (case WY=>k_is)
  (case a16=>k_is)
  (case l16=>k_is)
  (case c16=>k_is)
  (case k16=>k_is)
  (case n16=>k_is)
  (case a17=>k_is)
  (case l17=>k_is)
  (case c17=>k_is)
  (case WX=>k_is)
  (case n17=>k_is)
  (case a18=>k_is)
  (case l18=>k_is)
  (case c18=>k_is)
  (case WW=>k_is)
  (case n18=>k_is)
  (case a19=>k_is)
  (case l19=>k_is)
  (case c19=>k_is)
  (case WT=>k_is)
  (case n19=>k_is)
  (case a20=>k_is)
  (case l20=>k_is)
  (case c20=>k_is)
  (case WR=>k_is)
  (case n20=>k_is)
  (case a21=>k_is)
  (case l21=>k_is)
  (case c21=>k_is)
  (case WQ=>k_is)
  (case n21=>k_is)
  (case a22=>k_is)
  (case l22=>k_is)
  (case c22=>k_is)
  (case WM=>k_is)
  (case a23=>k_is)
  (case l23=>k_is)
  (case c23=>k_is)
  (case WL=>k_is)
  (case a24=>k_is)
  (case l24=>k_is)
  (case c24=>k_is)
  (case WK=>k_is)
  (case a25=>k_is)
  (case l25=>k_is)
  (case c25=>k_is)
  (case WD=>k_is)
  (case n25=>k_is)
  (case a26=>k_is)
  (case l26=>k_is)
  (case c26=>k_is)
  (case Wz=>k_is)
  (case n26=>k_is)
  (case a27=>k_is)
  (case l27=>k_is)
  (case c27=>k_is)
  (case Nu=>k_is)
  (case a28=>k_is)
  (case l28=>k_is)
  (case c28=>k_is)
  (case Wy=>k_is)
  (case a29=>k_is)
  (case l29=>k_is)
  (case c29=>k_is)
  (case Wx=>k_is)
  (case a30=>k_is)
  (case l30=>k_is)
  (case c30=>k_is)
  (case k30=>k_is)
  (case jY=>k_is)
  (case Ih=>k_is)
  (case Am=>k_is)
  (case lB=>k_is)
  (case Ig=>k_is)
  (case jX=>k_is)
  (case Ie=>k_is)
  (case Al=>k_is)
  (case Ib=>k_is)
  (case Ia=>k_is)
  (case wj=>k_is)
  (case rQ=>k_is)
  (case H_=>k_is)
  (case HY=>k_is)
  (case wg=>k_is)
  (case HX=>k_is)
#print axioms PySem.Challenge.cw_fewnotes_k48_whole_one_run_in_many_order_holds
