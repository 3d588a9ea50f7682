import PyProof.Rows.All
import Wide.All
import OpenK.AllK
import Wide.FinOn
import Lean
import PyProof.EqAt
import PyProof.EqKinds
import PyProof.TupleCall
import PyProof.EqLayable
import PyProof.ExcArgsOwn
import PyProof.ExcAttrAll.Exception
import PyProof.RulesAs
import PyProof.ExcBaseAll.ValueError
import PyProof.NsDelKeeps
import KE.KRevSl
import OpenK.KOps
import OpenK.KWalk
import PyProof.DictUpdate
import PyProof.DictTruth
import PyProof.DictDisplay
import KE.KDictOf
import PyProof.AttrMissSeq
import PyProof.WalksS
import PySem.Challenge.RW_fewnotes_k97_records_refused_at_each_doo
set_option Elab.async false
set_option linter.all false
set_option maxRecDepth 100000
namespace L2
open PySem PySem.Spec PyProof.Rows
abbrev Key:=Sum Int Str
def Et:Key->Value->Bool
 | .inl k,v=>Value.isInt k v
 | .inr x,v=>Value.isStrOf x v
def ag1 (w:World):Key->Int
 | .inl k=>hashInt k
 | .inr x=>hashStr w x
theorem iK:∀{k:Key} {v:Value},Et k v=true->(∃i t,k=Sum.inl i/\v=Value.int i t)\/(∃x t,k=Sum.inr x/\v=Value.str x t)
 | .inl i,v,h=>by
   obtain ⟨t,e⟩:=Value.isInt_shape (k:=i) (v:=v) h;exact .inl ⟨i,t,rfl,e⟩
 | .inr x,v,h=>by
   obtain ⟨t,e⟩:=Value.isStrOf_shape (x:=x) (v:=v) h;exact .inr ⟨x,t,rfl,e⟩
theorem NK (i:Int) (t:Tok):Et (.inl i) (.int i t)=true:=by simp [Et,Value.isInt]
theorem Nz (x:Str) (t:Tok):Et (.inr x) (.str x t)=true:=by simp [Et,Value.isStrOf]
theorem XM (a b:Int):decide ((Sum.inl a:Key)=Sum.inl b)=(a==b):=by
 by_cases e:a=b
 ·subst e;simp
 ·have h:¬(Sum.inl a:Key)=Sum.inl b:=fun q=>e (Sum.inl.inj q)
  rw [decide_eq_false h];exact (beq_eq_false_iff_ne.mpr e).symm
theorem XF (a b:Str):decide ((Sum.inr a:Key)=Sum.inr b)=decide (a=b):=by
 by_cases e:a=b
 ·subst e;simp
 ·have h:¬(Sum.inr a:Key)=Sum.inr b:=fun q=>e (Sum.inr.inj q)
  rw [decide_eq_false h,decide_eq_false e]
theorem XJ (a:Int) (b:Str):decide ((Sum.inl a:Key)=Sum.inr b)=false:=decide_eq_false (fun q=>nomatch q)
theorem XH (a:Str) (b:Int):decide ((Sum.inr a:Key)=Sum.inl b)=false:=decide_eq_false (fun q=>nomatch q)
def d_ (prog:Program) (w:World):PySem.KeyKind prog w Key where
 is:=Et
 hash:=ag1 w
 inj:=fun v a b ha hb=>by
  rcases iK ha with ⟨i,t,rfl,rfl⟩|⟨x,t,rfl,rfl⟩
  ·rcases iK hb with ⟨j,u,rfl,e⟩|⟨y,u,rfl,e⟩
   ·injection e with e1 _;rw [e1]
   ·exact nomatch e
  ·rcases iK hb with ⟨j,u,rfl,e⟩|⟨y,u,rfl,e⟩
   ·exact nomatch e
   ·injection e with e1 _;rw [e1]
 byValue:=fun k v h=>by
  rcases iK h with ⟨i,t,rfl,rfl⟩|⟨x,t,rfl,rfl⟩<;>rfl
 pyHash:=fun hv h=>by
  rcases iK hv with ⟨i,t,rfl,rfl⟩|⟨x,t,rfl,rfl⟩
  ·exact wpAny_pyHash_int h
  ·exact wpAny_pyHash_str h
 eqBool:=fun hu hv h=>by
  rcases iK hu with ⟨i,t,rfl,rfl⟩|⟨x,t,rfl,rfl⟩
  ·rcases iK hv with ⟨j,u,rfl,rfl⟩|⟨y,u,rfl,rfl⟩
   ·rw [XM] at h;exact wpAny_eqBool_int h
   ·rw [XJ] at h;exact SeqAt.EqAt.int_str i t y u _ _ _ _ h
  ·rcases iK hv with ⟨j,u,rfl,rfl⟩|⟨y,u,rfl,rfl⟩
   ·rw [XH] at h;exact SeqAt.EqAt.str_int x t j u _ _ _ _ h
   ·rw [XF] at h;exact wpAny_eqBool_str h
 «strs» :=fun k x t v h=>by
  rcases iK h with ⟨i,u,rfl,e⟩|⟨y,u,rfl,e⟩
  ·exact nomatch e
  ·injection e with e1 _
   subst e1;cases v<;>rfl
theorem HX (prog:Program) (w:World) (i:Int) (t:Tok):(d_ prog w).is (.inl i) (.int i t)=true:=NK i t
theorem HW (prog:Program) (w:World) (x:Str) (t:Tok):(d_ prog w).is (.inr x) (.str x t)=true:=Nz x t
end L2
namespace L2
open PySem PySem.Spec PyProof.Rows
inductive V where
 | non|bl (b:Bool)|int (i:Int)|str (x:Str)|Ma (b:Array UInt8)|flt (b:UInt64)|ref (a:Addr)|ty (n:String)
 deriving DecidableEq
def RelV:V->Value->Prop
 | .non,u=>u=Value.none
 | .bl b,u=>u=Value.bool b
 | .int i,u=>∃t,u=Value.int i t
 | .str x,u=>∃t,u=Value.str x t
 | .Ma b,u=>∃t,u=Value.bytes b t
 | .flt b,u=>∃t,u=Value.float b t
 | .ref a,u=>u=Value.ref a
 | .ty n,u=>u=Value.type n
abbrev Vals:List V->List Value->Prop:=Paired RelV
theorem Vals.length {xs:List V} {us:List Value} (r:Vals xs us):xs.length=us.length:=Paired.length r
theorem Vals.get:∀{xs:List V} {us:List Value} {i:Nat} {x:V},Vals xs us->xs[i]? = some x -> ∃u,us[i]? = some u/\RelV x u
 | _,_,_,_,.nil,e=>by simp at e
 | _,_,0,_,.cons r _,e=>by simp at e;subst e;exact ⟨_,rfl,r⟩
 | _,_,i+1,x,.cons _ t,e=>by
   obtain ⟨u,h1,h2⟩:=Vals.get (i:=i) (x:=x) t (by simpa using e);exact ⟨u,by simpa using h1,h2⟩
theorem Vals.set {x:V} {u:Value} (r:RelV x u):∀{xs:List V} {us:List Value} (i:Nat),Vals xs us->Vals (xs.set i x) (us.set i u)
 | _,_,_,.nil=> .nil
 | _,_,0,.cons _ t=> .cons r t
 | _,_,i+1,.cons q t=> .cons q (Vals.set r i t)
theorem Vals.append {xs ys:List V} {us ws:List Value} (h:Vals xs us) (s:Vals ys ws):Vals (xs++ys) (us++ws):=by
 induction h with
 | nil=>exact s
 | cons r t ih=>exact .cons r ih
theorem Vals.take:∀{xs:List V} {us:List Value} (n:Nat),Vals xs us->Vals (xs.take n) (us.take n)
 | _,_,0,_=> .nil
 | _,_,_+1,.nil=> .nil
 | _,_,n+1,.cons r t=> .cons r (Vals.take n t)
theorem Vals.drop:∀{xs:List V} {us:List Value} (n:Nat),Vals xs us->Vals (xs.drop n) (us.drop n)
 | _,_,0,r=>r
 | _,_,_+1,.nil=> .nil
 | _,_,n+1,.cons _ t=>Vals.drop n t
def xg:Option V->Option Value->Prop
 | some v,some u=>RelV v u
 | none,none=>True
 | _,_=>False
def KV {κ:Type}:List (κ×V)->List (κ×Value)->Prop:=Paired fun (p:κ×V) (q:κ×Value)=>p.1=q.1/\RelV p.2 q.2
def kV:Key->V
 | .inl i=> .int i
 | .inr x=> .str x
inductive HO where
 | lst (xs:List V)
 | tup (xs:List V)
 | dK (kvs:List (Key×V))|dT (kvs:List (List Key×V))
 | set (S:Int->Bool) (n:Nat)
 | ins (C dx:Addr) (fs:List (Str×V))
 | own (x:Addr)
 | xd (fs:List (Str×V))
 | met (f x:Addr)
 | rng (lo hi:Int)
 | rM (o:Obj) (u:HO)
 | Sy (ps:Array Value)
 | ext (φ:Heap->Prop)
abbrev Hp:=Addr->Option HO
def upd (H:Hp) (a:Addr) (o:HO):Hp:=fun b=>if b=a then some o else H b
theorem au {H:Hp} {a:Addr} {o:HO}:upd H a o a=some o:=by unfold upd;rw [if_pos rfl]
theorem cC {H:Hp} {a b:Addr} {o:HO} (h:b≠a):upd H a o b=H b:=by unfold upd;rw [if_neg h]
theorem tK {H:Hp} {a b:Addr} {o u:HO} (h:H a=some o) (h':H b=some u) (d:o≠u):a≠b:=by
 intro e;subst e;rw [h] at h';exact d (Option.some.inj h')
theorem aL {H:Hp} {a b:Addr} {o:HO} (h:H a=some o) (h':H b=none):a≠b:=by
 intro e;subst e;rw [h] at h';cases h'
section
variable (P:Program) (w:World)
def gw (H:Hp) (h:Heap) (a:Addr):HO->Prop
 | .lst xs=>xs.length<=sizeLine /\ ∃(its:List Value) (n:Nat),Vals xs its/\h.get? a=some {cls:= .type "list",data:= .seq its.toArray n}
 | .tup xs=>xs.length<=sizeLine /\ ∃its:List Value,Vals xs its/\IsTup h a its.toArray
 | .dK kvs=>kvs.length<=sizeLine/\(a==sysModules)=false /\ ∃vs,KV kvs vs/\h.DictOf (d_ P w) a vs
 | .dT kvs=>kvs.length<=sizeLine/\(a==sysModules)=false /\ ∃xs:List (List Key×Addr×Value),
    Paired (fun (p:List Key×V) (q:List Key×Addr×Value)=>p.1=q.1/\H q.2.1=some (.tup (p.1.map kV))/\RelV p.2 q.2.2) kvs xs /\
    ∃o es ep,h.get? a=some o/\o.ExactDict/\o.data = .dict es ep/\es.toList=xs.map (entryOfKey (tupleKind (d_ P w)))/\(xs.map (·.1)).Nodup
 | .set S n=>h.SetOf (intKind P w) a S n
 | .ins C dx fs=>H dx=some (.own a)/\fs.length<=1000/\dx≠a/\h.get? a=some (PySem.W.instObj C dx) /\
    ∃mA,h.Ns1 dx mA/\(∀f,xg (fs.lookup f) (mA f))/\PySem.Within mA (fs.map (·.1))
 | .own _=>∃o,h.get? a=some o
 | .xd fs=>∃mA,h.Ns1 a mA /\ ∀f,xg (fs.lookup f) (mA f)
 | .rng lo hi=>∃t u v,h.get? a=some {cls:= .type "range",data:= .fields #[.int lo t,.int hi u,.int 1 v]}
 | .rM o u=>h.get? a=some o/\gw H h a u
 | .Sy ps=>h.get? a=some {cls:= .none,data:= .fields ps}
 | .met f x=>h.get? a=some (PySem.W.methodObj (.ref f) (.ref x))
 | .ext φ=>φ h/\(∃o,h.get? a=some o) /\ ∀h1 h2:Heap,φ h1->(∀o,h1.get? a=some o->h2.get? a=some o)->φ h2
def vQ (H:Hp) (h:Heap):Prop:=∀a o,H a=some o->gw P w H h a o
end
section
variable {P:Program} {w:World} {H H':Hp} {h h':Heap} {a:Addr} {o:HO}
theorem gw.lt (x:gw P w H h a o):a<h.objs.size:=by
 cases o with
 | lst xs=>obtain ⟨_,_,_,_,e⟩:=x;exact Heap.lt_size e
 | tup xs=>obtain ⟨_,_,_,p⟩:=x;exact p.lt
 | dK kvs=>obtain ⟨_,_,_,_,o,_,_,e,_⟩:=x;exact Heap.lt_size e
 | dT kvs=>obtain ⟨_,_,_,_,o,_,_,e,_⟩:=x;exact Heap.lt_size e
 | set S n=>obtain ⟨o,_,_,_,e,_⟩:=x;exact Heap.lt_size e
 | ins C dx fs=>obtain ⟨_,_,_,e,_⟩:=x;exact Heap.lt_size e
 | own y=>obtain ⟨_,e⟩:=x;exact Heap.lt_size e
 | xd fs=>obtain ⟨_,⟨_,_,_,e,_⟩,_⟩:=x;exact Heap.lt_size e
 | rng lo hi=>obtain ⟨_,_,_,e⟩:=x;exact Heap.lt_size e
 | rM ob u=>obtain ⟨e,_⟩:=x;exact Heap.lt_size e
 | Sy ps=>exact Heap.lt_size (show h.get? a=some _ from x)
 | met f y=>exact Heap.lt_size (show h.get? a=some _ from x)
 | ext φ=>obtain ⟨_,⟨_,e⟩,_⟩:=x;exact Heap.lt_size e
theorem Paired.Xx {α β:Type} {F G:α->β->Prop}:∀{l₁:List α} {l₂:List β},Paired F l₁ l₂->(∀a b,F a b->G a b)->Paired G l₁ l₂
 :=by
 intro l₁ l₂ h f
 induction h with
 | nil=>exact .nil
 | cons r t ih=>exact .cons (f _ _ r) ih
theorem gw.stay (x:gw P w H h a o) (k:∀b u,(b=a\/H b=some (.own a))->h.get? b=some u->h'.get? b=some u)
 (ho:∀b,H b=some (.own a)->H' b=some (.own a)) (ht:∀b xs,H b=some (.tup xs)->H' b=some (.tup xs)):gw P w H' h' a o:=by
 induction o with
 | lst xs=>obtain ⟨z,its,n,r,e⟩:=x;exact ⟨z,its,n,r,k _ _ (.inl rfl) e⟩
 | tup xs=>obtain ⟨z,its,r,ob,e,c⟩:=x;exact ⟨z,its,r,ob,k _ _ (.inl rfl) e,c⟩
 | dK kvs=>obtain ⟨z,y,vs,r,ob,es,ep,e,c⟩:=x;exact ⟨z,y,vs,r,ob,es,ep,k _ _ (.inl rfl) e,c⟩
 | dT kvs=>
   obtain ⟨z,y,xs,r,ob,es,ep,e,c⟩:=x;exact ⟨z,y,xs,Paired.Xx r fun p q z=>⟨z.1,ht _ _ z.2.1,z.2.2⟩,ob,es,ep,k _ _ (.inl rfl) e,c⟩
 | set S n=>obtain ⟨ob,es,ep,t,e,c⟩:=x;exact ⟨ob,es,ep,t,k _ _ (.inl rfl) e,c⟩
 | ins C dx fs=>
   obtain ⟨d,z,ne,e,mA,⟨od,es,ep,e2,c⟩,r⟩:=x;exact ⟨ho _ d,z,ne,k _ _ (.inl rfl) e,mA,⟨od,es,ep,k _ _ (.inr d) e2,c⟩,r⟩
 | own y=>obtain ⟨ob,e⟩:=x;exact ⟨ob,k _ _ (.inl rfl) e⟩
 | xd fs=>obtain ⟨mA,⟨od,es,ep,e,c⟩,r⟩:=x;exact ⟨mA,⟨od,es,ep,k _ _ (.inl rfl) e,c⟩,r⟩
 | rng lo hi=>obtain ⟨t,u,v,e⟩:=x;exact ⟨t,u,v,k _ _ (.inl rfl) e⟩
 | rM ob u ih=>obtain ⟨e,q⟩:=x;exact ⟨k _ _ (.inl rfl) e,ih q⟩
 | Sy ps=>
   have e:h.get? a=some {cls:= .none,data:= .fields ps}:=x;show h'.get? a=some {cls:= .none,data:= .fields ps};exact k a _ (.inl rfl) e
 | met f y=>
   have e:h.get? a=some (PySem.W.methodObj (.ref f) (.ref y)):=x;show h'.get? a=some (PySem.W.methodObj (.ref f) (.ref y));exact k a _ (.inl rfl) e
 | ext φ=>obtain ⟨p,⟨o,e⟩,st⟩:=x;exact ⟨st _ _ p fun o q=>k _ _ (.inl rfl) q,⟨o,k _ _ (.inl rfl) e⟩,st⟩
theorem vQ.lt (x:vQ P w H h) (e:H a=some o):a<h.objs.size:=(x a o e).lt
theorem vQ.fresh (x:vQ P w H h) (e:h.objs.size<=a):H a=none:=by
 cases q:H a with
 | none=>rfl
 | some u=>exact absurd (Nat.lt_of_lt_of_le (x.lt q) e) (Nat.lt_irrefl _)
theorem vQ.kept (x:vQ P w H h) (k:∀b u,h.get? b=some u->h'.get? b=some u):vQ P w H h':=fun a o e=>
 (x a o e).stay (fun b u _ q=>k b u q) (fun _ q=>q) fun _ _ q=>q
theorem vQ.laid (x:vQ P w H h) (k:∀b u,h.get? b=some u->h'.get? b=some u) (hp:h.objs.size<=a) (new:gw P w (upd H a o) h' a o):vQ P w (upd H a o) h':=fun b u e=>by
 have hn:=x.fresh hp
 by_cases hb:b=a
 ·subst hb;rw [au] at e;cases e;exact new
 ·rw [cC hb] at e
  exact (x b u e).stay (fun c v _ q=>k c v q) (fun c q=>by rw [cC (aL q hn)];exact q) fun c xs q=>by rw [cC (aL q hn)];exact q
end
def Rd (H:Hp) (a:Addr) (u:HO):Prop:=H a=some u \/ ∃o,H a=some (.rM o u)
theorem Rd.ok {P:Program} {w:World} {H:Hp} {h:Heap} {a:Addr} {u:HO} (r:Rd H a u) (x:vQ P w H h):gw P w H h a u:=by
 rcases r with r|⟨o,r⟩
 ·exact x a u r
 ·obtain ⟨_,q⟩:=x a _ r
  exact q
def Mut:Option HO->Prop
 | some (.lst _)=>True
 | some (.dK _)=>True
 | some (.dT _)=>True
 | some (.set _ _)=>True
 | some (.ins _ _ _)=>True
 | some (.ext _)=>True
 | _=>False
section
variable {P:Program} {w:World} {H:Hp} {h h':Heap} {x e:Addr} {o':HO}
theorem vQ.write (ok:vQ P w H h) (mu:Mut (H x)) (he:e=x\/H e=some (.own x)) (k:∀b u,b≠e->h.get? b=some u->h'.get? b=some u) (heo:∃u,h'.get? e=some u)
 (new:gw P w (upd H x o') h' x o'):vQ P w (upd H x o') h':=fun b u q=>by
 have Nq:∀c y,H c=some (.own y)->c≠x:=fun c y r z=>by subst z;rw [r] at mu;exact mu
 have agd:∀c xs,H c=some (.tup xs)->c≠x:=fun c xs r z=>by subst z;rw [r] at mu;exact mu
 by_cases hb:b=x
 ·subst hb;rw [au] at q;cases q;exact new
 ·rw [cC hb] at q
  by_cases hbe:b=e
  ·have q':H b=some (.own x):=by
    rcases he with z|z
    ·exact absurd (hbe.trans z) hb
    ·rw [hbe];exact z
   rw [q] at q';cases q';obtain ⟨v,hv⟩:=heo;exact ⟨v,by rw [hbe];exact hv⟩
  ·refine (ok b u q).stay (fun c v hc r=>k c v ?_ r) (fun c r=>by rw [cC (Nq c b r)];exact r) fun c xs r=>by rw [cC (agd c xs r)];exact r
   rcases hc with rfl|hc
   ·exact hbe
   ·rintro rfl
    rcases he with z|z
    ·exact Nq c b hc z
    ·rw [hc] at z;cases z;exact hb rfl
end
structure Un (fs ex:List Addr) (H H':Hp) (h h':Heap):Prop where
 keep:∀b o,h.get? b=some o->H b=none->b∉fs->b∉ex->h'.get? b=some o
 slot:∀b o,h.get? b=some o->H b=none->b∈fs->b∉ex -> ∃sl,h'.get? b=some {o with slots:=sl}
 free:∀b o,h.get? b=some o->H b=none->b∉ex->H' b=none
 there:∀b o,h.get? b=some o->b∉ex -> ∃o',h'.get? b=some o'
 tups:∀b xs,H b=some (.tup xs)->H' b=some (.tup xs)
 w5:∀b o u,H b=some (.rM o u)->H' b=some (.rM o u)
 yU:∀b ps,H b=some (.Sy ps) -> ∃more,H' b=some (.Sy (ps++more))
section
variable {fs fs' ex ex':List Addr} {H H1 H2:Hp} {h h1 h2 h':Heap} {a x e:Addr} {o:HO}
theorem Un.any (u:Un fs ex H H1 h h1) {b:Addr} {ob:Obj} (q:h.get? b=some ob) (n:H b=none) (hx:b∉ex):∃sl,h1.get? b=some {ob with slots:=sl}:=by
 by_cases hb:b∈fs
 ·exact u.slot b ob q n hb hx
 ·exact ⟨ob.slots,u.keep b ob q n hb hx⟩
theorem Un.kept (k:∀b u,h.get? b=some u->h'.get? b=some u):Un fs ex H H h h':=
 ⟨fun b ob q _ _ _=>k b ob q,fun b ob q _ _ _=>⟨ob.slots,k b ob q⟩,fun _ _ _ n _=>n,fun b ob q _=>⟨ob,k b ob q⟩,fun _ _ q=>q,fun _ _ _ q=>q,fun _ ps q=>⟨#[],by rw [q];simp⟩⟩
theorem Un.refl:Un fs ex H H h h:=Un.kept fun _ _ q=>q
theorem Un.laid (k:∀b u,h.get? b=some u->h'.get? b=some u) (hp:h.objs.size<=a) (hn:H a=none):Un fs ex H (upd H a o) h h' where
 keep:=fun b u q _ _ _=>k b u q
 slot:=fun b u q _ _ _=>⟨u.slots,k b u q⟩
 free:=fun b u q n _=>by rw [cC (Nat.ne_of_lt (Nat.lt_of_lt_of_le (Heap.lt_size q) hp))];exact n
 there:=fun b u q _=>⟨u,k b u q⟩
 tups:=fun b xs q=>by rw [cC (aL q hn)];exact q
 w5:=fun b u xs q=>by rw [cC (aL q hn)];exact q
 yU:=fun b ps q=>⟨#[],by rw [cC (aL q hn),q];simp⟩
theorem Un.write (mu:Mut (H x)) (he:e=x\/H e=some (.own x)) (k:∀b u,b≠e->h.get? b=some u->h'.get? b=some u) (heo:∃u,h'.get? e=some u):Un fs ex H (upd H x o) h h':=by
 have hx:∀b,H b=none->b≠x:=fun b n z=>by subst z;rw [n] at mu;exact mu
 have hb:∀b,H b=none->b≠e:=fun b n z=>by
  subst z;rcases he with r|r
  ·exact hx b n r
  ·rw [n] at r;cases r
 have hm:∀b u,H b=some u -> ¬Mut (some u)->b≠x:=fun b u q nm z=>by subst z;rw [q] at mu;exact nm mu
 refine ⟨fun b u q n _ _=>k b u (hb b n) q,fun b u q n _ _=>⟨u.slots,k b u (hb b n) q⟩,fun b u q n _=>by rw [cC (hx b n)];exact n,fun b u q _=> ?_,
  fun b xs q=>by rw [cC (hm b _ q fun z=>z)];exact q,fun b u xs q=>by rw [cC (hm b _ q fun z=>z)];exact q,fun b ps q=>⟨#[],by rw [cC (hm b _ q fun z=>z),q];simp⟩⟩
 by_cases hbe:b=e
 ·subst hbe;exact heo
 ·exact ⟨u,k b u hbe q⟩
end
def RV (h:Heap) (H:Hp):List Addr:=(List.range h.objs.size).filter fun a=>(H a).isSome
def Gv (h:Heap) (H:Hp):Heap:=PySem.W.hideAll h (RV h H)
theorem NZ (h:Heap) (H:Hp):(Gv h H).objs.size=h.objs.size:=PySem.W.hideAll_size _ _
theorem Q0 {h:Heap} {H:Hp} {b:Addr} {o:Obj} (e:h.get? b=some o) (n:H b=none):(Gv h H).get? b=some o:=
 PySem.W.hideAll_get _ e fun hm=>by
  have q:(H b).isSome=true:=(List.mem_filter.mp hm).2;rw [n] at q;simp at q
theorem Uj {h:Heap} {H:Hp} {b:Addr} {o:Obj} (e:(Gv h H).get? b=some o):h.get? b=some o/\H b=none:=by
 have e':h.get? b=some o:=PySem.W.of_hideAll (RV h H) e;refine ⟨e', ?_⟩;cases q:H b with
 | none=>rfl
 | some x=>
   have hm:b∈RV h H:=List.mem_filter.mpr ⟨List.mem_range.mpr (Heap.lt_size e'),by simp [q]⟩;have z:(Gv h H).get? b=none:=PySem.W.hideAll_none (RV h H) hm;rw [z] at e;cases e
def Vg (g h:Heap) (L:Addr):List (Addr×Obj):=(List.range h.objs.size).filterMap fun a=>if a=L\/(g.get? a).isSome=true then none else (h.get? a).map fun o=>(a,o)
def rest (g h:Heap) (L d:Addr):List (Addr×Obj):=(Vg g h L).filter fun p=>decide (p.1≠d)
end L2
namespace L2
open PySem PySem.Spec PyProof.Rows
structure Mod (K:PySem.W.Frag) (mg:Str->Option Value) (base:Heap):Prop where
 Y8:K.In base
 glob:base.Ns mainGlobals mg
 blt:∃mb,base.Ns builtinsNs mb /\ ∀x:Str,x ≠ "__name__" -> mb x=bootBuiltins x
 nolimit:base.NoLimit
structure Cx where
 prog:Program
 w:World
 K:PySem.W.Frag
 mg:Str->Option Value
 base:Heap
 A:Around
 N:List Str
 s₀:Shared
 H₀:Hp
 env:Env
 outer:List Env
 stack:List Env
 ex:List Addr
 fn:Str->Bool
 calm:Bool
 pn:List (Addr×Obj)
 xe:Value->Shared->Prop
def frs (l:List Env):List Addr:=l.filterMap (·.frame)
abbrev Cx.fs (X:Cx):List Addr:=frs X.outer
def Vis (sc:Scope) (x:Str):Prop:=sc.names.lookup x=some .local\/sc.names.lookup x=some .cell\/sc.names.lookup x=some .free
def Loc (sc:Scope) (x:Str):Prop:=sc.names.lookup x=some .local\/sc.names.lookup x=some .cell
def Look (env:Env) (h:Heap) (m:Str->Option Value) (x:Str) (u:Value):Prop:=
 (env.kindOf x=some .local/\m x=some u)\/((env.kindOf x=some .cell\/env.kindOf x=some .free) /\ ∃c,env.cells.lookup x=some c/\h.IsCell c (some u))
structure Cx.Ok (X:Cx):Prop where
 mod:Mod X.K X.mg X.base
 kind:X.env.scope.kind = .function
 glob:X.env.globals=mainGlobals
 blt:X.env.builtins=builtinsNs
 above:X.s₀.heap.objs.size<=X.env.locals
 inj:∀x y c,X.env.cells.lookup x=some c->X.env.cells.lookup y=some c->x=y
 has:∀x,(X.env.kindOf x=some .cell\/X.env.kindOf x=some .free) -> ∃c,X.env.cells.lookup x=some c
 cab:∀x c,X.fn x=true->X.env.cells.lookup x=some c->X.s₀.heap.objs.size<=c
 hd:X.calm=true->X.A.handled=none
 frames:X.A.frames=some X.stack
 stk:X.stack=X.outer\/(X.stack=X.env::X.outer/\X.env.frame=some X.env.locals)
 Zf:∀b∈X.ex,b≠X.env.locals /\ ∀x c,X.env.cells.lookup x=some c->c≠b
 bs:∀b o,X.base.get? b=some o->X.s₀.heap.get? b=some o/\X.H₀ b=none
 O5:X.base.objs.size<=X.s₀.heap.objs.size
 Gm:∀b o,X.base.get? b=some o->b∉X.ex
 Ik:∀b∈X.ex,b∉X.fs
 vL:X.s₀.heap.FunFrames X.base X.outer
 R_:∀b∈X.fs,X.H₀ b=none
structure Inv (X:Cx) (pins:List (Addr×Obj)) (σ:List (Option V)) (H:Hp) (s:Shared):Prop where
 ok:X.Ok
 os:s.os=X.s₀.os
 bare:AllBare s.gens
 base:Un X.fs X.ex X.H₀ H X.s₀.heap s.heap
 loc:∃m,s.heap.Ns X.env.locals m /\ ∀(i:Nat) (x:Str) (v:V),X.N[i]? = some x->σ[i]? = some (some v)->Vis X.env.scope x -> ∃u,RelV v u/\Look X.env s.heap m x u
 cell:∀x c,X.env.cells.lookup x=some c -> ∃v,s.heap.IsCell c v
 free:H X.env.locals=none
 ou:∀x c,X.env.cells.lookup x=some c->H c=none
 pin:∀p∈X.pn++pins,s.heap.get? p.1=some p.2/\H p.1=none/\p.1≠X.env.locals/\p.1∉X.fs /\ ∀v,p.2.data ≠ .cell v
 hok:vQ X.prog X.w H s.heap
 len:σ.length=X.N.length
section
variable {X:Cx} {pins:List (Addr×Obj)} {σ:List (Option V)} {H H':Hp} {s:Shared} {h':Heap}
theorem Cx.Ok.agi (ok:X.Ok) {b:Addr} {o:Obj} (e:X.base.get? b=some o):b∉X.fs:=fun hb=>by
 have:=(ok.vL.mem hb).1;rw [e] at this;cases this
theorem Inv.bs (I:Inv X pins σ H s):∀b o,X.base.get? b=some o->s.heap.get? b=some o/\H b=none:=fun b o e=>
 ⟨I.base.keep b o (I.ok.bs b o e).1 (I.ok.bs b o e).2 (I.ok.agi e) (I.ok.Gm b o e),I.base.free b o (I.ok.bs b o e).1 (I.ok.bs b o e).2 (I.ok.Gm b o e)⟩
theorem Inv.bk (I:Inv X pins σ H s):∀b o,X.base.get? b=some o->s.heap.get? b=some o:=fun b o e=>(I.bs b o e).1
theorem Inv.mod (I:Inv X pins σ H s):Mod X.K X.mg X.base:=I.ok.mod
theorem Inv.Ad (I:Inv X pins σ H s):X.K.In s.heap:=I.ok.mod.Y8.keeps I.bk
theorem Inv.lt (I:Inv X pins σ H s):X.env.locals<s.heap.objs.size:=let ⟨_,hn,_⟩:=I.loc;hn.lt
theorem Inv.sz (I:Inv X pins σ H s):X.s₀.heap.objs.size<=s.heap.objs.size:=Nat.le_trans I.ok.above (Nat.le_of_lt I.lt)
theorem Inv.agh (I:Inv X pins σ H s) {a:Addr} (h:s.heap.objs.size<=a):a∉X.fs:=fun hb=>by
 obtain ⟨_,o,ho,_⟩:=I.ok.vL.mem hb;exact absurd (Nat.lt_of_lt_of_le (Heap.lt_size ho) (Nat.le_trans I.sz h)) (Nat.lt_irrefl _)
theorem Inv.V8 (I:Inv X pins σ H s):∀x c,X.env.cells.lookup x=some c->c≠X.env.locals:=fun x c e z=>by
 obtain ⟨v,o,ho,hd⟩:=I.cell x c e;obtain ⟨m,⟨o',es,ep,ho',hd',_⟩,_⟩:=I.loc;rw [z,ho'] at ho;cases ho;rw [hd'] at hd;cases hd
theorem Inv.vL (I:Inv X pins σ H s):s.heap.FunFrames X.base X.outer:=by
 have all:∀(l:List Env),(∀b∈frs l,b∈X.fs)->X.s₀.heap.FunFrames X.base l->s.heap.FunFrames X.base l:=by
  intro l
  induction l with
  | nil=>intro _ _;trivial
  | cons env r ih=>
    intro hs hl;obtain ⟨hk,⟨L,o,hf,hn,ho,hd⟩,hr⟩:=hl;have hL:L∈X.fs:=hs L (by unfold frs;rw [List.filterMap_cons,hf];exact List.mem_cons_self);obtain ⟨sl,e⟩:=I.base.slot L o ho (I.ok.R_ L hL) hL fun z=>I.ok.Ik L z hL;exact ⟨hk,⟨L,_,hf,hn,e,hd⟩,ih (fun b hb=>hs b (by unfold frs;rw [List.filterMap_cons,hf];exact List.mem_cons_of_mem _ hb)) hr⟩
 exact all X.outer (fun _ hb=>hb) I.ok.vL
theorem Inv.stack (I:Inv X pins σ H s):s.heap.FunFrames X.base X.stack:=by
 rcases I.ok.stk with e|⟨e,hf⟩
 ·rw [e];exact I.vL
 ·rw [e]
  obtain ⟨m,hn,_⟩:=I.loc;refine .cons (by rw [I.ok.kind];decide) hf hn ?_ I.vL;exact Heap.get?_none_of_le (Nat.le_trans I.ok.O5 I.ok.above)
theorem Inv.Ax (I:Inv X pins σ H s):∀b∈frs X.stack,b∈X.env.locals::X.fs:=fun b hb=>by
 rcases I.ok.stk with e|⟨e,hf⟩
 ·rw [e] at hb;exact List.mem_cons_of_mem _ hb
 ·rw [e] at hb
  unfold frs at hb;rw [List.filterMap_cons,hf] at hb;exact hb
theorem Inv.FP (I:Inv X pins σ H s):∀b∈frs X.stack,H b=none:=fun b hb=>by
 rcases List.mem_cons.mp (I.Ax b hb) with e|hb
 ·rw [e];exact I.free
 ·obtain ⟨_,o,ho,_⟩:=I.ok.vL.mem hb
  exact I.base.free b o ho (I.ok.R_ b hb) fun z=>I.ok.Ik b z hb
theorem Inv.step {g':Array GenState} {t':Nat} {d':Drawn} {ch:List Addr} (I:Inv X pins σ H s)
 (hch:∀b∈ch,(b∈X.ex\/X.s₀.heap.objs.size<=b)/\b≠X.env.locals/\(∀x c,X.env.cells.lookup x=some c->c≠b) /\ ∀p∈X.pn++pins,p.1≠b)
 (keep:∀b o,b≠X.env.locals->b∉X.fs->b∉ch->s.heap.get? b=some o->H b=none->h'.get? b=some o)
 (slot:∀b o,b≠X.env.locals->b∈X.fs->b∉ch->s.heap.get? b=some o->H b=none -> ∃sl,h'.get? b=some {o with slots:=sl}) (free:∀b o,b∉ch->s.heap.get? b=some o->H b=none->H' b=none)
 (there:∀b o,b∉ch->s.heap.get? b=some o -> ∃o',h'.get? b=some o')
 (tups:∀b xs,H b=some (.tup xs)->H' b=some (.tup xs)) (w5:∀b o u,H b=some (.rM o u)->H' b=some (.rM o u)) (yU:∀b ps,H b=some (.Sy ps) -> ∃more,H' b=some (.Sy (ps++more)))
 (ns:∀m,s.heap.Ns X.env.locals m->h'.Ns X.env.locals m) (hok:vQ X.prog X.w H' h') (hg:AllBare g'):
 Inv X pins σ H' {s with heap:=h',gens:=g',drawn:=d',toks:=t'}:=by
 have V1:∀b o,X.s₀.heap.get? b=some o->b≠X.env.locals:=fun b o e=>Nat.ne_of_lt (Nat.lt_of_lt_of_le (Heap.lt_size e) I.ok.above)
 have neC:∀b o,X.s₀.heap.get? b=some o->b∉X.ex->b∉ch:=fun b o e hx hb=>by
  rcases (hch b hb).1 with z|z
  ·exact hx z
  ·exact absurd (Nat.lt_of_lt_of_le (Heap.lt_size e) z) (Nat.lt_irrefl _)
 have cellK:∀x c,X.env.cells.lookup x=some c -> ∀v,s.heap.IsCell c v->h'.IsCell c v:=fun x c e v ⟨o,ho,hd⟩=>by
  have nch:c∉ch:=fun z=>(hch c z).2.2.1 x c e rfl
  by_cases hc:c∈X.fs
  ·obtain ⟨sl,q⟩:=slot c o (I.V8 x c e) hc nch ho (I.ou x c e)
   exact ⟨_,q,hd⟩
  ·exact ⟨o,keep c o (I.V8 x c e) hc nch ho (I.ou x c e),hd⟩
 refine ⟨I.ok,I.os,hg,⟨fun b o e n hb hx=> ?_,fun b o e n hb hx=> ?_,fun b o e n hx=> ?_,fun b o e hx=> ?_,fun b xs e=>tups b xs (I.base.tups b xs e),fun b o xs e=>w5 b o xs (I.base.w5 b o xs e),fun b ps e=> ?_⟩, ?_,fun x c e=> ?_, ?_,fun x c e=> ?_,fun p hp=> ?_,hok,I.len⟩
 ·exact keep b o (V1 b o e) hb (neC b o e hx) (I.base.keep b o e n hb hx) (I.base.free b o e n hx)
 ·obtain ⟨sl,e1⟩:=I.base.slot b o e n hb hx
  obtain ⟨sl',e2⟩:=slot b _ (V1 b o e) hb (neC b o e hx) e1 (I.base.free b o e n hx);exact ⟨sl',e2⟩
 ·obtain ⟨o',e1⟩:=I.base.there b o e hx
  exact free b o' (neC b o e hx) e1 (I.base.free b o e n hx)
 ·obtain ⟨o',e1⟩:=I.base.there b o e hx
  exact there b o' (neC b o e hx) e1
 ·obtain ⟨m1,e1⟩:=I.base.yU b ps e
  obtain ⟨m2,e2⟩:=yU b _ e1;exact ⟨m1++m2,by rw [e2,Array.append_assoc]⟩
 ·obtain ⟨m,hn,hl⟩:=I.loc
  refine ⟨m,ns m hn,fun i x v e1 e2 e3=> ?_⟩;obtain ⟨u,r,l⟩:=hl i x v e1 e2 e3;refine ⟨u,r, ?_⟩;rcases l with l|⟨k,c,e,z⟩
  ·exact .inl l
  ·exact .inr ⟨k,c,e,cellK x c e _ z⟩
 ·obtain ⟨v,z⟩:=I.cell x c e
  exact ⟨v,cellK x c e v z⟩
 ·obtain ⟨m,⟨o,_,_,ho,_⟩,_⟩:=I.loc
  exact free _ o (fun z=>(hch _ z).2.1 rfl) ho I.free
 ·obtain ⟨v,o,ho,hd⟩:=I.cell x c e
  exact free c o (fun z=>(hch c z).2.2.1 x c e rfl) ho (I.ou x c e)
 ·obtain ⟨e,n,ne,nf,d⟩:=I.pin p hp
  have nch:p.1∉ch:=fun z=>(hch p.1 z).2.2.2 p hp rfl;exact ⟨keep p.1 p.2 ne nf nch e n,free p.1 p.2 nch e n,ne,nf,d⟩
theorem Inv.un {t':Nat} (I:Inv X pins σ H s) (u:Un X.fs [] H H' s.heap h') (hok:vQ X.prog X.w H' h'):Inv X pins σ H' {s with heap:=h',toks:=t'}:=by
 obtain ⟨m,⟨o,es,ep,ho,r⟩,_⟩:=id I.loc;obtain ⟨sl,hL⟩:=u.any ho I.free (by simp)
 exact I.step (g':=s.gens) (d':=s.drawn) (ch:=[]) (fun _ z=>nomatch z) (fun b o _ hb _ e n=>u.keep b o e n hb (by simp)) (fun b o _ hb _ e n=>u.slot b o e n hb (by simp)) (fun b o _ e n=>u.free b o e n (by simp)) (fun b o _ e=>u.there b o e (by simp)) u.tups u.w5 u.yU (fun m' hm=>by
  obtain ⟨o',es',ep',ho',r'⟩:=hm;rw [ho] at ho';cases ho';exact ⟨_,es',ep',hL,r'⟩) hok I.bare
theorem Inv.call {g':Array GenState} {t':Nat} {d':Drawn} {ch:List Addr} (I:Inv X pins σ H s) (u:Un (frs X.stack) ch H H' s.heap h') (hok:vQ X.prog X.w H' h') (hg:AllBare g')
 (hch:∀b∈ch,(b∈X.ex\/X.s₀.heap.objs.size<=b)/\b≠X.env.locals/\(∀x c,X.env.cells.lookup x=some c->c≠b) /\ ∀p∈X.pn++pins,p.1≠b):
 Inv X pins σ H' {s with heap:=h',gens:=g',drawn:=d',toks:=t'}:=by
 obtain ⟨m,⟨o,es,ep,ho,r⟩,_⟩:=id I.loc;obtain ⟨sl,hL⟩:=u.any ho I.free fun z=>(hch _ z).2.1 rfl
 exact I.step (ch:=ch) hch (fun b o hL hb hc e n=>u.keep b o e n (fun z=>(List.mem_cons.mp (I.Ax b z)).elim hL hb) hc) (fun b o _ _ hc e n=>u.any e n hc) (fun b o hc e n=>u.free b o e n hc) (fun b o hc e=>u.there b o e hc) u.tups u.w5 u.yU (fun m' hm=>by
  obtain ⟨o',es',ep',ho',r'⟩:=hm;rw [ho] at ho';cases ho';exact ⟨_,es',ep',hL,r'⟩) hok hg
theorem Inv.turned {t':Nat} {it:Addr} (I:Inv X pins σ H s) (k:∀b o,b≠it->s.heap.get? b=some o->h'.get? b=some o) (hn:H it=none) (hL:it≠X.env.locals)
 (h1:it∈X.ex\/X.s₀.heap.objs.size<=it) (h2:∀x c,X.env.cells.lookup x=some c->c≠it) (h3:∀p∈X.pn++pins,p.1≠it):Inv X pins σ H {s with heap:=h',toks:=t'}:=by
 have Xv:∀b u,H b=some u->b≠it:=fun b u e z=>by rw [z,hn] at e;cases e
 refine I.step (g':=s.gens) (d':=s.drawn) (ch:=[it]) (fun b hb=> ?_) (fun b o _ _ hc e _=>k b o (fun z=>hc (by simp [z])) e) (fun b o _ _ hc e _=>⟨o.slots,k b o (fun z=>hc (by simp [z])) e⟩) (fun _ _ _ _ n=>n)
  (fun b o hc e=>⟨o,k b o (fun z=>hc (by simp [z])) e⟩) (fun _ _ e=>e) (fun _ _ _ e=>e) (fun b ps e=>⟨#[],by rw [e];simp⟩) (fun m hm=> ?_) (fun b u e=> ?_) I.bare
 ·have e:b=it:=by simpa using hb
  subst e;exact ⟨h1,hL,h2,h3⟩
 ·obtain ⟨o,es,ep,ho,r⟩:=hm
  exact ⟨o,es,ep,k _ o (Ne.symm hL) ho,r⟩
 ·refine (I.hok b u e).stay (fun c v hc q=>k c v ?_ q) (fun _ q=>q) fun _ _ q=>q
  rcases hc with z|z
  ·rw [z];exact Xv b u e
  ·exact Xv c _ z
theorem Inv.tok (I:Inv X pins σ H s) (t:Nat):Inv X pins σ H {s with toks:=t}:=I.un (h':=s.heap) (t':=t) Un.refl I.hok
theorem Inv.kept {t':Nat} (I:Inv X pins σ H s) (k:∀b u,s.heap.get? b=some u->h'.get? b=some u):Inv X pins σ H {s with heap:=h',toks:=t'}:=I.un (Un.kept k) (I.hok.kept k)
theorem Inv.laid {a:Addr} {o:HO} {t':Nat} (I:Inv X pins σ H s) (k:∀b u,s.heap.get? b=some u->h'.get? b=some u) (hp:s.heap.objs.size<=a) (new:gw X.prog X.w (upd H a o) h' a o):
 Inv X pins σ (upd H a o) {s with heap:=h',toks:=t'}:=I.un (Un.laid k hp (I.hok.fresh hp)) (I.hok.laid k hp new)
theorem Inv.write {x e:Addr} {o:HO} {t':Nat} (I:Inv X pins σ H s) (mu:Mut (H x)) (he:e=x\/H e=some (.own x)) (k:∀b u,b≠e->s.heap.get? b=some u->h'.get? b=some u) (heo:∃u,h'.get? e=some u)
 (new:gw X.prog X.w (upd H x o) h' x o):Inv X pins σ (upd H x o) {s with heap:=h',toks:=t'}:=I.un (Un.write mu he k heo) (I.hok.write mu he k heo new)
theorem Inv.K8 {tH:List (Addr×Obj)} (I:Inv X pins σ H s) (h:∀p∈tH,s.heap.get? p.1=some p.2/\H p.1=none/\p.1≠X.env.locals/\p.1∉X.fs /\ ∀v,p.2.data ≠ .cell v):Inv X tH σ H s:=
 ⟨I.ok,I.os,I.bare,I.base,I.loc,I.cell,I.free,I.ou,fun p hp=>(List.mem_append.mp hp).elim (fun z=>I.pin p (List.mem_append_left _ z)) (h p),I.hok,I.len⟩
theorem BK {N:List Str} (hN:N.Nodup) {i j:Nat} {x:Str} (a:N[i]? = some x) (b:N[j]? = some x):i=j:=by
 obtain ⟨h1,e1⟩:=List.getElem?_eq_some_iff.mp a;obtain ⟨h2,e2⟩:=List.getElem?_eq_some_iff.mp b;exact (List.getElem_inj hN).mp (e1.trans e2.symm)
theorem Ec {M:Model} {A:Around} {E:Value->Shared->Prop} {i:Nat} {x:Str} {v:V} {u:Value} {Q:Unit->Shared->Prop} (I:Inv X pins σ H s) (hN:X.N.Nodup) (hi:X.N[i]? = some x) (hx:Loc X.env.scope x) (r:RelV v u)
 (h:∀s',Inv X pins (σ.set i (some v)) H s'->(∃a,Heap.SameBut a s.heap s'.heap/\(a=X.env.locals\/X.env.cells.lookup x=some a))->Q () s') (hf:X.fn x=true\/X.env.scope.names.lookup x=some .local:=by first |exact .inl rfl|exact .inr rfl|assumption):wpAny M A (storeName X.env x u) Q E s:=by
 obtain ⟨m,hn,hl⟩:=id I.loc;have hcls:(X.env.scope.kind == .class||(X.env.scope.kind == .module&&X.env.locals != X.env.globals))=false:=by rw [I.ok.kind];rfl
 have ak':i<σ.length:=by rw [I.len];exact (List.getElem?_eq_some_iff.mp hi).1
 have V8:=I.V8
 have tracked:∀{a:Addr} {h':Heap},(∃o,s.heap.get? a=some o/\H a=none)->Heap.SameBut a s.heap h'->vQ X.prog X.w H h':=fun {a h'} ha hs b ob e=>by
  obtain ⟨_,_,hfree⟩:=ha;refine (I.hok b ob e).stay (fun c w' hc q=>(hs.2 c ?_).trans q) (fun _ q=>q) fun _ _ q=>q;rintro rfl;rcases hc with rfl|hc
  ·rw [hfree] at e;cases e
  ·rw [hfree] at hc;cases hc
 rcases hx with hk|hk
 ·refine wpAny_storeName_local hk hn (fun h' hn' hs=> ?_) hcls
  obtain ⟨oL,_,_,hoL,_⟩:=id hn;refine h _ ⟨I.ok,I.os,I.bare,⟨fun b o e n hb hx=> ?_,fun b o e n hb hx=> ?_,I.base.free,fun b o e hx=> ?_,I.base.tups,I.base.w5,I.base.yU⟩,⟨_,hn',fun j y v' e1 e2 e3=> ?_⟩,fun y c e=> ?_,I.free,I.ou,fun p hp=> ?_,tracked ⟨oL,hoL,I.free⟩ hs,by simpa using I.len⟩ ⟨_,hs,.inl rfl⟩
  ·exact (hs.2 b (Nat.ne_of_lt (Nat.lt_of_lt_of_le (Heap.lt_size e) I.ok.above))).trans (I.base.keep b o e n hb hx)
  ·obtain ⟨sl,e1⟩:=I.base.slot b o e n hb hx
   exact ⟨sl,(hs.2 b (Nat.ne_of_lt (Nat.lt_of_lt_of_le (Heap.lt_size e) I.ok.above))).trans e1⟩
  ·obtain ⟨o',e1⟩:=I.base.there b o e hx
   exact ⟨o',(hs.2 b (Nat.ne_of_lt (Nat.lt_of_lt_of_le (Heap.lt_size e) I.ok.above))).trans e1⟩
  ·by_cases hj:j=i
   ·subst hj
    rw [hi] at e1;cases e1;rw [List.getElem?_set_self ak'] at e2;cases e2;exact ⟨u,r,.inl ⟨hk,by simp⟩⟩
   ·rw [List.getElem?_set_ne (Ne.symm hj)] at e2
    obtain ⟨u',r',q⟩:=hl j y v' e1 e2 e3;refine ⟨u',r', ?_⟩;rcases q with ⟨k,e⟩|⟨k,c,e,z⟩
    ·refine .inl ⟨k, ?_⟩
     have:y≠x:=fun e=>hj (BK hN e1 (e▸hi));simp [this,e]
    ·exact .inr ⟨k,c,e,z.sameBut hs (V8 y c e)⟩
  ·obtain ⟨w',z⟩:=I.cell y c e
   exact ⟨w',z.sameBut hs (V8 y c e)⟩
  ·obtain ⟨e,n,ne,nf,d⟩:=I.pin p hp
   exact ⟨(hs.2 p.1 ne).trans e,n,ne,nf,d⟩
 ·have hfn:X.fn x=true:=by
   rcases hf with z|z
   ·exact z
   ·rw [z] at hk;cases hk
  obtain ⟨c,hc⟩:=I.ok.has x (.inl hk);obtain ⟨w',z⟩:=I.cell x c hc;refine wpAny_storeName_cell I.ok.kind hk hc z (fun h' hc' hs=> ?_);obtain ⟨oc,hoc,ahM⟩:=id z;refine h {s with heap:=h'} ⟨I.ok,I.os,I.bare,⟨fun b o e n hb hx=> ?_,fun b o e n hb hx=> ?_,I.base.free,fun b o e hx=> ?_,I.base.tups,I.base.w5,I.base.yU⟩,⟨m,hn.sameBut hs (Ne.symm (V8 x c hc)),fun j y v' e1 e2 e3=> ?_⟩,fun y c' e=> ?_,I.free,I.ou,fun p hp=> ?_,tracked ⟨oc,hoc,I.ou x c hc⟩ hs,by simpa using I.len⟩ ⟨c,hs,.inr hc⟩
  ·exact (hs.2 b (Nat.ne_of_lt (Nat.lt_of_lt_of_le (Heap.lt_size e) (I.ok.cab x c hfn hc)))).trans (I.base.keep b o e n hb hx)
  ·obtain ⟨sl,e1⟩:=I.base.slot b o e n hb hx
   exact ⟨sl,(hs.2 b (Nat.ne_of_lt (Nat.lt_of_lt_of_le (Heap.lt_size e) (I.ok.cab x c hfn hc)))).trans e1⟩
  ·obtain ⟨o',e1⟩:=I.base.there b o e hx
   exact ⟨o',(hs.2 b (Nat.ne_of_lt (Nat.lt_of_lt_of_le (Heap.lt_size e) (I.ok.cab x c hfn hc)))).trans e1⟩
  ·by_cases hj:j=i
   ·subst hj
    rw [hi] at e1;cases e1;rw [List.getElem?_set_self ak'] at e2;cases e2;exact ⟨u,r,.inr ⟨.inl hk,c,hc,hc'⟩⟩
   ·rw [List.getElem?_set_ne (Ne.symm hj)] at e2
    obtain ⟨u',r',q⟩:=hl j y v' e1 e2 e3;refine ⟨u',r', ?_⟩;rcases q with q|⟨k,c',e,z'⟩
    ·exact .inl q
    ·refine .inr ⟨k,c',e,z'.sameBut hs ?_⟩
     rintro rfl;exact hj (BK hN e1 (I.ok.inj _ _ _ e hc▸hi))
  ·by_cases hcc:c'=c
   ·subst hcc;exact ⟨_,hc'⟩
   ·obtain ⟨w2,z2⟩:=I.cell y c' e
    exact ⟨w2,z2.sameBut hs hcc⟩
  ·obtain ⟨e,n,ne,nf,d⟩:=I.pin p hp
   refine ⟨(hs.2 p.1 ?_).trans e,n,ne,nf,d⟩;intro q;rw [q,hoc] at e;have q':oc=p.2:=Option.some.inj e;exact d w' (by rw [←q'];exact ahM)
theorem Aw {M:Model} {A:Around} {E:Value->Shared->Prop} {i:Nat} {x:Str} {v:V} {u:Value} {Q:Unit->Shared->Prop} (I:Inv X pins σ H s) (hN:X.N.Nodup) (hi:X.N[i]? = some x) (hx:Loc X.env.scope x) (r:RelV v u)
 (h:∀s',Inv X pins (σ.set i (some v)) H s'->Q () s') (hf:X.fn x=true\/X.env.scope.names.lookup x=some .local:=by first |exact .inl rfl|exact .inr rfl|assumption):wpAny M A (storeName X.env x u) Q E s:=
 Ec I hN hi hx r (fun s' I' _=>h s' I') hf
theorem Inv.call' {s':Shared} {ch:List Addr} (I:Inv X pins σ H s) (ho:s'.os=s.os) (u:Un (frs X.stack) ch H H' s.heap s'.heap) (hok:vQ X.prog X.w H' s'.heap) (hg:AllBare s'.gens)
 (hch:∀b∈ch,(b∈X.ex\/X.s₀.heap.objs.size<=b)/\b≠X.env.locals/\(∀x c,X.env.cells.lookup x=some c->c≠b) /\ ∀p∈X.pn++pins,p.1≠b):Inv X pins σ H' s':=by
 obtain ⟨h',g',d',t',o'⟩:=s';have e:o'=s.os:=ho;subst e;exact I.call (g':=g') (t':=t') (d':=d') u hok hg hch
end
abbrev XK:=Value->Option Addr->Hp->Prop
abbrev St:=List (Option V)
abbrev VK:=V->Hp->Prop
abbrev TE:=St->Hp->VK->Prop
abbrev TT:=St->Hp->(Bool->Hp->Prop)->Prop
abbrev TA:=St->Hp->(List V->Hp->Prop)->Prop
structure Ends where
 nx:St->Hp->Prop
 rt:VK
 bk:St->Hp->Prop:=fun _ _=>False
 ct:St->Hp->Prop:=fun _ _=>False
abbrev TS:=Ends->St->Hp->Prop
def EP (X:Cx) (pins:List (Addr×Obj)) (σ:St) (Q:VK) (u:Value) (s':Shared):Prop:=∃v H',Inv X pins σ H' s'/\RelV v u/\Q v H'
def TP (X:Cx) (pins:List (Addr×Obj)) (σ:St) (Q:Bool->Hp->Prop) (b:Bool) (s':Shared):Prop:=∃H',Inv X pins σ H' s'/\Q b H'
def AP (X:Cx) (pins:List (Addr×Obj)) (σ:St) (Q:List V->Hp->Prop) (us:List Value) (s':Shared):Prop:=∃vs H',Inv X pins σ H' s'/\Vals vs us/\Q vs H'
def SP (X:Cx) (pins:List (Addr×Obj)) (D:Ends) (f:Flow) (s':Shared):Prop:=
 match f with
 | .next=>∃σ' H',Inv X pins σ' H' s'/\D.nx σ' H'
 | .brk=>∃σ' H',Inv X pins σ' H' s'/\D.bk σ' H'
 | .cont=>∃σ' H',Inv X pins σ' H' s'/\D.ct σ' H'
 | .ret u=>∃v σ' H',Inv X pins σ' H' s'/\RelV v u/\D.rt v H'
def PE (X:Cx) (e:Expr) (t:TE):Prop:=
 ∀(pins:List (Addr×Obj)) (s:Shared) (σ:St) (H:Hp) (Q:VK),Inv X pins σ H s->t σ H Q->wpAny (model X.prog X.w) X.A (eval e X.env) (EP X pins σ Q) X.xe s
def PT (X:Cx) (e:Expr) (t:TT):Prop:=
 ∀(pins:List (Addr×Obj)) (s:Shared) (σ:St) (H:Hp) (Q:Bool->Hp->Prop),Inv X pins σ H s->t σ H Q->wpAny (model X.prog X.w) X.A (isTrue e X.env (eval e X.env)) (TP X pins σ Q) X.xe s
def PW (X:Cx) (e:Expr) (t:TT):Prop:=
 ∀(whole:Sem Value) (pins:List (Addr×Obj)) (s:Shared) (σ:St) (H:Hp) (Q:Bool->Hp->Prop),Inv X pins σ H s->t σ H Q->wpAny (model X.prog X.w) X.A (isTrue e X.env whole) (TP X pins σ Q) X.xe s
theorem PW.pt {X:Cx} {e:Expr} {t:TT} (h:PW X e t):PT X e t:=h _
def PA (X:Cx) (es:List Expr) (t:TA):Prop:=
 ∀(pos:Pos) (pins:List (Addr×Obj)) (s:Shared) (σ:St) (H:Hp) (Q:List V->Hp->Prop),Inv X pins σ H s->t σ H Q->wpAny (model X.prog X.w) X.A (spliced (backTo pos (starEach es X.env))) (AP X pins σ Q) X.xe s
def PS (X:Cx) (st:Stmt) (t:TS):Prop:=
 ∀(pins:List (Addr×Obj)) (s:Shared) (σ:St) (H:Hp) (D:Ends),Inv X pins σ H s->t D σ H->wpAny (model X.prog X.w) X.A (exec st X.env) (SP X pins D) X.xe s
def Jh (X:Cx) (st:List Stmt) (t:TS):Prop:=
 ∀(pins:List (Addr×Obj)) (s:Shared) (σ:St) (H:Hp) (D:Ends),Inv X pins σ H s->t D σ H->wpAny (model X.prog X.w) X.A (execs st X.env) (SP X pins D) X.xe s
theorem gU {α:Type} {t:Sem α} {Q Q':α->Shared->Prop} {M:Model} {A:Around} {E:Value->Shared->Prop} {s:Shared} (h:wpAny M A t Q E s) (hQ:∀a s,Q a s->Q' a s):wpAny M A t Q' E s:=wpAny_mono h hQ fun _ _ x=>x
end L2
namespace L2
open PySem PySem.Spec PyProof.Rows
section
variable {X:Cx}
def Zw (i:Nat):TE:=fun σ H Q=>∃v,σ[i]? = some (some v)/\Q v H
def tC (v:V):TE:=fun _ H Q=>Q v H
theorem Xd {i:Nat} {x:Str} {pos:Pos} (hN:X.N[i]? = some x) (hv:Vis X.env.scope x) (hd:(x==("__debug__" :Str))=false:=by decide) (hcd:(x==("__classdict__" :Str))=false:=by decide):PE X (.Name x pos) (Zw i):=by
 intro pins s σ H Q I h;obtain ⟨v,e,h⟩:=h;obtain ⟨m,hn,hl⟩:=I.loc;obtain ⟨u,r,l⟩:=hl i x v hN e hv;have fin:EP X pins σ Q u s:=⟨v,H,I,r,h⟩;rcases l with ⟨hk,hm⟩|⟨hk,c,hc,hcell⟩
 ·exact wpAny_Name (wpAny_loadName_local I.ok.kind hk hn hm fin) hd
 ·rcases hk with hk|hk
  ·exact wpAny_Name (wpAny_loadName_cell I.ok.kind hk hc hcell fin) hd
  ·exact wpAny_Name (wpAny_loadName_free I.ok.kind hk hc hcell fin hcd) hd
theorem aB {i j pos}:PE X (.Constant (.int i) j pos) (tC (.int i)):=fun _ _ _ H _ I h=>wpAny_Constant_int ⟨.int i,H,I.tok _,⟨_,rfl⟩,h⟩
theorem qO {b j pos}:PE X (.Constant (.bool b) j pos) (tC (.bl b)):=fun _ _ _ H _ I h=>Constant_bool ⟨.bl b,H,I,rfl,h⟩
theorem mW {j pos}:PE X (.Constant .none j pos) (tC .non):=fun _ _ _ H _ I h=>Constant_none ⟨.non,H,I,rfl,h⟩
theorem wU {x j pos}:PE X (.Constant (.str x) j pos) (tC (.str x)):=fun _ _ _ H _ I h=>Calls.Constant_str ⟨.str x,H,I.tok _,⟨_,rfl⟩,h⟩
def Gl (X:Cx) (x:Str):Prop:=X.env.kindOf x=some .globalImplicit
theorem vD {E:Value->Shared->Prop} {pins:List (Addr×Obj)} {s:Shared} {σ:St} {H:Hp} {x:Str} {u:Value} {pos:Pos} {Q:Value->Shared->Prop} (I:Inv X pins σ H s) (hg:Gl X x) (hm:X.mg x=some u) (h:Q u s)
 (hd:(x==("__debug__" :Str))=false:=by decide):wpAny (model X.prog X.w) X.A (eval (.Name x pos) X.env) Q E s:=
 Calls.Name_function_global I.ok.kind hg (Calls.loadGlobal_global (by rw [I.ok.glob];exact I.mod.glob.keeps I.bk) hm h) hd
theorem BR {E:Value->Shared->Prop} {pins:List (Addr×Obj)} {s:Shared} {σ:St} {H:Hp} {x:Str} {u:Value} {pos:Pos} {Q:Value->Shared->Prop} (I:Inv X pins σ H s) (hg:Gl X x) (hm:X.mg x=none) (hv:bootBuiltins x=some u) (h:Q u s)
 (hn:x ≠ "__name__" :=by decide) (hd:(x==("__debug__" :Str))=false:=by decide):wpAny (model X.prog X.w) X.A (eval (.Name x pos) X.env) Q E s:=by
 obtain ⟨mb,h1,h2⟩:=I.mod.blt;exact Calls.Name_function_global I.ok.kind hg (Calls.loadGlobal_builtin (by rw [I.ok.glob];exact I.mod.glob.keeps I.bk) hm (by rw [I.ok.blt];exact h1.keeps I.bk) ((h2 x hn).trans hv) h) hd
theorem jY {x:Str} {v:V} {u:Value} {pos:Pos} (hg:Gl X x) (hm:X.mg x=some u) (r:RelV v u) (hd:(x==("__debug__" :Str))=false:=by decide):PE X (.Name x pos) (tC v):=
 fun _ _ _ H _ I h=>vD I hg hm ⟨v,H,I,r,h⟩ hd
theorem vq {x:Str} {v:V} {u:Value} {pos:Pos} (hg:Gl X x) (hm:X.mg x=none) (hv:bootBuiltins x=some u) (r:RelV v u) (hn:x ≠ "__name__" :=by decide) (hd:(x==("__debug__" :Str))=false:=by decide):PE X (.Name x pos) (tC v):=
 fun _ _ _ H _ I h=>BR I hg hm hv ⟨v,H,I,r,h⟩ hn hd
variable {a b:Expr} {ta tb:TE} {pos:Pos}
def PC (X:Cx) (op:CmpOp) (a b:Expr) (t:TE):Prop:=
 ∀(pins:List (Addr×Obj)) (s:Shared) (σ:St) (H:Hp) (Q:VK),Inv X pins σ H s->t σ H Q ->
  wpAny (model X.prog X.w) X.A (eval a X.env) (fun v s₁=>wpAny (model X.prog X.w) X.A (eval b X.env) (fun u s₂=>wpAny (model X.prog X.w) X.A (compareOp op v u) (EP X pins σ Q) X.xe s₂) X.xe s₁) X.xe s
theorem QB (b:Expr) {op:CmpOp} (h:op ≠ .In) (h2:op ≠ .NotIn):behindInMarks op b=false:=by
 have e1:(op==CmpOp.In)=false:=by cases op<;>first |rfl|exact absurd rfl h
 have e2:(op==CmpOp.NotIn)=false:=by cases op<;>first |rfl|exact absurd rfl h2
 cases b<;>simp [behindInMarks,e1,e2]
def tB (t:TE):TT:=fun σ H Q=>t σ H fun x H1=>∃c,x = .bl c/\Q c H1
theorem W9 {op:CmpOp} {t:TE} (h:PC X op a b t) (h1:behindInMarks op b=false:=by first |exact QB _ (by decide) (by decide)|rfl):PT X (.Compare a [op] [b] pos) (tB t):=by
 intro pins s σ H Q I hw;refine wpAny_isTrue_Compare1 (gU (h pins s σ H _ I hw) fun v s1 h1=>gU h1 fun u s2 h2=>gU h2 fun c s3 ⟨x,H1,I1,r1,q1⟩=> ?_) h1;obtain ⟨d,rfl,q⟩:=q1;cases r1;exact wpAny_truthy_bool ⟨H1,I1,q⟩
theorem iR {e:Expr} {t:TE} (h:PE X e t) (he:∀whole,isTrue e X.env whole=(do let v ←whole;standAt e.pos;holding [v] (truthy v)):=by intro _;rfl):PT X e (tB t):=by
 intro pins s σ H Q I hw;refine isTrue_plain (gU (h pins s σ H _ I hw) fun v s1 ⟨x,H1,I1,r1,q1⟩=> ?_) (he _);obtain ⟨d,rfl,q⟩:=q1;cases r1;exact wpAny_truthy_bool ⟨H1,I1,q⟩
variable {tA tB':TT} {rest:List Expr}
def adL (t u:TT):TT:=fun σ H Q=>t σ H fun c H1=>if c=true then u σ H1 Q else Q false H1
def tOr (t u:TT):TT:=fun σ H Q=>t σ H fun c H1=>if c=true then Q true H1 else u σ H1 Q
def adH (t:TT):TT:=fun σ H Q=>t σ H fun c H1=>Q (!c) H1
theorem iC (ha:PT X a tA):PW X (.BoolOp .And [a] pos) tA:=by
 intro wh pins s σ H Q I h;refine isTrue_and (gU (ha pins s σ H Q I h) fun c s1 e=> ?_);cases c with
 | true=>exact isTrue_and_nil e
 | false=>exact e
theorem pA (ha:PT X a tA):PW X (.BoolOp .Or [a] pos) tA:=by
 intro wh pins s σ H Q I h;refine isTrue_or (gU (ha pins s σ H Q I h) fun c s1 e=> ?_);cases c with
 | false=>exact isTrue_or_nil e
 | true=>exact e
theorem jf (ha:PT X a tA) (hb:PW X (.BoolOp .And (b::rest) pos) tB'):PW X (.BoolOp .And (a::b::rest) pos) (adL tA tB'):=by
 intro wh pins s σ H Q I h;refine isTrue_and (gU (ha pins s σ H _ I h) fun c s1 ⟨H1,I1,q1⟩=> ?_);cases c with
 | true=>exact hb wh pins s1 σ H1 Q I1 q1
 | false=>exact ⟨H1,I1,q1⟩
theorem qM (ha:PT X a tA) (hb:PW X (.BoolOp .Or (b::rest) pos) tB'):PW X (.BoolOp .Or (a::b::rest) pos) (tOr tA tB'):=by
 intro wh pins s σ H Q I h;refine isTrue_or (gU (ha pins s σ H _ I h) fun c s1 ⟨H1,I1,q1⟩=> ?_);cases c with
 | true=>exact ⟨H1,I1,q1⟩
 | false=>exact hb wh pins s1 σ H1 Q I1 q1
theorem lB (ha:PT X a tA):PT X (.UnaryOp .Not a pos) (adH tA):=by
 intro pins s σ H Q I h;exact isTrue_not (ha pins s σ H (fun c H1=>Q (!c) H1) I h)
def ZL (ta tb:TE):TE:=fun σ H Q=>ta σ H fun x H1=>∃c,x = .bl c/\if c=true then tb σ H1 Q else Q (.bl false) H1
def adG (ta tb:TE):TE:=fun σ H Q=>ta σ H fun x H1=>∃c,x = .bl c/\if c=true then Q (.bl true) H1 else tb σ H1 Q
def ZD (ta:TE):TE:=fun σ H Q=>ta σ H fun x H1=>∃c,x = .bl c/\Q (.bl (!c)) H1
theorem uW {op} {t:TE} (h:PE X a t):PE X (.BoolOp op [a] pos) t:=fun pins s σ H Q I hw=>BoolOp_one (h pins s σ H Q I hw)
theorem wW (ha:PE X a ta) (hb:PE X (.BoolOp .And (b::rest) pos) tb):PE X (.BoolOp .And (a::b::rest) pos) (ZL ta tb):=by
 intro pins s σ H Q I h;refine BoolOp_and (gU (ha pins s σ H _ I h) fun v s1 ⟨x,H1,I1,r1,q1⟩=> ?_);obtain ⟨c,rfl,q1⟩:=q1;cases r1;refine wpAny_truthy_bool ?_;cases c with
 | true=>exact hb pins s1 σ H1 Q I1 q1
 | false=>exact ⟨.bl false,H1,I1,rfl,q1⟩
theorem aag (ha:PE X a ta) (hb:PE X (.BoolOp .Or (b::rest) pos) tb):PE X (.BoolOp .Or (a::b::rest) pos) (adG ta tb):=by
 intro pins s σ H Q I h;refine BoolOp_or (gU (ha pins s σ H _ I h) fun v s1 ⟨x,H1,I1,r1,q1⟩=> ?_);obtain ⟨c,rfl,q1⟩:=q1;cases r1;refine wpAny_truthy_bool ?_;cases c with
 | false=>exact hb pins s1 σ H1 Q I1 q1
 | true=>exact ⟨.bl true,H1,I1,rfl,q1⟩
theorem Xe (ha:PE X a ta):PE X (.UnaryOp .Not a pos) (ZD ta):=by
 intro pins s σ H Q I h;refine UnaryOp_ (gU (ha pins s σ H _ I h) fun v s1 ⟨x,H1,I1,r1,q1⟩=> ?_);obtain ⟨c,rfl,q1⟩:=q1;cases r1;exact not_of (wpAny_truthy_bool ⟨.bl (!c),H1,I1,rfl,q1⟩)
end
end L2
namespace L2
open PySem PySem.Spec PyProof.Rows
def bK (K:PySem.W.Frag) (H:Hp) (a:Addr) (xs:List V):Prop:=
 Rd H a (.lst xs) \/
  ∃(o:Obj) (its:Array Value) (n:Nat),K.lookup a=some o/\o.cls = .type "list" /\ o.dict=none/\o.data = .seq its n/\its.size<=sizeLine/\Vals xs its.toList
def eV (K:PySem.W.Frag) (H:Hp) (a:Addr) (xs:List V):Prop:=
 Rd H a (.tup xs) \/
  ∃(o:Obj) (its:Array Value) (n:Nat),K.lookup a=some o/\o.cls = .type "tuple" /\ o.data = .seq its n/\its.size<=sizeLine/\Vals xs its.toList
def akq:Value->Option V
 | .none=>some .non
 | .bool b=>some (.bl b)
 | .int i _=>some (.int i)
 | .str x _=>some (.str x)
 | .bytes b _=>some (.Ma b)
 | .float b _=>some (.flt b)
 | .ref a=>some (.ref a)
 | .type n=>some (.ty n)
 | _=>none
theorem RelV.abs {x:V} {u:Value} (r:RelV x u):akq u=some x:=by
 cases x with
 | non=>cases r;rfl
 | bl _=>cases r;rfl
 | int _=>obtain ⟨t,rfl⟩:=r;rfl
 | str _=>obtain ⟨t,rfl⟩:=r;rfl
 | Ma _=>obtain ⟨t,rfl⟩:=r;rfl
 | flt _=>obtain ⟨t,rfl⟩:=r;rfl
 | ref _=>cases r;rfl
 | ty _=>cases r;rfl
theorem RelV.inj {x y:V} {u:Value} (r:RelV x u) (q:RelV y u):x=y:=Option.some.inj (r.abs.symm.trans q.abs)
theorem Vals.inj {xs ys:List V} {us:List Value} (h:Vals xs us) (h':Vals ys us):xs=ys:=by
 induction h generalizing ys with
 | nil=>cases h';rfl
 | cons r t ih=>cases h' with
   | cons r' t'=>rw [r.inj r',ih t']
section
variable {X:Cx} {pins:List (Addr×Obj)} {σ:St} {H:Hp} {s:Shared} {a:Addr} {xs ys:List V}
theorem bK.of {K:PySem.W.Frag} (h:H a=some (.lst xs)):bK K H a xs:= .inl (.inl h)
theorem eV.of {K:PySem.W.Frag} (h:H a=some (.tup xs)):eV K H a xs:= .inl (.inl h)
theorem Inv.list (I:Inv X pins σ H s) (h:bK X.K H a xs):∃its:List Value,Vals xs its/\PlainL s.heap a its.toArray/\xs.length<=sizeLine:=by
 rcases h with h|⟨o,its,n,hk,hc,hd,hs,hz,r⟩
 ·obtain ⟨z,its,n,r,e⟩:=h.ok I.hok
  exact ⟨its,r,⟨_,n,e,rfl,rfl,rfl⟩,z⟩
 ·refine ⟨its.toList,r,⟨o,n,I.Ad a o hk,hc,hd,by simpa using hs⟩, ?_⟩
  have e:=r.length;simp only [Array.length_toList] at e;omega
theorem Inv.tuple (I:Inv X pins σ H s) (h:eV X.K H a xs):∃its:List Value,Vals xs its/\IsTup s.heap a its.toArray/\xs.length<=sizeLine:=by
 rcases h with h|⟨o,its,n,hk,hc,hs,hz,r⟩
 ·obtain ⟨z,its,r,p⟩:=h.ok I.hok
  exact ⟨its,r,p,z⟩
 ·refine ⟨its.toList,r,⟨o,I.Ad a o hk,hc,n,by simpa using hs⟩, ?_⟩
  have e:=r.length;simp only [Array.length_toList] at e;omega
theorem Inv.BP (I:Inv X pins σ H s) (h:bK X.K H a xs) (h':bK X.K H a ys):xs=ys:=by
 obtain ⟨its,r,⟨o,n,e,_,_,d⟩,_⟩:=I.list h;obtain ⟨its',r',⟨o',n',e',_,_,d'⟩,_⟩:=I.list h';rw [e] at e';cases e';rw [d] at d';injection d' with d1 _
 have:its=its':=by simpa using congrArg Array.toList d1
 subst this;exact r.inj r'
theorem Inv.Mr (I:Inv X pins σ H s) (h:eV X.K H a xs) (h':eV X.K H a ys):xs=ys:=by
 obtain ⟨its,r,⟨o,e,_,n,d⟩,_⟩:=I.tuple h;obtain ⟨its',r',⟨o',e',_,n',d'⟩,_⟩:=I.tuple h';rw [e] at e';cases e';rw [d] at d';injection d' with d1 _
 have:its=its':=by simpa using congrArg Array.toList d1
 subst this;exact r.inj r'
end
abbrev Cx.wish (X:Cx) (E:Value->Shared->Prop):Cx:={X with xe:=E}
abbrev Cx.nox (X:Cx):Cx:=X.wish fun _ _=>False
theorem Cx.Ok.wish {X:Cx} (ok:X.Ok) (E:Value->Shared->Prop):(X.wish E).Ok:=
 ⟨ok.mod,ok.kind,ok.glob,ok.blt,ok.above,ok.inj,ok.has,ok.cab,ok.hd,ok.frames,ok.stk,ok.Zf,ok.bs,ok.O5,ok.Gm,ok.Ik,ok.vL,ok.R_⟩
theorem Cx.Ok.uO {X:Cx} {E:Value->Shared->Prop} (ok:(X.wish E).Ok):X.Ok:=
 ⟨ok.mod,ok.kind,ok.glob,ok.blt,ok.above,ok.inj,ok.has,ok.cab,ok.hd,ok.frames,ok.stk,ok.Zf,ok.bs,ok.O5,ok.Gm,ok.Ik,ok.vL,ok.R_⟩
section
variable {X:Cx} {pins:List (Addr×Obj)} {σ:St} {H:Hp} {s:Shared} {E:Value->Shared->Prop}
theorem Inv.wish (I:Inv X pins σ H s) (E:Value->Shared->Prop):Inv (X.wish E) pins σ H s:=⟨I.ok.wish E,I.os,I.bare,I.base,I.loc,I.cell,I.free,I.ou,I.pin,I.hok,I.len⟩
theorem Inv.uO (I:Inv (X.wish E) pins σ H s):Inv X pins σ H s:=⟨I.ok.uO,I.os,I.bare,I.base,I.loc,I.cell,I.free,I.ou,I.pin,I.hok,I.len⟩
theorem SP.uO {D:Ends} {f:Flow} {s':Shared} (h:SP (X.wish E) pins D f s'):SP X pins D f s':=by
 cases f with
 | next=>obtain ⟨σ',H',I,q⟩:=h;exact ⟨σ',H',I.uO,q⟩
 | brk=>obtain ⟨σ',H',I,q⟩:=h;exact ⟨σ',H',I.uO,q⟩
 | cont=>obtain ⟨σ',H',I,q⟩:=h;exact ⟨σ',H',I.uO,q⟩
 | ret u=>obtain ⟨v,σ',H',I,r,q⟩:=h;exact ⟨v,σ',H',I.uO,r,q⟩
theorem Jh.nox {st:List Stmt} {t:TS} (h:Jh X.nox st t):Jh X st t:=fun pins s σ H D I hw=>
 wpAny_mono (h pins s σ H D (I.wish _) hw) (fun _ _ q=>q.uO) fun _ _ z=>False.elim z
end
section
variable {X:Cx} {st:Stmt} {rest:List Stmt} {t u:TS} {e:Expr} {te:TE} {pos:Pos}
def PJ:TS:=fun D σ H=>D.nx σ H
def Zz (t u:TS):TS:=fun D σ H=>t {D with nx:=u D} σ H
theorem bD:Jh X [] PJ:=fun _ _ σ H _ I h=>wpAny_execs_nil ⟨σ,H,I,h⟩
theorem aF (h1:PS X st t) (h2:Jh X rest u):Jh X (st::rest) (Zz t u):=by
 intro pins s σ H D I h;refine wpAny_execs_cons (gU (h1 pins s σ H {D with nx:=u D} I h) fun f s1 q=> ?_);cases f with
 | next=>
   obtain ⟨σ',H',I',q⟩:=q;exact h2 pins s1 σ' H' D I' q
 | ret v=>exact q
 | brk=>exact q
 | cont=>exact q
theorem aK (h1:PS X st t):Jh X [st] t:=by
 intro pins s σ H D I h;refine wpAny_execs_cons (gU (h1 pins s σ H D I h) fun f s1 q=> ?_);cases f with
 | next=>exact wpAny_execs_nil q
 | ret v=>exact q
 | brk=>exact q
 | cont=>exact q
theorem Inv.quiet {pins:List (Addr×Obj)} {σ:St} {H:Hp} {s:Shared} (I:Inv X pins σ H s):interactive X.env=false:=by simp [interactive,I.ok.kind]
def Vy (te:TE):TS:=fun D σ H=>te σ H fun _ H1=>D.nx σ H1
theorem eZ (he:PE X e te) (hs:swapsWith e none pos.line X.env=pure false:=by rfl):PS X (.Expr e pos) (Vy te):=by
 intro pins s σ H D I h;exact wpAny_Expr_any (gU (he pins s σ H _ I h) fun v s1 ⟨x,H1,I1,r1,q1⟩=>⟨σ,H1,I1,q1⟩) I.quiet hs
def adF (te:TE):TS:=fun D σ H=>te σ H D.rt
theorem bF (he:PE X e te):PS X (.Return (some e) pos) (adF te):=by
 intro pins s σ H D I h;exact wpAny_Return_some (gU (he pins s σ H _ I h) fun v s1 ⟨x,H1,I1,r1,q1⟩=>⟨x,σ,H1,I1,r1,q1⟩)
def adJ (c:TT) (t u:TS):TS:=fun D σ H=>c σ H fun b H1=>if b=true then t D σ H1 else u D σ H1
theorem dU {c:Expr} {a b:List Stmt} {tc:TT} (hc:PT X c tc) (ha:Jh X a t) (hb:Jh X b u):PS X (.If c a b pos) (adJ tc t u):=by
 intro pins s σ H D I h;refine wpAny_If (gU (hc pins s σ H _ I h) fun d s1 ⟨H1,I1,q1⟩=> ?_);cases d with
 | true=>exact ha pins s1 σ H1 D I1 q1
 | false=>exact hb pins s1 σ H1 D I1 q1
end
abbrev TG:=V->St->Hp->(St->Hp->Prop)->Prop
abbrev Wb:=List V->St->Hp->(St->Hp->Prop)->Prop
def PG (X:Cx) (target:Expr) (t:TG):Prop:=
 ∀(pins:List (Addr×Obj)) (s:Shared) (σ:St) (H:Hp) (v:V) (u:Value) (Q:St->Hp->Prop),Inv X pins σ H s->RelV v u->t v σ H Q ->
  wpAny (model X.prog X.w) X.A (assign target X.env u) (fun _ s'=>∃σ' H',Inv X pins σ' H' s'/\Q σ' H') X.xe s
def PGs (X:Cx) (ts:List Expr) (t:Wb):Prop:=
 ∀(pins:List (Addr×Obj)) (s:Shared) (σ:St) (H:Hp) (vs:List V) (us:List Value) (Q:St->Hp->Prop),Inv X pins σ H s->Vals vs us->t vs σ H Q ->
  wpAny (model X.prog X.w) X.A (assignInOrder ((assignEach ts X.env).map (·.2)) us) (fun _ s'=>∃σ' H',Inv X pins σ' H' s'/\Q σ' H') X.xe s
abbrev RL:=V->V->V->Hp->(Hp->Prop)->Prop
def YJ (X:Cx) (t:RL):Prop:=
 ∀(pins:List (Addr×Obj)) (s:Shared) (σ:St) (H:Hp) (o i v:V) (ov iv u:Value) (Q:Hp->Prop),Inv X pins σ H s->RelV o ov->RelV i iv->RelV v u->t o i v H Q ->
  wpAny (model X.prog X.w) X.A (setItem ov iv u) (fun _ s'=>∃H',Inv X pins σ H' s'/\Q H') X.xe s
abbrev TIp:=V->V->Hp->VK->Prop
def PIp (X:Cx) (op:Operator) (t:TIp):Prop:=
 ∀(pins:List (Addr×Obj)) (s:Shared) (σ:St) (H:Hp) (x y:V) (v u:Value) (Q:VK),Inv X pins σ H s->RelV x v->RelV y u->t x y H Q ->
  wpAny (model X.prog X.w) X.A (inplaceOp op v u) (EP X pins σ Q) X.xe s
section
variable {X:Cx} {pos:Pos}
def tM (i:Nat):TG:=fun v σ H Q=>Q (σ.set i (some v)) H
theorem bY {i:Nat} {x:Str} (hN:X.N.Nodup) (hi:X.N[i]? = some x) (hx:Loc X.env.scope x) (hf:X.fn x=true\/X.env.scope.names.lookup x=some .local:=by first |exact .inl rfl|exact .inr rfl|assumption):PG X (.Name x pos) (tM i):=by
 intro pins s σ H v u Q I r h;exact wpAny_assign_Name (Aw I hN hi hx r (fun s' I'=>⟨_,H,I',h⟩) hf)
def aaM:Wb:=fun vs σ H Q=>vs=[]/\Q σ H
def Rc (t:TG) (u:Wb):Wb:=fun vs σ H Q=>∃v r,vs=v::r/\t v σ H fun σ' H'=>u r σ' H' Q
theorem z9:PGs X [] aaM:=by
 intro pins s σ H vs us Q I r h;obtain ⟨e,h⟩:=h;subst e;cases r;exact assignInOrder_nil ⟨σ,H,I,h⟩
theorem lC {e:Expr} {es:List Expr} {t:TG} {u:Wb} (h1:PG X e t) (h2:PGs X es u)
 (hs:(assignEach (e::es) X.env).map (·.2)=assign e X.env::(assignEach es X.env).map (·.2):=by rfl):PGs X (e::es) (Rc t u):=by
 intro pins s σ H vs us Q I r h;obtain ⟨v,vr,e1,h⟩:=h;subst e1;cases r with
 | cons r rr=>
   rw [hs];refine assignInOrder_cons (gU (h1 pins s σ H _ _ _ I r h) fun _ s1 ⟨σ1,H1,I1,q1⟩=> ?_);exact h2 pins s1 σ1 H1 _ _ Q I1 rr q1
def Yl (K:PySem.W.Frag) (n:Nat) (t:Wb):TG:=fun v σ H Q=>∃a xs,v = .ref a/\eV K H a xs/\xs.length=n/\t xs σ H Q
theorem Xc {es:List Expr} {k:Nat} {t:Wb} {n:Nat} (hc:X.calm=true) (h:PGs X es t)
 (hn:(assignEach es X.env).length=n:=by rfl) (hst:(assignEach es X.env).findIdx? (·.1)=none:=by rfl):PG X (.Tuple es k pos) (Yl X.K n t):=by
 intro pins s σ H v u Q I r hw;obtain ⟨a,xs,e1,hq,hl,hw⟩:=hw;subst e1;cases r;obtain ⟨its,rv,ht,hz⟩:=I.tuple hq;refine assign_Tuple_tuple (I.ok.hd hc) ht (by simp [hn,←hl,rv.length]) hst fun h' hx=> ?_;have I1:Inv X pins σ H {s with heap:=h'}:=I.kept (t':=s.toks) fun b o e=>hx b o (Nat.ne_of_lt (Heap.lt_size e)) e;exact h pins _ σ H xs _ Q I1 (by simpa using rv) hw
def ah4 (to ti:TE) (t:RL):TG:=fun v σ H Q=>to σ H fun o H1=>ti σ H1 fun i H2=>t o i v H2 fun H3=>Q σ H3
theorem qX {o i:Expr} {to ti:TE} {t:RL} (ho:PE X o to) (hi:PE X i ti) (hs:YJ X t)
 (ha:∀v,assign (.Subscript o i pos) X.env v=(do
   let ov ←holding [v] (eval o X.env)
   let iv ←holding [v,ov] (eval i X.env)
   standAt pos
   holding [v,ov,iv] (setItem ov iv v)
   release [v,ov,iv] []):=by intro _;rfl):PG X (.Subscript o i pos) (ah4 to ti t):=by
 intro pins s σ H v u Q I r h;rw [ha];refine wpAny_bind (wpAny_holding (gU (ho pins s σ H _ I h) fun ov s1 ⟨x,H1,I1,r1,q1⟩=> ?_));refine wpAny_bind (wpAny_holding (gU (hi pins s1 σ H1 _ I1 q1) fun iv s2 ⟨y,H2,I2,r2,q2⟩=> ?_));refine wpAny_bind (wpAny_standAt (wpAny_bind (wpAny_holding (gU (hs pins s2 σ H2 x y v ov iv u _ I2 r1 r2 r q2) fun _ s3 ⟨H3,I3,q3⟩=> ?_))));exact wpAny_release ⟨σ,H3,I3,q3⟩
def WK (te:TE) (g:TG):TS:=fun D σ H=>te σ H fun x H1=>g x σ H1 D.nx
theorem qW {tg e:Expr} {te:TE} {g:TG} (he:PE X e te) (hg:PG X tg g) (hs:swapsWithSole [tg] e pos.line X.env=pure false:=by rfl) (hw:swappedStores [tg] e X.env=pure none:=by rfl)
 (h1:(assignEach [tg] X.env).map (·.2)=[assign tg X.env]:=by rfl):PS X (.Assign [tg] e pos) (WK te g):=by
 intro pins s σ H D I h;refine wpAny_Assign_stores (gU (he pins s σ H _ I h) fun v s1 ⟨x,H1,I1,r1,q1⟩=> ?_) hs hw;rw [h1];exact gU (hg pins s1 σ H1 x v _ I1 r1 q1) fun _ s2 q=>q
theorem bC {i:Nat} {x:Str} {e:Expr} {te:TE} {pos':Pos} (hN:X.N.Nodup) (hi:X.N[i]? = some x) (hx:Loc X.env.scope x) (he:PE X e te) (hs:swapsWith e (some (.Name x pos')) pos.line X.env=pure false:=by rfl) (hf:X.fn x=true\/X.env.scope.names.lookup x=some .local:=by first |exact .inl rfl|exact .inr rfl|assumption):
 PS X (.Assign [.Name x pos'] e pos) (WK te (tM i)):=by
 intro pins s σ H D I h;refine wpAny_Assign_Name (gU (he pins s σ H _ I h) fun v s1 ⟨y,H1,I1,r1,q1⟩=> ?_) hs;exact Aw I1 hN hi hx r1 (fun s2 I2=>⟨_,H1,I2,q1⟩) hf
def ZK (to ti te:TE) (Sx:V->V->Hp->VK->Prop) (tip:TIp) (Sw:RL):TS:=fun D σ H=>to σ H fun o H1=>ti σ H1 fun i H2=>Sx o i H2 fun x H3=>te σ H3 fun y H4=>tip x y H4 fun z H5=>Sw o i z H5 fun H6=>D.nx σ H6
def abF (X:Cx) (t:V->V->Hp->VK->Prop):Prop:=
 ∀(pins:List (Addr×Obj)) (s:Shared) (σ:St) (H:Hp) (o i:V) (ov iv:Value) (Q:VK),Inv X pins σ H s->RelV o ov->RelV i iv->t o i H Q ->
  wpAny (model X.prog X.w) X.A (getItem ov iv) (EP X pins σ Q) X.xe s
theorem K4 {o i e:Expr} {to ti te:TE} {Sx:V->V->Hp->VK->Prop} {tip:TIp} {Sw:RL} {op:Operator} {tpos:Pos} (ho:PE X o to) (hi:PE X i ti) (hg:abF X Sx) (he:PE X e te) (hp:PIp X op tip) (hs:YJ X Sw)
 (ha:∀ov iv new,augStore i ov iv new=(do holding [new,ov,iv] (setItem ov iv new);release [new,ov,iv] [];pure .next):=by intros;rfl):PS X (.AugAssign (.Subscript o i tpos) op e pos) (ZK to ti te Sx tip Sw):=by
 intro pins s σ H D I h;refine wpAny_AugAssign_SubscriptAny (gU (ho pins s σ H _ I h) fun ov s1 ⟨x1,H1,I1,r1,q1⟩=> ?_) ha;refine gU (hi pins s1 σ H1 _ I1 q1) fun iv s2 ⟨x2,H2,I2,r2,q2⟩=> ?_;refine gU (hg pins s2 σ H2 x1 x2 ov iv _ I2 r1 r2 q2) fun old s3 ⟨x3,H3,I3,r3,q3⟩=> ?_;refine gU (he pins s3 σ H3 _ I3 q3) fun v s4 ⟨x4,H4,I4,r4,q4⟩=> ?_;refine gU (hp pins s4 σ H4 x3 x4 old v _ I4 r3 r4 q4) fun new s5 ⟨x5,H5,I5,r5,q5⟩=> ?_;exact gU (hs pins s5 σ H5 x1 x2 x5 ov iv new _ I5 r1 r2 r5 q5) fun _ s6 ⟨H6,I6,q6⟩=>⟨σ,H6,I6,q6⟩
def ipI (f:Int->Int->Int):TIp:=fun x y H Q=>∃i j,x = .int i/\y = .int j/\Q (.int (f i j)) H
theorem QV:PIp X .Add (ipI fun i j=>i+j):=by
 intro pins s σ H x y v u Q I r1 r2 h;obtain ⟨i,j,e1,e2,q⟩:=h;subst e1;subst e2;obtain ⟨t,rfl⟩:=r1;obtain ⟨t',rfl⟩:=r2;exact iadd_int ⟨.int _,H,I.tok _,⟨_,rfl⟩,q⟩
end
section
variable {X:Cx} {pos:Pos}
def Wq (c:TT) (tb:TS):TS:=fun D σ H=>∃W:Nat->St->Hp->Prop,(∃m,W m σ H) /\ ∀m σ H,W m σ H ->
 c σ H fun b H1=>if b=true then ∃N:St->Hp->Prop,(∀σ' H',N σ' H' -> ∃m',m'<m/\W m' σ' H')/\tb {D with nx:=N,ct:=N,bk:=D.nx} σ H1 else D.nx σ H1
theorem xW {c:Expr} {body:List Stmt} {tc:TT} {tb:TS} (hp:PassesOwn (model X.prog X.w) X.A X.env X.xe) (hc:PT X c tc) (hb:Jh X body tb):PS X (.While c body [] pos) (Wq tc tb):=by
 intro pins s σ H D I h;obtain ⟨W,⟨m0,w0⟩,turn⟩:=h;refine wpAny_While (codeAny_whileLoop (fun n s'=>∃σ' H',Inv X pins σ' H' s'/\W n σ' H') ?_ m0 ⟨σ,H,I,w0⟩);rintro n s1 ⟨σ1,H1,I1,w1⟩;refine wpAny_passesOwn hp (gU (hc pins s1 σ1 H1 _ I1 (turn n σ1 H1 w1)) fun b s2 ⟨H2,I2,q2⟩=> ?_);cases b with
 | true=>
   obtain ⟨N,hN,q2⟩:=q2;rw [if_pos rfl];refine wpAny_passesOwn hp (gU (hb pins s2 σ1 H2 _ I2 q2) fun f s3 q3=> ?_);cases f with
   | next=>
     obtain ⟨σ3,H3,I3,n3⟩:=q3;obtain ⟨m',hm,w3⟩:=hN σ3 H3 n3;exact ⟨m',hm,σ3,H3,I3,w3⟩
   | cont=>
     obtain ⟨σ3,H3,I3,n3⟩:=q3;obtain ⟨m',hm,w3⟩:=hN σ3 H3 n3;exact ⟨m',hm,σ3,H3,I3,w3⟩
   | brk=>exact q3
   | ret v=>exact q3
 | false=>
   rw [if_neg Bool.false_ne_true];exact wpAny_execs_nil ⟨σ1,H2,I2,q2⟩
end
structure It where
 go:Nat->Hp->Prop
 YW:Nat->Hp->V->Hp->Prop
 stop:Nat->Hp->Prop
def xr (X:Cx) (pins:List (Addr×Obj)) (H:Hp) (b:Addr):Prop:=
 H b=none/\b≠X.env.locals/\b∉X.fs/\(b∈X.ex\/X.s₀.heap.objs.size<=b)/\(∀x c,X.env.cells.lookup x=some c->c≠b) /\ ∀p∈X.pn++pins,p.1≠b
theorem Inv.Gw {X:Cx} {pins:List (Addr×Obj)} {σ:St} {H H':Hp} {s:Shared} {b:Addr} (I:Inv X pins σ H s) (hb:s.heap.objs.size<=b) (hn:H' b=none):xr X pins H' b:=by
 refine ⟨hn,Nat.ne_of_gt (Nat.lt_of_lt_of_le I.lt hb),I.agh hb,.inr (Nat.le_trans I.sz hb),fun x c e z=> ?_,fun p hp z=> ?_⟩
 ·obtain ⟨v,q⟩:=I.cell x c e
  exact absurd (Nat.lt_of_lt_of_le q.lt (by rw [z];exact hb)) (Nat.lt_irrefl _)
 ·exact absurd (Nat.lt_of_lt_of_le (Heap.lt_size (I.pin p hp).1) (by rw [z];exact hb)) (Nat.lt_irrefl _)
structure Turn (P:Program) (w:World) (K:PySem.W.Frag) (tg:Expr) (J:It) (fp:List Addr) (it:Addr) (tn:Nat->Heap->Prop):Prop where
 mem:it∈fp
 obj:∀i h,tn i h -> ∀b∈fp,∃o,h.get? b=some o /\ ∀v,o.data ≠ .cell v
 keep:∀i h h',tn i h->(∀b∈fp,∀o,h.get? b=some o->h'.get? b=some o)->tn i h'
 item:∀(X:Cx),X.prog=P->X.w=w->X.K=K->X.calm=true -> ∀(i:Nat) (pins:List (Addr×Obj)) (s:Shared) (σ:St) (H:Hp) (E:Value->Shared->Prop),Inv X pins σ H s->(∀b∈fp,xr X pins H b)->tn i s.heap->J.go i H ->
  wpAny (model P w) X.A (pyNext (.ref it)) (fun r s1=>∃u,r=some u /\
   wpAny (model P w) X.A (letOwnedTupleGo tg (.ref it) u) (fun _ s2=>∃x H',Inv X pins σ H' s2/\RelV x u/\J.YW i H x H'/\tn (i+1) s2.heap /\ ∀b∈fp,H' b=none) E s1) E s
 done:∀(X:Cx),X.prog=P->X.w=w->X.K=K->X.calm=true -> ∀(i:Nat) (pins:List (Addr×Obj)) (s:Shared) (σ:St) (H:Hp) (E:Value->Shared->Prop),Inv X pins σ H s->(∀b∈fp,xr X pins H b)->tn i s.heap->J.stop i H ->
  wpAny (model P w) X.A (pyNext (.ref it)) (fun r s1=>r=none/\Inv X pins σ H s1) E s
 self:∀(A:Around) (i:Nat) (s:Shared) (Q:Value->Shared->Prop) (E:Value->Shared->Prop),tn i s.heap->Q (.ref it) s->wpAny (model P w) A (pyIter (.ref it)) Q E s
abbrev TI:=St->Hp->(It->Hp->Prop)->Prop
def PIE (X:Cx) (pins:List (Addr×Obj)) (σ:St) (tg:Expr) (R:It->Hp->Prop) (itv:Value) (s2:Shared):Prop:=
 ∃(it:Addr) (fp:List Addr) (tn:Nat->Heap->Prop) (J:It) (H':Hp),itv = .ref it/\Inv X pins σ H' s2/\Turn X.prog X.w X.K tg J fp it tn/\tn 0 s2.heap/\(∀b∈fp,xr X pins H' b)/\R J H'
def PI (X:Cx) (tg iter:Expr) (wi:TI):Prop:=
 ∀(pins:List (Addr×Obj)) (s:Shared) (σ:St) (H:Hp) (R:It->Hp->Prop),Inv X pins σ H s->wi σ H R ->
  wpAny (model X.prog X.w) X.A (eval iter X.env) (fun v s1=>wpAny (model X.prog X.w) X.A (pyIter v) (PIE X pins σ tg R) X.xe s1) X.xe s
theorem Lw {M:Model} {A:Around} {E:Value->Shared->Prop} {s:Shared} {tg:Expr} {it:Addr} {u:Value} {o:Obj} {n:String} {vs:Array Value} {Q:Unit->Shared->Prop} (ho:s.heap.get? it=some o) (hc:o.cls = .type n) (hd:o.data = .fields vs)
 (hn:["enumerate","zip","dict_itemiterator","dict_reverseitemiterator","odict_iterator","itertools.zip_longest","itertools.pairwise"].contains n=false) (hQ:Q () s):wpAny M A (letOwnedTupleGo tg (.ref it) u) Q E s:=by
 unfold letOwnedTupleGo
 cases tg<;>first
  | exact wpAny_pure hQ
  | (cases u<;>first
      | exact wpAny_pure hQ
      | (refine wpAny_bind (wpAny_load ho ?_)
         rw [hc,hd];show wpAny M A (if (["enumerate","zip","dict_itemiterator","dict_reverseitemiterator","odict_iterator","itertools.zip_longest","itertools.pairwise"].contains n&&vs[0]? == some (rawInt _))=true then _ else _) Q E s;rw [if_neg (by intro h;rw [hn,Bool.false_and] at h;cases h)];exact wpAny_pure hQ))
def Vp (K:PySem.W.Frag) (a:Addr):It:=
 ⟨fun i H=>∃xs x,bK K H a xs/\xs[i]? = some x,fun i H x H'=>H'=H /\ ∀xs,bK K H a xs->xs[i]? = some x,fun i H=>∃xs,bK K H a xs/\xs.length<=i⟩
def Itt (K:PySem.W.Frag) (a:Addr):It:=
 ⟨fun i H=>∃xs x,eV K H a xs/\xs[i]? = some x,fun i H x H'=>H'=H /\ ∀xs,eV K H a xs->xs[i]? = some x,fun i H=>∃xs,eV K H a xs/\xs.length<=i⟩
def Vo (lo:Int) (n:Nat):It:=⟨fun i _=>i<n,fun i H x H'=>H'=H/\x = .int (lo+i),fun i _=>n<=i⟩
theorem Mq {P:Program} {w:World} {K:PySem.W.Frag} {tg:Expr} (a it:Addr):Turn P w K tg (Vp K a) [it] it (fun i h=>h.IsListIter it a i) where
 mem:=by simp
 obj:=fun i h st b hb=>by
  have e:b=it:=by simpa using hb
  subst e;obtain ⟨o,e,c,d⟩:=st;exact ⟨o,e,fun v z=>by rw [d] at z;cases z⟩
 keep:=fun i h h' st k=>st.at fun o e=>k it (by simp) o e
 item:=by
  intro X hP hw hK hc i pins s σ H E I hf st hg;subst hP hw hK;obtain ⟨xs,x,hq,hx⟩:=hg;obtain ⟨its,rv,p,hz⟩:=I.list hq;obtain ⟨u,hu,ru⟩:=rv.get hx;obtain ⟨f0,f1,f2,f3,f4,f5⟩:=hf it (by simp);refine wpAny_pyNext_list_item st p.isList (x:=u) (by simpa using hu) fun h' st' sb=> ?_;have I1:Inv X pins σ H {s with heap:=h'}:=I.turned (t':=s.toks) (fun b o hb e=>(sb.2 b hb).trans e) f0 f1 f3 f4 f5;obtain ⟨o,e,c,d⟩:=id st';exact ⟨u,rfl,Lw (s:={s with heap:=h'}) e c d (by decide) ⟨x,H,I1,ru,⟨rfl,fun ys hy=>by rw [I.BP hy hq];exact hx⟩,st',fun b hb=>(hf b hb).1⟩⟩
 done:=by
  intro X hP hw hK hc i pins s σ H E I hf st hg;subst hP hw hK;obtain ⟨xs,hq,hx⟩:=hg;obtain ⟨its,rv,p,hz⟩:=I.list hq;obtain ⟨f0,f1,f2,f3,f4,f5⟩:=hf it (by simp);have hl:=rv.length;exact wpAny_pyNext_list_end (I.ok.hd hc) st p.isList (by simp;omega) fun h' eb=>⟨rfl,I.turned (t':=s.toks) (fun b o hb e=>eb b o hb e) f0 f1 f3 f4 f5⟩
 self:=fun _ _ _ _ _ st h=>wpAny_pyIter_listiter st h
theorem Ju {P:Program} {w:World} {K:PySem.W.Frag} {tg:Expr} (a it:Addr):Turn P w K tg (Itt K a) [it] it (fun i h=>h.IsTupleIter it a i) where
 mem:=by simp
 obj:=fun i h st b hb=>by
  have e:b=it:=by simpa using hb
  subst e;obtain ⟨o,e,c,d⟩:=st;exact ⟨o,e,fun v z=>by rw [d] at z;cases z⟩
 keep:=fun i h h' st k=>st.at fun o e=>k it (by simp) o e
 item:=by
  intro X hP hw hK hc i pins s σ H E I hf st hg;subst hP hw hK;obtain ⟨xs,x,hq,hx⟩:=hg;obtain ⟨its,rv,p,hz⟩:=I.tuple hq;obtain ⟨u,hu,ru⟩:=rv.get hx;obtain ⟨f0,f1,f2,f3,f4,f5⟩:=hf it (by simp);refine wpAny_pyNext_tuple_item st (show s.heap.IsTuple a its.toArray from p) (x:=u) (by simpa using hu) fun h' st' sb=> ?_;have I1:Inv X pins σ H {s with heap:=h'}:=I.turned (t':=s.toks) (fun b o hb e=>(sb.2 b hb).trans e) f0 f1 f3 f4 f5;obtain ⟨o,e,c,d⟩:=id st';exact ⟨u,rfl,Lw (s:={s with heap:=h'}) e c d (by decide) ⟨x,H,I1,ru,⟨rfl,fun ys hy=>by rw [I.Mr hy hq];exact hx⟩,st',fun b hb=>(hf b hb).1⟩⟩
 done:=by
  intro X hP hw hK hc i pins s σ H E I hf st hg;subst hP hw hK;obtain ⟨xs,hq,hx⟩:=hg;obtain ⟨its,rv,p,hz⟩:=I.tuple hq;obtain ⟨f0,f1,f2,f3,f4,f5⟩:=hf it (by simp);have hl:=rv.length;exact wpAny_pyNext_tuple_end (I.ok.hd hc) st (show s.heap.IsTuple a its.toArray from p) (by simp;omega) fun h' eb=>⟨rfl,I.turned (t':=s.toks) (fun b o hb e=>eb b o hb e) f0 f1 f3 f4 f5⟩
 self:=fun _ _ _ _ _ st h=>wpAny_pyIter_tupleiter st h
theorem Jv {P:Program} {w:World} {K:PySem.W.Frag} {tg:Expr} (it:Addr) (lo:Int) (n:Nat):Turn P w K tg (Vo lo n) [it] it (fun i h=>IsRangeIter h it (lo+(i:Nat)*1) ((n:Int) - (i:Nat)) 1) where
 mem:=by simp
 obj:=fun i h st b hb=>by
  have e:b=it:=by simpa using hb
  subst e
  exact ⟨_,st,fun v z=>by
   have z':Data.fields _=Data.cell v:=z;cases z'⟩
 keep:=fun i h h' st k=>k it (by simp) _ st
 item:=by
  intro X hP hw hK hc i pins s σ H E I hf st hg;subst hP hw hK;obtain ⟨f0,f1,f2,f3,f4,f5⟩:=hf it (by simp);have W:=Walks.range (prog:=X.prog) (w:=X.w) (I.ok.hd hc) it lo 1 n;refine W.item i s _ _ hg st fun v h' tk hv st' kk=> ?_;obtain ⟨t,rfl⟩:=hv;have I1:Inv X pins σ H {s with heap:=h',toks:=tk}:=I.turned (fun b o hb e=>kk b o (by simpa using hb) e) f0 f1 f3 f4 f5;refine ⟨_,rfl,Lw (s:={s with heap:=h',toks:=tk}) (n:= "range_iterator") st' rfl rfl (by decide) ⟨.int (lo+i),H,I1,⟨t, ?_⟩,⟨rfl,rfl⟩,st',fun b hb=>(hf b hb).1⟩⟩;rw [Int.mul_one]
 done:=by
  intro X hP hw hK hc i pins s σ H E I hf st hg;subst hP hw hK;obtain ⟨f0,f1,f2,f3,f4,f5⟩:=hf it (by simp);exact wpAny_pyNext_range_end (I.ok.hd hc) st (by have:n<=i:=hg;omega) fun h' eb=>⟨rfl,I.turned (t':=s.toks) (fun b o hb e=>eb b o hb e) f0 f1 f3 f4 f5⟩
 self:=fun _ _ _ _ _ st h=>wpAny_pyIter_rangeiter st h
end L2
namespace L2
open PySem PySem.Spec PyProof.Rows
section
variable {X:Cx} {tg:Expr}
def V3 (K:PySem.W.Frag) (tl:TE):TI:=fun σ H R=>tl σ H fun x H1=>∃a,x = .ref a/\(∃xs,bK K H1 a xs)/\R (Vp K a) H1
def aaw (K:PySem.W.Frag) (tl:TE):TI:=fun σ H R=>tl σ H fun x H1=>∃a,x = .ref a/\(∃xs,eV K H1 a xs)/\R (Itt K a) H1
theorem TQ {l:Expr} {tl:TE} (hl:PE X l tl):PI X tg l (V3 X.K tl):=by
 intro pins s σ H R I h;refine gU (hl pins s σ H _ I h) fun v s1 ⟨x,H1,I1,r1,q1⟩=> ?_;obtain ⟨a,e,⟨xs,hq⟩,q⟩:=q1;subst e;cases r1;obtain ⟨its,rv,p,hz⟩:=I1.list hq;refine wpAny_pyIter_list p.isList ?_;refine ⟨s1.heap.objs.size,[s1.heap.objs.size],_,_,H1,rfl,I1.kept (t':=s1.toks) fun b o e=>Heap.get?_push_of_some _ e,Mq a _,⟨_,Heap.get?_push_size _ rfl,rfl,rfl⟩,fun b hb=> ?_,q⟩;have e:b=s1.heap.objs.size:=by simpa using hb
 subst e;exact I1.Gw (Nat.le_refl _) (I1.hok.fresh (Nat.le_refl _))
theorem Xb {l:Expr} {tl:TE} (hl:PE X l tl):PI X tg l (aaw X.K tl):=by
 intro pins s σ H R I h;refine gU (hl pins s σ H _ I h) fun v s1 ⟨x,H1,I1,r1,q1⟩=> ?_;obtain ⟨a,e,⟨xs,hq⟩,q⟩:=q1;subst e;cases r1;obtain ⟨its,rv,p,hz⟩:=I1.tuple hq;refine wpAny_pyIter_tuple (show s1.heap.IsTuple a its.toArray from p) ?_;refine ⟨s1.heap.objs.size,[s1.heap.objs.size],_,_,H1,rfl,I1.kept (t':=s1.toks) fun b o e=>Heap.get?_push_of_some _ e,Ju a _,⟨_,Heap.get?_push_size _ rfl,rfl,rfl⟩,fun b hb=> ?_,q⟩;have e:b=s1.heap.objs.size:=by simpa using hb
 subst e;exact I1.Gw (Nat.le_refl _) (I1.hok.fresh (Nat.le_refl _))
theorem Qe {pins:List (Addr×Obj)} {σ:St} {H:Hp} {s:Shared} {R:It->Hp->Prop} {E:Value->Shared->Prop} {lo hi:Int} {t u v:Tok} {tk:Nat} (I:Inv X pins σ H s) (h1: -(2 ^ 62)<=lo) (h2:lo<2 ^ 62) (h3: -(2 ^ 62)<=hi) (h4:hi<2 ^ 62)
 (q:R (Vo lo (hi - lo).toNat) H):wpAny (model X.prog X.w) X.A (pyIter (.ref s.heap.objs.size)) (PIE X pins σ tg R) E {s with heap:=s.heap.push {cls:= .type "range",data:= .fields #[.int lo t,.int hi u,.int 1 v]},toks:=tk}:=by
 refine wpAny_pyIter_range (IsRange.new ..) (small_one h1 h2 h3 h4) ?_;have I1:Inv X pins σ H {s with heap:=s.heap.push {cls:= .type "range",data:= .fields #[.int lo t,.int hi u,.int 1 v]},toks:=tk}:=I.kept fun b o e=>Heap.get?_push_of_some _ e
 refine ⟨(s.heap.push {cls:= .type "range",data:= .fields #[.int lo t,.int hi u,.int 1 v]}).objs.size,[(s.heap.push {cls:= .type "range",data:= .fields #[.int lo t,.int hi u,.int 1 v]}).objs.size],_,_,H,rfl,
  I1.kept (t':=tk) fun b o e=>Heap.get?_push_of_some _ e,Jv _ lo (hi - lo).toNat, ?_,fun b hb=> ?_,q⟩
 ·have e1:lo+((0:Nat):Int)*1=lo:=by simp
  have e2:(((hi - lo).toNat:Nat):Int) - ((0:Nat):Int)=Builtin.Range.rangeSize lo hi 1:=by rw [rangeSize_one];split<;>omega
  show IsRangeIter _ _ (lo+((0:Nat):Int)*1) ((((hi - lo).toNat:Nat):Int) - ((0:Nat):Int)) 1;rw [e1,e2];exact Heap.get?_push_size _ rfl
 ·have e:b=(s.heap.push {cls:= .type "range",data:= .fields #[.int lo t,.int hi u,.int 1 v]}).objs.size:=by simpa using hb
  subst e;exact I1.Gw (Nat.le_refl _) (I1.hok.fresh (Nat.le_refl _))
def aax (ta:TA):TI:=fun σ H R=>ta σ H fun vs H1=>∃j:Int,vs=[.int j] /\ -(2 ^ 62)<=j/\j<2 ^ 62/\R (Vo 0 j.toNat) H1
theorem gH {a:Expr} {ta:TA} {p pos:Pos} (hg:Gl X "range") (hm:X.mg "range" = none) (ha:PA X [a] ta) (hs:starEach [a] X.env=[(false,eval a X.env)]:=by rfl):PI X tg (.Call (.Name "range" p) [a] [] pos) (aax ta):=by
 intro pins s σ H R I h;refine Call_ (BR I hg hm boot_range (PyProof.Rows.callWith_type1 (gU (ha pos pins s σ H _ I h) fun us s1 ⟨vs,H1,I1,r1,q1⟩=> ?_) hs rfl));obtain ⟨j,e,q1,q2,q⟩:=q1;subst e;cases r1 with
 | cons r rr=>
   cases rr;obtain ⟨t,rfl⟩:=r;exact call_range_1 (Qe I1 (by omega) (by omega) q1 q2 (by simpa using q))
def adK (wi:TI) (g:TG) (tb:TS):TS:=fun D σ H=>wi σ H fun J H1=>∃W:Nat->Nat->St->Hp->Prop,(∃m,W 0 m σ H1) /\ ∀i m σ H,W i m σ H ->
 (J.stop i H/\D.nx σ H)\/(J.go i H /\ ∃N:St->Hp->Prop,(∀σ' H',N σ' H' -> ∃m',m'<m/\W (i+1) m' σ' H') /\ ∀x H',J.YW i H x H'->g x σ H' fun σ2 H2=>tb {D with nx:=N,ct:=N,bk:=D.nx} σ2 H2)
def Bs (fp:List Addr) (h:Heap):List (Addr×Obj):=fp.filterMap fun b=>(h.get? b).map fun o=>(b,o)
theorem sZ {fp:List Addr} {h:Heap} {b:Addr} {o:Obj} (hb:b∈fp) (e:h.get? b=some o):(b,o)∈Bs fp h:=List.mem_filterMap.mpr ⟨b,hb,by rw [e];rfl⟩
theorem Nm {fp:List Addr} {h:Heap} {p:Addr×Obj} (hp:p∈Bs fp h):p.1∈fp/\h.get? p.1=some p.2:=by
 obtain ⟨b,hb,e⟩:=List.mem_filterMap.mp hp;cases q:h.get? b with
 | none=>rw [q] at e;cases e
 | some o=>
   rw [q] at e;have e':(b,o)=p:=Option.some.inj e;subst e';exact ⟨hb,q⟩
theorem Inv.pinned {pins:List (Addr×Obj)} {σ:St} {H:Hp} {s:Shared} {fp:List Addr} (I:Inv X pins σ H s) (hf:∀b∈fp,xr X pins H b) (ho:∀b∈fp,∃o,s.heap.get? b=some o /\ ∀v,o.data ≠ .cell v):Inv X (pins++Bs fp s.heap) σ H s:=
 I.K8 fun p hp=>(List.mem_append.mp hp).elim (fun z=>I.pin p (List.mem_append_right _ z)) fun z=>by
  obtain ⟨hb,e⟩:=Nm z;obtain ⟨f0,f1,f2,_⟩:=hf p.1 hb;obtain ⟨o,e',d⟩:=ho p.1 hb;rw [e] at e';cases e';exact ⟨e,f0,f1,f2,d⟩
theorem Inv.xK {pins pl:List (Addr×Obj)} {σ:St} {H:Hp} {s:Shared} (I:Inv X (pins++pl) σ H s):Inv X pins σ H s:=I.K8 fun p hp=>I.pin p (List.mem_append_right _ (List.mem_append_left _ hp))
theorem mV {iter:Expr} {body:List Stmt} {wi:TI} {g:TG} {tb:TS} {pos:Pos} (hp:PassesOwn (model X.prog X.w) X.A X.env X.xe) (hc:X.calm=true) (hi:PI X tg iter wi) (hg:PG X tg g) (hb:Jh X body tb)
 (hs:∀x,foldedSetIterable iter X.env x=pure x:=by intro _;rfl):PS X (.For tg iter body [] pos) (adK wi g tb):=by
 intro pins s σ H D I h;refine wpAny_For (gU (hi pins s σ H _ I h) fun v s1 h1=>gU h1 fun itv s2 h2=> ?_) hs;obtain ⟨it,fp,tn,J,H2,e,I2,T,st2,f2,W,⟨m0,w0⟩,turn⟩:=h2;subst e;have stat:∀{H':Hp},(∀b∈fp,H' b=none) -> ∀b∈fp,xr X pins H' b:=fun hn b hb=>⟨hn b hb,(f2 b hb).2⟩;refine codeAny_forLoop_any (fun n s'=>∃i σ' H',Inv X pins σ' H' s'/\tn i s'.heap/\(∀b∈fp,H' b=none)/\W i n σ' H') ?_ m0 ⟨0,σ,H2,I2,st2,fun b hb=>(f2 b hb).1,w0⟩;rintro n s3 ⟨i,σ3,H3,I3,st3,fr3,w3⟩;rcases turn i n σ3 H3 w3 with ⟨stop,qn⟩|⟨go,N,hN,step⟩
 ·refine wpAny_passesOwn hp (gU (T.done X rfl rfl rfl hc i pins s3 σ3 H3 X.xe I3 (stat fr3) st3 stop) fun r s4 ⟨hr,I4⟩=> ?_)
  subst hr;exact wpAny_execs_nil ⟨σ3,H3,I4,qn⟩
 ·refine wpAny_passesOwn hp (gU (T.item X rfl rfl rfl hc i pins s3 σ3 H3 X.xe I3 (stat fr3) st3 go) fun r s4 ⟨u,hr,h4⟩=> ?_)
  subst hr;refine wpAny_passesOwn hp (gU h4 fun _ s5 ⟨x,H5,I5,r5,y5,WM,fr5⟩=> ?_);have I5':=I5.pinned (stat fr5) (T.obj _ _ WM);refine wpAny_passesOwn hp (gU (hg _ s5 σ3 H5 x u _ I5' r5 (step x H5 y5)) fun _ s6 ⟨σ6,H6,I6,q6⟩=> ?_);refine wpAny_passesOwn hp (gU (hb _ s6 σ6 H6 _ I6 q6) fun f s7 q7=> ?_)
  have again:∀{σ7:St} {H7:Hp},Inv X (pins++Bs fp s5.heap) σ7 H7 s7->N σ7 H7 -> ∃m,m<n /\ ∃i σ' H',Inv X pins σ' H' s7/\tn i s7.heap/\(∀b∈fp,H' b=none)/\W i m σ' H':=fun {σ7 H7} I7 n7=>by
   obtain ⟨m',hm,w7⟩:=hN σ7 H7 n7;refine ⟨m',hm,i+1,σ7,H7,I7.xK,T.keep _ _ _ WM fun b hb o e=>(I7.pin (b,o) (List.mem_append_right _ (List.mem_append_right _ (sZ hb e)))).1,fun b hb=> ?_,w7⟩;obtain ⟨o,e,d⟩:=T.obj _ _ WM b hb;exact (I7.pin (b,o) (List.mem_append_right _ (List.mem_append_right _ (sZ hb e)))).2.1
  cases f with
  | next=>obtain ⟨σ7,H7,I7,n7⟩:=q7;exact again I7 n7
  | cont=>obtain ⟨σ7,H7,I7,n7⟩:=q7;exact again I7 n7
  | brk=>obtain ⟨σ7,H7,I7,q7⟩:=q7;exact ⟨σ7,H7,I7.xK,q7⟩
  | ret v=>obtain ⟨x7,σ7,H7,I7,r7,q7⟩:=q7;exact ⟨x7,σ7,H7,I7.xK,r7,q7⟩
end
theorem pF {K:PySem.W.Frag} {a:Addr} {xs:List V} {g:TG} {tb:TS} {D:Ends} {σ:St} {H:Hp} (Pv:Nat->St->Hp->Prop) (h0:Pv 0 σ H) (hl:∀i σ H,i<=xs.length->Pv i σ H->bK K H a xs)
 (hs:∀i x σ H,xs[i]? = some x->Pv i σ H->g x σ H fun σ2 H2=>tb {D with nx:=Pv (i+1),ct:=Pv (i+1),bk:=D.nx} σ2 H2) (hd:∀σ H,Pv xs.length σ H->D.nx σ H):
 ∃W:Nat->Nat->St->Hp->Prop,(∃m,W 0 m σ H) /\ ∀i m σ H,W i m σ H ->
  ((Vp K a).stop i H/\D.nx σ H)\/((Vp K a).go i H /\ ∃N:St->Hp->Prop,(∀σ' H',N σ' H' -> ∃m',m'<m/\W (i+1) m' σ' H') /\ ∀x H',(Vp K a).YW i H x H'->g x σ H' fun σ2 H2=>tb {D with nx:=N,ct:=N,bk:=D.nx} σ2 H2):=by
 refine ⟨fun i m σ H=>m=xs.length - i/\i<=xs.length/\Pv i σ H,⟨xs.length,by simp,Nat.zero_le _,h0⟩, ?_⟩;rintro i m σ H ⟨rfl,hi,p⟩;have q:=hl i σ H hi p
 by_cases hlt:i<xs.length
 ·refine .inr ⟨⟨xs,xs[i],q,by simp [hlt]⟩,Pv (i+1),fun σ' H' p'=>⟨xs.length - (i+1),by omega,rfl,hlt,p'⟩,fun x H' y=> ?_⟩
  obtain ⟨e,y⟩:=y;subst e;exact hs i x σ _ (y xs q) p
 ·have e:i=xs.length:=by omega
  subst e;exact .inl ⟨⟨xs,q,Nat.le_refl _⟩,hd σ H p⟩
theorem rE {lo:Int} {n:Nat} {g:TG} {tb:TS} {D:Ends} {σ:St} {H:Hp} (Pv:Nat->St->Hp->Prop) (h0:Pv 0 σ H)
 (hs:∀i σ H,i<n->Pv i σ H->g (.int (lo+i)) σ H fun σ2 H2=>tb {D with nx:=Pv (i+1),ct:=Pv (i+1),bk:=D.nx} σ2 H2) (hd:∀σ H,Pv n σ H->D.nx σ H):
 ∃W:Nat->Nat->St->Hp->Prop,(∃m,W 0 m σ H) /\ ∀i m σ H,W i m σ H ->
  ((Vo lo n).stop i H/\D.nx σ H)\/((Vo lo n).go i H /\ ∃N:St->Hp->Prop,(∀σ' H',N σ' H' -> ∃m',m'<m/\W (i+1) m' σ' H') /\ ∀x H',(Vo lo n).YW i H x H'->g x σ H' fun σ2 H2=>tb {D with nx:=N,ct:=N,bk:=D.nx} σ2 H2):=by
 refine ⟨fun i m σ H=>m=n - i/\i<=n/\Pv i σ H,⟨n,by simp,Nat.zero_le _,h0⟩, ?_⟩;rintro i m σ H ⟨rfl,hi,p⟩
 by_cases hlt:i<n
 ·refine .inr ⟨hlt,Pv (i+1),fun σ' H' p'=>⟨n - (i+1),by omega,rfl,hlt,p'⟩,fun x H' y=> ?_⟩
  obtain ⟨e,y⟩:=y;subst e y;exact hs i σ _ hlt p
 ·have e:i=n:=by omega
  subst e;exact .inl ⟨Nat.le_refl _,hd σ H p⟩
end L2
namespace L2
open PySem PySem.Spec PyProof.Rows
abbrev R2:=V->V->Hp->VK->Prop
def xq (X:Cx) (f:Value->Value->Sem Value) (r:R2):Prop:=
 ∀(pins:List (Addr×Obj)) (s:Shared) (σ:St) (H:Hp) (x y:V) (v u:Value) (Q:VK),Inv X pins σ H s->RelV x v->RelV y u->r x y H Q ->
  wpAny (model X.prog X.w) X.A (f v u) (EP X pins σ Q) X.xe s
def UnR (X:Cx) (f:Value->Sem Value) (r:V->Hp->VK->Prop):Prop:=
 ∀(pins:List (Addr×Obj)) (s:Shared) (σ:St) (H:Hp) (x:V) (v:Value) (Q:VK),Inv X pins σ H s->RelV x v->r x H Q ->
  wpAny (model X.prog X.w) X.A (f v) (EP X pins σ Q) X.xe s
def mZ (X:Cx) (f:Value) (r:List V->Hp->VK->Prop):Prop:=
 ∀(pins:List (Addr×Obj)) (s:Shared) (σ:St) (H:Hp) (xs:List V) (us:List Value) (Q:VK),Inv X pins σ H s->Vals xs us->r xs H Q ->
  wpAny (model X.prog X.w) X.A (call f us) (EP X pins σ Q) X.xe s
def aks (X:Cx) (r:V->Hp->(Bool->Hp->Prop)->Prop):Prop:=
 ∀(pins:List (Addr×Obj)) (s:Shared) (σ:St) (H:Hp) (x:V) (v:Value) (Q:Bool->Hp->Prop),Inv X pins σ H s->RelV x v->r x H Q ->
  wpAny (model X.prog X.w) X.A (truthy v) (TP X pins σ Q) X.xe s
def tOp (r:R2) (ta tb:TE):TE:=fun σ H Q=>ta σ H fun x H1=>tb σ H1 fun y H2=>r x y H2 Q
def tUn (r:V->Hp->VK->Prop) (ta:TE):TE:=fun σ H Q=>ta σ H fun x H1=>r x H1 Q
def rI (C:Int->Int->Prop) (g:Int->Int->V):R2:=fun x y H Q=>∃i j,x = .int i/\y = .int j/\C i j/\Q (g i j) H
def VJ (g:Int->Int->V):R2:=fun x y H Q=>∃i j,x = .int i/\y = .int j/\Q (g i j) H
def rU (g:Int->V):V->Hp->VK->Prop:=fun x H Q=>∃i,x = .int i/\Q (g i) H
section
variable {X:Cx} {a b c:Expr} {ta tb tc:TE} {pos:Pos}
theorem YB (ha:PE X a ta) (hb:PE X b tb) {pins:List (Addr×Obj)} {s:Shared} {σ:St} {H:Hp} {R:V->V->Hp->Prop} (I:Inv X pins σ H s)
 (h:ta σ H fun x H1=>tb σ H1 fun y H2=>R x y H2) {Q:Value->Shared->Prop} {f:Value->Value->Sem Value}
 (hf:∀v u s2 x y H2,Inv X pins σ H2 s2->RelV x v->RelV y u->R x y H2->wpAny (model X.prog X.w) X.A (f v u) Q X.xe s2):
 wpAny (model X.prog X.w) X.A (eval a X.env) (fun v s₁=>wpAny (model X.prog X.w) X.A (eval b X.env) (fun u s₂=>wpAny (model X.prog X.w) X.A (f v u) Q X.xe s₂) X.xe s₁) X.xe s:=by
 refine gU (ha pins s σ H _ I h) fun v s1 ⟨x,H1,I1,r1,q1⟩=> ?_;refine gU (hb pins s1 σ H1 _ I1 q1) fun u s2 ⟨y,H2,I2,r2,q2⟩=> ?_;exact hf v u s2 x y H2 I2 r1 r2 q2
theorem bM {op:Operator} {r:R2} (ho:xq X (binaryOp op) r) (ha:PE X a ta) (hb:PE X b tb):PE X (.BinOp a op b pos) (tOp r ta tb):=by
 intro pins s σ H Q I h;exact wpAny_BinOp (YB ha hb I h fun v u s2 x y H2 I2 rx ry q=>ho pins s2 σ H2 x y v u Q I2 rx ry q)
theorem Hu {op:UnaryOp} {r:V->Hp->VK->Prop} (ho:UnR X (unaryOp op) r) (ha:PE X a ta):PE X (.UnaryOp op a pos) (tUn r ta):=by
 intro pins s σ H Q I h;exact UnaryOp_ (gU (ha pins s σ H _ I h) fun v s1 ⟨x,H1,I1,r1,q1⟩=>ho pins s1 σ H1 x v Q I1 r1 q1)
theorem opI {f:Value->Value->Sem Value} {C:Int->Int->Prop} {g:Int->Int->Int}
 (rule:∀(i j:Int) (t u:Tok) (s:Shared) (Q:Value->Shared->Prop) (E:Value->Shared->Prop),C i j->Q (.int (g i j) s.toks) {s with toks:=s.toks+1}->wpAny (model X.prog X.w) X.A (f (.int i t) (.int j u)) Q E s):
 xq X f (rI C fun i j=> .int (g i j)):=by
 intro pins s σ H x y v u Q I rx ry h;obtain ⟨i,j,rfl,rfl,hc,q⟩:=h;obtain ⟨t,rfl⟩:=rx;obtain ⟨t',rfl⟩:=ry;exact rule i j t t' s _ _ hc ⟨.int (g i j),H,I.tok _,⟨_,rfl⟩,q⟩
theorem aaj {f:Value->Value->Sem Value} {g:Int->Int->Int}
 (rule:∀(i j:Int) (t u:Tok) (s:Shared) (Q:Value->Shared->Prop) (E:Value->Shared->Prop),Q (.int (g i j) s.toks) {s with toks:=s.toks+1}->wpAny (model X.prog X.w) X.A (f (.int i t) (.int j u)) Q E s):
 xq X f (VJ fun i j=> .int (g i j)):=by
 intro pins s σ H x y v u Q I rx ry h;obtain ⟨i,j,rfl,rfl,q⟩:=h;obtain ⟨t,rfl⟩:=rx;obtain ⟨t',rfl⟩:=ry;exact rule i j t t' s _ _ ⟨.int (g i j),H,I.tok _,⟨_,rfl⟩,q⟩
theorem T7 {f:Value->Value->Sem Value} {g:Int->Int->Bool}
 (rule:∀(i j:Int) (t u:Tok) (s:Shared) (Q:Value->Shared->Prop) (E:Value->Shared->Prop),Q (.bool (g i j)) s->wpAny (model X.prog X.w) X.A (f (.int i t) (.int j u)) Q E s):
 xq X f (VJ fun i j=> .bl (g i j)):=by
 intro pins s σ H x y v u Q I rx ry h;obtain ⟨i,j,rfl,rfl,q⟩:=h;obtain ⟨t,rfl⟩:=rx;obtain ⟨t',rfl⟩:=ry;exact rule i j t t' s _ _ ⟨.bl (g i j),H,I,rfl,q⟩
def Vw (i j:Int):Prop:=0<j/\j<1073741824
def Vv (i j:Int):Prop:=0<=j/\j<=1000000/\i.natAbs<2 ^ 64
def YT (i j:Int):Prop:=(-(2 ^ 64)<i/\i<2 ^ 64)\/(-(2 ^ 64)<j/\j<2 ^ 64)
theorem YT.ok {i j:Int} (h:YT i j):IntMulOk i j:=by
 rcases h with ⟨h1,h2⟩|⟨h1,h2⟩
 ·exact .of_left (intBits_le_64 h1 h2)
 ·exact .of_right (intBits_le_64 h1 h2)
theorem fD:xq X (binaryOp .Add) (VJ fun i j=> .int (i+j)):=aaj fun _ _ _ _ _ _ _ q=>add_int q
theorem mX:xq X (binaryOp .Sub) (VJ fun i j=> .int (i - j)):=aaj fun _ _ _ _ _ _ _ q=>sub_int q
theorem sY:xq X (binaryOp .Mult) (rI YT fun i j=> .int (i*j)):=opI fun _ _ _ _ _ _ _ hc q=>mul_int q hc.ok
theorem Gh:xq X (binaryOp .FloorDiv) (rI Vw fun i j=> .int (i / j)):=opI fun i j _ _ _ _ _ hc q=>by
 have h1:(0:Int)<j:=hc.1;have h2:j<1073741824:=hc.2;exact floordiv_int (by omega) (by rw [Int.fdiv_eq_ediv_of_nonneg i (by omega)];exact q) (.inl (PyProof.noPylong_small (by omega)))
theorem pP:xq X (binaryOp .Mod) (rI (fun _ j=>0<j) fun i j=> .int (i % j)):=opI fun i j _ _ _ _ _ hc q=>by
 have h1:(0:Int)<j:=hc;exact mod_int' (by omega) (by rw [Int.fmod_eq_emod_of_nonneg i (by omega)];exact q)
theorem JR:xq X (binaryOp .Pow) (rI Vv fun i j=> .int (i ^ j.toNat)):=opI fun _ _ _ _ _ _ _ hc q=>pow_int_small hc.1 hc.2.1 hc.2.2 q
theorem unI {f:Value->Sem Value} {g:Int->Int}
 (rule:∀(i:Int) (t:Tok) (s:Shared) (Q:Value->Shared->Prop) (E:Value->Shared->Prop),Q (.int (g i) s.toks) {s with toks:=s.toks+1}->wpAny (model X.prog X.w) X.A (f (.int i t)) Q E s):
 UnR X f (rU fun i=> .int (g i)):=by
 intro pins s σ H x v Q I rx h;obtain ⟨i,rfl,q⟩:=h;obtain ⟨t,rfl⟩:=rx;exact rule i t s _ _ ⟨.int (g i),H,I.tok _,⟨_,rfl⟩,q⟩
theorem Av:UnR X (unaryOp .USub) (rU fun i=> .int (-i)):=unI fun _ _ _ _ _ q=>neg_int q
end
def ZP:V->V->Bool
 | .non,.non=>true | .non,.int _=>true | .int _,.non=>true | .non,.bl _=>true | .bl _,.non=>true | .non,.str _=>true | .str _,.non=>true
 | .int _,.int _=>true | .bl _,.bl _=>true | .str _,.str _=>true | .Ma _,.Ma _=>true
 | .int _,.str _=>true | .str _,.int _=>true | .bl _,.str _=>true | .str _,.bl _=>true
 | _,_=>false
def rEq:R2:=fun x y H Q=>ZP x y=true/\Q (.bl (decide (x=y))) H
def rNe:R2:=fun x y H Q=>ZP x y=true/\Q (.bl (!decide (x=y))) H
theorem LC {i j:Int}:decide (V.int i=V.int j)=(i==j):=by
 rw [Bool.eq_iff_iff];simp
theorem Rm {i j:Bool}:decide (V.bl i=V.bl j)=(i==j):=by
 rw [Bool.eq_iff_iff];simp
theorem Lz {i j:Str}:decide (V.str i=V.str j)=(i==j):=by
 rw [Bool.eq_iff_iff];simp
theorem LK {i j:Array UInt8}:decide (V.Ma i=V.Ma j)=(i.toList==j.toList):=by
 rw [Bool.eq_iff_iff];cases i;cases j;simp
section
variable {X:Cx} {a b c:Expr} {ta tb tc:TE} {pos:Pos}
theorem fG {pins:List (Addr×Obj)} {σ:St} {H:Hp} {s:Shared} {Q:VK} {k k':Bool} (I:Inv X pins σ H s) (q:Q (.bl k) H) (e:k=k'):EP X pins σ Q (.bool k') s:=by
 subst e;exact ⟨.bl k,H,I,rfl,q⟩
theorem gF:xq X (compareOp .Eq) rEq:=by
 intro pins s σ H x y v u Q I rx ry h;obtain ⟨hs,q⟩:=h;cases x with
 | non=>
   cases rx;cases y with
   | non=>cases ry;exact PySem.EqNone.eq_none_none (fG I q (by simp))
   | bl j=>cases ry;exact PySem.EqNone.eq_none_bool (fG I q (by simp))
   | int j=>obtain ⟨t',rfl⟩:=ry;exact PySem.EqNone.eq_none_int (fG I q (by simp))
   | str j=>obtain ⟨t',rfl⟩:=ry;exact PySem.EqNone.eq_none_str (fG I q (by simp))
   | _=>exact absurd (show false=true from hs) Bool.false_ne_true
 | bl i=>
   cases rx;cases y with
   | non=>cases ry;exact PySem.EqNone.eq_bool_none (fG I q (by simp))
   | bl j=>cases ry;exact eq_bool (fG I q Rm)
   | str j=>obtain ⟨t',rfl⟩:=ry;exact PySem.EqMixed.eq_bool_str (fG I q (by simp))
   | _=>exact absurd (show false=true from hs) Bool.false_ne_true
 | int i=>
   obtain ⟨t,rfl⟩:=rx;cases y with
   | non=>cases ry;exact PySem.EqNone.eq_int_none (fG I q (by simp))
   | int j=>obtain ⟨t',rfl⟩:=ry;exact eq_int (fG I q LC)
   | str j=>obtain ⟨t',rfl⟩:=ry;exact PySem.EqMixed.eq_int_str (fG I q (by simp))
   | _=>exact absurd (show false=true from hs) Bool.false_ne_true
 | str i=>
   obtain ⟨t,rfl⟩:=rx;cases y with
   | non=>cases ry;exact PySem.EqNone.eq_str_none (fG I q (by simp))
   | bl j=>cases ry;exact PySem.EqMixed.eq_str_bool (fG I q (by simp))
   | int j=>obtain ⟨t',rfl⟩:=ry;exact PySem.EqMixed.eq_str_int (fG I q (by simp))
   | str j=>obtain ⟨t',rfl⟩:=ry;exact eq_str (fG I q Lz)
   | _=>exact absurd (show false=true from hs) Bool.false_ne_true
 | Ma i=>
   obtain ⟨t,rfl⟩:=rx;cases y with
   | Ma j=>obtain ⟨t',rfl⟩:=ry;exact PySem.W.eq_bytes (fG I q LK)
   | _=>exact absurd (show false=true from hs) Bool.false_ne_true
 | _=>cases y<;>exact absurd (show false=true from hs) Bool.false_ne_true
theorem HB:xq X (compareOp .NotEq) rNe:=by
 intro pins s σ H x y v u Q I rx ry h;obtain ⟨hs,q⟩:=h;cases x with
 | non=>
   cases rx;cases y with
   | non=>cases ry;exact PySem.EqNone.ne_none_none (fG I q (by simp))
   | bl j=>cases ry;exact PySem.EqNone.ne_none_bool (fG I q (by simp))
   | int j=>obtain ⟨t',rfl⟩:=ry;exact PySem.EqNone.ne_none_int (fG I q (by simp))
   | str j=>obtain ⟨t',rfl⟩:=ry;exact PySem.EqNone.ne_none_str (fG I q (by simp))
   | _=>exact absurd (show false=true from hs) Bool.false_ne_true
 | bl i=>
   cases rx;cases y with
   | non=>cases ry;exact PySem.EqNone.ne_bool_none (fG I q (by simp))
   | bl j=>cases ry;exact ne_bool (fG I q (congrArg not Rm))
   | str j=>obtain ⟨t',rfl⟩:=ry;exact PySem.EqMixed.ne_bool_str (fG I q (by simp))
   | _=>exact absurd (show false=true from hs) Bool.false_ne_true
 | int i=>
   obtain ⟨t,rfl⟩:=rx;cases y with
   | non=>cases ry;exact PySem.EqNone.ne_int_none (fG I q (by simp))
   | int j=>obtain ⟨t',rfl⟩:=ry;exact ne_int (fG I q (congrArg not LC))
   | str j=>obtain ⟨t',rfl⟩:=ry;exact PySem.EqMixed.ne_int_str (fG I q (by simp))
   | _=>exact absurd (show false=true from hs) Bool.false_ne_true
 | str i=>
   obtain ⟨t,rfl⟩:=rx;cases y with
   | non=>cases ry;exact PySem.EqNone.ne_str_none (fG I q (by simp))
   | bl j=>cases ry;exact PySem.EqMixed.ne_str_bool (fG I q (by simp))
   | int j=>obtain ⟨t',rfl⟩:=ry;exact PySem.EqMixed.ne_str_int (fG I q (by simp))
   | str j=>obtain ⟨t',rfl⟩:=ry;exact ne_str (fG I q (congrArg not Lz))
   | _=>exact absurd (show false=true from hs) Bool.false_ne_true
 | Ma i=>
   obtain ⟨t,rfl⟩:=rx;cases y with
   | Ma j=>obtain ⟨t',rfl⟩:=ry;exact PySem.W.ne_bytes (fG I q (congrArg not LK))
   | _=>exact absurd (show false=true from hs) Bool.false_ne_true
 | _=>cases y<;>exact absurd (show false=true from hs) Bool.false_ne_true
theorem uY:xq X (compareOp .Lt) (VJ fun i j=> .bl (decide (i<j))):=T7 fun _ _ _ _ _ _ _ q=>lt_int q
theorem Lb:xq X (compareOp .LtE) (VJ fun i j=> .bl (decide (i<=j))):=T7 fun _ _ _ _ _ _ _ q=>le_int q
theorem yc:xq X (compareOp .Gt) (VJ fun i j=> .bl (decide (j<i))):=T7 fun _ _ _ _ _ _ _ q=>gt_int q
theorem aai:xq X (compareOp .GtE) (VJ fun i j=> .bl (decide (j<=i))):=T7 fun _ _ _ _ _ _ _ q=>ge_int q
theorem Gg:xq X (compareOp .Is) (fun x y H Q=>y = .non/\Q (.bl (decide (x = .non))) H):=by
 intro pins s σ H x y v u Q I rx ry h;obtain ⟨rfl,q⟩:=h;cases ry;refine is_none_gen (fG I q ?_)
 cases x<;>first
  | (cases rx;rfl)
  | (obtain ⟨t,rfl⟩:=rx;rfl)
theorem vA:xq X (compareOp .IsNot) (fun x y H Q=>y = .non/\Q (.bl (!decide (x = .non))) H):=by
 intro pins s σ H x y v u Q I rx ry h;obtain ⟨rfl,q⟩:=h;cases ry;refine isnot_none_gen (fG I q ?_)
 cases x<;>first
  | (cases rx;rfl)
  | (obtain ⟨t,rfl⟩:=rx;rfl)
def isObj:HO->Bool
 | .lst _=>true
 | .ins _ _ _=>true
 | _=>false
theorem bB (b:Expr) {op:CmpOp} (h:op ≠ .In:=by decide) (h2:op ≠ .NotIn:=by decide):behindInMarks op b=false:=by
 have e1:(op==CmpOp.In)=false:=by cases op<;>first |rfl|exact absurd rfl h
 have e2:(op==CmpOp.NotIn)=false:=by cases op<;>first |rfl|exact absurd rfl h2
 cases b<;>simp [behindInMarks,e1,e2]
theorem lF {op:CmpOp} {r:R2} (ho:xq X (compareOp op) r) (ha:PE X a ta) (hb:PE X b tb) (hm:behindInMarks op b=false):PE X (.Compare a [op] [b] pos) (tOp r ta tb):=by
 intro pins s σ H Q I h;exact wpAny_Compare1 (YB ha hb I h fun v u s2 x y H2 I2 rx ry q=>ho pins s2 σ H2 x y v u Q I2 rx ry q) hm
def Zy (t:TE):TT:=fun σ H Q=>t σ H fun x H'=>∃k,x = .bl k/\Q k H'
theorem aZ {op:CmpOp} {r:R2} (ho:xq X (compareOp op) r) (ha:PE X a ta) (hb:PE X b tb) (hm:behindInMarks op b=false):PT X (.Compare a [op] [b] pos) (Zy (tOp r ta tb)):=by
 intro pins s σ H Q I h
 refine wpAny_isTrue_Compare1 (gU (ha pins s σ H _ I h) fun v s1 ⟨x,H1,I1,r1,q1⟩=>gU (hb pins s1 σ H1 _ I1 q1) fun u s2 ⟨y,H2,I2,r2,q2⟩=>
  gU (ho pins s2 σ H2 x y v u _ I2 r1 r2 q2) fun c s3 ⟨z,H3,I3,r3,k,e,q3⟩=> ?_) hm
 subst e;cases r3;exact wpAny_truthy_bool ⟨H3,I3,q3⟩
def Wz (r r':R2) (ta tb tc:TE):TE:=fun σ H Q=>ta σ H fun x H1=>tb σ H1 fun y H2=>r x y H2 fun z H3=>∃k,z = .bl k /\
 (if k=true then tc σ H3 fun w' H4=>r' y w' H4 Q else Q (.bl false) H3)
theorem Qm {op op':CmpOp} {r r':R2} (ho:xq X (compareOp op) r) (ho':xq X (compareOp op') r') (ha:PE X a ta) (hb:PE X b tb) (hc:PE X c tc)
 (hm:lastMarks [op,op'] [b,c]=false:=by with_unfolding_all rfl):PE X (.Compare a [op,op'] [b,c] pos) (Wz r r' ta tb tc):=by
 intro pins s σ H Q I h
 refine Compare_chain (gU (ha pins s σ H _ I h) fun v s1 ⟨x,H1,I1,r1,q1⟩=>chain_link (gU (hb pins s1 σ H1 _ I1 q1) fun u s2 ⟨y,H2,I2,r2,q2⟩=>
  gU (ho pins s2 σ H2 x y v u _ I2 r1 r2 q2) fun d s3 ⟨z,H3,I3,r3,k,e,q3⟩=> ?_)) hm
 subst e;cases r3;refine wpAny_truthy_bool ?_;cases k with
 | false=>exact ite_ff ⟨.bl false,H3,I3,rfl,q3⟩
 | true=>exact ite_tt (chain_last (gU (hc pins s3 σ H3 _ I3 q3) fun w' s4 ⟨z',H4,I4,r4,q4⟩=>ho' pins s4 σ H4 y z' u w' Q I4 r2 r4 q4))
def Vj (K:PySem.W.Frag) (x:V) (H:Hp) (k:Bool):Prop:=
 match x with
 | .non=>k=false
 | .bl b=>k=b
 | .int i=>k=(i != 0)
 | .str y=>y.length<=sizeLine/\k=((y.length:Int) != 0)
 | .Ma y=>y.size<=sizeLine/\k=((y.size:Int) != 0)
 | .ref p=>(∃xs,bK K H p xs/\k = !xs.isEmpty)\/(∃xs,eV K H p xs/\k = !xs.isEmpty) \/ ∃kvs,H p=some (.dK kvs)/\k = !kvs.isEmpty
 | _=>False
theorem J8 {κ:Type} {kvs:List (κ×V)} {vs:List (κ×Value)} (r:KV kvs vs):(!vs.isEmpty) = !kvs.isEmpty:=by
 cases r<;>rfl
theorem BX {xs:List V} {its:List Value} (r:Vals xs its):(!its.toArray.isEmpty) = !xs.isEmpty:=by
 cases r<;>simp
theorem tu:(sizeLine:Nat)<2 ^ 63:=by rw [sizeLine_eq];decide
theorem Pz:aks X (fun x H Q=>∃k,Vj X.K x H k/\Q k H):=by
 intro pins s σ H x v Q I rx h;obtain ⟨k,e,q⟩:=h;have hl:=tu;have hs:sizeLine=16777216:=sizeLine_eq;cases x with
 | non=>
   cases rx;have e':k=false:=e;subst e';exact truthy_none ⟨H,I,q⟩
 | bl b=>
   cases rx;have e':k=b:=e;subst e';exact wpAny_truthy_bool ⟨H,I,q⟩
 | int i=>
   obtain ⟨t,rfl⟩:=rx;have e':k=(i != 0):=e;subst e';exact PySem.P.truthy_int ⟨H,I,q⟩
 | str y=>
   obtain ⟨t,rfl⟩:=rx;obtain ⟨hy,e'⟩:y.length<=sizeLine/\k=((y.length:Int) != 0):=e;subst e';exact PySem.P.truthy_str (by omega) ⟨H,I.tok _,q⟩
 | Ma y=>
   obtain ⟨t,rfl⟩:=rx;obtain ⟨hy,e'⟩:y.size<=sizeLine/\k=((y.size:Int) != 0):=e;subst e';exact PySem.W.truthy_bytes (by omega) ⟨H,I.tok _,q⟩
 | ref p=>
   cases rx;have e':(∃xs,bK X.K H p xs/\k = !xs.isEmpty)\/(∃xs,eV X.K H p xs/\k = !xs.isEmpty) \/ ∃kvs,H p=some (.dK kvs)/\k = !kvs.isEmpty:=e;rcases e' with ⟨xs,hx,e'⟩|⟨xs,hx,e'⟩|⟨kvs,hx,e'⟩
   ·subst e'
    obtain ⟨its,r,pl,hz⟩:=I.list hx;have hlen:=r.length;exact wpAny_truthy_list pl.isList (by simp only [List.size_toArray];omega) ⟨H,I.tok _,by rw [BX r];exact q⟩
   ·subst e'
    obtain ⟨its,r,pl,hz⟩:=I.tuple hx;have hlen:=r.length;exact truthy_tuple pl (by simp only [List.size_toArray];omega) ⟨H,I.tok _,by rw [BX r];exact q⟩
   ·subst e'
    obtain ⟨hz,hS,vs,r,m⟩:kvs.length<=sizeLine/\(p==sysModules)=false /\ ∃vs,KV kvs vs/\s.heap.DictOf (d_ X.prog X.w) p vs:=I.hok p _ hx;have hlen:kvs.length=vs.length:=Paired.length r;exact wpAny_truthy_dict hS m (by omega) ⟨H,I.tok _,by rw [J8 r];exact q⟩
 | _=>exact (show False from e).elim
theorem Qh (ha:PE X a ta) (he:∀whole,isTrue a X.env whole=(do let v ←whole;standAt a.pos;holding [v] (truthy v))):
 PT X a (fun σ H Q=>ta σ H fun x H'=>∃k,Vj X.K x H' k/\Q k H'):=by
 intro pins s σ H Q I h;exact isTrue_plain (gU (ha pins s σ H _ I h) fun v s1 ⟨x,H1,I1,r1,q1⟩=>Pz pins s1 σ H1 x v Q I1 r1 q1) (he _)
theorem vals1 {x:V} {us:List Value} (r:Vals [x] us):∃u,us=[u]/\RelV x u:=by
 cases r with
 | cons r1 r2=>cases r2;exact ⟨_,rfl,r1⟩
theorem vals2 {x y:V} {us:List Value} (r:Vals [x,y] us):∃u w',us=[u,w']/\RelV x u/\RelV y w':=by
 cases r with
 | cons r1 r2=>
   cases r2 with
   | cons r3 r4=>cases r4;exact ⟨_,_,rfl,r1,r3⟩
theorem rG (hc:X.calm=true):mZ X (.builtin "max") (fun xs H Q=>∃i j,xs=[.int i,.int j]/\Q (.int (if j>i then j else i)) H):=by
 intro pins s σ H xs us Q I r h;obtain ⟨i,j,rfl,q⟩:=h;obtain ⟨u,w',rfl,⟨t,rfl⟩,⟨t',rfl⟩⟩:=vals2 r;refine max_two_ints (I.ok.hd hc) fun h' tk k=>⟨_,H,I.kept k, ?_,q⟩
 by_cases hj:j>i
 ·rw [if_pos hj,if_pos hj];exact ⟨_,rfl⟩
 ·rw [if_neg hj,if_neg hj];exact ⟨_,rfl⟩
theorem Oq (hc:X.calm=true):mZ X (.builtin "min") (fun xs H Q=>∃i j,xs=[.int i,.int j]/\Q (.int (if j<i then j else i)) H):=by
 intro pins s σ H xs us Q I r h;obtain ⟨i,j,rfl,q⟩:=h;obtain ⟨u,w',rfl,⟨t,rfl⟩,⟨t',rfl⟩⟩:=vals2 r;refine min_two_ints (I.ok.hd hc) fun h' tk k=>⟨_,H,I.kept k, ?_,q⟩
 by_cases hj:j<i
 ·rw [if_pos hj,if_pos hj];exact ⟨_,rfl⟩
 ·rw [if_neg hj,if_neg hj];exact ⟨_,rfl⟩
theorem Ot:mZ X (.type "int") (fun xs H Q=>(∃i,xs=[.int i]/\Q (.int i) H) \/ ∃k,xs=[.bl k]/\Q (.int (if k then 1 else 0)) H):=by
 intro pins s σ H xs us Q I r h;rcases h with ⟨i,rfl,q⟩|⟨k,rfl,q⟩
 ·obtain ⟨u,rfl,t,rfl⟩:=vals1 r
  exact call_int_int ⟨.int i,H,I,⟨_,rfl⟩,q⟩
 ·obtain ⟨u,rfl,r1⟩:=vals1 r
  cases r1;exact call_int_bool ⟨.int (if k then 1 else 0),H,I.tok _,⟨_,rfl⟩,q⟩
end
end L2
namespace L2
open PySem PySem.Spec PyProof.Rows
structure YK (h:Heap) (x dx C:Addr) (mA:Str->Option Value):Prop where
 obj:h.get? x=some (PySem.W.instObj C dx)
 ns:h.Ns1 dx mA
 ne:dx≠x
theorem Nu {h:Heap} {dx:Addr} {mA:Str->Option Value} (n:h.Ns1 dx mA):∃od,h.get? dx=some od /\ ∀name,PySem.W.lookIn name od=some (mA name):=by
 obtain ⟨o,es,ep,ho,hd,hk,_,hm⟩:=n;refine ⟨o,ho,fun name=> ?_⟩;have e:=hm name;unfold nsFind findBy at e;rw [←Array.find?_toList] at e;unfold PySem.W.lookIn;rw [hd];dsimp only;split
 ·rename_i y q
  rw [q] at e;exact congrArg some e
 ·rename_i q
  rw [q] at e
  have a:es.toList.any (·.refKey)=false:=by
   rw [List.any_eq_false];intro y hy;obtain ⟨z,t,hkey⟩:=hk y (Array.mem_toList_iff.mp hy);simp [DictEntry.refKey,hkey]
  have a':¬es.toList.any (·.refKey)=true:=by rw [a];exact Bool.false_ne_true
  rw [if_neg a'];exact congrArg some e
theorem YK.look {h:Heap} {x dx C:Addr} {mA:Str->Option Value} (I:YK h x dx C mA):∃od,PySem.W.InstAt h x (PySem.W.instObj C dx) C (some od) /\ ∀name,PySem.W.lookIn name od=some (mA name):=
 let ⟨od,ho,hl⟩:=Nu I.ns
 ⟨od,⟨I.obj,rfl,rfl,ho⟩,hl⟩
section
variable {prog:Program} {w:World} {A:Around} {E:Value->Shared->Prop} {s:Shared} {K:PySem.W.Frag} {x dx C f:Addr} {mA:Str->Option Value} {name:Str} {v:Value}
end
theorem xg.some_of {v:V} {o:Option Value} (r:xg (some v) o):∃u,o=some u/\RelV v u:=by
 cases o with
 | none=>exact (show False from r).elim
 | some u=>exact ⟨u,rfl,r⟩
section
variable {P:Program} {w:World} {H H':Hp} {h h':Heap} {a C dx:Addr} {fs fs':List (Str×V)}
theorem Uv (hok:vQ P w H h) (e:H a=some (.ins C dx fs)):∃mA,YK h a dx C mA/\(∀f,xg (fs.lookup f) (mA f))/\PySem.Within mA (fs.map (·.1))/\fs.length<=1000/\H dx=some (.own a):=by
 obtain ⟨d,z,ne,ob,mA,n,r,q⟩:=(show gw P w H h a (.ins C dx fs) from hok a _ e);exact ⟨mA,⟨ob,n,ne⟩,r,q,z,d⟩
end
structure Cls (K:PySem.W.Frag) (C:Addr):Prop where
 pg:PySem.W.plainGet K C Str.empty=true
 hd:PySem.W.hasDictIn K C=true
 po:PySem.W.plainOver K C=true
 sa:PySem.W.findIn K (.ref C) "__setattr__" = some (some (.builtin "object.__setattr__"))
theorem Cls.get {K:PySem.W.Frag} {C:Addr} (c:Cls K C) (f:Str):PySem.W.plainGet K C f=true:=c.pg
section
variable {X:Cx} {pins:List (Addr×Obj)} {σ:St} {H:Hp} {s:Shared} {a C dx:Addr} {fs:List (Str×V)} {f:Str} {v:V} {A:Around} {E:Value->Shared->Prop}
end
section
variable {X:Cx} {o e value:Expr} {f:Str} {pos pos' tpos:Pos} {ta tv:TE}
end
section
variable {X:Cx} {pins:List (Addr×Obj)} {σ:St} {H:Hp} {s:Shared} {A:Around} {E:Value->Shared->Prop} {Q:Value->Shared->Prop} {c:Value} {b:Bool}
inductive yD (K:PySem.W.Frag) (H:Hp):V->Value->Prop where
 | non:yD K H .non (.type "NoneType")
 | bl (x:Bool):yD K H (.bl x) (.type "bool")
 | int (i:Int):yD K H (.int i) (.type "int")
 | str (x:Str):yD K H (.str x) (.type "str")
 | flt (x:UInt64):yD K H (.flt x) (.type "float")
 | lst {a:Addr} {xs:List V} (e:H a=some (.lst xs)):yD K H (.ref a) (.type "list")
 | rM {a:Addr} {o:Obj} {xs:List V} (e:H a=some (.rM o (.lst xs))):yD K H (.ref a) (.type "list")
 | tup {a:Addr} {xs:List V} (e:H a=some (.tup xs)):yD K H (.ref a) (.type "tuple")
 | dK {a:Addr} {kvs:List (Key×V)} (e:H a=some (.dK kvs)):yD K H (.ref a) (.type "dict")
 | dT {a:Addr} {kvs:List (List Key×V)} (e:H a=some (.dT kvs)):yD K H (.ref a) (.type "dict")
 | ins {a C dx:Addr} {fs:List (Str×V)} (e:H a=some (.ins C dx fs)) (cl:Cls K C) (ha:PySem.W.findIn K (.ref C) "__class__" = some (some (.builtin "object.__class__")))
    (hn:PySem.W.specialIn K (.builtin "object.__class__") "__get__" = some (some (.builtin "getset_descriptor.__get__"))) (htk:PySem.W.takesIn K (.builtin "object.__class__")=some true)
    (hm:PySem.W.mroIn K C (.type "object")=some true):yD K H (.ref a) (.ref C)
theorem NP {x:V} {u t:Value} (I:Inv X pins σ H s) (rx:RelV x u) (ty:yD X.K H x t) (e:PySem.W.kitOne X.K t c=some b) (h:∀tk,Q (.bool b) {s with toks:=tk}):
 wpAny (model X.prog X.w) A (call (.builtin "isinstance") [u,c]) Q E s:=by
 cases ty with
 | non=>cases (show u=Value.none from rx);exact PySem.W.kia_one PySem.W.kitx_none I.Ad True.intro e (fun z=>nomatch z) h
 | bl y=>cases (show u=Value.bool y from rx);exact PySem.W.kia_one PySem.W.kitx_bool I.Ad True.intro e (fun z=>nomatch z) h
 | int i=>obtain ⟨t,q⟩:=(show ∃t,u=Value.int i t from rx);cases q;exact PySem.W.kia_one PySem.W.kitx_int I.Ad True.intro e (fun z=>nomatch z) h
 | str y=>obtain ⟨t,q⟩:=(show ∃t,u=Value.str y t from rx);cases q;exact PySem.W.kia_one PySem.W.kitx_str I.Ad True.intro e (fun z=>nomatch z) h
 | flt y=>obtain ⟨t,q⟩:=(show ∃t,u=Value.float y t from rx);cases q;exact PySem.W.kia_one PySem.W.kitx_float I.Ad True.intro e (fun z=>nomatch z) h
 | @lst a xs ea=>
   cases (show u=Value.ref a from rx);obtain ⟨_,_,n,_,h1⟩:=(show gw X.prog X.w H s.heap a (.lst xs) from I.hok a _ ea);exact PySem.W.kia_one PySem.W.kitx_list I.Ad ⟨_,h1,rfl⟩ e (fun z=>nomatch z) h
 | @rM a ob xs ea=>
   cases (show u=Value.ref a from rx);obtain ⟨_,_,_,n,_,h1⟩:=(show gw X.prog X.w H s.heap a (.rM ob (.lst xs)) from I.hok a _ ea);exact PySem.W.kia_one PySem.W.kitx_list I.Ad ⟨_,h1,rfl⟩ e (fun z=>nomatch z) h
 | @tup a xs ea=>
   cases (show u=Value.ref a from rx);obtain ⟨_,_,_,p⟩:=(show gw X.prog X.w H s.heap a (.tup xs) from I.hok a _ ea);obtain ⟨o,h1,h2,_⟩:=p;exact PySem.W.kia_one PySem.W.kitx_tuple I.Ad ⟨o,h1,h2⟩ e (fun z=>nomatch z) h
 | @dK a kvs ea=>
   cases (show u=Value.ref a from rx);obtain ⟨_,_,vs,_,p⟩:=(show gw X.prog X.w H s.heap a (.dK kvs) from I.hok a _ ea);obtain ⟨o,es,ep,h1,h2,_⟩:=p;exact PySem.W.kia_one PySem.W.kitx_dict I.Ad ⟨o,h1,h2.1⟩ e (fun z=>nomatch z) h
 | @dT a kvs ea=>
   cases (show u=Value.ref a from rx);obtain ⟨_,_,xs,_,o,es,ep,h1,h2,_⟩:=(show gw X.prog X.w H s.heap a (.dT kvs) from I.hok a _ ea);exact PySem.W.kia_one PySem.W.kitx_dict I.Ad ⟨o,h1,h2.1⟩ e (fun z=>nomatch z) h
 | @ins a C dx fs ea cl ha hn htk hm=>
   cases (show u=Value.ref a from rx);obtain ⟨mA,O,_⟩:=Uv I.hok ea;obtain ⟨od,J,_⟩:=O.look;exact PySem.W.kia_one (PySem.W.kitx_own (cl.get _) cl.hd ha hn htk hm) I.Ad J e (fun z=>nomatch z) h
end
end L2
namespace L2
open PySem PySem.Spec PyProof.Rows
structure pR (k:Nat) (A:Around):Prop where
 hd:A.handled=none
 dp:A.depth+3*k+5<recursionLimit
 un:A.units+16*k+200<cLine
theorem pR.mono {j k:Nat} {A:Around} (r:pR k A) (h:j<=k):pR j A:=⟨r.hd,by have:=r.dp;omega,by have:=r.un;omega⟩
theorem pR.deeper {k:Nat} {A:Around} (r:pR (k+1) A) (env:Env):pR k (A.deeper env):=
 ⟨r.hd,by have:=r.dp;show A.depth+1+3*k+5<_;omega,by have:=r.un;show A.units+3+16*k+200<_;omega⟩
theorem pR.depth {k:Nat} {A:Around} (r:pR k A):A.depth<recursionLimit:=by have:=r.dp;omega
theorem pR.units {k:Nat} {A:Around} (r:pR k A):A.units+64<cLine:=by have:=r.un;omega
def ZG:TA:=fun _ H Q=>Q [] H
def Vz (ta:TE) (tr:TA):TA:=fun σ H Q=>ta σ H fun x H1=>tr σ H1 fun xs H2=>Q (x::xs) H2
section
variable {X:Cx} {e:Expr} {es:List Expr} {te:TE} {t:TA} {pos:Pos}
theorem aA:PA X [] ZG:=fun _ _ _ _ H Q I h=>Calls.spliced_nil ⟨[],H,I,.nil,h⟩
theorem aj (ha:PE X e te) (hr:PA X es t) (hs:starEach (e::es) X.env=(false,eval e X.env)::starEach es X.env:=by rfl):PA X (e::es) (Vz te t):=by
 intro pos pins s σ H Q I h;rw [hs];show wpAny _ _ (spliced ((false,eval e X.env)::backTo pos (starEach es X.env))) _ _ s;refine Calls.spliced_cons (gU (ha pins s σ H _ I h) fun u s1 ⟨x,H1,I1,r1,q1⟩=> ?_);exact gU (hr pos pins s1 σ H1 _ I1 q1) fun us s2 ⟨xs,H2,I2,r2,q2⟩=>⟨x::xs,H2,I2,.cons r1 r2,q2⟩
def adC (t:TA):TE:=fun σ H Q=>t σ H fun xs H1=>xs.length<=sizeLine /\ ∀p,H1 p=none->Q (.ref p) (upd H1 p (.tup xs))
def adI (t:TA):TE:=fun σ H Q=>t σ H fun xs H1=>xs.length<=sizeLine /\ ∀p,H1 p=none->Q (.ref p) (upd H1 p (.lst xs))
theorem jg {x1} (h:PA X es t):PE X (.Tuple es x1 pos) (adC t):=by
 intro pins s σ H Q I hq;refine wpAny_Tuple_spliced (gU (h pos pins s σ H _ I hq) fun us s1 ⟨xs,H1,I1,r,z,q⟩=>⟨by rw [←r.length];exact z, ?_⟩);have hf:H1 s1.heap.objs.size=none:=I1.hok.fresh (Nat.le_refl _);refine ⟨.ref s1.heap.objs.size,upd H1 s1.heap.objs.size (.tup xs),I1.laid (t':=s1.toks) (fun b u e=>Heap.get?_push_of_some _ e) (Nat.le_refl _) ?_,rfl,q _ hf⟩;exact ⟨z,us,r,⟨_,Heap.get?_push_size _ rfl,rfl,_,rfl⟩⟩
theorem fO (h:PA X es t):PE X (.List es pos) (adI t):=by
 intro pins s σ H Q I hq;refine wpAny_List_spliced (gU (h pos pins s σ H _ I hq) fun us s1 ⟨xs,H1,I1,r,z,q⟩=>⟨by rw [←r.length];exact z, ?_⟩);have hf:H1 s1.heap.objs.size=none:=I1.hok.fresh (Nat.le_refl _);refine ⟨.ref s1.heap.objs.size,upd H1 s1.heap.objs.size (.lst xs),I1.laid (t':=s1.toks) (fun b u e=>Heap.get?_push_of_some _ e) (Nat.le_refl _) ?_,rfl,q _ hf⟩;exact ⟨z,us,0,r,Heap.get?_push_size _ rfl⟩
end
abbrev Sp:=List V->Hp->VK->XK->Prop
abbrev O7:=List Env->Hp->Shared->XK->Value->Shared->Prop
structure Vu (P:Program) (w:World) (K:PySem.W.Frag) (mg:Str->Option Value) (base:Heap) (A:Around) (outer:List Env) (s:Shared) (H:Hp):Prop where
 frames:A.frames=some outer
 mod:Mod K mg base
 bs:∀b o,base.get? b=some o->s.heap.get? b=some o/\H b=none
 O5:base.objs.size<=s.heap.objs.size
 vL:s.heap.FunFrames base outer
 R_:∀b∈frs outer,H b=none
 hok:vQ P w H s.heap
 bare:AllBare s.gens
def CE (outer:List Env) (P:Program) (w:World) (H:Hp) (s:Shared) (Q:VK) (u:Value) (s':Shared):Prop:=
 ∃v H',s'.os=s.os/\AllBare s'.gens/\Un (frs outer) [] H H' s.heap s'.heap/\vQ P w H' s'.heap/\RelV v u/\Q v H'
def CR (CX:O7) (outer:List Env) (P:Program) (w:World) (H:Hp) (s:Shared) (Q:VK) (E:XK) (r:Result) (s':Shared):Prop:=
 match r with
 | .ok (.ret u)=>CE outer P w H s Q u s'
 | .ok _=>False
 | .error e=>CX outer H s E e s'
structure gn (P:Program) (w:World) (K:PySem.W.Frag) (mg:Str->Option Value) (base:Heap) (CX:O7) (k:Nat) (f:Addr) (fd:FuncData) (ps:List Str) (sp:Sp):Prop where
 len:∀vs H Q E,sp vs H Q E->vs.length=ps.length
 run:∀(A:Around) (outer:List Env) (s:Shared) (H:Hp) (args:Args) (us:List Value) (vs:List V) (Q:VK) (E:XK),pR k A->Vu P w K mg base A outer s H->BindsTo s fd args (ps.zip us)->Vals vs us->sp vs H Q E ->
  codeAny (model P w) A (.call (.ref f) args) (CR CX outer P w H s Q E) s
section
variable {X:Cx} {pins:List (Addr×Obj)} {σ:St} {H:Hp} {s s':Shared}
theorem Inv.env0 (I:Inv X pins σ H s):Vu X.prog X.w X.K X.mg X.base X.A X.stack s H:=
 ⟨I.ok.frames,I.ok.mod,I.bs,Nat.le_trans I.ok.O5 I.sz,I.stack,I.FP,I.hok,I.bare⟩
theorem Inv.after {Q:VK} {u:Value} (I:Inv X pins σ H s) (h:CE X.stack X.prog X.w H s Q u s'):EP X pins σ Q u s':=by
 obtain ⟨v,H',os,bare,un,hok,r,q⟩:=h;obtain ⟨hh,g,d,t,os'⟩:=s';obtain rfl:os'=s.os:=os;exact ⟨v,H',I.call (h':=hh) (g':=g) (d':=d) (t':=t) (ch:=[]) un hok bare (fun b z=>absurd z (by simp)),r,q⟩
end
def VB (sp:Sp) (Oh:List V) (E:XK) (t:TA):TE:=fun σ H Q=>t σ H fun vs H1=>sp (vs++Oh) H1 Q E
def Binds (K:PySem.W.Frag) (fd:FuncData) (ps:List Str) (ds:List Value):Prop:=
 ∀(s:Shared) (us:List Value),K.In s.heap->(us++ds).length=ps.length->BindsTo s fd ⟨us,[]⟩ (ps.zip (us++ds))
theorem Binds.all {K:PySem.W.Frag} {fd:FuncData} {ps:List Str} (h:∀us:List Value,us.length=ps.length->bindArgs fd ⟨us,[]⟩=pure (ps.zip us)):Binds K fd ps []:=fun s us _ hl=>by
 rw [List.append_nil] at hl ⊢;exact .of_eq (h us hl)
def Passes (CX:O7) (X:Cx) (E:XK):Prop:=∀(pins:List (Addr×Obj)) (σ:St) (H:Hp) (s:Shared) (e:Value) (s':Shared),Inv X pins σ H s->CX X.stack H s E e s'->X.xe e s'
section
variable {X:Cx} {CX:O7} {k:Nat} {f C:Addr} {fd:FuncData} {ps:List Str} {sp:Sp} {Oh:List V} {ds:List Value} {E:XK} {x m:Str} {p pos apos:Pos} {e o:Expr} {es:List Expr} {ta:TE} {t:TA}
theorem WY {pins:List (Addr×Obj)} {σ:St} {H:Hp} {s:Shared} {Q:VK} {us:List Value} {vs:List V} (F:gn X.prog X.w X.K X.mg X.base CX k f fd ps sp) (hr:pR k X.A) (hb:Binds X.K fd ps ds) (hd:Vals Oh ds) (hx:Passes CX X E)
 (I:Inv X pins σ H s) (r:Vals vs us) (h:sp (vs++Oh) H Q E):wpAny (model X.prog X.w) X.A (call (.ref f) us) (EP X pins σ Q) X.xe s:=by
 have r2:Vals (vs++Oh) (us++ds):=r.append hd;have hl:(us++ds).length=ps.length:=by rw [←r2.length];exact F.len _ _ _ _ h
 refine wpAny_call (codeAny_mono (F.run X.A X.stack s H ⟨us,[]⟩ (us++ds) (vs++Oh) Q E hr I.env0 (hb s us I.Ad hl) r2 h) fun r s' hq=> ?_);cases r with
 | error e=>exact hx pins σ H s e s' I hq
 | ok fl=>
   cases fl with
   | ret u=>exact I.after hq
   | next=>exact False.elim hq
   | brk=>exact False.elim hq
   | cont=>exact False.elim hq
theorem TY (F:gn X.prog X.w X.K X.mg X.base CX k f fd ps sp) (hr:pR k X.A) (hg:Gl X x) (hm:X.mg x=some (.ref f)) (hk:PySem.W.keepIn X.K (.ref f)=true) (hb:Binds X.K fd ps ds) (hd:Vals Oh ds) (hx:Passes CX X E)
 (ha:PA X (e::es) t) (hdb:(x==("__debug__" :Str))=false:=by decide) (he:starEach (e::es) X.env=(false,eval e X.env)::starEach es X.env:=by rfl) (hpl:(backTo pos (starEach es X.env)).any (·.1)=false:=by rfl):
 PE X (.Call (.Name x p) (e::es) [] pos) (VB sp Oh E t):=by
 intro pins s σ H Q I h;refine wpAny_Call_Name_kw (vD I hg hm ?_ hdb);refine PySem.W.callWith_K (h₀:=X.base) I.ok.mod.Y8 hk (gU (ha pos pins s σ H _ I h) fun us s1 ⟨vs,H1,I1,r,q⟩=>⟨I1.Ad, ?_⟩) he hpl;exact WY F hr hb hd hx I1 r q
end
def PK (X:Cx) (kws:List Keyword) (t:TA):Prop:=
 ∀(pos:Pos) (pins:List (Addr×Obj)) (s:Shared) (σ:St) (H:Hp) (Q:List V->Hp->Prop),Inv X pins σ H s->t σ H Q->wpAny (model X.prog X.w) X.A (evalAll ((backToKw pos (keywordEach kws X.env)).map (·.2))) (AP X pins σ Q) X.xe s
section
variable {X:Cx} {CX:O7} {k:Nat} {f C:Addr} {fd:FuncData} {ps ks:List Str} {sp:Sp} {E:XK} {x m:Str} {p pos apos kpos:Pos} {e o:Expr} {es:List Expr} {kws:List Keyword} {te ta:TE} {t tk:TA} {nm:Option Str}
theorem Xa:PK X [] ZG:=fun _ _ _ _ H Q I h=>wpAny_evalAll_nil ⟨[],H,I,.nil,h⟩
theorem TF (ha:PE X e te) (hr:PK X kws t):PK X (⟨nm,e,kpos⟩::kws) (Vz te t):=by
 intro pos pins s σ H Q I h;show wpAny _ _ (evalAll ((do let v ←eval e X.env;standAt pos;pure v)::(backToKw pos (keywordEach kws X.env)).map (·.2))) _ _ s;refine wpAny_evalAll_cons (wpAny_bind (gU (ha pins s σ H _ I h) fun u s1 ⟨x,H1,I1,r1,q1⟩=>wpAny_bind (wpAny_standAt (wpAny_pure ?_))));exact gU (hr pos pins s1 σ H1 _ I1 q1) fun us s2 ⟨xs,H2,I2,r2,q2⟩=>⟨x::xs,H2,I2,.cons r1 r2,q2⟩
variable {g:List Value->List Value->List Value} {gV:List V->List V->List V}
end
structure bT (N P:List Str) (sc:Scope):Prop where
 kind:sc.kind = .function
 co:sc.isCoroutine=false
 gen:sc.isGenerator=false
 nd:N.Nodup
 pre:N.take P.length=P
 par:∀x∈P,sc.names.lookup x=some .local\/sc.names.lookup x=some .cell
 Xq:∀y∈sc.names,y.2 ≠ .free
theorem Fo {kindOf:Str->Option NameKind} {x:Str}:∀{binds:List (Str×Value)} {m:Str->Option Value},(∀v,(x,v)∉binds)->bindL kindOf binds m x=m x
 | [],_,_=>rfl
 | (n,v)::r,m,h=>by
   unfold bindL;rw [Fo fun w hw=>h w (List.mem_cons_of_mem _ hw)];split
   ·have:x≠n:=by rintro rfl;exact h v List.mem_cons_self
    simp [this]
   ·rfl
theorem Fq {kindOf:Str->Option NameKind} {x:Str}:∀{binds:List (Str×Value)} {m:Str->Option Value},(∀v,(x,v)∉binds)->bindC kindOf binds m x=m x
 | [],_,_=>rfl
 | (n,v)::r,m,h=>by
   unfold bindC;rw [Fq fun w hw=>h w (List.mem_cons_of_mem _ hw)];split
   ·rfl
   ·have:x≠n:=by rintro rfl;exact h v List.mem_cons_self
    simp [this]
theorem Fp {kindOf:Str->Option NameKind} {x:Str} {v:Value}:∀{P:List Str} {vs:List Value} {i:Nat} {m:Str->Option Value},P.Nodup->P[i]? = some x->vs[i]? = some v->kindOf x=some .local ->
 bindL kindOf (P.zip vs) m x=some v
 | [],_,_,_,_,h,_,_=>by simp at h
 | _::_,[],_,_,_,_,h,_=>by simp at h
 | p::P,w::vs,0,m,nd,h1,h2,hk=>by
   simp at h1 h2;subst h1;subst h2;show bindL kindOf ((p,w)::P.zip vs) m p=_;unfold bindL;rw [Fo fun v hv=>(List.nodup_cons.mp nd).1 (List.of_mem_zip hv).1,if_pos hk];simp
 | p::P,w::vs,i+1,m,nd,h1,h2,hk=>by
   show bindL kindOf ((p,w)::P.zip vs) m x=_;unfold bindL;exact Fp (i:=i) (List.nodup_cons.mp nd).2 (by simpa using h1) (by simpa using h2) hk
theorem Ft {kindOf:Str->Option NameKind} {x:Str} {v:Value}:∀{P:List Str} {vs:List Value} {i:Nat} {m:Str->Option Value},P.Nodup->P[i]? = some x->vs[i]? = some v->kindOf x≠some .local ->
 bindC kindOf (P.zip vs) m x=some v
 | [],_,_,_,_,h,_,_=>by simp at h
 | _::_,[],_,_,_,_,h,_=>by simp at h
 | p::P,w::vs,0,m,nd,h1,h2,hk=>by
   simp at h1 h2;subst h1;subst h2;show bindC kindOf ((p,w)::P.zip vs) m p=_;unfold bindC;rw [Fq fun v hv=>(List.nodup_cons.mp nd).1 (List.of_mem_zip hv).1,if_neg hk];simp
 | p::P,w::vs,i+1,m,nd,h1,h2,hk=>by
   show bindC kindOf ((p,w)::P.zip vs) m x=_;unfold bindC;exact Ft (i:=i) (List.nodup_cons.mp nd).2 (by simpa using h1) (by simpa using h2) hk
def start (N:List Str) (vs:List V):St:=vs.map some++List.replicate (N.length - vs.length) none
def tR (CX:O7) (P:Program) (w:World) (K:PySem.W.Frag) (mg:Str->Option Value) (base:Heap) (N:List Str) (qual:Str) (scope:Scope) (f:Addr) (cd:Value) (A:Around) (outer:List Env) (s:Shared) (H:Hp) (E:XK):Cx where
 prog:=P
 w:=w
 K:=K
 mg:=mg
 base:=base
 A:=A.deeper (envOfC qual scope s.heap.objs.size f cd)
 N:=N
 s₀:=s
 H₀:=H
 env:=envOfC qual scope s.heap.objs.size f cd
 outer:=outer
 stack:=envOfC qual scope s.heap.objs.size f cd::outer
 ex:=[]
 calm:=true
 fn:=fun _=>true
 pn:=[]
 xe:=fun e s'=>wpAny (model P w) (A.deeper (envOfC qual scope s.heap.objs.size f cd)) (leaving (envOfC qual scope s.heap.objs.size f cd) e) (fun _ s''=>CX outer H s E e s'') (fun e' s''=>CX outer H s E e' s'') s'
theorem IV {sc:Scope} {n:Nat} {x:Str} (h:sc.names.lookup x=some .cell):∃c,(cellsFrom n sc.names []).lookup x=some c:=by
 have q:=PySem.W.cellsFrom_some sc.names n [] (.inl h);exact Option.isSome_iff_exists.mp q
theorem NQ {CX:O7} {P:Program} {w:World} {K:PySem.W.Frag} {mg:Str->Option Value} {base:Heap} {N ps:List Str} {qual:Str} {scope:Scope} {f:Addr} {cd:Value} {A:Around} {outer:List Env} {s s1:Shared} {H:Hp} {E:XK} {us:List Value} {vs:List V}
 (S:bT N ps scope) (hd:A.handled=none) (e0:Vu P w K mg base A outer s H) (hl:vs.length=ps.length) (r:Vals vs us)
 (x:InCallC s s.heap.objs.size (bindL (envOfC qual scope s.heap.objs.size f cd).kindOf (ps.zip us) fun _=>none) (cellsFrom (s.heap.objs.size+1) scope.names []) (bindC (envOfC qual scope s.heap.objs.size f cd).kindOf (ps.zip us) fun _=>none) s1):
 Inv (tR CX P w K mg base N qual scope f cd A outer s H E) [] (start N vs) H s1:=by
 have hpl:ps.length<=N.length:=by have:=congrArg List.length S.pre;rw [List.length_take] at this;omega
 obtain ⟨h1,tk,rfl,hk⟩:=x.done;have noA:∀b:Addr,b∉(tR CX P w K mg base N qual scope f cd A outer s H E).ex:=fun b z=>absurd (show b∈([]:List Addr) from z) (by simp)
 refine ⟨⟨e0.mod,S.kind,rfl,rfl,Nat.le_refl _,fun y z c h1 h2=> ?_,fun y hy=> ?_,fun y c _ h=> ?_,fun _=>hd,Around.frames_deeper e0.frames,.inr ⟨rfl,rfl⟩,fun b z=>absurd z (noA b),e0.bs,e0.O5,fun b _ _=>noA b,fun b z=>absurd z (noA b),e0.vL,e0.R_⟩,
  rfl,e0.bare,Un.kept hk,⟨_,x.toInCall.ns,fun i y v h1 h2 h3=> ?_⟩,fun y c h=>⟨_,x.cell y c h⟩,e0.hok.fresh (Nat.le_refl _),fun y c h=> ?_,fun p hp=>absurd (show p∈([]:List (Addr×Obj)) from hp) (by simp),e0.hok.kept hk, ?_⟩
 ·exact name_of_addr x.apart (PySem.mem_of_lookup h1) (PySem.mem_of_lookup h2)
 ·have hy:scope.names.lookup y=some .cell\/scope.names.lookup y=some .free:=hy
  rcases hy with hy|hy
  ·exact IV hy
  ·exact absurd rfl (S.Xq _ (PySem.mem_of_lookup hy))
 ·exact Nat.le_of_lt (x.above y c (PySem.mem_of_lookup h))
 ·have hi:i<vs.length:=by
   unfold start at h2
   by_cases hi:i<vs.length
   ·exact hi
   ·rw [List.getElem?_append_right (by simpa using hi)] at h2
    rw [List.getElem?_replicate] at h2;split at h2<;>cases h2
  have ha:vs[i]? = some v:=by
   unfold start at h2;rw [List.getElem?_append_left (by simpa using hi),List.getElem?_map] at h2;cases e:vs[i]? with
   | none=>rw [e] at h2;cases h2
   | some a=>rw [e] at h2;cases h2;rfl
  obtain ⟨u,hu,rv⟩:=r.get ha
  have hp:ps[i]? = some y:=by
   rw [←S.pre,List.getElem?_take_of_lt (by omega)];exact h1
  have ndP:ps.Nodup:=by rw [←S.pre];exact S.nd.sublist (List.take_sublist _ _)
  refine ⟨u,rv, ?_⟩;rcases S.par y (List.mem_of_getElem? hp) with k|k
  ·exact .inl ⟨k,Fp ndP hp hu k⟩
  ·obtain ⟨c,e⟩:=IV (n:=s.heap.objs.size+1) k
   refine .inr ⟨.inl k,c,e, ?_⟩;have q:=x.cell y c e;rw [Ft ndP hp hu (by show scope.names.lookup y≠_;rw [k];decide)] at q;exact q
 ·exact e0.hok.fresh (Nat.le_of_lt (x.above y c (PySem.mem_of_lookup h)))
 ·unfold start
  show _=N.length;rw [List.length_append,List.length_map,List.length_replicate];omega
theorem Rg {CX:O7} {P:Program} {w:World} {K:PySem.W.Frag} {mg:Str->Option Value} {base:Heap} {k:Nat} {f:Addr} {name qual:Str} {params:Arguments} {body:List Stmt} {scope:Scope} {dV kV doc pm cdv ct oc:Value} {an od:Option Addr}
 {osl:Array (Option Value)} {N ps:List Str} {sp:Sp} (lk:K.lookup f=some ⟨oc,od,.func (PySem.W.fnOf name qual params body scope dV kV doc pm an cdv ct),osl⟩) (hcd:PySem.W.codeIn K cdv qual=true) (S:bT N ps scope)
 (len:∀vs H Q E,sp vs H Q E->vs.length=ps.length)
 (hbody:∀(A:Around) (outer:List Env) (s:Shared) (H:Hp) (vs:List V) (Q:VK) (E:XK),pR k (A.deeper (envOfC qual scope s.heap.objs.size f cdv))->sp vs H Q E ->
   ∃t,Jh (tR CX P w K mg base N qual scope f cdv A outer s H E) body t/\t {nx:=fun _ H'=>Q .non H',rt:=Q} (start N vs) H):
 gn P w K mg base CX (k+1) f (PySem.W.fnOf name qual params body scope dV kV doc pm an cdv ct) ps sp:=by
 refine ⟨len,fun A outer s H args us vs Q E hr e0 hb r hsp=> ?_⟩;have hl:=len _ _ _ _ hsp;have KX:K.In s.heap:=e0.mod.Y8.keeps fun b o e=>(e0.bs b o e).1;have lim:s.heap.NoLimit:=e0.mod.nolimit.keeps fun b o e=>(e0.bs b o e).1
 have hkind:∀y∈ps.zip us,scope.names.lookup y.1=some .local\/(scope.names.lookup y.1=some .cell/\((cellsFrom (s.heap.objs.size+1) scope.names []).lookup y.1).isSome=true):=fun ⟨n,v⟩ hy=>by
  rcases S.par n (List.of_mem_zip hy).1 with q|q
  ·exact .inl q
  ·exact .inr ⟨q,PySem.W.cellsFrom_some _ _ _ (.inl q)⟩
 refine codeAny_call_function hr.depth (KX _ _ lk) rfl S.co S.gen rfl (PySem.W.codeRec_of KX hcd) (hb _ _ _ _ ?_);refine wpAny_newFunctionEnv_cells S.kind hkind fun env he s1 x=> ?_;subst he;refine ⟨lim.keeps x.toInCall.keep,codeAny_func ?_⟩;obtain ⟨t,ht,hq⟩:=hbody A outer s H vs Q E (hr.deeper _) hsp;have I:Inv (tR CX P w K mg base N qual scope f cdv A outer s H E) [] (start N vs) H s1:=NQ S hr.hd e0 hl r x;refine wpAny_mono (ht [] s1 (start N vs) H _ I hq) (fun fl s' hs=> ?_) fun e s' hs=>hs
 have fin:∀{σ':St} {H':Hp} {v:V} {u:Value},Inv (tR CX P w K mg base N qual scope f cdv A outer s H E) [] σ' H' s'->RelV v u->Q v H'->CE outer P w H s Q u s':=
  fun {σ' H' v u} J rv q=>⟨v,H',J.os,J.bare,J.base,J.hok,rv,q⟩
 cases fl with
 | ret u=>
   obtain ⟨v,σ',H',J,rv,q⟩:=hs;exact fin J rv q
 | next=>
   obtain ⟨σ',H',J,q⟩:=hs;exact fin (v:=V.non) (u:=Value.none) J rfl q
 | brk=>
   obtain ⟨_,_,_,q⟩:=hs;exact False.elim q
 | cont=>
   obtain ⟨_,_,_,q⟩:=hs;exact False.elim q
end L2
namespace L2
open PySem PySem.Spec PyProof.Rows
section
variable {X:Cx} {x:Str} {p pos:Pos} {e:Expr} {es:List Expr} {t:TA} {id T:String} {r:List V->Hp->VK->Prop}
def tCB (r:List V->Hp->VK->Prop) (t:TA):TE:=fun σ H Q=>t σ H fun vs H1=>r vs H1 Q
theorem aX (hc:mZ X (.builtin id) r) (hg:Gl X x) (hm:X.mg x=none) (hv:bootBuiltins x=some (.builtin id)) (ha:PA X (e::es) t) (hn:x ≠ "__name__" :=by decide) (hdb:(x==("__debug__" :Str))=false:=by decide)
 (he:starEach (e::es) X.env=(false,eval e X.env)::starEach es X.env:=by rfl) (hpl:(backTo pos (starEach es X.env)).any (·.1)=false:=by rfl):PE X (.Call (.Name x p) (e::es) [] pos) (tCB r t):=by
 intro pins s σ H Q I h;refine wpAny_Call_Name_kw (BR I hg hm hv ?_ hn hdb);exact PyProof.Rows.callWith_builtin1 (gU (ha pos pins s σ H _ I h) fun us s1 ⟨vs,H1,I1,r1,q1⟩=>hc pins s1 σ H1 vs us Q I1 r1 q1) he hpl
theorem gW (hc:mZ X (.type T) r) (hg:Gl X x) (hm:X.mg x=none) (hv:bootBuiltins x=some (.type T)) (ha:PA X (e::es) t) (hn:x ≠ "__name__" :=by decide) (hdb:(x==("__debug__" :Str))=false:=by decide)
 (he:starEach (e::es) X.env=(false,eval e X.env)::starEach es X.env:=by rfl) (hpl:(backTo pos (starEach es X.env)).any (·.1)=false:=by rfl):PE X (.Call (.Name x p) (e::es) [] pos) (tCB r t):=by
 intro pins s σ H Q I h;refine wpAny_Call_Name_kw (BR I hg hm hv ?_ hn hdb);exact PyProof.Rows.callWith_type1 (gU (ha pos pins s σ H _ I h) fun us s1 ⟨vs,H1,I1,r1,q1⟩=>hc pins s1 σ H1 vs us Q I1 r1 q1) he hpl
end
end L2
namespace HT
open PySem PyProof.Rows
section
open PySem.SeqAt
open PySem.AutoSeq1 (wpAny_loadPart')
open PySem.MeetsSeq PySem.MeetsSeq2 PySem.MeetsSeq3
end
section
variable {prog:Program} {w:World} {A:Around} {E:Value->Shared->Prop} {s:Shared}
theorem L_ {t b:Addr} {vs ws:List Value} {Q:Value->Shared->Prop} (ht:IsTup s.heap t vs.toArray) (hb:IsTup s.heap b ws.toArray) (hv:vs≠[])
 (h1:ws=[]->Q (.ref t) s) (h2:ws≠[]->Q (.ref s.heap.objs.size) {s with heap:=s.heap.push {cls:= .type "tuple",data:= .seq (vs++ws).toArray}})
 (hsz:vs.length+ws.length<=sizeLine):wpAny (model prog w) A (binaryOp .Add (.ref t) (.ref b)) Q E s:=by
 obtain ⟨⟨cls,dd,data,sl⟩,ho,hc,n,hd⟩:=id ht;obtain ⟨⟨cls2,dd2,data2,sl2⟩,ho2,hc2,n2,hd2⟩:=id hb;simp only at hc hd hc2 hd2;subst hc hd hc2 hd2;have e:vs.toArray++ws.toArray=(vs++ws).toArray:=by simp
 by_cases hw:ws=[]
 ·exact concat_meets ⟨_,ho,rfl⟩ ⟨_,ho2,rfl⟩ noFill_tuple_add seq_tuple_add PySem.F.slot_tuple_add PySem.F.entry_tuple_add (PySem.F.args_tuple_add_2 _ _)
   (tuple_addW1 t b vs.toArray ws.toArray n n2 dd dd2 sl sl2 (by simpa using hv) (by simp [hw])) ⟨ho,ho2,h1 hw⟩
 ·refine concat_meets ⟨_,ho,rfl⟩ ⟨_,ho2,rfl⟩ noFill_tuple_add seq_tuple_add PySem.F.slot_tuple_add PySem.F.entry_tuple_add (PySem.F.args_tuple_add_2 _ _)
   (tuple_addW2 t b vs.toArray ws.toArray n n2 dd dd2 sl sl2 (by simpa using hv) (by simpa using hw) (by rw [List.size_toArray,List.size_toArray];exact hsz)) ⟨ho,ho2, ?_⟩
  rw [e];exact h2 hw
def jX (n d:Nat):Option Int->Nat
 | none=>d
 | some v=>if v<0 then (v+(n:Int)).toNat else min v.toNat n
theorem Hl (n d:Nat):jX n d none=d:=rfl
theorem z6 (n d k:Nat):jX n d (some (k:Int))=min k n:=by
 show (if (k:Int)<0 then ((k:Int)+(n:Int)).toNat else min (k:Int).toNat n)=min k n;rw [if_neg (by omega),Int.toNat_natCast]
theorem WW (n d:Nat) (hd:d<=n) (o:Option Int):jX n d o<=n:=by
 cases o with
 | none=>exact hd
 | some v=>
   show (if v<0 then (v+(n:Int)).toNat else min v.toNat n)<=n
   by_cases hv:v<0
   ·rw [if_pos hv];omega
   ·rw [if_neg hv];exact Nat.min_le_right _ _
theorem LR (v:Int) (n d:Nat):(if v<0 then max (v+(n:Int)) 0 else min v (n:Int))=((jX n d (some v):Nat):Int):=by
 show (if v<0 then max (v+(n:Int)) 0 else min v (n:Int))=(((if v<0 then (v+(n:Int)).toNat else min v.toNat n):Nat):Int)
 by_cases hv:v<0
 ·simp only [if_pos hv];omega
 ·simp only [if_neg hv];omega
theorem Kq (lo hi:Option Int) (n:Nat):Builtin.Slice.sliceAdjust lo hi 1 (n:Int)=(((jX n 0 lo:Nat):Int),((jX n n hi:Nat):Int)):=by
 have h1:¬((1:Int)<0):=by omega
 unfold Builtin.Slice.sliceAdjust;simp only [h1,if_false];refine Prod.ext ?_ ?_
 ·cases lo with
  | none=>rfl
  | some v=>exact LR v n 0
 ·cases hi with
  | none=>rfl
  | some v=>exact LR v n n
theorem JN (i j:Nat):Builtin.Slice.slicePlaces (i:Int) (j:Int) 1=j - i:=by
 unfold Builtin.Slice.slicePlaces;have h1:(1:Int)>0:=by omega
 simp only [h1,if_true,Int.ediv_one];split<;>omega
theorem Bj {v:Value} {o:Option Int} {Q:Option Int->Shared->Prop} (p:IsPart v o) (h:Q o s):wpAny (model prog w) A (Builtin.Slice.slicePartIndex v) Q E s:=by
 cases p with
 | none=>exact slicePart_none h
 | int i t=>exact slicePart_int h
theorem yZ {sl:Addr} {vl vu:Value} {lo hi:Option Int} {n:Nat} {Q:Int×Int×Nat->Shared->Prop} (hs:s.heap.IsSliceOf sl vl vu .none) (pl:IsPart vl lo) (pu:IsPart vu hi)
 (h:Q (((jX n 0 lo:Nat):Int),1,jX n n hi - jX n 0 lo) s):wpAny (model prog w) A (Builtin.Slice.sliceApplied (.ref sl) (pure (n:Int))) Q E s:=by
 obtain ⟨os,hos,hcs,hds⟩:=id hs;unfold Builtin.Slice.sliceApplied Builtin.Slice.sliceFields;refine wpAny_bind (wpAny_bind (wpAny_field hos hds (x:=vl) rfl (wpAny_bind (wpAny_field hos hds (x:=vu) rfl (wpAny_bind (wpAny_field hos hds (x:= .none) rfl (wpAny_pure ?_)))))));refine wpAny_bind (slicePart_none ?_);show wpAny _ _ (if ((1:Int)==0)=true then _ else _) _ _ s;rw [if_neg (by decide)];refine wpAny_bind (Bj pl (wpAny_bind (Bj pu (wpAny_bind (wpAny_pure ?_)))));show wpAny _ _ (match Builtin.Slice.sliceAdjust lo hi 1 (n:Int) with |(lo,hi)=>pure (lo,(1:Int),Builtin.Slice.slicePlaces lo hi 1)) _ _ s;rw [Kq lo hi n];show wpAny _ _ (pure (((jX n 0 lo:Nat):Int),(1:Int),Builtin.Slice.slicePlaces ((jX n 0 lo:Nat):Int) ((jX n n hi:Nat):Int) 1)) _ _ s;rw [JN];exact wpAny_pure h
theorem Qi (xs:Array Value) (i k:Nat):((List.range k).filterMap fun (m:Nat)=>xs[((i:Int)+(m:Int)*1).toNat]?).toArray=((xs.toList.drop i).take k).toArray:=by
 have e:(fun (m:Nat)=>xs[((i:Int)+(m:Int)*1).toNat]?)=fun m=>xs[i+m]? :=by
  funext m;have:((i:Int)+(m:Int)*1).toNat=i+m:=by omega
  rw [this]
 rw [e];have:=pick_run xs i k;rw [List.filterMap_map] at this;have e2:((fun x=>xs[x]?)∘fun x=>i+x)=fun m=>xs[i+m]? :=rfl;rw [e2] at this;rw [this]
theorem yp {t sl:Addr} {items:Array Value} {vl vu:Value} {lo hi:Option Int} {Q:Value->Shared->Prop} (ht:IsTup s.heap t items) (hs:s.heap.IsSliceOf sl vl vu .none) (pl:IsPart vl lo) (pu:IsPart vu hi)
 (hw:¬(jX items.size 0 lo=0/\jX items.size items.size hi=items.size))
 (h:Q (.ref s.heap.objs.size) {s with heap:=s.heap.push {cls:= .type "tuple",data:= .seq ((items.toList.drop (jX items.size 0 lo)).take (jX items.size items.size hi - jX items.size 0 lo)).toArray}})
 (hsz:items.size<=sizeLine):wpAny (model prog w) A (getItem (.ref t) (.ref sl)) Q E s:=by
 have Ls:sizeOk (.seq ((items.toList.drop (jX items.size 0 lo)).take (jX items.size items.size hi - jX items.size 0 lo)).toArray):=by
  show ((items.toList.drop (jX items.size 0 lo)).take (jX items.size items.size hi - jX items.size 0 lo)).toArray.size<=sizeLine;rw [List.size_toArray,List.length_take,List.length_drop,Array.length_toList];omega
 have hj:jX items.size items.size hi<=items.size:=WW _ _ (Nat.le_refl _) hi;obtain ⟨os,hos,hcs,hds⟩:=id hs;have hTs:s.TypeIs (.ref sl) "slice" :=⟨os,hos,hcs⟩;unfold getItem
 try with_reducible refine wpAny_holding ?_
 first |refine wpAny_bind (wpAny_pure ?_)|skip
 refine wpAny_bind (wpAny_sequenceKey ht.typeIs (by decide) ?_)
 refine wpAny_bind (wpAny_callSpecial?_slot (name:=Str.ofString "__getitem__") ht.typeIs PyProof.Rows.slot_tuple_getitem
  (wpAny_call_entry PyProof.Rows.slot_tuple_getitem ht.typeIs entry_tuple_getitem ?_ (args_tuple_getitem _ _)))
 show wpAny _ _ (Builtin.Tuple.tupleItemsOf (.ref t) >>= _) _ _ s;refine wpAny_bind (tupleItemsOf_ ht ?_);refine wpAny_bind (wpAny_typeOf hTs ?_);rw [if_pos (by decide)];refine wpAny_bind (yZ hs pl pu ?_)
 have hno:¬((((jX items.size 0 lo:Nat):Int)==0&&(1:Int)==1&&(jX items.size items.size hi - jX items.size 0 lo)==items.size)=true):=by
  intro q;rw [Bool.and_eq_true,Bool.and_eq_true] at q;have q1:((jX items.size 0 lo:Nat):Int)=0:=eq_of_beq q.1.1;have q2:jX items.size items.size hi - jX items.size 0 lo=items.size:=eq_of_beq q.2;exact hw ⟨by omega,by omega⟩
 show wpAny _ _ (if (((jX items.size 0 lo:Nat):Int)==0&&(1:Int)==1&&(jX items.size items.size hi - jX items.size 0 lo)==items.size)=true then _ else _) _ _ s;rw [if_neg hno,Qi]
 first
  | exact wpAny_bind (m:=Builtin.Tuple.tupleExact _) (wpAny_newObj_type (wpAny_pure ⟨_,rfl,wpAny_pure h⟩) Ls)
  | exact wpAny_bind (m:=Builtin.Tuple.tupleExact _) (wpAny_newObj_type (wpAny_bind (wpAny_pure (wpAny_pure ⟨_,rfl,wpAny_pure h⟩))) Ls)
  | exact wpAny_bind (wpAny_bind (m:=Builtin.Tuple.tupleExact _) (wpAny_newObj_type (wpAny_pure (wpAny_pure ⟨_,rfl,wpAny_pure h⟩)) Ls))
  | exact wpAny_bind (wpAny_bind (m:=Builtin.Tuple.tupleExact _) (wpAny_newObj_type (wpAny_pure ⟨_,rfl,wpAny_pure h⟩) Ls))
end
end HT
namespace L2
open PySem PySem.Spec PyProof.Rows
abbrev TO:=St->Hp->(Option Int->Hp->Prop)->Prop
def PO (X:Cx) (e:Option Expr) (t:TO):Prop:=
 ∀(pins:List (Addr×Obj)) (s:Shared) (σ:St) (H:Hp) (Q:Option Int->Hp->Prop),Inv X pins σ H s->t σ H Q ->
  wpAny (model X.prog X.w) X.A (evalPart e X.env) (fun u s'=>∃o H',Inv X pins σ H' s'/\IsPart u o/\Q o H') X.xe s
def SJ:TO:=fun _ H Q=>Q none H
def ZC (t:TE):TO:=fun σ H Q=>t σ H fun x H1=>∃i,x = .int i/\Q (some i) H1
section
variable {X:Cx} {e:Expr} {te:TE} {lo hi:Option Expr} {tl th:TO} {pos p2:Pos}
theorem gD:PO X none SJ:=by
 intro pins s σ H Q I h;rw [evalPart_none];exact wpAny_pure ⟨none,H,I,.none,h⟩
theorem gC (h:PE X e te):PO X (some e) (ZC te):=by
 intro pins s σ H Q I hw;rw [evalPart_some];refine gU (h pins s σ H _ I hw) fun u s1 ⟨x,H1,I1,r1,q1⟩=> ?_;obtain ⟨i,rfl,q⟩:=q1;obtain ⟨t,rfl⟩:=r1;exact ⟨some i,H1,I1,.int i t,q⟩
def SlR (X:Cx) (r:V->Option Int->Option Int->Hp->VK->Prop):Prop:=
 ∀(pins:List (Addr×Obj)) (s:Shared) (σ:St) (H:Hp) (x:V) (v vl vu:Value) (lo hi:Option Int) (sl:Addr) (Q:VK),Inv X pins σ H s->RelV x v->s.heap.IsSliceOf sl vl vu .none->IsPart vl lo->IsPart vu hi->r x lo hi H Q ->
  ∃T id,typeLookup (.type T) "__getitem__" = pure (some (.builtin id))/\s.TypeIs v T/\wpAny (model X.prog X.w) X.A (getItem v (.ref sl)) (EP X pins σ Q) X.xe s
def tSl (r:V->Option Int->Option Int->Hp->VK->Prop) (te:TE) (tl th:TO):TE:=fun σ H Q=>te σ H fun x H1=>tl σ H1 fun l H2=>th σ H2 fun u H3=>r x l u H3 Q
theorem fB {r:V->Option Int->Option Int->Hp->VK->Prop} (hr:SlR X r) (he:PE X e te) (hl:PO X lo tl) (hu:PO X hi th):PE X (.Subscript e (.Slice lo hi none p2) pos) (tSl r te tl th):=by
 intro pins s σ H Q I h;refine Subscript_ (gU (he pins s σ H _ I h) fun v s1 ⟨x,H1,I1,r1,q1⟩=> ?_);refine wpAny_Slice (gU (hl pins s1 σ H1 _ I1 q1) fun vl s2 ⟨l,H2,I2,pl,q2⟩=>gU (hu pins s2 σ H2 _ I2 q2) fun vu s3 ⟨u,H3,I3,pu,q3⟩=> ?_);rw [evalPart_none];refine wpAny_pure ?_;have I4:Inv X pins σ H3 {s3 with heap:=s3.heap.push {cls:= .type "slice",data:= .fields #[vl,vu,.none]}}:=I3.kept (t':=s3.toks) fun b ob q=>Heap.get?_push_of_some _ q;obtain ⟨T,id,hT,ht,hg⟩:=hr pins {s3 with heap:=s3.heap.push {cls:= .type "slice",data:= .fields #[vl,vu,.none]}} σ H3 x v vl vu l u s3.heap.objs.size Q I4 r1 (Heap.IsSliceOf.new ..) pl pu q3;show wpAny (model X.prog X.w) X.A (subscriptTail e (.Slice lo hi none p2) v (.ref s3.heap.objs.size)) (EP X pins σ Q) X.xe {s3 with heap:=s3.heap.push {cls:= .type "slice",data:= .fields #[vl,vu,.none]}};exact tail_any (ops:=[.ref s3.heap.objs.size,v]) ht hT hg (by with_unfolding_all rfl)
def lD (xs:List V) (lo hi:Option Int):List V:=(xs.drop (HT.jX xs.length 0 lo)).take (HT.jX xs.length xs.length hi - HT.jX xs.length 0 lo)
theorem qQ (xs:List V) (lo hi:Option Int):(lD xs lo hi).length<=xs.length:=by
 unfold lD;rw [List.length_take,List.length_drop];omega
def Z4 (K:PySem.W.Frag):V->Option Int->Option Int->Hp->VK->Prop:=fun x lo hi H Q=>∃a xs,x = .ref a/\eV K H a xs /\
 ¬(HT.jX xs.length 0 lo=0/\HT.jX xs.length xs.length hi=xs.length) /\ ∀p,H p=none->Q (.ref p) (upd H p (.tup (lD xs lo hi)))
theorem WQ:SlR X (Z4 X.K):=by
 intro pins s σ H x v vl vu lo hi sl Q I rx hs pl pu h;obtain ⟨a,xs,rfl,hx,hw,q⟩:=h;cases rx;obtain ⟨its,r,ht,hz⟩:=I.tuple hx;have hlen:its.toArray.size=xs.length:=by rw [List.size_toArray];exact r.length.symm
 refine ⟨"tuple",_,PyProof.Rows.slot_tuple_getitem.lookup,ht.typeIs, ?_⟩;refine HT.yp ht hs pl pu (by rw [hlen];exact hw) ?_ (by rw [hlen];exact hz);rw [hlen];refine ⟨.ref s.heap.objs.size,_,I.laid (t':=s.toks) (o:= .tup (lD xs lo hi)) (fun b ob q=>Heap.get?_push_of_some _ q) (Nat.le_refl _) ?_,rfl,q _ (I.hok.fresh (Nat.le_refl _))⟩;exact ⟨Nat.le_trans (qQ xs lo hi) hz,_,(r.drop (HT.jX xs.length 0 lo)).take (HT.jX xs.length xs.length hi - HT.jX xs.length 0 lo),IsTup.new _ _⟩
def VL (K:PySem.W.Frag):R2:=fun x y H Q=>∃a b xs ys,x = .ref a/\y = .ref b/\eV K H a xs/\eV K H b ys/\xs≠[]/\xs.length+ys.length<=sizeLine /\
 (ys=[]->Q (.ref a) H)/\(ys≠[] -> ∀p,H p=none->Q (.ref p) (upd H p (.tup (xs++ys))))
theorem Vals.vB {xs:List V} {us:List Value} (r:Vals xs us):us=[]↔xs=[]:=by
 cases r with
 | nil=>simp
 | cons _ _=>simp
theorem Ld:xq X (binaryOp .Add) (VL X.K):=by
 intro pins s σ H x y v u Q I rx ry h;obtain ⟨a,b,xs,ys,rfl,rfl,ha,hb,hx,hz,q1,q2⟩:=h;cases rx;cases ry;obtain ⟨its,r1,p1,_⟩:=I.tuple ha;obtain ⟨its2,r2,p2,_⟩:=I.tuple hb;refine HT.L_ p1 p2 (fun z=>hx (r1.vB.mp z)) (fun z=>⟨.ref a,H,I,rfl,q1 (r2.vB.mp z)⟩) (fun z=> ?_) (by rw [←r1.length,←r2.length];exact hz);refine ⟨.ref s.heap.objs.size,_,I.laid (t':=s.toks) (o:= .tup (xs++ys)) (fun b ob q=>Heap.get?_push_of_some _ q) (Nat.le_refl _) ?_,rfl,q2 (fun w=>z (r2.vB.mpr w)) _ (I.hok.fresh (Nat.le_refl _))⟩;exact ⟨by rw [List.length_append];exact hz,_,r1.append r2,IsTup.new _ _⟩
end
end L2
namespace L2
open PySem PySem.Spec PyProof.Rows
def QT (n:Nat) (i:Int):Option Nat:=if 0<=i then (if i<n then some i.toNat else none) else if -(n:Int)<=i then some (i+n).toNat else none
def CP {α:Type} (xs:List α) (i:Int):Option α:=(QT xs.length i).bind fun j=>xs[j]?
theorem Lp {n:Nat} {i:Int} {j:Nat} (h:QT n i=some j):seqIndex? i n=some j/\j<n /\ -(n:Int)<=i/\i<n:=by
 unfold QT at h
 by_cases h0:0<=i
 ·rw [if_pos h0] at h
  by_cases h1:i<n
  ·rw [if_pos h1] at h
   have e:i.toNat=j:=Option.some.inj h;exact ⟨by rw [seqIndex_of h0 h1,e],by omega,by omega,h1⟩
  ·rw [if_neg h1] at h;cases h
 ·rw [if_neg h0] at h
  by_cases h1: -(n:Int)<=i
  ·rw [if_pos h1] at h
   have e:(i+n).toNat=j:=Option.some.inj h;exact ⟨by rw [seqIndex_neg (by omega) h1,e],by omega,h1,by omega⟩
  ·rw [if_neg h1] at h;cases h
theorem GX {α:Type} {xs:List α} {i:Int} {v:α} (h:CP xs i=some v):∃j,seqIndex? i xs.length=some j/\xs[j]? = some v/\j<xs.length /\ -(xs.length:Int)<=i/\i<xs.length:=by
 unfold CP at h;cases e:QT xs.length i with
 | none=>rw [e] at h;cases h
 | some j=>
   rw [e] at h;obtain ⟨h1,h2,h3,h4⟩:=Lp e;exact ⟨j,h1,h,h2,h3,h4⟩
theorem qg {α:Type} {xs:List α} {j:Nat} {v:α} (h:xs[j]? = some v):CP xs (j:Int)=some v:=by
 have hj:j<xs.length:=(List.getElem?_eq_some_iff.mp h).1
 have e:QT xs.length (j:Int)=some j:=by
  unfold QT;rw [if_pos (by omega),if_pos (by omega)];simp
 unfold CP;rw [e];exact h
theorem Jg {α:Type} (xs:List α) (v:α):CP (xs++[v]) (-1)=some v:=by
 have hl:(xs++[v]).length=xs.length+1:=by simp
 have e:QT (xs++[v]).length (-1)=some xs.length:=by
  unfold QT;rw [hl,if_neg (by decide),if_pos (by omega)];congr 1;omega
 unfold CP;rw [e];show (xs++[v])[xs.length]? = some v;simp
def Vm (b:Expr):Prop:=∀o i,subscripted b false o i=operate [o,i] (getItem o i)
def O6 (X:Cx) (r:R2):Prop:=
 ∀(value slice:Expr) (pins:List (Addr×Obj)) (s:Shared) (σ:St) (H:Hp) (x y:V) (v u:Value) (Q:VK),Inv X pins σ H s->RelV x v->RelV y u->r x y H Q ->
  subscripted slice false v u=operate [v,u] (getItem v u)->wpAny (model X.prog X.w) X.A (subscriptTail value slice v u) (EP X pins σ Q) X.xe s
def MtR (X:Cx) (id:String) (r:V->List V->Hp->VK->Prop):Prop:=
 ∀(pins:List (Addr×Obj)) (s:Shared) (σ:St) (H:Hp) (x:V) (xs:List V) (v:Value) (us:List Value) (Q:VK),Inv X pins σ H s->RelV x v->Vals xs us->r x xs H Q ->
  wpAny (model X.prog X.w) X.A (call (.builtin id) (v::us)) (EP X pins σ Q) X.xe s
section
variable {X:Cx} {a b:Expr} {ta tb:TE} {pos:Pos}
theorem O6.or {r r':R2} (h:O6 X r) (h':O6 X r'):O6 X (fun x y H Q=>r x y H Q\/r' x y H Q):=by
 intro value slice pins s σ H x y v u Q I rx ry q hs;rcases q with q|q
 ·exact h value slice pins s σ H x y v u Q I rx ry q hs
 ·exact h' value slice pins s σ H x y v u Q I rx ry q hs
theorem aU {r:R2} (hr:O6 X r) (ha:PE X a ta) (hb:PE X b tb) (hs:Vm b):PE X (.Subscript a b pos) (tOp r ta tb):=by
 intro pins s σ H Q I h;exact Subscript_ (YB ha hb I h fun v u s2 x y H2 I2 rx ry q=>hr a b pins s2 σ H2 x y v u Q I2 rx ry q (hs _ _))
def W4 (K:PySem.W.Frag):R2:=fun x y H Q=>∃p xs i v,x = .ref p/\y = .int i/\bK K H p xs/\CP xs i=some v/\Q v H
def W3 (K:PySem.W.Frag):R2:=fun x y H Q=>∃p xs i v,x = .ref p/\y = .int i/\eV K H p xs/\CP xs i=some v/\Q v H
def Z8:R2:=fun x y H Q=>∃z i c,x = .str z/\y = .int i/\z.length<=sizeLine/\CP z.cps.toList i=some c/\Q (.str ⟨#[c]⟩) H
theorem Ln:O6 X (W4 X.K):=by
 intro value slice pins s σ H x y v u Q I rx ry h hs;obtain ⟨p,xs,i,z,rfl,rfl,hq,he,q⟩:=h;cases rx;obtain ⟨t,rfl⟩:=ry;obtain ⟨its,r,pl,hz⟩:=I.list hq;obtain ⟨j,h1,h2,h3,h4,h5⟩:=GX he;obtain ⟨w,ew,rw'⟩:=r.get h2;have hl:=r.length;have hn:=tu;have fin:EP X pins σ Q w s:=⟨z,H,I,rw',q⟩
 by_cases h0:0<=i
 ·have hj:i.toNat=j:=by
   rw [seqIndex_of h0 h5] at h1;exact Option.some.inj h1
  exact item_listR pl.isList h0 (by omega) (by rw [hj];simpa using ew) fin hs
 ·have hj:(i+(its.toArray.size:Int)).toNat=j:=by
   rw [seqIndex_neg (by omega) h4] at h1;rw [List.size_toArray,←hl];exact Option.some.inj h1
  exact subscriptTail_builtinR (x:=w) pl.isList.typeIs slot_list_getitem.lookup
   (wpAny_getItem_list_neg (Q:=fun r s'=>r=w/\EP X pins σ Q r s') pl.isList (by omega) (by rw [List.size_toArray]<;>omega) (by omega) (by rw [hj];simpa using ew) ⟨rfl,fin⟩) hs
theorem QS:O6 X (W3 X.K):=by
 intro value slice pins s σ H x y v u Q I rx ry h hs;obtain ⟨p,xs,i,z,rfl,rfl,hq,he,q⟩:=h;cases rx;obtain ⟨t,rfl⟩:=ry;obtain ⟨its,r,pl,hz⟩:=I.tuple hq;obtain ⟨j,h1,h2,h3,h4,h5⟩:=GX he;obtain ⟨w,ew,rw'⟩:=r.get h2;have hl:=r.length;have hn:=tu;have fin:EP X pins σ Q w s:=⟨z,H,I,rw',q⟩
 exact subscriptTail_builtinR (x:=w) pl.typeIs slot_tuple_getitem.lookup
  (getItem_tuple (j:=j) (Q:=fun r s'=>r=w/\EP X pins σ Q r s') pl (by omega) (by omega) (by rw [List.size_toArray,←hl];exact h1) (by simpa using ew) ⟨rfl,fin⟩) hs
theorem XR:O6 X Z8:=by
 intro value slice pins s σ H x y v u Q I rx ry h hs;obtain ⟨z,i,c,rfl,rfl,hz,he,q⟩:=h;obtain ⟨t,rfl⟩:=rx;obtain ⟨t',rfl⟩:=ry;obtain ⟨j,h1,h2,h3,h4,h5⟩:=GX he;have hl:z.cps.toList.length=z.length:=by simp [Str.length]
 rw [hl] at h1 h4 h5;have hn:=tu
 exact tail_any (typeIs_str s z t) slot_str_getitem.lookup (getItem_str (c:=c) (by
  have e1:decide (i < -(2 ^ 63:Int))=false:=decide_eq_false (by omega);have e2:decide (i≥2 ^ 63)=false:=decide_eq_false (by omega);rw [e1,e2,Bool.or_false]) (by rw [h1];simpa using h2) ⟨.str ⟨#[c]⟩,H,I.tok _,⟨_,rfl⟩,q⟩) hs
def rIx (K:PySem.W.Frag):R2:=fun x y H Q=>W4 K x y H Q\/W3 K x y H Q\/Z8 x y H Q
theorem XS:O6 X (rIx X.K):=Ln.or (QS.or XR)
theorem J2 (its:List Value) (n j:Nat) (u:Value):Obj.mapSeq (·.setIfInBounds j u) {cls:= .type "list",data:= .seq its.toArray n}={cls:= .type "list",data:= .seq (its.set j u).toArray n}:=by
 simp [Obj.mapSeq]
theorem Inv.lst {pins:List (Addr×Obj)} {σ:St} {H:Hp} {s:Shared} {p:Addr} {xs:List V} (I:Inv X pins σ H s) (h:H p=some (.lst xs)):
 ∃(its:List Value) (n:Nat),Vals xs its/\s.heap.get? p=some {cls:= .type "list",data:= .seq its.toArray n}/\xs.length<=sizeLine:=by
 obtain ⟨z,its,n,r,e⟩:=I.hok p _ h;exact ⟨its,n,r,e,z⟩
theorem Inv.Xy {pins:List (Addr×Obj)} {σ:St} {H:Hp} {s:Shared} {p:Addr} {xs ys:List V} {its its':List Value} {n n':Nat} {f:Obj->Obj} (I:Inv X pins σ H s) (h:H p=some (.lst xs))
 (ho:s.heap.get? p=some {cls:= .type "list",data:= .seq its.toArray n}) (hf:f {cls:= .type "list",data:= .seq its.toArray n}={cls:= .type "list",data:= .seq its'.toArray n'}) (r:Vals ys its') (hz:ys.length<=sizeLine) (t:Nat):
 Inv X pins σ (upd H p (.lst ys)) {s with heap:=s.heap.update p f,toks:=t}:=by
 have e:(s.heap.update p f).get? p=some {cls:= .type "list",data:= .seq its'.toArray n'}:=by
  rw [Heap.get?_update_self f ho (by rw [hf]<;>rfl),hf]
 refine I.write (x:=p) (e:=p) (by rw [h];trivial) (.inl rfl) (fun b u hb q=>(Heap.get?_update_other _ _ (Ne.symm hb)).trans q) ⟨_,e⟩ ?_;exact ⟨hz,its',n',r,e⟩
def Z6:V->V->V->Hp->(Hp->Prop)->Prop:=fun o i v H Q=>∃p xs k j,o = .ref p/\i = .int k/\H p=some (.lst xs)/\QT xs.length k=some j/\Q (upd H p (.lst (xs.set j v)))
theorem set_list:YJ X Z6:=by
 intro pins s σ H o i v ov iv u Q I ro ri rv h;obtain ⟨p,xs,k,j,rfl,rfl,hp,hj,q⟩:=h;cases ro;obtain ⟨t,rfl⟩:=ri;obtain ⟨its,n,r,ho,hz⟩:=I.lst hp;obtain ⟨h1,h2,h3,h4⟩:=Lp hj;have hl:=r.length;have hn:=tu
 have I':Inv X pins σ (upd H p (.lst (xs.set j v))) {s with heap:=s.heap.update p (Obj.mapSeq (·.setIfInBounds j u))}:=
  I.Xy hp ho (J2 its n j u) (r.set rv j) (by rw [List.length_set];exact hz) s.toks
 by_cases h0:0<=k
 ·have hk:k.toNat=j:=by
   rw [seqIndex_of h0 h4] at h1;exact Option.some.inj h1
  exact PySem.W.ki_setAt ho h0 (by omega) (by rw [List.size_toArray,←hl];exact h4) (by rw [hk];exact ⟨_,I',q⟩)
 ·have hk:(k+(its.toArray.size:Int)).toNat=j:=by
   rw [seqIndex_neg (by omega) h3] at h1;rw [List.size_toArray,←hl];exact Option.some.inj h1
  exact PySem.W.ki_setBack ho (by omega) (by rw [List.size_toArray,←hl];exact h3) (by omega) (by rw [hk];exact ⟨_,I',q⟩)
theorem Ge (lo hi:Option Int) (n:Nat):(sliceBounds lo hi none n).1=((HT.jX n 0 lo:Nat):Int)/\(sliceBounds lo hi none n).2.1=((HT.jX n n hi:Nat):Int)/\(sliceBounds lo hi none n).2.2=1:=by
 refine ⟨?_, ?_,rfl⟩
 ·cases lo with
  | none=>simp [sliceBounds,HT.jX]
  | some i=>
    simp only [sliceBounds,HT.jX,Option.getD_none,show (1:Int)>0 by decide,if_true]
    by_cases h:i<0
    ·simp only [h,if_true]<;>omega
    ·simp only [h,if_false]<;>omega
 ·cases hi with
  | none=>simp [sliceBounds,HT.jX]
  | some i=>
    simp only [sliceBounds,HT.jX,Option.getD_none,show (1:Int)>0 by decide,if_true]
    by_cases h:i<0
    ·simp only [h,if_true]<;>omega
    ·simp only [h,if_false]<;>omega
theorem Dm (its:List Value) (lo hi:Option Int):slicePick its.toArray lo hi none=((its.drop (HT.jX its.length 0 lo)).take (HT.jX its.length its.length hi - HT.jX its.length 0 lo)).toArray:=by
 obtain ⟨h1,h2,h3⟩:=Ge lo hi its.toArray.size;unfold slicePick;rw [h1,h2,h3];simp only [sliceRange_one,pick_run,List.size_toArray]<;>rfl
def Z5 (K:PySem.W.Frag):V->Option Int->Option Int->Hp->VK->Prop:=fun x lo hi H Q=>∃a xs,x = .ref a/\bK K H a xs /\ ∀p,H p=none->Q (.ref p) (upd H p (.lst (lD xs lo hi)))
theorem Te:SlR X (Z5 X.K):=by
 intro pins s σ H x v vl vu lo hi sl Q I rx hs pl pu h;obtain ⟨a,xs,rfl,hx,q⟩:=h;cases rx;obtain ⟨its,r,ht,hz⟩:=I.list hx;have hlen:=r.length;refine ⟨"list",_,slot_list_getitem.lookup,ht.isList.typeIs, ?_⟩;refine wpAny_getItem_list_slice ht.isList hs pl pu .none (by simp) ?_ (by rw [List.size_toArray]<;>omega);rw [Dm,←hlen];refine ⟨.ref s.heap.objs.size,_,I.laid (t':=s.toks) (o:= .lst (lD xs lo hi)) (fun b ob q=>Heap.get?_push_of_some _ q) (Nat.le_refl _) ?_,rfl,q _ (I.hok.fresh (Nat.le_refl _))⟩;exact ⟨Nat.le_trans (qQ xs lo hi) hz,_,0,(r.drop (HT.jX xs.length 0 lo)).take (HT.jX xs.length xs.length hi - HT.jX xs.length 0 lo),Heap.get?_push_size _ rfl⟩
theorem GF:mZ X (.builtin "len") (fun xs H Q=>∃p ys,xs=[.ref p]/\(bK X.K H p ys\/eV X.K H p ys)/\Q (.int ys.length) H):=by
 intro pins s σ H xs us Q I r h;obtain ⟨p,ys,rfl,hq,q⟩:=h;obtain ⟨u,rfl,rx⟩:=vals1 r;cases rx;have hn:=tu;rcases hq with hq|hq
 ·obtain ⟨its,r',pl,hz⟩:=I.list hq
  have hlen:=r'.length;exact Calls.call_len_list pl.isList (by simp only [List.size_toArray]<;>omega) ⟨.int ys.length,H,I.tok _,⟨s.toks+1,by rw [List.size_toArray,hlen]⟩,q⟩
 ·obtain ⟨its,r',pl,hz⟩:=I.tuple hq
  have hlen:=r'.length;exact len_tuple pl (by simp only [List.size_toArray]<;>omega) ⟨.int ys.length,H,I.tok _,⟨s.toks+1,by rw [List.size_toArray,hlen]⟩,q⟩
theorem GD:mZ X (.type "list") (fun xs H Q=>∃p ys,xs=[.ref p]/\(bK X.K H p ys\/eV X.K H p ys) /\ ∀l,H l=none->Q (.ref l) (upd H l (.lst ys))):=by
 intro pins s σ H xs us Q I r h;obtain ⟨p,ys,rfl,hq,q⟩:=h;obtain ⟨u,rfl,rx⟩:=vals1 r;cases rx
 have fin:∀(its:List Value),Vals ys its->ys.length<=sizeLine -> ∀(h':Heap) (c':Nat),(∀b o',s.heap.get? b=some o'->h'.get? b=some o') ->
  h'.get? s.heap.objs.size=some {cls:= .type "list",dict:=none,data:= .seq its.toArray c',slots:= #[]}->EP X pins σ Q (.ref s.heap.objs.size) {s with heap:=h'}:=fun its r' hz h' c' kp e=>
  ⟨.ref s.heap.objs.size,_,I.laid (t':=s.toks) kp (Nat.le_refl _) (show gw X.prog X.w _ h' _ (.lst ys) from ⟨hz,its,c',r',e⟩),rfl,q _ (I.hok.fresh (Nat.le_refl _))⟩
 rcases hq with hq|hq
 ·obtain ⟨its,r',pl,hz⟩:=I.list hq
  have hlen:=r'.length;obtain ⟨o,ho,hc,n,hd⟩:=pl.isList;exact call_list_seq p (.inl rfl) ho hc hd (fun h' c' kp e=>fin its r' hz h' c' kp e) (by simp only [List.size_toArray]<;>omega)
 ·obtain ⟨its,r',pl,hz⟩:=I.tuple hq
  have hlen:=r'.length;obtain ⟨o,ho,hc,n,hd⟩:=pl;exact call_list_seq p (.inr rfl) ho hc hd (fun h' c' kp e=>fin its r' hz h' c' kp e) (by simp only [List.size_toArray]<;>omega)
theorem vY:mZ X (.type "tuple") (fun xs H Q=>∃p ys,xs=[.ref p]/\((bK X.K H p ys /\ ∀l,H l=none->Q (.ref l) (upd H l (.tup ys)))\/(eV X.K H p ys/\Q (.ref p) H))):=by
 intro pins s σ H xs us Q I r h;obtain ⟨p,ys,rfl,h⟩:=h;obtain ⟨u,rfl,rx⟩:=vals1 r;cases rx;rcases h with ⟨hq,q⟩|⟨hq,q⟩
 ·obtain ⟨its,r',pl,hz⟩:=I.list hq
  have hlen:=r'.length;refine call_tuple_list pl.isList (fun h' kp=> ?_) (by simp only [List.size_toArray]<;>omega);have I1:Inv X pins σ H {s with heap:=h'}:=I.kept (t':=s.toks) kp
  have I2:Inv X pins σ (upd H h'.objs.size (.tup ys)) {s with heap:=h'.push {cls:= .type "tuple",data:= .seq its.toArray}}:=
   I1.laid (t':=s.toks) (fun b o e=>Heap.get?_push_of_some _ e) (Nat.le_refl _) (show gw X.prog X.w _ _ _ (.tup ys) from ⟨hz,its,r',IsTup.new _ _⟩)
  exact ⟨.ref h'.objs.size,_,I2,rfl,q _ (I1.hok.fresh (Nat.le_refl _))⟩
 ·obtain ⟨its,r',pl,hz⟩:=I.tuple hq
  exact call_tuple_same pl ⟨.ref p,H,I,rfl,q⟩
def tyV (K:PySem.W.Frag) (T:String) (x:V) (H:Hp):Prop:=match x with
 | .str _=>T = "str"
 | .int _=>T = "int"
 | .ref p=>(T = "list" /\ ∃xs,bK K H p xs)\/(T = "tuple" /\ ∃o,K.lookup p=some o/\o.cls = .type "tuple" /\ o.dict=none) \/
    (T = "dict" /\ ((∃kvs,H p=some (.dK kvs)) \/ ∃kvs,H p=some (.dT kvs)))\/(T = "set" /\ ∃S n,H p=some (.set S n))
 | _=>False
theorem Wo {pins:List (Addr×Obj)} {σ:St} {H:Hp} {s:Shared} {T:String} {x:V} {v:Value} (I:Inv X pins σ H s) (r:RelV x v) (ty:tyV X.K T x H):
 s.TypeIs v T /\ ∀a,v = .ref a -> ∃ob,s.heap.get? a=some ob/\ob.dict=none:=by
 cases x with
 | str z=>
   obtain ⟨t,rfl⟩:=r;cases (show T = "str" from ty);exact ⟨typeIs_str s z t,fun _ e=>nomatch e⟩
 | int i=>
   obtain ⟨t,rfl⟩:=r;cases (show T = "int" from ty);exact ⟨typeIs_int s i t,fun _ e=>nomatch e⟩
 | ref p=>
   cases r;rcases ty with ⟨rfl,xs,hq⟩|⟨rfl,o,hk,hc,hd⟩|⟨rfl,hk⟩|⟨rfl,S,n,hk⟩
   ·obtain ⟨its,_,pl,_⟩:=I.list hq
    refine ⟨pl.isList.typeIs,fun a e=> ?_⟩;cases e;obtain ⟨o,n,e,c,hd,_⟩:=pl;exact ⟨o,e,hd⟩
   ·refine ⟨⟨o,I.Ad p o hk,hc⟩,fun a e=> ?_⟩
    cases e;exact ⟨o,I.Ad _ o hk,hd⟩
   ·have z:∃o,s.heap.get? p=some o/\o.ExactDict:=by
     rcases hk with ⟨kvs,hk⟩|⟨kvs,hk⟩
     ·obtain ⟨_,_,_,_,o,_,_,e,ex,_⟩:=I.hok p _ hk
      exact ⟨o,e,ex⟩
     ·obtain ⟨_,_,_,_,o,_,_,e,ex,_⟩:=I.hok p _ hk
      exact ⟨o,e,ex⟩
    obtain ⟨o,e,ex⟩:=z;refine ⟨⟨o,e,ex.1⟩,fun a e2=> ?_⟩;cases e2;exact ⟨o,e,ex.2.1⟩
   ·obtain ⟨o,_,_,_,e,ex,_⟩:=I.hok p _ hk
    refine ⟨⟨o,e,ex.1⟩,fun a e2=> ?_⟩;cases e2;exact ⟨o,e,ex.2.1⟩
 | _=>exact False.elim ty
def tBM (K:PySem.W.Frag) (T:String) (r:V->List V->Hp->VK->Prop) (to:TE) (t:TA):TE:=fun σ H Q=>to σ H fun x H1=>tyV K T x H1/\t σ H1 fun xs H2=>r x xs H2 Q
variable {o e:Expr} {es:List Expr} {to:TE} {t:TA} {name:Str} {apos cpos:Pos} {T id:String} {r:V->List V->Hp->VK->Prop}
theorem VP (pa:PlainAttrs T) (slot:Slot T name id) (hty:typeOf (.builtin id)=pure (.type "method_descriptor")) (hm:MtR X id r) (ho:PE X o to) (ha:PA X (e::es) t)
 (hbase:attributeBase o name X.env (eval o X.env)=eval o X.env:=by rfl)
 (hfew:((backTo cpos (starEach (e::es) X.env)).all (fun x=> !x.1)&&(backToKw cpos (keywordEach [] X.env)).all (fun x=>x.1.isSome)
   && decide ((e::es).length+([]:List Keyword).length+(if ([]:List Keyword).isEmpty then 0 else 1)<30))=true:=by rfl)
 (hline:(apos.endLine==cpos.line)=true:=by rfl) (hs:starEach (e::es) X.env=(false,eval e X.env)::starEach es X.env:=by rfl) (hplain:(backTo cpos (starEach es X.env)).any (·.1)=false:=by rfl):
 PE X (.Call (.Attribute o name apos) (e::es) [] cpos) (tBM X.K T r to t):=by
 intro pins s σ H Q I h;refine wpAny_Call_method_late hbase hfew hline rfl (gU (ho pins s σ H _ I h) fun v s1 ⟨x,H1,I1,r1,ty,q1⟩=> ?_);obtain ⟨h1,h2⟩:=Wo I1 r1 ty;refine ⟨T,id,pa,slot,hty,h1,h2, ?_⟩;have hA:=ha cpos pins s1 σ H1 _ I1 q1;rw [hs] at hA ⊢;refine Calls.callWith_builtin (by show (false||(backTo cpos (starEach es X.env)).any (·.1))=false;rw [hplain]<;>rfl) (Calls.evalArgs_plain ?_);exact gU hA fun us s2 ⟨vs,H2,I2,r2,q2⟩=>hm pins s2 σ H2 x vs v us Q I2 r1 r2 q2
end
end L2
namespace L2
open PySem PySem.Spec PyProof.Rows
def MtM (X:Cx) (id:String) (r:V->List V->Hp->VK->Prop):Prop:=
 ∀(pins:List (Addr×Obj)) (s:Shared) (σ:St) (H:Hp) (x:V) (xs:List V) (v:Value) (us:List Value) (Q:VK),Inv X pins σ H s->RelV x v->Vals xs us->r x xs H Q ->
  wpAny (model X.prog X.w) X.A (call (.builtin id) (v::us)) (EP X pins σ Q) X.xe s
theorem Vals.one {x:V} {us:List Value} (h:Vals [x] us):∃u,us=[u]/\RelV x u:=by
 cases h with
 | cons r t=>cases t;exact ⟨_,rfl,r⟩
theorem Vals.two {x y:V} {us:List Value} (h:Vals [x,y] us):∃u v,us=[u,v]/\RelV x u/\RelV y v:=by
 cases h with
 | cons r t=>
   cases t with
   | cons q t=>cases t;exact ⟨_,_,rfl,r,q⟩
theorem Vals.eraseIdx:∀{xs:List V} {us:List Value} (i:Nat),Vals xs us->Vals (xs.eraseIdx i) (us.eraseIdx i)
 | _,_,_,.nil=> .nil
 | _,_,0,.cons _ t=>t
 | _,_,i+1,.cons r t=> .cons r (Vals.eraseIdx i t)
theorem Ep {α:Type}:∀(l:List α) (i:Nat),(l.eraseIdx i).length<=l.length
 | [],_=>Nat.le_refl _
 | _::_,0=>Nat.le_succ _
 | _::r,i+1=>Nat.succ_le_succ (Ep r i)
section
variable {X:Cx} {pins:List (Addr×Obj)} {σ:St} {H:Hp} {s:Shared} {l b:Addr} {xs ys zs:List V}
theorem Inv.Uq {its its':List Value} {n:Nat} {f:Array Value->Array Value} {t':Nat} (I:Inv X pins σ H s) (hH:H l=some (.lst xs))
 (e:s.heap.get? l=some {cls:= .type "list",data:= .seq its.toArray n}) (hf:f its.toArray=its'.toArray) (hv:Vals ys its') (hz:ys.length<=sizeLine):
 Inv X pins σ (upd H l (.lst ys)) {s with heap:=s.heap.update l (Obj.mapSeq f),toks:=t'}:=by
 have q:=PySem.IsL.update e f;rw [hf] at q;refine I.write (x:=l) (e:=l) (by rw [hH];exact trivial) (.inl rfl) (fun b' u hb hu=>(Heap.get?_update_other s.heap (Obj.mapSeq f) (Ne.symm hb)).trans hu) ⟨_,q⟩ ?_;exact ⟨hz,its',_,hv,q⟩
theorem Inv.agm {its:List Value} {t':Nat} (I:Inv X pins σ H s) (hv:Vals ys its) (hz:ys.length<=sizeLine):
 Inv X pins σ (upd H s.heap.objs.size (.lst ys)) {s with heap:=s.heap.push {cls:= .type "list",data:= .seq its.toArray},toks:=t'}:=
 I.laid (fun _ _ q=>Heap.get?_push_of_some _ q) (Nat.le_refl _) ⟨hz,its,0,hv,Heap.get?_push_size _ rfl⟩
theorem Inv.fresh (I:Inv X pins σ H s):H s.heap.objs.size=none:=I.hok.fresh (Nat.le_refl _)
theorem Inv.J3 (I:Inv X pins σ H s) (hH:H l=some (.lst xs)):xs.length<=sizeLine /\ ∃(its:List Value) (n:Nat),Vals xs its/\xs.length=its.length/\s.heap.get? l=some {cls:= .type "list",data:= .seq its.toArray n}:=by
 obtain ⟨z,its,n,r,e⟩:=I.hok l _ hH;exact ⟨z,its,n,r,r.length,e⟩
theorem Qx {n:Nat} (h:n<=sizeLine):Builtin.List.listTooLong n=false:=by
 unfold Builtin.List.listTooLong;exact decide_eq_false (by omega)
end
section
variable {X:Cx}
def K3:V->List V->Hp->VK->Prop:=fun x vs H Q=>∃l xs y,x = .ref l/\vs=[y]/\H l=some (.lst xs)/\xs.length<sizeLine/\Q .non (upd H l (.lst (xs++[y])))
theorem En:MtM X "list.append" K3:=by
 intro pins s σ H x vs v us Q I rx rv h;obtain ⟨l,xs,y,rfl,rfl,hH,hz,q⟩:=h;cases rx;obtain ⟨u,rfl,ru⟩:=rv.one;obtain ⟨z,its,n,r,hl,e⟩:=I.J3 hH;refine call_meets F.slot_list_append ⟨_,e,rfl⟩ F.entry_list_append (F.args_list_append_2 _ _) (PySem.list_append l its.toArray n u (by rw [List.size_toArray];omega)) ⟨e, ?_⟩;refine ⟨.non,_,I.Uq (its':=its++[u]) hH e (by simp) (r.append (.cons ru .nil)) ?_,rfl,q⟩;rw [List.length_append,List.length_singleton];omega
def Tp:V->List V->Hp->VK->Prop:=fun x vs H Q=>∃l b xs zs,x = .ref l/\vs=[.ref b]/\H l=some (.lst xs)/\H b=some (.lst zs)/\xs.length+zs.length<=sizeLine/\Q .non (upd H l (.lst (xs++zs)))
theorem Nr:MtM X "list.extend" Tp:=by
 intro pins s σ H x vs v us Q I rx rv h;obtain ⟨l,b,xs,zs,rfl,rfl,hH,hB,hz,q⟩:=h;cases rx;obtain ⟨u,rfl,ru⟩:=rv.one;cases ru;obtain ⟨z,its,n,r,hl,e⟩:=I.J3 hH;obtain ⟨z2,its2,n2,r2,hl2,e2⟩:=I.J3 hB;have hsz:its.toArray.size+its2.toArray.size<=sizeLine:=by rw [List.size_toArray,List.size_toArray];omega
 have aaC:¬(!its.toArray.isEmpty&&Builtin.List.listTooLong (its.toArray.size+its2.toArray.size))=true:=by
  rw [Qx hsz,Bool.and_false];exact Bool.false_ne_true
 refine call_meets F.slot_list_extend ⟨_,e,rfl⟩ F.entry_list_extend (F.args_list_extend_2 _ _)
  (AutoSeq1.list_extend_list_list_0 l its.toArray n b its2.toArray n2 aaC (by rw [List.size_toArray];omega) (by omega)) ⟨e,e2, ?_⟩
 refine ⟨.non,_,I.Uq (its':=its++its2) hH e (by simp) (r.append r2) ?_,rfl,q⟩;rw [List.length_append];omega
def W2:V->List V->Hp->VK->Prop:=fun x vs H Q=>∃l xs i k y,x = .ref l/\vs=[.int i]/\H l=some (.lst xs) /\ -(2 ^ 63)<=i/\i<2 ^ 63/\seqIndex? i xs.length=some k/\xs[k]? = some y/\Q y (upd H l (.lst (xs.eraseIdx k)))
theorem HS:MtM X "list.pop" W2:=by
 intro pins s σ H x vs v us Q I rx rv h;obtain ⟨l,xs,i,k,y,rfl,rfl,hH,h1,h2,hk,hy,q⟩:=h;cases rx;obtain ⟨u,rfl,ru⟩:=rv.one;obtain ⟨t,rfl⟩:=ru;obtain ⟨z,its,n,r,hl,e⟩:=I.J3 hH;obtain ⟨w,hw,rw'⟩:=r.get hy
 refine call_meets F.slot_list_pop ⟨_,e,rfl⟩ F.entry_list_pop (F.args_list_pop_2 _ _)
  (MeetsSeq.list_pop_at l its.toArray n i t k w (fitsIndex_both h1 h2) (by rw [List.size_toArray,←hl];exact hk) (by rw [←Array.getElem?_toList];exact hw) (by rw [List.size_toArray];omega)) ⟨e, ?_⟩
 refine ⟨y,_,I.Uq (its':=its.eraseIdx k) hH e ?_ (r.eraseIdx k) ?_,rw',q⟩
 ·show its.toArray.eraseIdxIfInBounds k=(its.eraseIdx k).toArray
  rw [List.eraseIdxIfInBounds_toArray]
 ·have:=Ep xs k
  omega
def aev:R2:=fun x y H Q=>∃l b xs zs,x = .ref l/\y = .ref b/\H l=some (.lst xs)/\H b=some (.lst zs)/\xs.length+zs.length<=sizeLine /\ ∀p,H p=none->Q (.ref p) (upd H p (.lst (xs++zs)))
theorem Gi:xq X (binaryOp .Add) aev:=by
 intro pins s σ H x y v u Q I rx ry h;obtain ⟨l,b,xs,zs,rfl,rfl,hH,hB,hz,q⟩:=h;cases rx;cases ry;obtain ⟨z,its,n,r,hl,e⟩:=I.J3 hH;obtain ⟨z2,its2,n2,r2,hl2,e2⟩:=I.J3 hB;refine PySem.P.add_list e e2 ?_ (by rw [List.size_toArray,List.size_toArray];omega);have ea:its.toArray++its2.toArray=(its++its2).toArray:=by simp
 rw [ea];exact ⟨.ref _,_,I.agm (t':=s.toks) (r.append r2) (by rw [List.length_append];omega),rfl,q _ I.fresh⟩
end
section
variable {prog:Program} {w:World} {A:Around} {E:Value->Shared->Prop} {s:Shared}
end
section
variable {X:Cx}
end
end L2
namespace L2
open PySem PySem.Spec PyProof.Rows
section
variable {κ:Type} [DecidableEq κ]
def gR (kvs:List (κ×V)) (k:κ):Option V:=(kvs.find? fun kv=>decide (kv.1=k)).map (·.2)
def putK (kvs:List (κ×V)) (k:κ) (v:V):List (κ×V):=
 if (kvs.any fun kv=>decide (kv.1=k))=true then kvs.map (fun kv=>if kv.1=k then (kv.1,v) else kv) else kvs++[(k,v)]
theorem jo {p:κ×V} {r:List (κ×V)} {k:κ} (e:p.1=k):gR (p::r) k=some p.2:=by simp [gR,List.find?_cons,e]
theorem jq {p:κ×V} {r:List (κ×V)} {k:κ} (e:¬p.1=k):gR (p::r) k=gR r k:=by simp [gR,List.find?_cons,e]
theorem uN (k:κ):∀kvs:List (κ×V),(kvs.any fun kv=>decide (kv.1=k))=(gR kvs k).isSome
 | []=>rfl
 | p::r=>by
   rw [List.any_cons]
   by_cases e:p.1=k
   ·simp only [jo e,decide_eq_true e,Bool.true_or,Option.isSome_some]
   ·rw [jq e,decide_eq_false e,Bool.false_or];exact uN k r
theorem G8 (k j:κ) (y:V):∀kvs:List (κ×V),gR (kvs.map fun kv=>if kv.1=k then (kv.1,y) else kv) j=(gR kvs j).map fun x=>if j=k then y else x
 | []=>rfl
 | p::r=>by
   have ih:=G8 k j y r;rw [List.map_cons]
   by_cases h:p.1=k
   ·rw [if_pos h]
    by_cases e:p.1=j
    ·rw [jo (p:=(p.1,y)) e,jo e,Option.map_some,if_pos (e.symm.trans h)]
    ·rw [jq (p:=(p.1,y)) e,jq e,ih]
   ·rw [if_neg h]
    by_cases e:p.1=j
    ·rw [jo (p:=p) e,jo e,Option.map_some,if_neg (fun z=>h (e.trans z))]
    ·rw [jq (p:=p) e,jq e,ih]
theorem Ea (k j:κ) (y:V):∀kvs:List (κ×V),gR kvs k=none->gR (kvs++[(k,y)]) j=if j=k then some y else gR kvs j
 | [],_=>by
   by_cases e:k=j
   ·rw [if_pos e.symm];exact jo (p:=(k,y)) e
   ·rw [if_neg (fun z=>e z.symm)];exact jq (p:=(k,y)) e
 | p::r,hn=>by
   rw [List.cons_append];have hk:¬p.1=k:=fun z=>by rw [jo z] at hn;cases hn
   rw [jq hk] at hn;have ih:=Ea k j y r hn
   by_cases e:p.1=j
   ·rw [jo e,jo e,if_neg (fun z=>hk (e.trans z))]
   ·rw [jq e,jq e,ih]
theorem q_ (kvs:List (κ×V)) (k j:κ) (y:V):gR (putK kvs k y) j=if j=k then some y else gR kvs j:=by
 unfold putK
 by_cases a:(kvs.any fun kv=>decide (kv.1=k))=true
 ·rw [if_pos a,G8]
  rw [uN] at a
  by_cases e:j=k
  ·obtain ⟨x,hx⟩:=Option.isSome_iff_exists.mp a
   rw [if_pos e,e,hx,Option.map_some,if_pos rfl]
  ·rw [if_neg e]
   cases gR kvs j with
   | none=>rfl
   | some x=>rw [Option.map_some,if_neg e]
 ·rw [if_neg a]
  refine Ea k j y kvs ?_;rw [uN] at a;cases q:gR kvs k with
  | none=>rfl
  | some x=>rw [q] at a;exact (a rfl).elim
theorem jO (kvs:List (κ×V)) (k:κ) (v:V):(putK kvs k v).length<=kvs.length+1:=by
 unfold putK;split
 ·rw [List.length_map];omega
 ·rw [List.length_append,List.length_cons,List.length_nil];omega
theorem xg.zj {o:Option V} {u:Option Value} (r:xg o u):o.isSome=u.isSome:=by
 cases o with
 | none=>cases u with
   | none=>rfl
   | some _=>exact (show False from r).elim
 | some _=>cases u with
   | none=>exact (show False from r).elim
   | some _=>rfl
theorem xg.getD {o:Option V} {u:Option Value} {d:V} {d':Value} (r:xg o u) (rd:RelV d d'):RelV (o.getD d) (u.getD d'):=by
 cases o with
 | none=>cases u with
   | none=>exact rd
   | some _=>exact (show False from r).elim
 | some _=>cases u with
   | none=>exact (show False from r).elim
   | some _=>exact r
theorem KV.val {kvs:List (κ×V)} {vs:List (κ×Value)} (r:KV kvs vs) (k:κ):xg (gR kvs k) (valueAt vs k):=by
 unfold KV at r
 induction r with
 | nil=>exact True.intro
 | @cons p q ps qs h t ih=>
   obtain ⟨h1,h2⟩:=h
   by_cases e:p.1=k
   ·have e':q.1=k:=h1.symm.trans e
    have b:valueAt (q::qs) k=some q.2:=by simp [valueAt,List.find?_cons,e']
    rw [jo e,b];exact h2
   ·have e':¬q.1=k:=fun z=>e (h1.trans z)
    have b:valueAt (q::qs) k=valueAt qs k:=by simp [valueAt,List.find?_cons,e']
    rw [jq e,b];exact ih
theorem KV.any {kvs:List (κ×V)} {vs:List (κ×Value)} (r:KV kvs vs) (k:κ):(kvs.any fun kv=>decide (kv.1=k))=vs.any fun kv=>decide (kv.1=k):=by
 unfold KV at r
 induction r with
 | nil=>rfl
 | cons h t ih=>rw [List.any_cons,List.any_cons,ih,h.1]
theorem KV.repl {kvs:List (κ×V)} {vs:List (κ×Value)} (r:KV kvs vs) (k:κ) {y:V} {u:Value} (ry:RelV y u):
 KV (kvs.map fun kv=>if kv.1=k then (kv.1,y) else kv) (vs.map fun kv=>if kv.1=k then (kv.1,u) else kv):=by
 unfold KV at r ⊢
 induction r with
 | nil=>exact .nil
 | @cons p q ps qs h t ih=>
   rw [List.map_cons,List.map_cons];refine .cons ?_ ih;obtain ⟨h1,h2⟩:=h
   by_cases e:p.1=k
   ·rw [if_pos e,if_pos (h1.symm.trans e)];exact ⟨h1,ry⟩
   ·rw [if_neg e,if_neg (fun z=>e (h1.trans z))];exact ⟨h1,h2⟩
theorem KV.put {kvs:List (κ×V)} {vs:List (κ×Value)} (r:KV kvs vs) (k:κ) {y:V} {u:Value} (ry:RelV y u):KV (putK kvs k y) (stored vs k u):=by
 unfold putK stored;rw [r.any k]
 by_cases e:(vs.any fun kv=>decide (kv.1=k))=true
 ·rw [if_pos e,if_pos e];exact r.repl k ry
 ·rw [if_neg e,if_neg e];exact Paired.snoc r ⟨rfl,ry⟩
theorem KV.length {kvs:List (κ×V)} {vs:List (κ×Value)} (r:KV kvs vs):kvs.length=vs.length:=Paired.length r
end
theorem BW {P:Program} {w:World} {k:Key} {u:Value} (r:RelV (kV k) u):(d_ P w).is k u=true:=by
 cases k with
 | inl i=>obtain ⟨t,e⟩:=(show ∃t,u=Value.int i t from r);subst e;exact HX P w i t
 | inr x=>obtain ⟨t,e⟩:=(show ∃t,u=Value.str x t from r);subst e;exact HW P w x t
theorem Eu {P:Program} {w:World}:∀{ks:List Key} {us:List Value},Vals (ks.map kV) us->ItemsAre (d_ P w) ks us
 | [],_,r=>by rw [List.map_nil] at r;cases r;exact .nil
 | k::ks,_,r=>by
   rw [List.map_cons] at r;cases r with
   | cons h t=>exact .cons (BW h) (Eu t)
abbrev KT (H:Hp):List (List Key×V)->List (List Key×Addr×Value)->Prop:=Paired fun p q=>p.1=q.1/\H q.2.1=some (.tup (p.1.map kV))/\RelV p.2 q.2.2
theorem KT.val {H:Hp} {kvs:List (List Key×V)} {xs:List (List Key×Addr×Value)} (r:KT H kvs xs) (k:List Key):xg (gR kvs k) ((atKey xs k).map (·.2)):=by
 induction r with
 | nil=>exact True.intro
 | @cons p q ps qs h t ih=>
   obtain ⟨h1,_,h2⟩:=h
   by_cases e:p.1=k
   ·have e':q.1=k:=h1.symm.trans e
    have b:atKey (q::qs) k=some q.2:=by simp [atKey,List.find?_cons,e']
    rw [jo e,b];exact h2
   ·have e':¬q.1=k:=fun z=>e (h1.trans z)
    have b:atKey (q::qs) k=atKey qs k:=by simp [atKey,List.find?_cons,e']
    rw [jq e,b];exact ih
theorem KT.repl {H:Hp} {kvs:List (List Key×V)} {xs:List (List Key×Addr×Value)} (r:KT H kvs xs) (k:List Key) {y:V} {u:Value} (ry:RelV y u):
 KT H (kvs.map fun kv=>if kv.1=k then (kv.1,y) else kv) (xs.map (putAt k u)):=by
 induction r with
 | nil=>exact .nil
 | @cons p q ps qs h t ih=>
   rw [List.map_cons,List.map_cons];refine .cons ?_ ih;obtain ⟨h1,h2,h3⟩:=h;unfold putAt
   by_cases e:p.1=k
   ·rw [if_pos e,if_pos (h1.symm.trans e)];exact ⟨h1,h2,ry⟩
   ·rw [if_neg e,if_neg (fun z=>e (h1.trans z))];exact ⟨h1,h2,h3⟩
theorem KT.put {H:Hp} {kvs:List (List Key×V)} {xs:List (List Key×Addr×Value)} (r:KT H kvs xs) (k:List Key) {b:Addr} {y:V} {u:Value} (hb:H b=some (.tup (k.map kV))) (ry:RelV y u):
 KT H (putK kvs k y) (storedH xs k b u):=by
 have e:(kvs.any fun kv=>decide (kv.1=k))=(atKey xs k).isSome:=by
  rw [uN,(r.val k).zj,Option.isSome_map]
 unfold putK storedH;rw [e]
 by_cases q:(atKey xs k).isSome=true
 ·rw [if_pos q,if_pos q];exact r.repl k ry
 ·rw [if_neg q,if_neg q];exact Paired.snoc r ⟨rfl,hb,ry⟩
theorem KT.keeps {H H':Hp} {kvs:List (List Key×V)} {xs:List (List Key×Addr×Value)} (r:KT H kvs xs) (ht:∀b ys,H b=some (.tup ys)->H' b=some (.tup ys)):KT H' kvs xs:=
 Paired.Xx r fun _ _ z=>⟨z.1,ht _ _ z.2.1,z.2.2⟩
section
variable {P:Program} {w:World} {H:Hp} {h:Heap} {a:Addr}
theorem VH {u:HO} (ok:vQ P w H h) (e:Rd H a u):gw P w H h a u:=e.ok ok
theorem Cj {kvs:List (Key×V)} (ok:vQ P w H h) (e:Rd H a (.dK kvs)):kvs.length<=sizeLine/\(a==sysModules)=false /\ ∃vs,KV kvs vs/\h.DictOf (d_ P w) a vs:=
 show gw P w H h a (.dK kvs) from VH ok e
theorem V7 {kvs:List (Key×V)} (ok:vQ P w H h) (e:H a=some (.dK kvs)):kvs.length<=sizeLine/\(a==sysModules)=false /\ ∃vs,KV kvs vs/\h.DictOf (d_ P w) a vs:=Cj ok (.inl e)
theorem qY {ks:List Key} (ok:vQ P w H h) (e:H a=some (.tup (ks.map kV))):(tupleKind (d_ P w)).is h ks a:=by
 obtain ⟨_,its,r,o,h1,h2,n,h3⟩:=(show gw P w H h a (.tup (ks.map kV)) from ok a _ e);exact ⟨o,its.toArray,n,h1,h2,h3,by simpa using Eu r⟩
theorem Cg {kvs:List (List Key×V)} (ok:vQ P w H h) (e:Rd H a (.dT kvs)):kvs.length<=sizeLine/\(a==sysModules)=false /\
 ∃xs,KT H kvs xs/\h.DictOfH (tupleKind (d_ P w)) a xs:=by
 obtain ⟨z,y,xs,r,o,es,ep,h1,h2,h3,h4,h5⟩:=(show gw P w H h a (.dT kvs) from VH ok e);refine ⟨z,y,xs,r,o,es,ep,h1,h2,h3,h4,fun x hx=> ?_,h5⟩
 have all:∀{l:List (List Key×V)} {m:List (List Key×Addr×Value)},KT H l m -> ∀x∈m,(tupleKind (d_ P w)).is h x.1 x.2.1:=by
  intro l m q
  induction q with
  | nil=>intro x hx;exact nomatch hx
  | @cons p q ps qs hq t ih=>
    intro x hx;rcases List.mem_cons.mp hx with e|hx
    ·subst e
     exact qY ok (by rw [←hq.1];exact hq.2.1)
    ·exact ih x hx
 exact all r x hx
theorem zF {kvs:List (List Key×V)} (ok:vQ P w H h) (e:H a=some (.dT kvs)):kvs.length<=sizeLine/\(a==sysModules)=false /\
 ∃xs,KT H kvs xs/\h.DictOfH (tupleKind (d_ P w)) a xs:=Cg ok (.inl e)
end
def qI (H:Hp) (a:Addr) (y:V) (r:Option V):Prop:=
 (∃kvs k,Rd H a (.dK kvs)/\y=kV k/\r=gR kvs k) \/ ∃kvs k b,Rd H a (.dT kvs)/\y = .ref b/\H b=some (.tup (k.map kV))/\r=gR kvs k
def D_ (H:Hp) (a:Addr) (y v:V) (H':Hp):Prop:=
 (∃kvs k,H a=some (.dK kvs)/\y=kV k/\kvs.length<sizeLine/\H'=upd H a (.dK (putK kvs k v))) \/
 ∃kvs k b,H a=some (.dT kvs)/\y = .ref b/\H b=some (.tup (k.map kV))/\kvs.length<sizeLine/\H'=upd H a (.dT (putK kvs k v))
theorem qI.k {H:Hp} {a:Addr} {kvs:List (Key×V)} {k:Key} (e:H a=some (.dK kvs)):qI H a (kV k) (gR kvs k):= .inl ⟨kvs,k,.inl e,rfl,rfl⟩
theorem qI.t {H:Hp} {a b:Addr} {kvs:List (List Key×V)} {k:List Key} (e:H a=some (.dT kvs)) (eb:H b=some (.tup (k.map kV))):qI H a (.ref b) (gR kvs k):= .inr ⟨kvs,k,b,.inl e,rfl,eb,rfl⟩
theorem D_.k {H:Hp} {a:Addr} {kvs:List (Key×V)} {k:Key} {v:V} (e:H a=some (.dK kvs)) (hl:kvs.length<sizeLine):D_ H a (kV k) v (upd H a (.dK (putK kvs k v))):= .inl ⟨kvs,k,e,rfl,hl,rfl⟩
theorem D_.t {H:Hp} {a b:Addr} {kvs:List (List Key×V)} {k:List Key} {v:V} (e:H a=some (.dT kvs)) (eb:H b=some (.tup (k.map kV))) (hl:kvs.length<sizeLine):
 D_ H a (.ref b) v (upd H a (.dT (putK kvs k v))):= .inr ⟨kvs,k,b,e,rfl,eb,hl,rfl⟩
section
variable {X:Cx} {pins:List (Addr×Obj)} {σ:St} {H:Hp} {s:Shared} {a:Addr} {y v:V} {u r:Value} {o:Option V} {A:Around} {E:Value->Shared->Prop}
theorem Inv.big (I:Inv X pins σ H s):sysModules<s.heap.objs.size:=by
 have h:mainGlobals<s.heap.objs.size:=(I.mod.glob.keeps I.bk).lt;exact Nat.lt_trans (by decide) h
theorem Om {Q:Value->Shared->Prop} (hu:A.units+1<cLine) (I:Inv X pins σ H s) (g:qI H a y (some v)) (ry:RelV y u) (h:∀w' s',Inv X pins σ H s'->RelV v w'->Q w' s'):
 wpAny (model X.prog X.w) A (getItem (.ref a) u) Q E s:=by
 rcases g with ⟨kvs,k,e,ey,l⟩|⟨kvs,k,b,e,ey,eb,l⟩
 ·subst ey
  obtain ⟨z,hd,vs,rel,dd⟩:=Cj I.hok e;obtain ⟨w',hw,rw'⟩:=xg.some_of (v:=v) (o:=valueAt vs k) (by rw [l];exact rel.val k);exact wpAny_getItem_of (BW ry) dd.mapOf hw (h w' _ (I.tok _) rw')
 ·subst ey
  cases (show u=Value.ref b from ry);obtain ⟨z,hd,xs,rel,dd⟩:=Cg I.hok e;obtain ⟨w',hw,rw'⟩:=xg.some_of (v:=v) (o:=(atKey xs k).map (·.2)) (by rw [l];exact rel.val k);obtain ⟨p,hp,hp2⟩:=Option.map_eq_some_iff.mp hw;refine wpAny_getItem_heap (tupleKind_room_in1 hu) (qY I.hok eb) dd hp ?_;rw [hp2];exact h w' _ (I.tok _) rw'
theorem U7 {Q:Value->Shared->Prop} (hu:A.units+1<cLine) (I:Inv X pins σ H s) (g:qI H a y o) (ry:RelV y u) (h:∀s',Inv X pins σ H s'->Q (.bool (!o.isSome)) s'):
 wpAny (model X.prog X.w) A (compareOp .NotIn u (.ref a)) Q E s:=by
 rcases g with ⟨kvs,k,e,ey,l⟩|⟨kvs,k,b,e,ey,eb,l⟩
 ·subst ey
  obtain ⟨z,hd,vs,rel,dd⟩:=Cj I.hok e;refine wpAny_notIn_of (BW ry) hd dd.mapOf ?_;rw [←(rel.val k).zj,←l];exact h _ (I.tok _)
 ·subst ey
  cases (show u=Value.ref b from ry);obtain ⟨z,hd,xs,rel,dd⟩:=Cg I.hok e;refine wpAny_notIn_heap (tupleKind_room_in1 hu) (qY I.hok eb) hd dd ?_;have q:=(rel.val k).zj;rw [Option.isSome_map] at q;rw [←q,←l];exact h _ (I.tok _)
theorem vI {h':Heap} {t':Nat} {ob:HO} (I:Inv X pins σ H s) (mu:Mut (H a)) (hs:Heap.SameBut a s.heap h') (he:∃q,h'.get? a=some q) (new:gw X.prog X.w (upd H a ob) h' a ob):
 Inv X pins σ (upd H a ob) {s with heap:=h',toks:=t'}:=
 I.write (x:=a) (e:=a) mu (.inl rfl) (fun b q hb z=>(hs.2 b hb).trans z) he new
theorem Ys {P:Program} {w:World} {H':Hp} {h':Heap} {kvs:List (Key×V)} {vs:List (Key×Value)} (z:kvs.length<=sizeLine) (hd:(a==sysModules)=false) (rel:KV kvs vs) (dd:h'.DictOf (d_ P w) a vs):
 gw P w H' h' a (.dK kvs):=⟨z,hd,vs,rel,dd⟩
theorem Ol {H':Hp} {Q:Unit->Shared->Prop} (hu:A.units+1<cLine) (I:Inv X pins σ H s) (g:D_ H a y v H') (ry:RelV y u) (rv:RelV v r) (h:∀s',Inv X pins σ H' s'->Q () s'):
 wpAny (model X.prog X.w) A (setItem (.ref a) u r) Q E s:=by
 rcases g with ⟨kvs,k,e,ey,l,eH⟩|⟨kvs,k,b,e,ey,eb,l,eH⟩
 ·subst ey eH
  obtain ⟨z,hd,vs,rel,dd⟩:=V7 I.hok e;have hz:vs.length<=sizeLine:=by rw [←rel.length];exact z
  have hl:(putK kvs k v).length<=sizeLine:=by have:=jO kvs k v;omega
  refine wpAny_setItem_pairs (hsz:=hz) (BW ry) dd fun h' O4 hs=>h _ ?_;have he:∃q,h'.get? a=some q:=let ⟨q,_,_,hq,_⟩:=O4;⟨q,hq⟩
  exact vI I (by rw [e];exact True.intro) hs he (Ys hl hd (rel.put k rv) O4)
 ·subst ey eH
  cases (show u=Value.ref b from ry);obtain ⟨z,hd,xs,rel,dd⟩:=zF I.hok e;have hz:xs.length<=sizeLine:=by rw [←Paired.length rel];exact z
  have hl:(putK kvs k v).length<=sizeLine:=by have:=jO kvs k v;omega
  refine wpAny_setItem_heap (hsz:=hz) (tupleKind_room_in1 hu) (qY I.hok eb) dd fun h' O4 hs=>h _ ?_;obtain ⟨q,es,ep,hq,h2,h3,h4,_,h5⟩:=O4;refine vI I (by rw [e];exact True.intro) hs ⟨q,hq⟩ ⟨hl,hd,_,(rel.put k eb rv).keeps fun c ys ec=> ?_,q,es,ep,hq,h2,h3,h4,h5⟩;rw [cC (tK ec e (fun z=>nomatch z))];exact ec
end
section
variable {X:Cx} {pins:List (Addr×Obj)} {σ:St} {H:Hp} {s:Shared} {a:Addr} {kvs:List (Key×V)} {k:Key} {u:Value} {A:Around} {E:Value->Shared->Prop}
end
def abG (i:Expr):Prop:=∀ov iv,subscripted i false ov iv=operate [ov,iv] (getItem ov iv)
theorem SQ {prog:Program} {w:World} {A:Around} {E:Value->Shared->Prop} {s:Shared} {env:Env} {value slice:Expr} {pos:Pos} {T id:String} {Q:Value->Shared->Prop}
 (hl:typeLookup (.type T) "__getitem__" = pure (some (.builtin id))) (hs:abG slice)
 (h:wpAny (model prog w) A (eval value env) (fun o s₁=>wpAny (model prog w) A (eval slice env) (fun i s₂=>s₂.TypeIs o T/\wpAny (model prog w) A (getItem o i) Q E s₂) E s₁) E s):
 wpAny (model prog w) A (eval (.Subscript value slice pos) env) Q E s:=by
 refine Subscript_ (wpAny_mono h (fun o s₁ h₁=>wpAny_mono h₁ (fun i s₂ h₂=> ?_) fun _ _ x=>x) fun _ _ x=>x);obtain ⟨hT,h₂⟩:=h₂;unfold subscriptTail;refine wpAny_bind ?_;rw [getitemInPython_of_ne hT.not_modules];refine wpAny_bind (wpAny_specialOf hT hl ?_)
 have fin:wpAny (model prog w) A (subscripted slice false o i) (fun r s₃=>wpAny (model prog w) A (letTemporaryGo value o r >>= fun _=>pure r) Q E s₃) E s₂:=by
  rw [hs o i];exact wpAny_operating (wpAny_mono h₂ (fun r s₃ h₃=>wpAny_bind (wpAny_letTemporaryGo (wpAny_pure h₃))) fun _ _ x=>x)
 first
  | exact wpAny_pure (wpAny_bind fin)
  | exact wpAny_bind (wpAny_pure (wpAny_bind fin))
  | exact wpAny_bind fin
theorem Iu {X:Cx} {pins:List (Addr×Obj)} {σ:St} {H:Hp} {s:Shared} {a:Addr} {y:V} {o:Option V} (I:Inv X pins σ H s) (g:qI H a y o):s.TypeIs (.ref a) "dict" :=by
 rcases g with ⟨kvs,k,e,_,_⟩|⟨kvs,k,b,e,_,_,_⟩
 ·obtain ⟨_,_,vs,_,dd⟩:=Cj I.hok e
  exact dd.typeIs
 ·obtain ⟨_,_,xs,_,dd⟩:=Cg I.hok e
  exact dd.typeIs
def ZJ (td ty:TE):TE:=fun σ H Q=>td σ H fun x H1=>ty σ H1 fun y H2=>∃a v,x = .ref a/\qI H2 a y (some v)/\Q v H2
def SM (ty td:TE):TE:=fun σ H Q=>ty σ H fun y H1=>td σ H1 fun x H2=>∃a o,x = .ref a/\qI H2 a y o/\Q (.bl (!o.isSome)) H2
def ZQ (td ty tv:TE):TS:=fun D σ H=>tv σ H fun v H1=>td σ H1 fun x H2=>ty σ H2 fun y H3=>∃a H4,x = .ref a/\D_ H3 a y v H4/\D.nx σ H4
section
variable {X:Cx} {o i e value:Expr} {pos pos' tpos:Pos} {td ty tv:TE}
theorem xZ (hu:X.A.units+1<cLine) (ho:PE X o td) (hi:PE X i ty) (hs:abG i):PE X (.Subscript o i pos) (ZJ td ty):=by
 intro pins s σ H Q I h;refine SQ PySem.F.slot_dict_getitem.lookup hs (gU (ho pins s σ H _ I h) fun u s1 ⟨x,H1,I1,rx,q1⟩=>gU (hi pins s1 σ H1 _ I1 q1) fun iv s2 ⟨y,H2,I2,ry,a,v,ex,g,q2⟩=> ?_);subst ex;obtain rfl:u=Value.ref a:=rx;exact ⟨Iu I2 g,Om hu I2 g ry fun w' s3 I3 rw'=>⟨v,H2,I3,rw',q2⟩⟩
theorem M5 (hu:X.A.units+1<cLine) (hi:PE X i ty) (ho:PE X o td):PC X .NotIn i o (SM ty td):=by
 intro pins s σ H Q I h;refine gU (hi pins s σ H _ I h) fun iv s1 ⟨y,H1,I1,ry,q1⟩=>gU (ho pins s1 σ H1 _ I1 q1) fun u s2 ⟨x,H2,I2,rx,a,ov,ex,g,q2⟩=> ?_;subst ex;obtain rfl:u=Value.ref a:=rx;exact U7 hu I2 g ry fun s3 I3=>⟨.bl (!ov.isSome),H2,I3,rfl,q2⟩
theorem z7 (hu:X.A.units+1<cLine) (ho:PE X o td) (hi:PE X i ty) (hv:PE X value tv) (hs:swapsWith value (some (.Subscript o i pos')) pos.line X.env=pure false):
 PS X (.Assign [.Subscript o i pos'] value pos) (ZQ td ty tv):=by
 intro pins s σ H D I h;refine wpAny_Assign_Subscript (gU (hv pins s σ H _ I h) fun r s1 ⟨v,H1,I1,rv,q1⟩=>gU (ho pins s1 σ H1 _ I1 q1) fun u s2 ⟨x,H2,I2,rx,q2⟩=>gU (hi pins s2 σ H2 _ I2 q2) fun iv s3 ⟨y,H3,I3,ry,a,H4,ex,g,q3⟩=> ?_) hs;subst ex;obtain rfl:u=Value.ref a:=rx;exact Ol hu I3 g ry rv fun s4 I4=>⟨σ,H4,I4,q3⟩
end
theorem Ir {P:Program} {w:World} {H:Hp} (h:Heap) (hb:sysModules<h.objs.size):gw P w H (h.push {cls:= .type "dict",data:= .dict #[]}) h.objs.size (.dK []):=
 ⟨Nat.zero_le _,beq_eq_false_iff_ne.mpr (Ne.symm (Nat.ne_of_lt hb)),[],.nil,Heap.DictOf.new h⟩
theorem Io {P:Program} {w:World} {H:Hp} (h:Heap) (hb:sysModules<h.objs.size):gw P w H (h.push {cls:= .type "dict",data:= .dict #[]}) h.objs.size (.dT []):=
 ⟨Nat.zero_le _,beq_eq_false_iff_ne.mpr (Ne.symm (Nat.ne_of_lt hb)),[],.nil,_, #[],0,Heap.get?_push_size _ rfl,⟨rfl,rfl,rfl⟩,rfl,rfl,List.nodup_nil⟩
def Ww:TE:=fun _ H Q=>∀p,H p=none->Q (.ref p) (upd H p (.dK []))
def Wv:TE:=fun _ H Q=>∀p,H p=none->Q (.ref p) (upd H p (.dT []))
section
variable {X:Cx} {pos:Pos}
theorem Hv:PE X (.Dict [] [] pos) Ww:=fun pins s σ H Q I h=>
 wpAny_Dict_empty ⟨.ref s.heap.objs.size,_,I.laid (a:=s.heap.objs.size) (o:= .dK []) (t':=s.toks) (fun _ _ q=>Heap.get?_push_of_some _ q) (Nat.le_refl _) (Ir s.heap I.big),rfl,h _ (I.hok.fresh (Nat.le_refl _))⟩
theorem xX:PE X (.Dict [] [] pos) Wv:=fun pins s σ H Q I h=>
 wpAny_Dict_empty ⟨.ref s.heap.objs.size,_,I.laid (a:=s.heap.objs.size) (o:= .dT []) (t':=s.toks) (fun _ _ q=>Heap.get?_push_of_some _ q) (Nat.le_refl _) (Io s.heap I.big),rfl,h _ (I.hok.fresh (Nat.le_refl _))⟩
end
structure M1 (X:Cx) (o:Expr) (m:Str) (apos:Pos) (e:Expr) (cpos:Pos):Prop where
 base:attributeBase o m X.env (eval o X.env)=eval o X.env
 few:((backTo cpos (starEach [e] X.env)).all (fun x=> !x.1)&&(backToKw cpos (keywordEach [] X.env)).all (fun x=>x.1.isSome)
  && decide (([e]:List Expr).length+([]:List Keyword).length+(if ([]:List Keyword).isEmpty then 0 else 1)<30))=true
 line:(apos.endLine==cpos.line)=true
 trees:backTo cpos (starEach [e] X.env)=[(false,eval e X.env)]
structure M2 (X:Cx) (o:Expr) (m:Str) (apos:Pos) (e f:Expr) (cpos:Pos):Prop where
 base:attributeBase o m X.env (eval o X.env)=eval o X.env
 few:((backTo cpos (starEach [e,f] X.env)).all (fun x=> !x.1)&&(backToKw cpos (keywordEach [] X.env)).all (fun x=>x.1.isSome)
  && decide (([e,f]:List Expr).length+([]:List Keyword).length+(if ([]:List Keyword).isEmpty then 0 else 1)<30))=true
 line:(apos.endLine==cpos.line)=true
 trees:backTo cpos (starEach [e,f] X.env)=[(false,eval e X.env),(false,eval f X.env)]
def IsD (H:Hp) (a:Addr):Prop:=(∃kvs,Rd H a (.dK kvs)) \/ ∃kvs,Rd H a (.dT kvs)
theorem J9 {X:Cx} {pins:List (Addr×Obj)} {σ:St} {H:Hp} {s:Shared} {a:Addr} (I:Inv X pins σ H s) (d:IsD H a):
 s.TypeIs (.ref a) "dict" /\ (∀b,Value.ref a = .ref b -> ∃ob,s.heap.get? b=some ob/\ob.dict=none)/\(a==sysModules)=false:=by
 rcases d with ⟨kvs,e⟩|⟨kvs,e⟩
 ·obtain ⟨_,hd,vs,_,dd⟩:=Cj I.hok e
  refine ⟨dd.typeIs,fun b q=> ?_,hd⟩;cases q;obtain ⟨ob,_,_,h1,h2,_⟩:=dd;exact ⟨ob,h1,h2.2.1⟩
 ·obtain ⟨_,hd,xs,_,dd⟩:=Cg I.hok e
  refine ⟨dd.typeIs,fun b q=> ?_,hd⟩;cases q;obtain ⟨ob,_,_,h1,h2,_⟩:=dd;exact ⟨ob,h1,h2.2.1⟩
section
variable {X:Cx} {pins:List (Addr×Obj)} {σ:St} {H:Hp} {s:Shared} {a:Addr} {y d:V} {u r:Value} {o:Option V} {A:Around} {E:Value->Shared->Prop}
theorem Yw {Q:Value->Shared->Prop} (hu:A.units+1<cLine) (I:Inv X pins σ H s) (g:qI H a y o) (ry:RelV y u) (h:∀w' s',Inv X pins σ H s'->RelV (o.getD .non) w'->Q w' s'):
 wpAny (model X.prog X.w) A (call (.builtin "dict.get") [.ref a,u]) Q E s:=by
 rcases g with ⟨kvs,k,e,ey,l⟩|⟨kvs,k,b,e,ey,eb,l⟩
 ·subst ey
  obtain ⟨z,hd,vs,rel,dd⟩:=Cj I.hok e;refine call_meetsIn PySem.F.slot_dict_get dd.typeIs PySem.F.entry_dict_get (PySem.F.args_dict_get_2 _ _) (meets_dict_get (d_ X.prog X.w) a (BW ry) hd) ⟨_,dd.mapOf,h _ _ (I.tok _) ?_⟩;rw [l];exact (rel.val k).getD rfl
 ·subst ey
  cases (show u=Value.ref b from ry);obtain ⟨z,hd,xs,rel,dd⟩:=Cg I.hok e;refine call_meetsIn PySem.F.slot_dict_get dd.typeIs PySem.F.entry_dict_get (PySem.F.args_dict_get_2 _ _) (meetsH_dict_get (tupleKind (d_ X.prog X.w)) a b hd) ⟨tupleKind_room_in1 hu,k,xs,qY I.hok eb,dd,h _ _ (I.tok _) ?_⟩;rw [l];exact (rel.val k).getD rfl
theorem Yv {Q:Value->Shared->Prop} (hu:A.units+1<cLine) (I:Inv X pins σ H s) (g:qI H a y o) (ry:RelV y u) (rd:RelV d r) (h:∀w' s',Inv X pins σ H s'->RelV (o.getD d) w'->Q w' s'):
 wpAny (model X.prog X.w) A (call (.builtin "dict.get") [.ref a,u,r]) Q E s:=by
 rcases g with ⟨kvs,k,e,ey,l⟩|⟨kvs,k,b,e,ey,eb,l⟩
 ·subst ey
  obtain ⟨z,hd,vs,rel,dd⟩:=Cj I.hok e;refine call_meetsIn PySem.F.slot_dict_get dd.typeIs PySem.F.entry_dict_get (PySem.F.args_dict_get_3 _ _ _) (meets_dict_get_default (d_ X.prog X.w) a (BW ry) hd r) ⟨_,dd.mapOf,h _ _ (I.tok _) ?_⟩;rw [l];exact (rel.val k).getD rd
 ·subst ey
  cases (show u=Value.ref b from ry);obtain ⟨z,hd,xs,rel,dd⟩:=Cg I.hok e;refine call_meetsIn PySem.F.slot_dict_get dd.typeIs PySem.F.entry_dict_get (PySem.F.args_dict_get_3 _ _ _) (meetsH_dict_get_default (tupleKind (d_ X.prog X.w)) a b hd r) ⟨tupleKind_room_in1 hu,k,xs,qY I.hok eb,dd,h _ _ (I.tok _) ?_⟩;rw [l];exact (rel.val k).getD rd
end
def Wy (td ty:TE):TE:=fun σ H Q=>td σ H fun x H1=>∃a,x = .ref a/\IsD H1 a/\ty σ H1 fun y H2=>∃o,qI H2 a y o/\Q (o.getD .non) H2
def Wx (td ty tx:TE):TE:=fun σ H Q=>td σ H fun x H1=>∃a,x = .ref a/\IsD H1 a/\ty σ H1 fun y H2=>tx σ H2 fun z H3=>∃o,qI H3 a y o/\Q (o.getD z) H3
section
variable {X:Cx} {o e f:Expr} {apos cpos:Pos} {td ty tx:TE}
theorem Hw (hu:X.A.units+1<cLine) (ho:PE X o td) (he:PE X e ty) (m:M1 X o "get" apos e cpos):PE X (.Call (.Attribute o "get" apos) [e] [] cpos) (Wy td ty):=by
 intro pins s σ H Q I h;refine wpAny_Call_method m.base m.few m.line PySem.F.plainAttrs_dict PySem.F.slot_dict_get PySem.F.type_dict_get (gU (ho pins s σ H _ I h) fun u s1 ⟨x,H1,I1,rx,a,ex,d,q1⟩=> ?_);subst ex;obtain rfl:u=Value.ref a:=rx;obtain ⟨t1,t2,_⟩:=J9 I1 d;refine ⟨t1,t2, ?_⟩;rw [m.trees];refine Calls.callWith_builtin rfl (Calls.evalArgs_plain (Calls.spliced_cons (gU (he pins s1 σ H1 _ I1 q1) fun iv s2 ⟨y,H2,I2,ry,ov,g,q2⟩=>Calls.spliced_nil ?_)));exact Yw hu I2 g ry fun w' s3 I3 rw'=>⟨_,H2,I3,rw',q2⟩
theorem xY (hu:X.A.units+1<cLine) (ho:PE X o td) (he:PE X e ty) (hf:PE X f tx) (m:M2 X o "get" apos e f cpos):PE X (.Call (.Attribute o "get" apos) [e,f] [] cpos) (Wx td ty tx):=by
 intro pins s σ H Q I h;refine wpAny_Call_method m.base m.few m.line PySem.F.plainAttrs_dict PySem.F.slot_dict_get PySem.F.type_dict_get (gU (ho pins s σ H _ I h) fun u s1 ⟨x,H1,I1,rx,a,ex,d,q1⟩=> ?_);subst ex;obtain rfl:u=Value.ref a:=rx;obtain ⟨t1,t2,_⟩:=J9 I1 d;refine ⟨t1,t2, ?_⟩;rw [m.trees]
 refine Calls.callWith_builtin rfl (Calls.evalArgs_plain (Calls.spliced_cons (gU (he pins s1 σ H1 _ I1 q1) fun iv s2 ⟨y,H2,I2,ry,q2⟩=>
  Calls.spliced_cons (gU (hf pins s2 σ H2 _ I2 q2) fun fv s3 ⟨z,H3,I3,rz,ov,g,q3⟩=>Calls.spliced_nil ?_))))
 exact Yv hu I3 g ry rz fun w' s4 I4 rw'=>⟨_,H3,I4,rw',q3⟩
end
section
variable {X:Cx} {pins:List (Addr×Obj)} {σ:St} {H:Hp} {s:Shared} {a:Addr} {kvs:List (Key×V)} {A:Around} {E:Value->Shared->Prop}
end
section
variable {X:Cx} {pins:List (Addr×Obj)} {σ:St} {H:Hp} {s:Shared} {a:Addr} {y:V} {u:Value} {A:Around} {E:Value->Shared->Prop}
end
end L2
namespace Att
open PySem PySem.W PySem.Calls PyProof.Rows
theorem zO {P:Params} {h:Heap}:∀(ns:List Int) (vs:List Value),WellAll P h vs (ns.map WData.int)->IntsAre vs ns:=by
 intro ns
 induction ns with
 | nil=>
   intro vs w;rw [List.map_nil] at w;cases w;exact .nil
 | cons n ns ih=>
   intro vs w;rw [List.map_cons] at w;cases w with
   | cons a b=>
     cases a;exact .cons _ _ (ih _ b)
theorem Mu {l:OpenLaw} {n:Nat} (hn:l.most=some n) {P:Params} {h:Heap} {args:List WData} {vals:List Value}
 (hpre:l.row.toRowW.claim.pre args=true) (hwl:WellAll P h vals args):
 ∃a vs ns,vals=[Value.ref a]/\args=[WData.list (ns.map WData.int)]/\h.get? a=some {cls:= .type "list",data:= .seq vs.toArray}/\IntsAre vs ns/\ns.length<=n:=by
 have hsh:WShape.hasAll [] args [.list .int]=true:=(pre_splitW hpre).1;have hc:l.pre.holds [] {args:=args}=true:=(pre_splitW hpre).2;obtain ⟨d,r,rfl,h1,h2⟩:=hasAllW_cons hsh;obtain rfl:=hasAllW_nil h2;obtain ⟨xs,rfl,h3⟩:=hasW_list h1;obtain ⟨ns,rfl⟩:=items_int h3
 have hlen:ns.length<=n:=by
  unfold OpenLaw.pre at hc
  have h4:(WTm.not (.lt (.lit (.int (n:Int))) (.len (.arg 0)))).holds [] {args:=[.list (ns.map .int)]}=true:=by
   have h4:=(holds_andW hc).1;rw [hn] at h4;exact h4
  have h5:=condW_of h4 (w_not (w_lt w_lit (w_len_list (w_arg rfl))));rw [List.length_map] at h5;refine Nat.le_of_not_lt fun q=> ?_;have q':(n:Int)<((ns.length:Nat):Int):=by omega
  first
   | (rw [decide_eq_true q'] at h5;exact absurd h5 (by decide))
   | (simp at h5;omega)
 cases hwl with
 | cons w1 w2=>
   cases w2;cases w1 with
   | list ho hall=>exact ⟨_,_,ns,rfl,rfl,ho,zO ns _ hall,hlen⟩
theorem MP (l:OpenLaw) (args:List WData):l.row.toRowW.claim.post args (.bool true) args=true:=
 postW_of (r:=l.row.toRowW) (X:=(true==true))
  (show WShape.has [] (.bool true) .bool=true by first |rfl|decide|simp [WShape.has,WShape.arms,WShape.armsAll])
  (show (WTm.eq .res (.lit (.bool true))).value [] {args:=args,res:=some (.bool true),after:=args}=some (.bool (true==true)) from w_eq_bool (w_res rfl) w_lit) rfl
theorem Jf {l:OpenLaw} {n:Nat} {q:Program} {loose:List Str} {XP:(Str->Option Value)->Heap->Prop} {YP:World->Heap->Prop} {d:DefRec}
 (hn:l.most=some n) (hdf:d.params.defaults=[])
 (call:∀(w:World) (s₀ s₁:Shared) (mg mb:Str->Option Value) (fa:Addr) (o:Obj) (pm cd doc:Value) (a:Addr) (vs:List Value) (ns:List Int),
   Ground q loose [] XP w s₀ mg mb s₁.heap->YP w s₁.heap ->
   s₁.heap.get? fa=some o->o.data = .func (docDef d.name d.params d.body d.scope pm cd doc)->s₁.heap.CodeRec cd d.name->mg d.name=some (.ref fa) ->
   s₁.heap.get? a=some {cls:= .type "list",data:= .seq vs.toArray}->IntsAre vs ns->ns.length<=n->s₁.gens = #[] ->
   codeAny (model l.prog w) callerA (.call (.ref fa) ⟨[.ref a],[]⟩) (fun r s'=>r = .ok (.ret (.bool true))/\OldK s₁.heap s'.heap/\s'.os=s₁.os/\AllBare s'.gens) s₁):
 WalkO q loose XP YP l.row.toRowW d [] (fun f vs=>PySem.call f vs):=by
 intro w s₀ s₁ mg mb G Y fa o pm cd doc dV kV ho hd hcd hD hmg hg args vals as hpre hlay hrd hwl hlo;obtain rfl:dV = .none:=Dflts.none hD hdf;obtain rfl:kV = .none:=Dflts.noKw hD;obtain ⟨a,vs,ns,rfl,rfl,hobj,hints,hlen⟩:=Mu hn hpre hwl;refine enter_call (codeAny_mono (call w s₀ s₁ mg mb fa o pm cd doc a vs ns G Y ho (fd_plain hd) hcd hmg hobj hints hlen hg) fun r s' hq=> ?_);obtain ⟨rfl,h2,h3,h4⟩:=hq;exact ⟨.inl ⟨.bool true,.bool true,[],rfl,fun _=>rfl,.bool true,MP l _,fun _=>⟨List.Pairwise.nil,fun _ hm=>(nomatch hm)⟩⟩,h2,h3,h4⟩
section
variable {prog:Program} {w:World} {A:Around} {E:Value->Shared->Prop} {s:Shared} {K:Frag}
def ledger (h:Heap) (L d:Addr):List (Addr×Obj):=(List.range h.objs.size).filterMap fun a=>if a=L\/a=d then none else (h.get? a).map fun o=>(a,o)
end
end Att
namespace L2
open PySem PySem.Spec PyProof.Rows
theorem Mp {vs:List Value} {ns:List Int} (h:IntsAre vs ns):Vals (ns.map V.int) vs:=by
 induction h with
 | nil=>exact .nil
 | cons n t h ih=>exact .cons ⟨t,rfl⟩ ih
def Only (H:Hp):Prop:=∀b,H b=none \/ ∃o xs,H b=some (.rM o (.lst xs))
theorem QJ {P:Program} {w:World} {K:PySem.W.Frag} {mg mb:Str->Option Value} {CX:O7} {k:Nat} {fa a:Addr} {fd:FuncData} {x:Str} {sp:Sp} {s₁:Shared} {vs:List Value} {ns:List Int}
 (KX:K.In s₁.heap) (hns:s₁.heap.Ns mainGlobals mg) (hb:s₁.heap.Ns builtinsNs mb) (hbb:∀x:Str,x ≠ "__name__" -> mb x=bootBuiltins x) (hlim:s₁.heap.NoLimit) (hg:s₁.gens = #[])
 (ha:s₁.heap.get? a=some {cls:= .type "list",data:= .seq vs.toArray}) (hi:IntsAre vs ns) (hl:ns.length<=sizeLine) (hr:pR k callerA)
 (F:∀base:Heap,K.In base->base.Ns mainGlobals mg->gn P w K mg base CX k fa fd [x] sp) (hbind:∀(s:Shared) (u:Value),BindsTo s fd ⟨[u],[]⟩ [(x,u)])
 (hsp:∀H:Hp,Only H->bK K H a (ns.map V.int)->sp [.ref a] H (fun v _=>v = .bl true) fun _ _ _=>False)
 (hCX:∀H e s',CX [] H s₁ (fun _ _ _=>False) e s'->False):
 codeAny (model P w) callerA (.call (.ref fa) ⟨[.ref a],[]⟩) (fun r s'=>r = .ok (.ret (.bool true))/\OldK s₁.heap s'.heap/\s'.os=s₁.os/\AllBare s'.gens) s₁:=by
 have rv:=Mp hi;have lenV:=hi.length
 have core:∀H:Hp,Only H->bK K H a (ns.map V.int)->vQ P w H s₁.heap->(∀b,H b≠none->b=a)->(H a≠none->K.lookup a=none) ->
  codeAny (model P w) callerA (.call (.ref fa) ⟨[.ref a],[]⟩) (fun r s'=>r = .ok (.ret (.bool true))/\OldK s₁.heap s'.heap/\s'.os=s₁.os/\AllBare s'.gens) s₁:=by
  intro H hO hS hok hA hK;have Mg:∀{b:Addr} {o:Obj},s₁.heap.get? b=some o->H b=none->(Gv s₁.heap H).get? b=some o:=fun e n=>Q0 e n
  have noA:∀{b:Addr} {o:Obj} {es:Array DictEntry} {ep:Nat},s₁.heap.get? b=some o->o.data = .dict es ep->H b=none:=fun {b o es ep} e d=>by
   cases q:H b with
   | none=>rfl
   | some u=>
     have e':b=a:=hA b (by rw [q];simp);subst e';rw [ha] at e;cases e;have d':Data.seq vs.toArray _=Data.dict es ep:=d;cases d'
  have nsK:∀{b:Addr} {m:Str->Option Value},s₁.heap.Ns b m->(Gv s₁.heap H).Ns b m:=fun {b m} ⟨o,es,ep,e,d,r⟩=>⟨o,es,ep,Mg e (noA e d),d,r⟩
  have hKb:K.In (Gv s₁.heap H):=fun b o e=>Mg (KX b o e) (by
   cases q:H b with
   | none=>rfl
   | some u=>
     have e':b=a:=hA b (by rw [q];simp);subst e';rw [hK (by rw [q];simp)] at e;cases e)
  have hM:Mod K mg (Gv s₁.heap H):=⟨hKb,nsK hns,⟨mb,nsK hb,hbb⟩,let ⟨mc,h1,h2⟩:=hlim;⟨mc,nsK h1,h2⟩⟩;have e0:Vu P w K mg (Gv s₁.heap H) callerA [] s₁ H:=⟨rfl,hM,fun b o e=>Uj e,Nat.le_of_eq (NZ _ _),trivial,fun b hb=>absurd (show b∈([]:List Addr) from hb) (by simp),hok,.of_eq hg⟩;refine codeAny_mono ((F _ hKb (nsK hns)).run callerA [] s₁ H ⟨[.ref a],[]⟩ [.ref a] [.ref a] _ _ hr e0 (hbind s₁ (.ref a)) (.cons rfl .nil) (hsp H hO hS)) fun r s' h=> ?_;cases r with
  | error e=>exact (hCX H e s' h).elim
  | ok fl=>
    cases fl with
    | next=>exact False.elim h
    | brk=>exact False.elim h
    | cont=>exact False.elim h
    | ret u=>
      obtain ⟨v,H',os,bare,un,hok',r',q⟩:=h;have q':v = .bl true:=q;subst q';obtain rfl:u=Value.bool true:=r';refine ⟨rfl,OldK.of_keep fun b o e=> ?_,os,bare⟩;cases q:H b with
      | none=>exact un.keep b o e q (by intro z;exact absurd (show b∈([]:List Addr) from z) (by simp)) (by simp)
      | some u=>
        rcases hO b with z|⟨ob,xs,z⟩
        ·rw [q] at z;cases z
        ·have z2:=un.w5 b ob _ z
         obtain ⟨e1,_⟩:=hok b _ z;obtain ⟨e2,_⟩:=hok' b _ z2;rw [e] at e1;cases e1;exact e2
 cases hk:K.lookup a with
 | some o=>
   have e:=KX a o hk;rw [ha] at e;cases e;refine core (fun _=>none) (fun _=> .inl rfl) (.inr ⟨_,vs.toArray,_,hk,rfl,rfl,rfl,by rw [List.size_toArray,lenV];exact hl,by simpa using rv⟩) (fun b u z=>by have z':(none:Option HO)=some u:=z;cases z') (fun b z=>absurd rfl z) fun z=>absurd rfl z
 | none=>
   refine core (fun b=>if b=a then some (.rM {cls:= .type "list",data:= .seq vs.toArray} (.lst (ns.map V.int))) else none) (fun b=> ?_) (.inl (.inr ⟨{cls:= .type "list",data:= .seq vs.toArray},if_pos rfl⟩)) (fun b u z=> ?_) (fun b z=> ?_) fun _=>hk
   ·by_cases hb:b=a
    ·exact .inr ⟨_,_,if_pos hb⟩
    ·exact .inl (if_neg hb)
   ·by_cases hb:b=a
    ·have z':=(if_pos hb).symm.trans z
     cases z';subst hb;exact ⟨ha,by rw [List.length_map];exact hl,vs,_,rv,ha⟩
    ·have z':=(if_neg hb).symm.trans z
     cases z'
   ·by_cases hb:b=a
    ·exact hb
    ·exact absurd (if_neg hb) z
end L2
namespace L2
open PySem PySem.Spec PyProof.Rows
abbrev KOf {K:PySem.W.Frag} {h:Heap} (_:K.In h):PySem.W.Frag:=K
theorem Sv {l:PySem.W.OpenLaw} {n k:Nat} {q:Program} {loose:List Str} {XP:(Str->Option Value)->Heap->Prop} {YP:World->Heap->Prop} {d:DefRec} {K:Params->PySem.W.Frag} {CX:World->O7} {sp:World->Sp} {x:Str}
 (hn:l.most=some n) (hn2:n<=sizeLine) (hdf:d.params.defaults=[]) (hr:pR k callerA)
 (hY:∀(w:World) (h:Heap),YP w h->(K w.params).In h)
 (F:∀(w:World) (mg:Str->Option Value) (fa:Addr) (h:Heap),(K w.params).In h->h.Ns mainGlobals mg->mg d.name=some (.ref fa) ->
   ∃fd:FuncData,(∀(s:Shared) (u:Value),BindsTo s fd ⟨[u],[]⟩ [(x,u)]) /\
    ∀base:Heap,(K w.params).In base->base.Ns mainGlobals mg->gn l.prog w (K w.params) mg base (CX w) k fa fd [x] (sp w))
 (hsp:∀(w:World) (H:Hp) (a:Addr) (ns:List Int),ns.length<=n->Only H->bK (K w.params) H a (ns.map V.int)->sp w [.ref a] H (fun v _=>v = .bl true) fun _ _ _=>False)
 (hCX:∀(w:World) (H:Hp) (s:Shared) (e:Value) (s':Shared),CX w [] H s (fun _ _ _=>False) e s'->False):
 PySem.W.WalkO q loose XP YP l.row.toRowW d [] (fun f vs=>PySem.call f vs):=by
 refine Att.Jf hn hdf fun w s₀ s₁ mg mb fa o pm cd doc a vs ns G Y ho hd hcd hmg hobj hints hlen hg=> ?_;have KX:=hY w _ Y;obtain ⟨fd,hb,hF⟩:=F w mg fa _ KX G.T.g hmg;exact QJ KX G.T.g G.T.b G.T.builtins G.T.nolimit hg hobj hints (Nat.le_trans hlen hn2) hr hF hb (fun H hO hS=>hsp w H a ns hlen hO hS) fun H e s'=>hCX w H s₁ e s'
end L2
namespace L2
open PySem PySem.Spec PyProof.Rows
def inClass (s:Stmt) (j:Nat):Stmt:=match s with
 | .ClassDef _ _ _ body _ _ _ _ _ _ _=>body.getD j (.Pass ⟨0,0,0,0⟩)
 | _=> .Pass ⟨0,0,0,0⟩
def aN (s:Stmt):Arguments:=match s with
 | .FunctionDef _ a _ _ _ _ _ _ _ _=>a
 | _=>{posonlyargs:=[],args:=[],vararg:=none,kwonlyargs:=[],kw_defaults:=[],kwarg:=none,defaults:=[]}
def aM (s:Stmt):List Stmt:=match s with
 | .FunctionDef _ _ b _ _ _ _ _ _ _=>b
 | _=>[]
def aH (s:Stmt):Scope:=match s with
 | .FunctionDef _ _ _ _ _ _ sc _ _ _=>sc
 | _=>{kind:= .function,names:=[],isGenerator:=false,isCoroutine:=false}
abbrev tV:O7:=fun _ _ _ _ _ _=>False
abbrev E0:XK:=fun _ _ _=>False
theorem aah {X:Cx}:Passes tV X E0:=fun _ _ _ _ _ _ _ h=>h.elim
structure qj (K:PySem.W.Frag) (x qual:Str) (st:Stmt) (f:Addr) (fd:FuncData):Prop where
 ex:∃(oc:Value) (od:Option Addr) (kV doc pm:Value) (an:Option Addr) (cdv ct:Value) (osl:Array (Option Value)),
  fd=PySem.W.fnOf x qual (aN st) (aM st) (aH st) .none kV doc pm an cdv ct/\K.lookup f=some ⟨oc,od,.func fd,osl⟩/\PySem.W.codeIn K cdv qual=true
 kp:PySem.W.keepIn K (.ref f)=true
section
variable {P:Program} {w:World} {K:PySem.W.Frag} {mg:Str->Option Value} {base:Heap}
theorem qj.ok {x qual:Str} {st:Stmt} {f:Addr} {fd:FuncData} {N ps:List Str} {k:Nat} {sp:Sp} (F:qj K x qual st f fd) (S:bT N ps (aH st)) (len:∀vs H Q E,sp vs H Q E->vs.length=ps.length)
 (hbody:∀(cdv:Value) (A:Around) (outer:List Env) (s:Shared) (H:Hp) (vs:List V) (Q:VK) (E:XK),pR k (A.deeper (envOfC qual (aH st) s.heap.objs.size f cdv))->sp vs H Q E ->
   ∃t,Jh (tR tV P w K mg base N qual (aH st) f cdv A outer s H E).nox (aM st) t/\t {nx:=fun _ H'=>Q .non H',rt:=Q} (start N vs) H):gn P w K mg base tV (k+1) f fd ps sp:=by
 obtain ⟨oc,od,kV,doc,pm,an,cdv,ct,osl,rfl,lk,hcd⟩:=F.ex;refine Rg lk hcd S len fun A outer s H vs Q E hr hsp=> ?_;obtain ⟨t,h,q⟩:=hbody cdv A outer s H vs Q E hr hsp;exact ⟨t,h.nox,q⟩
theorem qj.binds {x qual:Str} {st:Stmt} {f:Addr} {fd:FuncData} {ps:List Str} (F:qj K x qual st f fd)
 (h:∀(kV doc pm:Value) (an:Option Addr) (cdv ct:Value) (us:List Value),us.length=ps.length->bindArgs (PySem.W.fnOf x qual (aN st) (aM st) (aH st) .none kV doc pm an cdv ct) ⟨us,[]⟩=pure (ps.zip us)):Binds K fd ps []:=by
 obtain ⟨oc,od,kV,doc,pm,an,cdv,ct,osl,rfl,lk,hcd⟩:=F.ex;exact .all (h kV doc pm an cdv ct)
theorem d7 {x qual:Str} {st:Stmt} {f:Addr} {oc:Value} {od an:Option Addr} {osl:Array (Option Value)} {kV doc pm cdv ct:Value} (l:K.lookup f=some ⟨oc,od,.func (PySem.W.fnOf x qual (aN st) (aM st) (aH st) .none kV doc pm an cdv ct),osl⟩)
 (c:PySem.W.codeIn K cdv qual=true) (k:PySem.W.keepIn K (.ref f)=true):qj K x qual st f (PySem.W.fnOf x qual (aN st) (aM st) (aH st) .none kV doc pm an cdv ct):=⟨⟨oc,od,kV,doc,pm,an,cdv,ct,osl,rfl,l,c⟩,k⟩
end
theorem yj {A:Around} {k:Nat} (hr:pR k A):A.units+1<cLine:=Nat.lt_of_le_of_lt (Nat.add_le_add_left (by decide:1<=64) _) hr.units
section
variable {X:Cx}
theorem pv (i:Nat) {x:Str} {pos:Pos} (hN:X.N[i]? = some x:=by rfl) (hv:Vis X.env.scope x:=by first |exact Or.inl rfl|exact Or.inr (Or.inl rfl)|exact Or.inr (Or.inr rfl)) (hd:(x==("__debug__" :Str))=false:=by decide)
 (hcd:(x==("__classdict__" :Str))=false:=by decide):PE X (.Name x pos) (Zw i):=Xd hN hv hd hcd
end
theorem iM {A B:Prop} (h:B):if false=true then A else B:=by
 rw [if_neg Bool.false_ne_true];exact h
theorem ji {A B:Prop} (h:A):if true=true then A else B:=by
 rw [if_pos rfl];exact h
theorem dY {c A B:Prop} [Decidable c] (h1:c->A) (h2:¬c->B):if c then A else B:=by
 by_cases h:c
 ·rw [if_pos h]
  exact h1 h
 ·rw [if_neg h]
  exact h2 h
theorem Lq {c A B:Prop} [Decidable c] (hc:c) (h:B):if (!decide c)=true then A else B:=by
 rw [decide_eq_true hc];exact iM h
def Same (H H':Hp):Prop:=∀b o,H b=some o->H' b=some o
theorem Same.refl (H:Hp):Same H H:=fun _ _ h=>h
theorem Same.trans {H H1 H2:Hp} (a:Same H H1) (b:Same H1 H2):Same H H2:=fun c o h=>b c o (a c o h)
theorem Same.free {H H':Hp} (e:Same H H') {l:Addr} (h:H' l=Option.none):H l=Option.none:=by
 cases q:H l with
 | none=>rfl
 | some o=>
   rw [e l o q] at h;cases h
theorem Same.seq {K:PySem.W.Frag} {H H':Hp} {a:Addr} {xs:List V} (e:Same H H') (h:bK K H a xs):bK K H' a xs:=by
 rcases h with (h|⟨o,h⟩)|h
 ·exact .inl (.inl (e _ _ h))
 ·exact .inl (.inr ⟨o,e _ _ h⟩)
 ·exact .inr h
section
variable {κ:Type} [DecidableEq κ]
end
end L2
set_option Elab.async false
set_option linter.all false
set_option maxRecDepth 100000
set_option maxHeartbeats 4000000
namespace L2
open PySem PySem.Spec PyProof.Rows
theorem El {a n:Addr} (h:a<n): @LT.lt Nat _ a n:=h
def u_ (env:Env):List (Str×NameKind)->List (Str×Addr)->List (Str×Addr)
 | [],acc=>acc
 | (n,k)::r,acc=>if k == .free then u_ env r ((n,(env.cells.lookup n).getD 0)::acc) else u_ env r acc
theorem Kc {env:Env} {scope:Scope} (h:∀y∈scope.names,y.2 = .free->(env.cells.lookup y.1).isSome=true):closureFor scope env=pure (u_ env scope.names []):=by
 have go:∀(ns:List (Str×NameKind)) (acc:List (Str×Addr)),(∀y∈ns,y.2 = .free->(env.cells.lookup y.1).isSome=true) ->
  (forIn ns acc (fun x cs=>match x with |(name,kind)=>if (kind == .free)=true then do let c ←cellOf env name;pure (ForInStep.yield ((name,c)::cs)) else pure (ForInStep.yield cs)):Sem (List (Str×Addr)))=pure (u_ env ns acc):=by
  intro ns
  induction ns with
  | nil=>intro acc _;rfl
  | cons y r ih=>
    intro acc hy;obtain ⟨n,k⟩:=y;rw [List.forIn_cons]
    by_cases hk:k = .free
    ·subst hk
     have hs:=hy (n,.free) List.mem_cons_self rfl;obtain ⟨c,hc⟩:=Option.isSome_iff_exists.mp hs;have e:cellOf env n=pure c:=by unfold cellOf;rw [hc]
     show _=pure (u_ env r ((n,(env.cells.lookup n).getD 0)::acc));rw [←ih _ fun y hm=>hy y (List.mem_cons_of_mem _ hm)];simp only [beq_self_eq_true,if_true,e,pure_bind,hc,Option.getD_some]
    ·have hb:(k==NameKind.free)=false:=by simpa using hk
     have hc:u_ env ((n,k)::r) acc=u_ env r acc:=by
      show (if (k==NameKind.free)=true then _ else _)=_;rw [if_neg (by rw [hb];decide)]
     rw [hc,←ih _ fun y hm=>hy y (List.mem_cons_of_mem _ hm)];simp only [hb,Bool.false_eq_true,if_false,pure_bind]
 have q:=go scope.names [] h;unfold closureFor;show (forIn scope.names [] _ >>= fun r=>pure r)=_;rw [bind_pure];exact q
theorem pH {env:Env}:∀(ns:List (Str×NameKind)) (acc:List (Str×Addr)) (x:Str),(∀y∈ns,y.2 = .free->(env.cells.lookup y.1).isSome=true) ->
 (u_ env ns acc).lookup x=if (x,NameKind.free)∈ns then env.cells.lookup x else acc.lookup x
 | [],acc,x,_=>by simp [u_]
 | (n,k)::r,acc,x,h=>by
   have hr:∀y∈r,y.2 = .free->(env.cells.lookup y.1).isSome=true:=fun y hm=>h y (List.mem_cons_of_mem _ hm)
   by_cases hk:k = .free
   ·subst hk
    show (u_ env r ((n,(env.cells.lookup n).getD 0)::acc)).lookup x=_;rw [pH r _ x hr];obtain ⟨c,hc⟩:=Option.isSome_iff_exists.mp (h (n,.free) List.mem_cons_self rfl);have hc:env.cells.lookup n=some c:=hc
    by_cases hm:(x,NameKind.free)∈r
    ·rw [if_pos hm,if_pos (List.mem_cons_of_mem _ hm)]
    ·rw [if_neg hm]
     by_cases e:x=n
     ·subst e
      rw [if_pos List.mem_cons_self,List.lookup_cons,hc];simp
     ·rw [if_neg (fun z=>(List.mem_cons.mp z).elim (fun q=>e (congrArg Prod.fst q)) hm),List.lookup_cons]
      have:(x==n)=false:=by simpa using e
      rw [this]
   ·have hb:(k==NameKind.free)=false:=by simpa using hk
    have hc:u_ env ((n,k)::r) acc=u_ env r acc:=by
     show (if (k==NameKind.free)=true then _ else _)=_;rw [if_neg (by rw [hb];decide)]
    rw [hc,pH r acc x hr]
    have:((x,NameKind.free)∈(n,k)::r)↔(x,NameKind.free)∈r:=by
     constructor
     ·intro z
      rcases List.mem_cons.mp z with q|q
      ·exact absurd (congrArg Prod.snd q).symm hk
      ·exact q
     ·exact List.mem_cons_of_mem _
    simp only [this]
theorem qC (env:Env):∀(ns:List (Str×NameKind)) (x:Str),
 (ns.map fun (n,k)=>if (k == .free&&env.scope.kind == .function&&env.kindOf n==some .cell) then (n,NameKind.cell) else (n,k)).lookup x =
   (ns.lookup x).map fun k=>if (k == .free&&env.scope.kind == .function&&env.kindOf x==some .cell)=true then NameKind.cell else k
 | [],x=>rfl
 | (n,k)::r,x=>by
   show List.lookup x ((if (k==NameKind.free&&env.scope.kind == .function&&env.kindOf n==some .cell)=true then (n,NameKind.cell) else (n,k))::_)=_;cases hx:x==n with
   | true=>
     have e:x=n:=by simpa using hx
     subst e
     by_cases hc:(k==NameKind.free&&env.scope.kind == .function&&env.kindOf x==some .cell)=true
     ·rw [if_pos hc];simp only [List.lookup_cons,hx,Option.map_some,if_pos hc]
     ·rw [if_neg hc];simp only [List.lookup_cons,hx,Option.map_some,if_neg hc]
   | false=>
     have ih:=qC env r x
     by_cases hc:(k==NameKind.free&&env.scope.kind == .function&&env.kindOf n==some .cell)=true
     ·rw [if_pos hc];simp only [List.lookup_cons,hx];exact ih
     ·rw [if_neg hc];simp only [List.lookup_cons,hx];exact ih
structure bH (N own:List Str) (caps:List Nat) (XN:List Str) (outer scope:Scope):Prop where
 kind:scope.kind = .function
 Qz:∀y∈scope.names,y.2 ≠ .cell
 names:∀y∈scope.names,y.2 = .local->scope.names.lookup y.1=some .local
 free:∀y∈scope.names,y.2 = .free->outer.names.lookup y.1=some .cell\/outer.names.lookup y.1=some .free
 nd:N.Nodup
 len:N.length=own.length+caps.length
 cap:∀(j:Nat),j<caps.length->N[own.length+j]? = XN[caps.getD j 0]? /\ ∃x,N[own.length+j]? = some x/\(x,NameKind.free)∈scope.names/\scope.names.lookup x=some .free
def st0 (own:List Str) (caps:List Nat) (σ:St):St:=own.map (fun _=>none)++caps.map (fun i=>(σ[i]?).join)
def jy (X:Cx) (scope:Scope) (C:Addr) (N:List Str) (s:Shared) (H:Hp) (fp:List Addr):Cx:=
 {X with N:=N,s₀:=s,H₀:=H,env:=compEnvC scope (u_ X.env scope.names []) C X.env,outer:=X.stack,ex:=fp,fn:=fun _=>false,pn:=[],xe:=fun _ _=>False}
section
variable {X:Cx} {pins:List (Addr×Obj)} {σ:St} {H:Hp} {s:Shared} {scope:Scope} {N own:List Str} {caps:List Nat} {fp:List Addr} {C:Nat}
theorem bH.Rn (S:bH N own caps X.N X.env.scope scope) (ok:X.Ok):∀y∈scope.names,y.2 = .free->(X.env.cells.lookup y.1).isSome=true:=fun y hy hf=>by
 obtain ⟨c,e⟩:=ok.has y.1 (S.free y hy hf);rw [e];rfl
theorem bH.csub (S:bH N own caps X.N X.env.scope scope) (ok:X.Ok) {x:Str} {c:Addr} (h:(u_ X.env scope.names []).lookup x=some c):X.env.cells.lookup x=some c:=by
 rw [pH _ _ _ (S.Rn ok)] at h;split at h
 ·exact h
 ·simp at h
theorem bH.QG {S:bH N own caps X.N X.env.scope scope} {x:Str} (h:(relabel scope X.env).names.lookup x=some .cell\/(relabel scope X.env).names.lookup x=some .free):(x,NameKind.free)∈scope.names:=by
 have e:=qC X.env scope.names x;have e':(relabel scope X.env).names.lookup x=(scope.names.lookup x).map fun k=>if (k == .free&&X.env.scope.kind == .function&&X.env.kindOf x==some .cell)=true then NameKind.cell else k:=e;rw [e'] at h;cases q:scope.names.lookup x with
 | none=>rw [q] at h;simp at h
 | some k=>
   have hm:=PySem.mem_of_lookup q
   by_cases hk:k = .free
   ·subst hk;exact hm
   ·rw [q] at h
    have hb:(k==NameKind.free)=false:=by simpa using hk
    simp only [Option.map_some,hb,Bool.false_and,Bool.false_eq_true,if_false] at h;rcases h with h|h
    ·exact absurd (Option.some.inj h) (S.Qz _ hm)
    ·exact absurd (Option.some.inj h) hk
theorem Inv.comp {h1:Heap} {D:Nat} (I:Inv X pins σ H s) (S:bH N own caps X.N X.env.scope scope) (hfp:∀b∈fp,xr X pins H b) (hfo:∀b∈fp,∃o,s.heap.get? b=some o)
 (hD:D=s.heap.objs.size) (hC:C=s.heap.objs.size+1) (old:∀b o,s.heap.get? b=some o->h1.get? b=some o) (hns:h1.Ns C (fun _=>none)) (hl:h1.get? D=some {cls:= .type "list",data:= .seq #[]}) {t:Nat}:
 Inv (jy X scope C N s H fp) [] (st0 own caps σ) (upd H D (.lst [])) {s with heap:=h1,toks:=t}:=by
 have some':=S.Rn I.ok;have sub:∀{x c},(u_ X.env scope.names []).lookup x=some c->X.env.cells.lookup x=some c:=fun h=>S.csub I.ok h;have freshD:H D=none:=I.hok.fresh (by rw [hD];exact Nat.le_refl _);have Ym:H C=none:=I.hok.fresh (by rw [hC];exact Nat.le_succ _)
 have Yy:∀x c,X.env.cells.lookup x=some c->c<s.heap.objs.size:=fun x c e=>by
  obtain ⟨v,z⟩:=I.cell x c e;exact z.lt
 have ah7:∀b∈fp,b<s.heap.objs.size:=fun b hb=>by
  obtain ⟨o,e⟩:=hfo b hb;exact Heap.lt_size e
 have DC:D≠C:=by omega
 refine ⟨⟨I.ok.mod,S.kind,I.ok.glob,I.ok.blt,by show s.heap.objs.size<=C;omega,fun x y c e1 e2=>I.ok.inj x y c (sub e1) (sub e2),fun x h=> ?_,fun x c h=>(by cases h),I.ok.hd,I.ok.frames,Or.inl rfl,fun b hb=>⟨?_,fun x c e=> ?_⟩,I.bs,Nat.le_trans I.ok.O5 I.sz,fun b o e hb=> ?_,fun b hb z=> ?_,I.stack,I.FP⟩,
  rfl,I.bare,Un.laid old (by show s.heap.objs.size<=D;omega) freshD,⟨_,hns,fun j x v e1 e2 e3=> ?_⟩,fun x c e=> ?_, ?_,fun x c e=> ?_,fun p hp=> ?_,I.hok.laid old (by omega) ?_, ?_⟩
 ·have hm:=bH.QG (S:=S) (X:=X) h
  obtain ⟨c,e⟩:=Option.isSome_iff_exists.mp (some' _ hm rfl);exact ⟨c,by show (u_ X.env scope.names []).lookup x=_;rw [pH _ _ _ some',if_pos hm];exact e⟩
 ·exact Nat.ne_of_lt (show @LT.lt Nat _ b C by have:=El (ah7 b hb);omega)
 ·exact (hfp b hb).2.2.2.2.1 x c (sub e)
 ·rcases (hfp b hb).2.2.2.1 with z|z
  ·exact I.ok.Gm b o e z
  ·exact absurd (Nat.lt_of_lt_of_le (Heap.lt_size e) (Nat.le_trans I.ok.O5 z)) (Nat.lt_irrefl _)
 ·rcases List.mem_cons.mp (I.Ax b z) with q|q
  ·exact (hfp b hb).2.1 q
  ·exact (hfp b hb).2.2.1 q
 ·have e1:N[j]? = some x:=e1
  have hj:own.length<=j:=by
   by_cases q:own.length<=j
   ·exact q
   ·exfalso
    unfold st0 at e2;rw [List.getElem?_append_left (by simp;omega),List.getElem?_map] at e2;cases r:own[j]? with
    | none=>rw [r] at e2;cases e2
    | some a=>rw [r] at e2;cases e2
  have hjl:j<N.length:=(List.getElem?_eq_some_iff.mp e1).1;have hjc:j - own.length<caps.length:=by have:=S.len;omega
  obtain ⟨c1,x',c2,c3,c4⟩:=S.cap (j - own.length) hjc;rw [show own.length+(j - own.length)=j by omega] at c1 c2;rw [e1] at c2;cases c2
  have e2':(σ[caps.getD (j - own.length) 0]?).join=some v:=by
   unfold st0 at e2;rw [List.getElem?_append_right (by simp;omega),List.getElem?_map,List.length_map] at e2;rw [List.getD_eq_getElem?_getD];cases r:caps[j - own.length]? with
   | none=>rw [r] at e2;cases e2
   | some a=>rw [r] at e2;exact Option.some.inj e2
  have aib:σ[caps.getD (j - own.length) 0]? = some (some v):=by
   cases r:σ[caps.getD (j - own.length) 0]? with
   | none=>rw [r] at e2';cases e2'
   | some a=>rw [r] at e2';exact congrArg Option.some e2'
  have kx:X.env.kindOf x=some .cell\/X.env.kindOf x=some .free:=S.free _ c3 rfl;obtain ⟨m,hn,hl'⟩:=I.loc;obtain ⟨u,r,l⟩:=hl' _ x v (by rw [←c1];exact e1) aib (by rcases kx with z|z;exact .inr (.inl z);exact .inr (.inr z));refine ⟨u,r,.inr ⟨?_, ?_⟩⟩
  ·show (relabel scope X.env).names.lookup x=some .cell\/(relabel scope X.env).names.lookup x=some .free
   have e:(relabel scope X.env).names.lookup x=(scope.names.lookup x).map fun k=>if (k == .free&&X.env.scope.kind == .function&&X.env.kindOf x==some .cell)=true then NameKind.cell else k:=qC X.env scope.names x;rw [e,c4,Option.map_some];split
   ·exact .inl rfl
   ·exact .inr rfl
  ·rcases l with ⟨hk,_⟩|⟨_,c,hc,z⟩
   ·rcases kx with q|q<;>rw [hk] at q<;>cases q
   ·refine ⟨c, ?_, ?_⟩
    ·show (u_ X.env scope.names []).lookup x=_
     rw [pH _ _ _ some',if_pos c3];exact hc
    ·obtain ⟨o,ho,hd⟩:=z
     exact ⟨o,old c o ho,hd⟩
 ·obtain ⟨v,o,ho,hd⟩:=I.cell x c (sub e)
  exact ⟨v,o,old c o ho,hd⟩
 ·show upd H D (.lst []) C=none
  rw [cC DC.symm];exact Ym
 ·show upd H D (.lst []) c=none
  rw [cC (Nat.ne_of_lt (by have:=El (Yy x c (sub e));omega))];exact I.ou x c (sub e)
 ·cases hp
 ·exact ⟨Nat.zero_le _,[],0,.nil,hl⟩
 ·show (own.map (fun _=>none)++caps.map _).length=N.length
  rw [List.length_append,List.length_map,List.length_map,S.len]
theorem Inv.Px {tH:List (Addr×Obj)} {σ':St} {H':Hp} {s':Shared} {h':Heap} (I:Inv X pins σ H s) (hfp:∀b∈fp,xr X pins H b) (hC:s.heap.objs.size<=C) (J:Inv (jy X scope C N s H fp) tH σ' H' s') (hs:Heap.SameBut C s'.heap h'):
 Inv X pins σ H' {s' with heap:=h'}:=by
 have nC:∀b o,s.heap.get? b=some o->b≠C:=fun b o e=>Nat.ne_of_lt (by have:=El (Heap.lt_size e);omega);have u:=J.base;have frC:H' C=none:=J.free;refine I.call' (ch:=fp) (s':={s' with heap:=h'}) J.os ⟨fun b o e n hb hx=> ?_,fun b o e n hb hx=> ?_,u.free,fun b o e hx=> ?_,u.tups,u.w5,u.yU⟩ (fun a o e=>(J.hok a o e).stay (fun b v hb q=> ?_) (fun _ q=>q) fun _ _ q=>q) J.bare fun b hb=> ?_
 ·exact (hs.2 b (nC b o e)).trans (u.keep b o e n hb hx)
 ·obtain ⟨sl,q⟩:=u.slot b o e n hb hx
  exact ⟨sl,(hs.2 b (nC b o e)).trans q⟩
 ·obtain ⟨o',q⟩:=u.there b o e hx
  exact ⟨o',(hs.2 b (nC b o e)).trans q⟩
 ·refine (hs.2 b ?_).trans q
  intro z;subst z;rcases hb with z|z
  ·subst z;rw [frC] at e;cases e
  ·rw [frC] at z;cases z
 ·exact ⟨(hfp b hb).2.2.2.1,(hfp b hb).2.1,(hfp b hb).2.2.2.2.1,(hfp b hb).2.2.2.2.2⟩
end
section
variable {prog:Program} {w:World} {A:Around} {R:Result->Shared->Prop} {s:Shared}
theorem GC {elt target iter:Expr} {ifs:List Expr} {scope:Scope} {pos:Pos} {it acc:Value} {env:Env} (I:Nat->Shared->Prop)
 (turn:∀n s,I n s->wpAny (model prog w) A (pyNext it) (fun r s1=>match r with
   | none=>R (.ok .next) s1
   | some v=>wpAny (model prog w) A (letOwnedTupleGo target it v) (fun _ s1'=>wpAny (model prog w) A (assign target env v) (fun _ s2=>
      wpAny (model prog w) A (forIn ifs true fun c r=>if r=true then do let ok ←isTrue c env (eval c env);pure (ForInStep.yield ok) else pure (ForInStep.yield r)) (fun ok s3=>
       if ok=true then wpAny (model prog w) A (eval elt env) (fun x s4=>
        wpAny (model prog w) A (call (.builtin "list.append") [acc,x]) (fun _ s5=>∃m,m<n/\I m s5) (fun _ _=>False) s4) (fun _ _=>False) s3
       else ∃m,m<n/\I m s3) (fun _ _=>False) s2) (fun _ _=>False) s1') (fun _ _=>False) s1) (fun _ _=>False) s)
 (n:Nat) (h:I n s):
 codeAny (model prog w) A (.compLoop (.ListComp elt [⟨target,iter,ifs,0⟩] scope pos) 0 it acc env) R s:=by
 refine codeAny_loop rfl I (fun n s hI=> ?_) n h;show wpAny _ A ((compTurn (.ListComp elt [⟨target,iter,ifs,0⟩] scope pos) 0 it acc env).onRaise (fun x=>do noteFrame x env;theTreesLotGoes x)) _ _ s;refine wpAny_noted ?_;rw [compTurn_list];refine wpAny_bind (wpAny_standAt (wpAny_bind (wpAny_mono (turn n s hI) (fun r s1 h1=> ?_) fun _ _ h'=>h'.elim)));cases r with
 | none=>exact wpAny_pure h1
 | some v=>
   refine wpAny_bind (wpAny_mono h1 (fun _ s1' h1'=> ?_) fun _ _ h'=>h'.elim);refine wpAny_bind (wpAny_mono h1' (fun _ s2 h2=>wpAny_bind (wpAny_mono h2 (fun ok s3 h3=> ?_) fun _ _ h'=>h'.elim)) fun _ _ h'=>h'.elim);cases ok with
   | false=>exact wpAny_pure ⟨rfl,h3⟩
   | true=>
     exact wpAny_bind (wpAny_bind (wpAny_mono h3 (fun x s4 h4=>wpAny_bind (wpAny_mono h4 (fun _ s5 h5=>wpAny_pure (wpAny_pure ⟨rfl,h5⟩)) fun _ _ h'=>h'.elim)) fun _ _ h'=>h'.elim))
end
def PTs (X:Cx) (ifs:List Expr) (t:TT):Prop:=
 ∀(pins:List (Addr×Obj)) (s:Shared) (σ:St) (H:Hp) (Q:Bool->Hp->Prop),Inv X pins σ H s->t σ H Q ->
  wpAny (model X.prog X.w) X.A (forIn ifs true fun c r=>if r=true then do let ok ←isTrue c X.env (eval c X.env);pure (ForInStep.yield ok) else pure (ForInStep.yield r)) (TP X pins σ Q) X.xe s
def WL:TT:=fun _ H Q=>Q true H
theorem iD {X:Cx}:PTs X [] WL:=fun _ _ _ H _ I h=>wpAny_tests_nil ⟨H,I,h⟩
theorem qN {X:Cx} {c:Expr} {t:TT} (h:PT X c t):PTs X [c] t:=fun pins s σ H Q I q=>wpAny_tests_one (h pins s σ H Q I q)
def tQ (J:It) (g:TG) (tc:TT) (te:TE) (Q:VK) (D:Addr) (σ0:St) (H1:Hp):Prop:=
 ∃W:Nat->Nat->St->Hp->Prop,(∃m,W 0 m σ0 (upd H1 D (.lst []))) /\ ∀i m σ H,W i m σ H ->
  (J.stop i H/\Q (.ref D) H)\/(J.go i H /\ ∃N:St->Hp->Prop,(∀σ' H',N σ' H' -> ∃m',m'<m/\W (i+1) m' σ' H') /\ ∀x H',J.YW i H x H'->g x σ H' fun σ2 H2=>tc σ2 H2 fun b H3=>
    if b=true then te σ2 H3 fun y H4=>∃acc,H4 D=some (.lst acc)/\acc.length<sizeLine/\N σ2 (upd H4 D (.lst (acc++[y]))) else N σ2 H3)
def PN (own:List Str) (caps:List Nat) (wi:TI) (g:TG) (tc:TT) (te:TE):TE:=fun σ H Q=>wi σ H fun J H1=>∀D,H1 D=none->tQ J g tc te Q D (st0 own caps σ) H1
section
variable {X:Cx} {elt tg iter:Expr} {ifs:List Expr} {scope:Scope} {pos:Pos} {N own:List Str} {caps:List Nat} {wi:TI} {g:TG} {tc:TT} {te:TE}
theorem IK {use:Option (Value->Sem Unit)} {Qv:Value->Shared->Prop} {pins:List (Addr×Obj)} {σ:St} {H:Hp} {s:Shared} {Q:VK} (hc:X.calm=true) (S:bH N own caps X.N X.env.scope scope)
 (hg:∀C s H fp,PG (jy X scope C N s H fp) tg g) (hcs:∀C s H fp,PTs (jy X scope C N s H fp) ifs tc) (he:∀C s H fp,PE (jy X scope C N s H fp) elt te)
 (hi:PI X tg iter wi) (hs:∀x,foldedSetIterable iter X.env x=pure x)
 (I:Inv X pins σ H s) (h:PN own caps wi g tc te σ H Q)
 (fin:∀(D C:Addr) (H':Hp) (s':Shared),(∃m,s'.heap.Ns C m)->Inv X pins σ H' s'->(∀h',Heap.SameBut C s'.heap h'->Inv X pins σ H' {s' with heap:=h'})->xr X pins H' C->Q (.ref D) H' ->
   compPost (model X.prog X.w) X.A X.xe use Qv (.ref D) C (.ok .next) s'):
 wpAny (model X.prog X.w) X.A (comprehension (.ListComp elt [⟨tg,iter,ifs,0⟩] scope pos) scope X.env (firstIterPos [⟨tg,iter,ifs,0⟩] pos) (newList []) false (eval iter X.env) use) Qv X.xe s:=by
 refine wpAny_comprehension_free (use:=use) rfl hs (Kc (S.Rn I.ok)) S.kind S.names (gU (hi pins s σ H _ I h) fun xv s1 h1=>gU h1 fun itv s2 h2=> ?_);obtain ⟨it,fp,tn,J,H2,e,I2,T,st2,f2,q2⟩:=h2;subst e;refine wpAny_newList ?_;refine wpAny_newFunctionEnv S.Qz (by intro y hy;simp at hy) (fun h1 aaB hsb1=> ?_) S.kind;dsimp only at aaB hsb1 ⊢;have hD:H2 s2.heap.objs.size=none:=I2.hok.fresh (Nat.le_refl _);have hsz:(s2.heap.push {cls:= .type "list",data:= .seq ([]:List Value).toArray}).objs.size=s2.heap.objs.size+1:=Heap.size_push ..
 have old:∀b o,s2.heap.get? b=some o->h1.get? b=some o:=fun b o e=>by
  refine hsb1.extBut b o (Nat.ne_of_lt (by have:=El (Heap.lt_size e);rw [hsz];omega)) (Heap.get?_push_of_some _ (Heap.get?_push_of_some _ e))
 have hl:h1.get? s2.heap.objs.size=some {cls:= .type "list",data:= .seq #[]}:=
  hsb1.extBut _ _ (Nat.ne_of_lt (by rw [hsz];omega)) (Heap.get?_push_of_some _ (Heap.get?_push_size _ rfl))
 have hfo:∀b∈fp,∃o,s2.heap.get? b=some o:=fun b hb=>let ⟨o,e,_⟩:=T.obj _ _ st2 b hb;⟨o,e⟩
 have I4:=Inv.comp (C:=(s2.heap.push {cls:= .type "list",data:= .seq ([]:List Value).toArray}).objs.size) (t:=s2.toks+([]:List (Str×Value)).length) I2 S f2 hfo rfl hsz old aaB hl;obtain ⟨W,⟨m0,w0⟩,turn⟩:=q2 _ hD;generalize hCe:(s2.heap.push {cls:= .type "list",data:= .seq ([]:List Value).toArray}).objs.size=C at *;generalize hDe:s2.heap.objs.size=D at *;have hDC:D≠C:=by omega
 have loop:∀s3:Shared,s3={s2 with heap:=h1,toks:=s2.toks+([]:List (Str×Value)).length} ->
  codeAny (model X.prog X.w) X.A (.compLoop (.ListComp elt [⟨tg,iter,ifs,0⟩] scope pos) 0 (.ref it) (.ref D) (jy X scope C N s2 H2 fp).env) (compPost (model X.prog X.w) X.A X.xe use Qv (.ref D) C) s3:=by
  rintro s3 rfl
  have rM:∀b∈fp,(upd H2 D (.lst [])) b=none:=fun b hb=>by
   obtain ⟨o,e⟩:=hfo b hb;rw [cC (Nat.ne_of_lt (by have:=El (Heap.lt_size e);omega))];exact (f2 b hb).1
  have stat:∀{H':Hp},(∀b∈fp,H' b=none) -> ∀b∈fp,xr (jy X scope C N s2 H2 fp) [] H' b:=fun hn b hb=>by
   obtain ⟨o,e⟩:=hfo b hb;have hlt:=El (Heap.lt_size e);refine ⟨hn b hb, ?_,fun z=> ?_,.inl hb,fun x c e'=>(f2 b hb).2.2.2.2.1 x c (S.csub I2.ok e'),fun p hp=>(by cases hp)⟩
   ·exact Nat.ne_of_lt (show @LT.lt Nat _ b C by omega)
   ·rcases List.mem_cons.mp (I2.Ax b z) with q|q
    ·exact (f2 b hb).2.1 q
    ·exact (f2 b hb).2.2.1 q
  refine GC (fun n s'=>∃i σ' H',Inv (jy X scope C N s2 H2 fp) [] σ' H' s'/\tn i s'.heap/\(∀b∈fp,H' b=none)/\W i n σ' H') ?_ m0
   ⟨0,_,_,I4,T.keep _ _ _ st2 fun b _ o e=>old b o e,rM,w0⟩
  rintro n s3 ⟨i,σ3,H3,I3,st3,fr3,w3⟩;rcases turn i n σ3 H3 w3 with ⟨stop,qn⟩|⟨go,Nx,hNx,step⟩
  ·refine gU (T.done (jy X scope C N s2 H2 fp) rfl rfl rfl hc i [] s3 σ3 H3 _ I3 (stat fr3) st3 stop) fun r s4 ⟨hr,J4⟩=> ?_
   subst hr;obtain ⟨m4,hn4,_⟩:=J4.loc;exact fin D C H3 s4 ⟨m4,hn4⟩ (I2.Px f2 (by omega) J4 (Heap.SameBut.refl _ _)) (fun h' hs'=>I2.Px f2 (by omega) J4 hs') (I2.Gw (show s2.heap.objs.size<=C by omega) J4.free) qn
  ·refine gU (T.item (jy X scope C N s2 H2 fp) rfl rfl rfl hc i [] s3 σ3 H3 _ I3 (stat fr3) st3 go) fun r s4 ⟨u,hr,h4⟩=> ?_
   subst hr;refine gU h4 fun _ s5 ⟨x,H5,I5,r5,y5,WM,fr5⟩=> ?_;have I5':=I5.pinned (stat fr5) (T.obj _ _ WM);refine gU (hg C s2 H2 fp _ s5 σ3 H5 x u _ I5' r5 (step x H5 y5)) fun _ s6 ⟨σ6,H6,I6,q6⟩=> ?_;refine gU (hcs C s2 H2 fp _ s6 σ6 H6 _ I6 q6) fun ok s7 ⟨H7,I7,q7⟩=> ?_
   have again:∀{σ8:St} {H8:Hp} {s8:Shared},Inv (jy X scope C N s2 H2 fp) ([]++Bs fp s5.heap) σ8 H8 s8->Nx σ8 H8 -> ∃m,m<n /\ ∃i σ' H',Inv (jy X scope C N s2 H2 fp) [] σ' H' s8/\tn i s8.heap/\(∀b∈fp,H' b=none)/\W i m σ' H':=fun {σ8 H8 s8} I8 n8=>by
    obtain ⟨m',hm,w8⟩:=hNx _ _ n8;refine ⟨m',hm,i+1,σ8,H8,I8.xK,T.keep _ _ _ WM fun b hb o e=>(I8.pin (b,o) (List.mem_append_right _ (List.mem_append_right _ (sZ hb e)))).1,fun b hb=> ?_,w8⟩;obtain ⟨o,e,d⟩:=T.obj _ _ WM b hb;exact (I8.pin (b,o) (List.mem_append_right _ (List.mem_append_right _ (sZ hb e)))).2.1
   cases ok with
   | false=>
     rw [if_neg (by decide)] at q7;exact again I7 q7
   | true=>
     rw [if_pos rfl] at q7;refine gU (he C s2 H2 fp _ s7 σ6 H7 _ I7 q7) fun y s8 ⟨yv,H8,I8,r8,acc,ha,hlen,q8⟩=> ?_;exact gU (En _ s8 σ6 H8 (.ref D) [yv] (.ref D) [y] (fun v H9=>Nx σ6 H9) I8 rfl (.cons r8 .nil) ⟨D,acc,yv,rfl,rfl,ha,hlen,q8⟩) fun _ s9 ⟨_,H9,I9,_,q9⟩=>again I9 q9
 exact codeAny_compStart_list (loop _ rfl) (T.self _ 0 _ _ _ (T.keep _ _ _ st2 fun b _ o e=>old b o e) (loop _ rfl))
theorem iT (hc:X.calm=true) (S:bH N own caps X.N X.env.scope scope) (hi:PI X tg iter wi)
 (hg:∀C s H fp,PG (jy X scope C N s H fp) tg g) (hcs:∀C s H fp,PTs (jy X scope C N s H fp) ifs tc) (he:∀C s H fp,PE (jy X scope C N s H fp) elt te)
 (hs:∀x,foldedSetIterable iter X.env x=pure x:=by intro _;rfl):PE X (.ListComp elt [⟨tg,iter,ifs,0⟩] scope pos) (PN own caps wi g tc te):=by
 intro pins s σ H Q I h;rw [eval_ListComp];refine IK (use:=none) hc S hg hcs he hi hs I h ?_;intro D C H' s' hn I' hk _ q;obtain ⟨m,hn⟩:=hn;exact ⟨m,hn,fun h' hs'=>⟨.ref D,H',hk h' hs',rfl,q⟩⟩
theorem pC {i:Nat} {x:Str} {px sp:Pos} (hc:X.calm=true) (hN:X.N.Nodup) (hx:X.N[i]? = some x) (hl:Loc X.env.scope x) (S:bH N own caps X.N X.env.scope scope) (hi:PI X tg iter wi)
 (hg:∀C s H fp,PG (jy X scope C N s H fp) tg g) (hcs:∀C s H fp,PTs (jy X scope C N s H fp) ifs tc) (he:∀C s H fp,PE (jy X scope C N s H fp) elt te)
 (hsw:swapsWith (.ListComp elt [⟨tg,iter,ifs,0⟩] scope pos) (some (.Name x px)) sp.line X.env=pure true:=by rfl)
 (hs:∀x,foldedSetIterable iter X.env x=pure x:=by intro _;rfl) (hf:X.fn x=true\/X.env.scope.names.lookup x=some .local:=by first |exact .inl rfl|exact .inr rfl|assumption):
 PS X (.Assign [.Name x px] (.ListComp elt [⟨tg,iter,ifs,0⟩] scope pos) sp) (WK (PN own caps wi g tc te) (tM i)):=by
 intro pins s σ H D I h;rw [exec_Assign_Name_used _ _ _ _ hsw];refine wpAny_bind (wpAny_standAt (wpAny_bind ?_));show wpAny _ X.A (do let _ ←comprehension (.ListComp elt [⟨tg,iter,ifs,0⟩] scope pos) scope X.env (firstIterPos [⟨tg,iter,ifs,0⟩] pos) (newList []) false (eval iter X.env) (some (assign (.Name x px) X.env))) _ _ s;refine wpAny_bind (wpAny_mono (IK (use:=some (assign (.Name x px) X.env)) (Qv:=fun _ s'=>SP X pins D .next s') hc S hg hcs he hi hs I h ?_) (fun _ s' hq=>wpAny_pure (wpAny_pure hq)) fun _ _ e=>e);intro E C H' s' hn I' hk fC q;obtain ⟨m,hn⟩:=hn;obtain ⟨f0,f1,f2,f3,f4,f5⟩:=fC;show wpAny _ X.A (assign (.Name x px) X.env (.ref E)) _ _ _;refine wpAny_assign_Name (Ec I' hN hx hl (v:= .ref E) rfl (fun s2 I2 k=> ?_) hf);refine ⟨m, ?_,fun h' hs'=> ?_⟩
 ·obtain ⟨o,es,ep,ho,r⟩:=hn
  obtain ⟨a,ks,ka⟩:=k
  have hCa:C≠a:=fun z=>by
   rcases ka with q'|q'
   ·exact f1 (z.trans q')
   ·exact f4 x a q' z.symm
  exact ⟨o,es,ep,(ks.2 C hCa).trans ho,r⟩
 ·exact ⟨_,H',I2.turned (t':=s2.toks) (fun b o hb e=>(hs'.2 b hb).trans e) f0 f1 f3 f4 f5,q⟩
end
def Rq (N own:List Str) (caps:List Nat) (XN:List Str) (outer scope:Scope):Bool:=
 decide (scope.kind = .function)&&scope.names.all (fun y=>decide (y.2 ≠ .cell))&&scope.names.all (fun y=>decide (y.2 ≠ .local)||decide (scope.names.lookup y.1=some .local)) &&
 scope.names.all (fun y=>decide (y.2 ≠ .free)||decide (outer.names.lookup y.1=some .cell)||decide (outer.names.lookup y.1=some .free))&&decide N.Nodup&&decide (N.length=own.length+caps.length) &&
 (List.range caps.length).all (fun j=>match N[own.length+j]? with |some x=>decide (XN[caps.getD j 0]? = some x)&&decide ((x,NameKind.free)∈scope.names)&&decide (scope.names.lookup x=some .free)|none=>false)
theorem bH.of {N own:List Str} {caps:List Nat} {XN:List Str} {outer scope:Scope} (h:Rq N own caps XN outer scope=true):bH N own caps XN outer scope:=by
 unfold Rq at h;simp only [Bool.and_eq_true,decide_eq_true_eq,List.all_eq_true,Bool.or_eq_true] at h;obtain ⟨⟨⟨⟨⟨⟨h1,h2⟩,h3⟩,h4⟩,h5⟩,h6⟩,h7⟩:=h;refine ⟨h1,h2,fun y hy e=> ?_,fun y hy e=> ?_,h5,h6,fun j hj=> ?_⟩
 ·rcases h3 y hy with z|z
  ·exact absurd e z
  ·exact z
 ·rcases h4 y hy with (z|z)|z
  ·exact absurd e z
  ·exact .inl z
  ·exact .inr z
 ·have q:=h7 j (List.mem_range.mpr hj)
  cases e:N[own.length+j]? with
  | none=>rw [e] at q;cases q
  | some x=>
    rw [e] at q;simp only [Bool.and_eq_true,decide_eq_true_eq] at q;exact ⟨q.1.1.symm,x,rfl,q.1.2,q.2⟩
end L2
set_option Elab.async false
set_option linter.all false
set_option maxRecDepth 100000
set_option maxHeartbeats 4000000
namespace L2
open PySem PySem.Spec PyProof.Rows
mutual
def Dat (H:Hp):V->PyData->Prop
 | v,.none=>v = .non
 | v,.bool b=>v = .bl b
 | v,.int i=>v = .int i
 | v,.str x=>v = .str x
 | v,.list ds=>∃a vs,v = .ref a/\H a=some (.lst vs)/\bf H vs ds
 | v,.tuple ds=>∃a vs,v = .ref a/\H a=some (.tup vs)/\bf H vs ds
 | _,.dict _=>False
def bf (H:Hp):List V->List PyData->Prop
 | [],[]=>True
 | v::vs,d::ds=>Dat H v d/\bf H vs ds
 | [],_::_=>False
 | _::_,[]=>False
end
section
variable {H H':Hp}
theorem bf.length:∀{vs:List V} {ds:List PyData},bf H vs ds->vs.length=ds.length
 | [],[],_=>rfl
 | _::_,_::_,h=>by simp only [bf] at h;simp [bf.length h.2]
 | [],_::_,h=>by simp only [bf] at h
 | _::_,[],h=>by simp only [bf] at h
theorem bf.get:∀{vs:List V} {ds:List PyData} {i:Nat} {v:V},bf H vs ds->vs[i]? = some v -> ∃d,ds[i]? = some d/\Dat H v d
 | _::_,_::_,0,_,h,e=>by simp only [bf] at h;simp at e;subst e;exact ⟨_,rfl,h.1⟩
 | _::_,_::_,i+1,_,h,e=>by simp only [bf] at h;simp at e;obtain ⟨d,q,r⟩:=bf.get h.2 e;exact ⟨d,by simpa using q,r⟩
 | [],[],_,_,_,e=>by simp at e
 | [],_::_,_,_,h,_=>by simp only [bf] at h
 | _::_,[],_,_,h,_=>by simp only [bf] at h
theorem bf.append:∀{vs ws:List V} {ds es:List PyData},bf H vs ds->bf H ws es->bf H (vs++ws) (ds++es)
 | [],_,[],_,_,g=>g
 | _::_,_,_::_,_,h,g=>by simp only [bf,List.cons_append] at h ⊢;exact ⟨h.1,bf.append h.2 g⟩
 | [],_,_::_,_,h,_=>by simp only [bf] at h
 | _::_,_,[],_,h,_=>by simp only [bf] at h
theorem bf.take:∀{vs:List V} {ds:List PyData} (n:Nat),bf H vs ds->bf H (vs.take n) (ds.take n)
 | _,_,0,_=>by simp only [List.take_zero,bf]
 | [],[],_+1,_=>by simp only [List.take_nil,bf]
 | _::_,_::_,n+1,h=>by simp only [bf,List.take_succ_cons] at h ⊢;exact ⟨h.1,bf.take n h.2⟩
 | [],_::_,_+1,h=>by simp only [bf] at h
 | _::_,[],_+1,h=>by simp only [bf] at h
theorem bf.drop:∀{vs:List V} {ds:List PyData} (n:Nat),bf H vs ds->bf H (vs.drop n) (ds.drop n)
 | _,_,0,h=>by simpa using h
 | [],[],_+1,_=>by simp only [List.drop_nil,bf]
 | _::_,_::_,n+1,h=>by simp only [bf,List.drop_succ_cons] at h ⊢;exact bf.drop n h.2
 | [],_::_,_+1,h=>by simp only [bf] at h
 | _::_,[],_+1,h=>by simp only [bf] at h
theorem bf.ints (ns:List Int):bf H (ns.map V.int) (ns.map PyData.int):=by
 induction ns with
 | nil=>simp only [List.map_nil,bf]
 | cons n r ih=>simp only [List.map_cons,bf,Dat];exact ⟨trivial,ih⟩
mutual
theorem Dat.mono (hl:∀a xs,H a=some (HO.lst xs)->H' a=some (HO.lst xs)) (ht:∀a xs,H a=some (HO.tup xs)->H' a=some (HO.tup xs)):∀(d:PyData) {v:V},Dat H v d->Dat H' v d
 | .none,_,h=>by simp only [Dat] at h ⊢;exact h
 | .bool _,_,h=>by simp only [Dat] at h ⊢;exact h
 | .int _,_,h=>by simp only [Dat] at h ⊢;exact h
 | .str _,_,h=>by simp only [Dat] at h ⊢;exact h
 | .list ds,_,h=>by simp only [Dat] at h ⊢;obtain ⟨a,vs,e,q,r⟩:=h;exact ⟨a,vs,e,hl _ _ q,bf.mono hl ht ds r⟩
 | .tuple ds,_,h=>by simp only [Dat] at h ⊢;obtain ⟨a,vs,e,q,r⟩:=h;exact ⟨a,vs,e,ht _ _ q,bf.mono hl ht ds r⟩
 | .dict _,_,h=>by simp only [Dat] at h
theorem bf.mono (hl:∀a xs,H a=some (HO.lst xs)->H' a=some (HO.lst xs)) (ht:∀a xs,H a=some (HO.tup xs)->H' a=some (HO.tup xs)):∀(ds:List PyData) {vs:List V},bf H vs ds->bf H' vs ds
 | [],[],_=>by simp only [bf]
 | d::ds,v::vs,h=>by simp only [bf] at h ⊢;exact ⟨Dat.mono hl ht d h.1,bf.mono hl ht ds h.2⟩
 | _::_,[],h=>by simp only [bf] at h
 | [],_::_,h=>by simp only [bf] at h
end
mutual
def Ux:PyData->Bool
 | .tuple ds=>Ih ds
 | .list _ | .dict _=>false
 | .none | .bool _ | .int _ | .str _=>true
def Ih:List PyData->Bool
 | []=>true
 | d::ds=>Ux d&&Ih ds
end
mutual
theorem Dat.keep (ht:∀a xs,H a=some (HO.tup xs)->H' a=some (HO.tup xs)):∀(d:PyData) {v:V},Ux d=true->Dat H v d->Dat H' v d
 | .none,_,_,h=>by simp only [Dat] at h ⊢;exact h
 | .bool _,_,_,h=>by simp only [Dat] at h ⊢;exact h
 | .int _,_,_,h=>by simp only [Dat] at h ⊢;exact h
 | .str _,_,_,h=>by simp only [Dat] at h ⊢;exact h
 | .list ds,_,i,h=>by simp only [Ux] at i;cases i
 | .tuple ds,_,i,h=>by simp only [Dat] at h ⊢;simp only [Ux] at i;obtain ⟨a,vs,e,q,r⟩:=h;exact ⟨a,vs,e,ht _ _ q,bf.keep ht ds i r⟩
 | .dict _,_,_,h=>by simp only [Dat] at h
theorem bf.keep (ht:∀a xs,H a=some (HO.tup xs)->H' a=some (HO.tup xs)):∀(ds:List PyData) {vs:List V},Ih ds=true->bf H vs ds->bf H' vs ds
 | [],[],_,_=>by simp only [bf]
 | d::ds,v::vs,i,h=>by simp only [bf] at h ⊢;simp only [Ih,Bool.and_eq_true] at i;exact ⟨Dat.keep ht d i.1 h.1,bf.keep ht ds i.2 h.2⟩
 | _::_,[],_,h=>by simp only [bf] at h
 | [],_::_,_,h=>by simp only [bf] at h
end
theorem eO {α:Type} (f:α->PyData) (h:∀x,Ux (f x)=true):∀l:List α,Ih (l.map f)=true
 | []=>rfl
 | a::l=>by simp only [List.map_cons,Ih,h a,eO f h l,Bool.and_self]
end
section
variable {X:Cx} {pins:List (Addr×Obj)} {σ:St} {H:Hp} {s:Shared}
mutual
theorem Inv.reads (I:Inv X pins σ H s):∀(d:PyData) {v:V} {u:Value},Dat H v d->RelV v u -> ∃as,Reads s.heap u d as
 | .none,v,u,h,r=>by
   simp only [Dat] at h;subst h;cases (show u=Value.none from r);exact ⟨_,.none⟩
 | .bool b,v,u,h,r=>by
   simp only [Dat] at h;subst h;cases (show u=Value.bool b from r);exact ⟨_,.bool b⟩
 | .int i,v,u,h,r=>by
   simp only [Dat] at h;subst h;obtain ⟨t,q⟩:=(show ∃t,u=Value.int i t from r);cases q;exact ⟨_,.int i t⟩
 | .str x,v,u,h,r=>by
   simp only [Dat] at h;subst h;obtain ⟨t,q⟩:=(show ∃t,u=Value.str x t from r);cases q;exact ⟨_,.str x t⟩
 | .list ds,v,u,h,r=>by
   simp only [Dat] at h;obtain ⟨a,vs,rfl,q,g⟩:=h;cases (show u=Value.ref a from r);obtain ⟨its,rv,p,hz⟩:=I.list (bK.of q);obtain ⟨o,ho,hc,n,hd⟩:=p.isList;obtain ⟨as,ra⟩:=Inv.readsAll I ds g rv;exact ⟨_,.list ho hc hd (by simpa using ra)⟩
 | .tuple ds,v,u,h,r=>by
   simp only [Dat] at h;obtain ⟨a,vs,rfl,q,g⟩:=h;cases (show u=Value.ref a from r);obtain ⟨its,rv,p,hz⟩:=I.tuple (eV.of q);obtain ⟨o,ho,hc,n,hd⟩:=p;obtain ⟨as,ra⟩:=Inv.readsAll I ds g rv;exact ⟨_,.tuple ho hc hd (by simpa using ra)⟩
 | .dict _,_,_,h,_=>by simp only [Dat] at h
theorem Inv.readsAll (I:Inv X pins σ H s):∀(ds:List PyData) {vs:List V} {us:List Value},bf H vs ds->Vals vs us -> ∃as,ReadsAll s.heap us ds as
 | [],[],_,_,.nil=>⟨_,.nil⟩
 | d::ds,v::vs,_,h,.cons r rs=>by
   simp only [bf] at h;obtain ⟨as,ra⟩:=Inv.reads I d h.1 r;obtain ⟨bs,rb⟩:=Inv.readsAll I ds h.2 rs;exact ⟨_,.cons ra rb⟩
 | _::_,[],_,h,_=>by simp only [bf] at h
 | [],_::_,_,h,_=>by simp only [bf] at h
end
def Z_ (neg:Bool):R2:=fun x y H Q=>∃d e,Dat H x d/\Dat H y e/\SeqAt.shaped d=true/\SeqAt.shaped e=true/\Q (.bl (if neg then !PyData.eqv d e else PyData.eqv d e)) H
theorem Xg (hu:X.A.units+64<cLine):xq X (compareOp .NotEq) (Z_ true):=by
 intro pins s σ H x y v u Q I rx ry h;obtain ⟨d,e,h1,h2,s1,s2,q⟩:=h;obtain ⟨as,ra⟩:=I.reads d h1 rx;obtain ⟨bs,rb⟩:=I.reads e h2 ry;exact SeqAt.compareNe_shaped ra rb s1 s2 hu ⟨.bl _,H,I,rfl,q⟩
theorem Rr {c:Value} {cv:V} (rc:RelV cv c):mZ X (.builtin "isinstance") (fun xs H Q=>∃x t b,xs=[x,cv]/\yD X.K H x t/\PySem.W.kitOne X.K t c=some b/\Q (.bl b) H):=by
 intro pins s σ H xs us Q I r h;obtain ⟨x,t,b,rfl,ty,e,q⟩:=h;obtain ⟨u,w',rfl,r1,r2⟩:=vals2 r
 have:w'=c:=by
  cases cv with
  | non=>exact (show w'=Value.none from r2).trans (show c=Value.none from rc).symm
  | bl b=>exact (show w'=Value.bool b from r2).trans (show c=Value.bool b from rc).symm
  | ref a=>exact (show w'=Value.ref a from r2).trans (show c=Value.ref a from rc).symm
  | ty n=>exact (show w'=Value.type n from r2).trans (show c=Value.type n from rc).symm
  | int i=>obtain ⟨t1,rfl⟩:=(show ∃t,c=Value.int i t from rc);unfold PySem.W.kitOne at e;exact absurd e (by cases ty<;>simp [PySem.W.kitCls])
  | str i=>obtain ⟨t1,rfl⟩:=(show ∃t,c=Value.str i t from rc);unfold PySem.W.kitOne at e;exact absurd e (by cases ty<;>simp [PySem.W.kitCls])
  | Ma i=>obtain ⟨t1,rfl⟩:=(show ∃t,c=Value.bytes i t from rc);unfold PySem.W.kitOne at e;exact absurd e (by cases ty<;>simp [PySem.W.kitCls])
  | flt i=>obtain ⟨t1,rfl⟩:=(show ∃t,c=Value.float i t from rc);unfold PySem.W.kitOne at e;exact absurd e (by cases ty<;>simp [PySem.W.kitCls])
 subst this;exact NP I r1 ty e fun tk=>⟨.bl b,H,I.tok _,rfl,q⟩
end
section
variable {prog:Program} {w:World} {A:Around}
theorem sy (hh:A.handled=none) (it a:Addr) (hne:it≠a) (its:List Value):Walks prog w A it [it,a] [it] its.length (fun i v=>its[i]? = some v) (fun i h=>h.IsListIter it a i/\h.IsList a its.toArray) where
 sub:=by simp
 frame:=fun i h h' ⟨s1,o,ho,hc⟩ k=>⟨s1.at fun o e=>k it (by simp) o e,o,k a (by simp) o ho,hc⟩
 item:=fun i s Q E hi ⟨s1,s2⟩ hQ=>wpAny_pyNext_list_item s1 s2 (x:=its[i]) (by simp [hi]) fun h' st' sb=>
  hQ _ h' s.toks (by simp [hi]) ⟨st',s2.extBut sb.extBut hne.symm⟩ fun b o hb e=>(sb.2 b (by simpa using hb)).trans e
 done:=fun s Q E ⟨s1,s2⟩ hQ=>wpAny_pyNext_list_end hh s1 s2 (by simp) fun h' eb=>hQ h' s.toks fun b o hb e=>eb b o (by simpa using hb) e
 self:=fun i s Q E ⟨s1,_⟩ hQ=>wpAny_pyIter_listiter s1 hQ
end
section
variable {X:Cx}
theorem Ds (bs:List Bool):(List.range bs.length).all (fun i=>(bs[i]?).getD false)=bs.all id:=by
 rw [Bool.eq_iff_iff,List.all_eq_true,List.all_eq_true];constructor
 ·intro h b hb
  obtain ⟨i,hi,rfl⟩:=List.getElem_of_mem hb;have:=h i (by simpa using hi);simpa [hi] using this
 ·intro h i hi
  have hi':i<bs.length:=by simpa using hi
  simpa [hi'] using h bs[i] (List.getElem_mem hi')
theorem Jt {bs:List Bool}:∀{us:List Value},Vals (bs.map V.bl) us->us=bs.map Value.bool:=by
 induction bs with
 | nil=>intro us r;cases r;rfl
 | cons b bs ih=>
   intro us r;cases r with
   | cons r rs=>cases (show _=Value.bool b from r);rw [ih rs];rfl
theorem Cv (hc:X.calm=true):mZ X (.builtin "all") (fun xs H Q=>∃(p:Addr) (bs:List Bool),xs=[.ref p]/\bK X.K H p (bs.map V.bl)/\Q (.bl (bs.all id)) H):=by
 intro pins s σ H xs us Q I r h;obtain ⟨p,bs,rfl,hq,q⟩:=h;obtain ⟨u,rfl,rx⟩:=vals1 r;cases rx;obtain ⟨its,rv,pl,hz⟩:=I.list hq;have e:=Jt rv;have hlen:its.length=bs.length:=by rw [e,List.length_map]
 refine call_all_walk (wpAny_pyIter_list pl.isList ⟨s.heap.objs.size,[s.heap.objs.size,p],[s.heap.objs.size],its.length,_,_,fun i=>(bs[i]?).getD false,rfl,
  sy (show X.A.in1.handled=none from I.ok.hd hc) s.heap.objs.size p ?_ its,⟨⟨_,Heap.get?_push_size _ rfl,rfl,rfl⟩, ?_⟩, ?_, ?_⟩)
 ·intro z
  obtain ⟨o,ho,_⟩:=pl.isList;have:=Heap.lt_size ho;rw [←z] at this;exact Nat.lt_irrefl _ this
 ·obtain ⟨o,ho,hcl⟩:=pl.isList
  exact ⟨o,Heap.get?_push_of_some _ ho,hcl⟩
 ·intro i v s1 Q1 E1 hP hQ
  rw [e,List.getElem?_map] at hP;cases r:bs[i]? with
  | none=>rw [r] at hP;cases hP
  | some b=>
    rw [r] at hP;cases hP;simp only [r,Option.getD_some] at hQ;exact wpAny_truthy_bool hQ
 ·intro h' tk k
  rw [hlen,Ds];have f:=I.Gw (H':=H) (b:=s.heap.objs.size) (Nat.le_refl _) (I.hok.fresh (Nat.le_refl _));have I2:Inv X pins σ H {s with heap:=h',toks:=tk}:=I.turned (h':=h') (t':=tk) (it:=s.heap.objs.size) (fun b o hb e=>k b o (by simpa using hb) (Heap.get?_push_of_some _ e)) f.1 f.2.1 f.2.2.2.1 f.2.2.2.2.1 f.2.2.2.2.2;exact ⟨.bl _,H,I2,rfl,q⟩
end
end L2
set_option Elab.async false
set_option linter.all false
set_option maxRecDepth 100000
set_option maxHeartbeats 4000000
namespace L2
open PySem PySem.Spec PyProof.Rows
def FnAt (P:Program) (w:World) (K:PySem.W.Frag) (mg:Str->Option Value) (base:Heap) (k:Nat) (x:Str) (ps:List Str) (sp:Sp):Prop:=
 ∃f fd,gn P w K mg base tV k f fd ps sp/\mg x=some (.ref f)/\PySem.W.keepIn K (.ref f)=true/\Binds K fd ps []
section
variable {X:Cx} {k j:Nat} {x:Str} {ps:List Str} {sp:Sp} {e:Expr} {es:List Expr} {t:TA} {p pos:Pos}
theorem bG (F:FnAt X.prog X.w X.K X.mg X.base k x ps sp) (hr:pR k X.A) (hg:Gl X x) (ha:PA X (e::es) t) (hd:(x==("__debug__" :Str))=false:=by decide)
 (he:starEach (e::es) X.env=(false,eval e X.env)::starEach es X.env:=by rfl) (hpl:(backTo pos (starEach es X.env)).any (·.1)=false:=by rfl):
 PE X (.Call (.Name x p) (e::es) [] pos) (VB sp [] E0 t):=by
 obtain ⟨f,fd,G,hm,hk,hb⟩:=F;exact TY G hr hg hm hk hb .nil aah ha (hdb:=hd) (he:=he) (hpl:=hpl)
end
theorem w6:bootBuiltins "all" = some (.builtin "all"):=by kernel_rfl
theorem d8:bootBuiltins "len" = some (.builtin "len"):=by kernel_rfl
theorem Ru:bootBuiltins "min" = some (.builtin "min"):=by kernel_rfl
theorem Cy:bootBuiltins "max" = some (.builtin "max"):=by kernel_rfl
theorem Rt:bootBuiltins "sum" = some (.builtin "sum"):=by kernel_rfl
theorem eY:bootBuiltins "isinstance" = some (.builtin "isinstance"):=by kernel_rfl
theorem Rv:bootBuiltins "int" = some (.type "int"):=by kernel_rfl
theorem U_:bootBuiltins "bool" = some (.type "bool"):=by kernel_rfl
theorem lH:bootBuiltins "list" = some (.type "list"):=by kernel_rfl
theorem Cw:bootBuiltins "tuple" = some (.type "tuple"):=by kernel_rfl
theorem U9:bootBuiltins "dict" = some (.type "dict"):=by kernel_rfl
section
variable {X:Cx}
end
def Kp (r:Addr) (H H':Hp):Prop:=∀b o,H b=some o->b≠r->H' b=some o
theorem Kp.of_same {r:Addr} {H H':Hp} (h:Same H H'):Kp r H H':=fun b o e _=>h b o e
theorem Kp.trans {r:Addr} {H H1 H2:Hp} (a:Kp r H H1) (b:Kp r H1 H2):Kp r H H2:=fun c o h n=>b c o (a c o h n) n
theorem Kp.refl (r:Addr) (H:Hp):Kp r H H:=fun _ _ h _=>h
theorem Kp.set {r:Addr} {H:Hp} {o:HO}:Kp r H (upd H r o):=fun b u e n=>by rw [cC n];exact e
theorem aJ {H:Hp} {p:Addr} {o:HO} (h:H p=none):Same H (upd H p o):=fun b u e=>by rw [cC (aL e h)];exact e
theorem Same.tups {H H':Hp} (e:Same H H'):∀a xs,H a=some (HO.tup xs)->H' a=some (HO.tup xs):=fun a xs h=>e _ _ h
theorem Same.sqL {K:PySem.W.Frag} {H H':Hp} (e:Same H H'):∀a xs,bK K H a xs->bK K H' a xs:=fun a xs h=>e.seq h
theorem Kp.tups {H H':Hp} {r:Addr} {ys:List V} (e:Kp r H H') (hr:H r=some (.lst ys)):∀a xs,H a=some (HO.tup xs)->H' a=some (HO.tup xs):=fun a xs h=>e _ _ h (tK h hr (by intro z;cases z))
theorem Kp.tups' {H H':Hp} {r:Addr} {kvs:List (Key×V)} (e:Kp r H H') (hr:H r=some (.dK kvs)):∀a xs,H a=some (HO.tup xs)->H' a=some (HO.tup xs):=fun a xs h=>e _ _ h (tK h hr (by intro z;cases z))
end L2
namespace L2
open PySem PySem.Spec PyProof.Rows
section
variable {X:Cx} {K:PySem.W.Frag}
theorem bh (h:X.K=K):O6 X (W4 K):=by subst h;exact Ln
theorem aY (h:X.K=K):O6 X (W3 K):=by subst h;exact QS
theorem Ae (h:X.K=K):O6 X (rIx K):=by subst h;exact XS
theorem Bk (h:X.K=K):SlR X (Z5 K):=by subst h;exact Te
theorem g8 (h:X.K=K):SlR X (Z4 K):=by subst h;exact WQ
def aep (K:PySem.W.Frag):List V->Hp->VK->Prop:=fun xs H Q=>∃(p:Addr) (ys:List V),xs=[.ref p]/\(bK K H p ys\/eV K H p ys)/\Q (.int ys.length) H
theorem aR (h:X.K=K):mZ X (.builtin "len") (aep K):=by subst h;exact GF
def Tj (K:PySem.W.Frag):List V->Hp->VK->Prop:=fun xs H Q=>∃(p:Addr) (ys:List V),xs=[.ref p]/\(bK K H p ys\/eV K H p ys) /\ ∀l,H l=none->Q (.ref l) (upd H l (.lst ys))
theorem fQ (h:X.K=K):mZ X (.type "list") (Tj K):=by subst h;exact GD
def aac (K:PySem.W.Frag):List V->Hp->VK->Prop:=fun xs H Q=>∃(p:Addr) (bs:List Bool),xs=[.ref p]/\bK K H p (bs.map V.bl)/\Q (.bl (bs.all id)) H
theorem gY (h:X.K=K) (hc:X.calm=true):mZ X (.builtin "all") (aac K):=by subst h;exact Cv hc
theorem jh (h:X.K=K) (hu:X.A.units+64<cLine):xq X (compareOp .NotEq) (Z_ true):=by subst h;exact Xg hu
theorem fP {tg l:Expr} {tl:TE} (h:X.K=K) (hl:PE X l tl):PI X tg l (V3 K tl):=by subst h;exact TQ hl
theorem TJ {tg l:Expr} {tl:TE} (h:X.K=K) (hl:PE X l tl):PI X tg l (aaw K tl):=by subst h;exact Xb hl
def aes (K:PySem.W.Frag) (c:Value) (cv:V):List V->Hp->VK->Prop:=fun xs H Q=>∃x t b,xs=[x,cv]/\yD K H x t/\PySem.W.kitOne K t c=some b/\Q (.bl b) H
theorem rH {c:Value} {cv:V} (h:X.K=K) (rc:RelV cv c):mZ X (.builtin "isinstance") (aes K c cv):=by subst h;exact Rr rc
theorem wV {o e:Expr} {to:TE} {t:TA} {apos cpos:Pos} (h:X.K=K) (ho:PE X o to) (ha:PA X [e] t)
 (hbase:attributeBase o "append" X.env (eval o X.env)=eval o X.env:=by rfl)
 (hfew:((backTo cpos (starEach [e] X.env)).all (fun x=> !x.1)&&(backToKw cpos (keywordEach [] X.env)).all (fun x=>x.1.isSome)
   && decide (([e]:List Expr).length+([]:List Keyword).length+(if ([]:List Keyword).isEmpty then 0 else 1)<30))=true:=by rfl)
 (hline:(apos.endLine==cpos.line)=true:=by rfl) (hs:starEach [e] X.env=(false,eval e X.env)::starEach [] X.env:=by rfl) (hplain:(backTo cpos (starEach [] X.env)).any (·.1)=false:=by rfl):
 PE X (.Call (.Attribute o "append" apos) [e] [] cpos) (tBM K "list" K3 to t):=by
 subst h;exact VP PySem.F.plainAttrs_list PySem.F.slot_list_append PySem.F.type_list_append En ho ha hbase hfew hline hs hplain
end
end L2
namespace L2
open PySem
section
variable {K:PySem.W.Frag} {a D:Addr} {xs:List V} {g:TG} {tc:TT} {te:TE} {Q:VK} {σ0:St} {H1:Hp}
theorem zq (Pv:Nat->St->Hp->Prop) (h0:Pv 0 σ0 (upd H1 D (.lst []))) (hl:∀i σ H,i<=xs.length->Pv i σ H->bK K H a xs)
 (hs:∀i x σ H,xs[i]? = some x->Pv i σ H->g x σ H fun σ2 H2=>tc σ2 H2 fun b H3=>
   if b=true then te σ2 H3 fun y H4=>∃acc,H4 D=some (.lst acc)/\acc.length<sizeLine/\Pv (i+1) σ2 (upd H4 D (.lst (acc++[y]))) else Pv (i+1) σ2 H3)
 (hd:∀σ H,Pv xs.length σ H->Q (.ref D) H):tQ (Vp K a) g tc te Q D σ0 H1:=by
 refine ⟨fun i m σ H=>m=xs.length - i/\i<=xs.length/\Pv i σ H,⟨xs.length,by simp,Nat.zero_le _,h0⟩, ?_⟩;rintro i m σ H ⟨rfl,hi,p⟩;have q:=hl i σ H hi p
 by_cases hlt:i<xs.length
 ·refine .inr ⟨⟨xs,xs[i],q,by simp [hlt]⟩,Pv (i+1),fun σ' H' p'=>⟨xs.length - (i+1),by omega,rfl,hlt,p'⟩,fun x H' y=> ?_⟩
  obtain ⟨e,y⟩:=y;subst e;exact hs i x σ _ (y xs q) p
 ·have e:i=xs.length:=by omega
  subst e;exact .inl ⟨⟨xs,q,Nat.le_refl _⟩,hd σ H p⟩
theorem Rp (Pv:Nat->St->Hp->Prop) (h0:Pv 0 σ0 (upd H1 D (.lst []))) (hl:∀i σ H,i<=xs.length->Pv i σ H->eV K H a xs)
 (hs:∀i x σ H,xs[i]? = some x->Pv i σ H->g x σ H fun σ2 H2=>tc σ2 H2 fun b H3=>
   if b=true then te σ2 H3 fun y H4=>∃acc,H4 D=some (.lst acc)/\acc.length<sizeLine/\Pv (i+1) σ2 (upd H4 D (.lst (acc++[y]))) else Pv (i+1) σ2 H3)
 (hd:∀σ H,Pv xs.length σ H->Q (.ref D) H):tQ (Itt K a) g tc te Q D σ0 H1:=by
 refine ⟨fun i m σ H=>m=xs.length - i/\i<=xs.length/\Pv i σ H,⟨xs.length,by simp,Nat.zero_le _,h0⟩, ?_⟩;rintro i m σ H ⟨rfl,hi,p⟩;have q:=hl i σ H hi p
 by_cases hlt:i<xs.length
 ·refine .inr ⟨⟨xs,xs[i],q,by simp [hlt]⟩,Pv (i+1),fun σ' H' p'=>⟨xs.length - (i+1),by omega,rfl,hlt,p'⟩,fun x H' y=> ?_⟩
  obtain ⟨e,y⟩:=y;subst e;exact hs i x σ _ (y xs q) p
 ·have e:i=xs.length:=by omega
  subst e;exact .inl ⟨⟨xs,q,Nat.le_refl _⟩,hd σ H p⟩
theorem Cq {lo:Int} {n:Nat} (Pv:Nat->St->Hp->Prop) (h0:Pv 0 σ0 (upd H1 D (.lst [])))
 (hs:∀i σ H,i<n->Pv i σ H->g (.int (lo+i)) σ H fun σ2 H2=>tc σ2 H2 fun b H3=>
   if b=true then te σ2 H3 fun y H4=>∃acc,H4 D=some (.lst acc)/\acc.length<sizeLine/\Pv (i+1) σ2 (upd H4 D (.lst (acc++[y]))) else Pv (i+1) σ2 H3)
 (hd:∀σ H,Pv n σ H->Q (.ref D) H):tQ (Vo lo n) g tc te Q D σ0 H1:=by
 refine ⟨fun i m σ H=>m=n - i/\i<=n/\Pv i σ H,⟨n,by simp,Nat.zero_le _,h0⟩, ?_⟩;rintro i m σ H ⟨rfl,hi,p⟩
 by_cases hlt:i<n
 ·refine .inr ⟨hlt,Pv (i+1),fun σ' H' p'=>⟨n - (i+1),by omega,rfl,hlt,p'⟩,fun x H' y=> ?_⟩
  obtain ⟨e,y⟩:=y;subst e y;exact hs i σ _ hlt p
 ·have e:i=n:=by omega
  subst e;exact .inl ⟨Nat.le_refl _,hd σ H p⟩
end
end L2
set_option Elab.async false
set_option linter.all false
set_option maxRecDepth 100000
set_option maxHeartbeats 4000000
namespace L2
open PySem PySem.Spec PyProof.Rows
section
variable {α:Type} (f:α->PyData)
theorem Cu:∀(l:List α),(∀x∈l,(f x).canLay0=true)->PyData.canLayAll0 (l.map f)=true
 | [],_=>rfl
 | a::l,h=>by
   show (PyData.canLay0 (f a)&&PyData.canLayAll0 (l.map f))=true;rw [h a List.mem_cons_self,Cu l fun x hx=>h x (List.mem_cons_of_mem _ hx)];rfl
theorem jj (k:Nat):∀(l:List α),(∀x∈l,(f x).depth<=k)->PyData.depthAll (l.map f)<=k
 | [],_=>Nat.zero_le _
 | a::l,h=>by
   show max (PyData.depth (f a)) (PyData.depthAll (l.map f))<=k;exact Nat.max_le.mpr ⟨h a List.mem_cons_self,jj k l fun x hx=>h x (List.mem_cons_of_mem _ hx)⟩
theorem uT {l:List α} (k:Nat) (hk:k<64) (h1:∀x∈l,(f x).canLay0=true) (h2:∀x∈l,(f x).depth<=k):SeqAt.shaped (.list (l.map f))=true:=by
 unfold SeqAt.shaped;have e1:PyData.canLay0 (.list (l.map f))=true:=Cu f l h1
 have e2:PyData.depth (.list (l.map f))<=64:=by
  show PyData.depthAll (l.map f)+1<=64;have:=jj f k l h2;omega
 rw [e1,decide_eq_true e2];rfl
theorem Ce [DecidableEq α] (h:∀x y,PyData.eqv (f x) (f y)=decide (x=y)):∀(l m:List α),PyData.eqvAll (l.map f) (m.map f)=decide (l=m)
 | [],[]=>rfl
 | [],_::_=>by simp only [List.map_nil,List.map_cons,PyData.eqvAll];exact (decide_eq_false (by intro z;cases z)).symm
 | _::_,[]=>by simp only [List.map_nil,List.map_cons,PyData.eqvAll];exact (decide_eq_false (by intro z;cases z)).symm
 | a::l,b::m=>by
   simp only [List.map_cons,PyData.eqvAll];rw [h a b,Ce h l m]
   by_cases e1:a=b
   ·subst e1
    by_cases e2:l=m
    ·subst e2;simp
    ·simp [e2]
   ·simp [e1]
theorem gG [DecidableEq α] (h:∀x y,PyData.eqv (f x) (f y)=decide (x=y)) (l m:List α):PyData.eqv (.list (l.map f)) (.list (m.map f))=decide (l=m):=by
 simp only [PyData.eqv];exact Ce f h l m
end
theorem rF {H:Hp} {a:Addr} {vs:List V} {ds:List PyData} (h:H a=some (.lst vs)) (d:bf H vs ds):Dat H (.ref a) (.list ds):=by
 simp only [Dat];exact ⟨a,vs,rfl,h,d⟩
theorem Ig (K:PySem.W.Frag):PySem.W.kitOne K (.type "int") (.type "int")=some true:=rfl
theorem Gq (K:PySem.W.Frag):PySem.W.kitOne K (.type "int") (.type "bool")=some false:=by kernel_rfl
theorem vW (K:PySem.W.Frag):PySem.W.kitOne K (.type "list") (.type "list")=some true:=rfl
theorem zN (K:PySem.W.Frag):PySem.W.kitOne K (.type "tuple") (.type "tuple")=some true:=rfl
end L2
namespace L2
open PySem
theorem yt (xs:List V) (k:Nat):lD xs none (some (k:Int))=xs.take k:=by
 unfold lD;rw [HT.Hl,HT.z6,List.drop_zero,Nat.sub_zero]
 by_cases h:k<=xs.length
 ·rw [Nat.min_eq_left h]
 ·rw [Nat.min_eq_right (by omega),List.take_of_length_le (Nat.le_refl _),List.take_of_length_le (by omega)]
theorem Cm (xs:List V) (k:Nat):lD xs (some (k:Int)) none=xs.drop k:=by
 unfold lD;rw [HT.Hl,HT.z6]
 by_cases h:k<=xs.length
 ·rw [Nat.min_eq_left h,List.take_of_length_le (by rw [List.length_drop];exact Nat.le_refl _)]
 ·rw [Nat.min_eq_right (by omega),Nat.sub_self,List.take_zero,List.drop_of_length_le (by omega)]
end L2
set_option Elab.async false
set_option linter.all false
set_option maxRecDepth 100000
set_option maxHeartbeats 4000000
namespace PySem.W
open PySem PySem.Spec PySem.Calls PyProof.Rows
theorem UL:builtinKind "BaseException.__getattribute__" = some .slot:=by decide +kernel
theorem Ra:splitId "BaseException.__getattribute__" = some ("BaseException","__getattribute__"):=by decide +kernel
section
variable {prog:Program} {w:World} {A:Around} {E:Value->Shared->Prop} {s:Shared} {K:Frag} {x D:Addr} {ox:Obj} {odo:Option Obj} {name:Str}
theorem Oe {M:Model} {nameV:Value} {Q:Unit->Shared->Prop} (X:K.In s.heap) (I:InstAt s.heap x ox D odo) (hB:mroIn K D (.type "BaseException")=some true) (hq:Q () s):
 wpAny M A (checkBuiltinCall "BaseException.__getattribute__" ⟨[.ref x,nameV],[]⟩) Q E s:=by
 obtain ⟨hh,g,d,t,os⟩:=s;have L0:=I.type (M:=M);have L3:=looks_mroIn (M:=M) X hB;have ha:=F.args_bexc_ga (.ref x) nameV;simp only [checkBuiltinCall,UL,Ra];unfold isInstance
 repeat (first |lk|wp_step)
 all_goals first |exact hq|trace_state
theorem Rk {Q:Option Value->Shared->Prop} {gv a:Value} (X:K.In s.heap) (I:InstAt s.heap x ox D odo) (hga:findIn K (.ref D) "__getattribute__" = some (some (.builtin "BaseException.__getattribute__")))
 (hk:findIn K (.ref D) "__getattr__" = some none) (hB:mroIn K D (.type "BaseException")=some true) (hf:findObj K D odo name=some (.bind gv a))
 (FB:Slot "Exception" "__getattribute__" "BaseException.__getattribute__")
 (h:∀A',codeAny (model prog w) A' (.call gv ⟨[a,.ref x,.ref D],[]⟩) (fun r s'=>match r with | .ok (.ret v)=>wpAny (model prog w) A (handedOut v) (fun v s''=>Q (some v) s'') (fun _ _=>False) s'|_=>False) {s with toks:=s.toks+1}):
 wpAny (model prog w) A (getAttr? (.ref x) name) Q E s:=by
 obtain ⟨hh,g,d,t,os⟩:=s;have L0:=I.type (M:=model prog w);have L1:=looks_findIn (M:=model prog w) X hga;have L2:=looks_findIn (M:=model prog w) X hk;have L4:=looks_find (M:=model prog w) X I hf;have hx2:(Value.builtin "BaseException.__getattribute__" == Value.builtin "object.__getattribute__")=false:=by decide +kernel
 have f3:=FB.bind (.ref x);unfold getAttr? getAttrBy? getAttrBy;refine wpAny_bind (wpAny_mkText (wpAny_bind (wpAny_attempt (wpAny_holding (wpAny_bind (L0.at (wpAny_bind (L1.at ?_))))))));simp only [hx2,Bool.and_false,Bool.false_eq_true,if_false];unfold getAttrByItsOwn hookBefore;show wpAny _ _ (typeLookup (.ref D) "__getattr__" >>= _) _ _ _;refine wpAny_bind (L2.at ?_);refine wpAny_bind (wpAny_attempt (wpAny_holding ?_));unfold callGetattribute boundAndCalled;rw [if_neg (by decide)];refine wpAny_bind (wpAny_of_eq f3 ?_);refine wpAny_call (codeAny_call_builtin FB.plain F.entry_bexc_ga (Oe (s:=⟨hh,g,d,t+1,os⟩) X I hB ?_));show wpAny _ _ (Builtin.«object.__getattribute__» ⟨[.ref x,.str name t],[]⟩) _ _ _;unfold Builtin.«object.__getattribute__»;refine wpAny_bind (wpAny_pure ?_);refine wpAny_bind (wpAny_pure ?_);refine wpAny_bind (L0.at (wpAny_bind (L4.at ?_)));show wpAny _ _ (Builtin.ObjectAttr.bindTo gv a (.ref x) (.ref D)) _ _ _;unfold Builtin.ObjectAttr.bindTo;show wpAny _ _ (holding [a] (call gv [a,.ref x,.ref D]) >>= fun v=>ret v) _ _ _;refine wpAny_bind (wpAny_holding (wpAny_call (codeAny_mono (h _) fun r s' hr=> ?_)))
 match r,hr with
 | .ok (.ret v),hr=>
   refine wpAny_pure ?_;exact wpAny_mono hr (fun v s'' q=>wpAny_pure q) fun _ _ z=>z.elim
end
theorem Rj:Slot "Exception" "__getattribute__" "BaseException.__getattribute__" :=F.attr_Exception.ga
theorem DG {K:Frag} {C:Addr} {od:Option Obj} {name:Str} {a g:Value} (hc:(clsIn K C).isSome=true) (ha:findIn K (.ref C) name=some (some a)) (hg:specialIn K a "__get__" = some (some g)) (ht:takesIn K a=some true):findObj K C od name=some (.bind g a):=by
 obtain ⟨cd,hc⟩:=Option.isSome_iff_exists.mp hc;unfold findObj;rw [hc,Option.bind_some,ha,Option.bind_some];simp [hg,ht]
theorem Od {prog:Program} {w:World} {A:Around} {E:Value->Shared->Prop} {s:Shared} {K:Frag} {x D:Addr} {ox:Obj} {odo:Option Obj} {Q:Option Value->Shared->Prop} (X:K.In s.heap) (I:InstAt s.heap x ox D odo)
 (hga:findIn K (.ref D) "__getattribute__" = some (some (.builtin "BaseException.__getattribute__"))) (hk:findIn K (.ref D) "__getattr__" = some none) (hB:mroIn K D (.type "BaseException")=some true)
 (hc:(clsIn K D).isSome=true) (ha:findIn K (.ref D) "__class__" = some (some (.builtin "object.__class__")))
 (hn:specialIn K (.builtin "object.__class__") "__get__" = some (some (.builtin "getset_descriptor.__get__"))) (htk:takesIn K (.builtin "object.__class__")=some true) (hm:mroIn K D (.type "object")=some true)
 (h:Q (some (.ref D)) {s with toks:=s.toks+1}):wpAny (model prog w) A (getAttr? (.ref x) "__class__") Q E s:=by
 have hf:findObj K D odo "__class__" = some (.bind (.builtin "getset_descriptor.__get__") (.builtin "object.__class__")):=DG hc ha hn htk;exact Rk X I hga hk hB hf Rj fun A'=>class_get (s:={s with toks:=s.toks+1}) X I hm (handed_on rfl h)
structure Vi (K:Frag) (D:Addr):Prop where
 hga:findIn K (.ref D) "__getattribute__" = some (some (.builtin "BaseException.__getattribute__"))
 hk:findIn K (.ref D) "__getattr__" = some none
 hB:mroIn K D (.type "BaseException")=some true
 hc:(clsIn K D).isSome=true
 ha:findIn K (.ref D) "__class__" = some (some (.builtin "object.__class__"))
 hn:specialIn K (.builtin "object.__class__") "__get__" = some (some (.builtin "getset_descriptor.__get__"))
 htk:takesIn K (.builtin "object.__class__")=some true
 hm:mroIn K D (.type "object")=some true
theorem Ie {K:Frag} {x D:Addr} (c:Vi K D):KitX K (.ref x) (.ref D) (fun h=>∃ox odo,InstAt h x ox D odo) where
 ty:=fun _ _ _ ⟨_,_,I⟩=>I.type
 it:=fun _ _ X _=>by
  have hc:=c.hc;unfold clsIn at hc;split at hc
  ·rename_i c' d' cd' sl' ho
   intro A' Q' E' s' k q;unfold isType loadHead;exact wpAny_bind (wpAny_loadPart (k _ _ (X _ _ ho)) (wpAny_pure q))
  ·cases hc
 ne:=fun h tp dd its n sl X htp=>by
  have hc:=c.hc;refine Bool.eq_false_iff.mpr fun q=> ?_;have e:D=tp:=Value.ref.inj (beq_iff_eq.mp q);subst e;unfold clsIn at hc;split at hc
  ·rename_i c' d' cd' sl' ho
   have z:=(X _ _ ho).symm.trans htp;cases z
  ·cases hc
 ca:=fun X ⟨_,_,I⟩ k=>Od X I c.hga c.hk c.hB c.hc c.ha c.hn c.htk c.hm k
end PySem.W
set_option Elab.async false
set_option linter.all false
set_option maxRecDepth 100000
set_option maxHeartbeats 4000000
namespace L2
open PySem PySem.Spec PyProof.Rows
def zx (h:Heap) (e:Addr) (cls:Value) (dx:Option Addr) (lo:Addr->Prop):Option Value->Prop
 | none=>∃oe vs,h.get? e=some oe/\oe.cls=cls/\oe.dict=dx/\oe.data = .fields vs/\vs[1]? = some .none
 | some f=>∃oe vs T oT ts,h.get? e=some oe/\oe.cls=cls/\oe.dict=dx/\oe.data = .fields vs/\vs[1]? = some (.ref T)/\lo T/\T≠e/\h.get? T=some oT/\oT.data = .fields ts/\ts[3]? = some f
theorem zx.there {h:Heap} {e:Addr} {cls:Value} {dx:Option Addr} {lo:Addr->Prop} {f:Option Value} (x:zx h e cls dx lo f):∃oe vs,h.get? e=some oe/\oe.cls=cls/\oe.dict=dx/\oe.data = .fields vs:=by
 cases f with
 | none=>obtain ⟨oe,vs,a,b,c,d,_⟩:=x;exact ⟨oe,vs,a,b,c,d⟩
 | some f=>obtain ⟨oe,vs,_,_,_,a,b,c,d,_⟩:=x;exact ⟨oe,vs,a,b,c,d⟩
section
variable {M:Model} {A:Around} {E:Value->Shared->Prop} {s:Shared} {base:Heap} {env:Env} {outer:List Env} {L e:Addr}
structure vf (fr:List Addr) (e:Addr) (lo:Addr->Prop) (h h':Heap):Prop where
 keep:∀b o,h.get? b=some o->b∉fr->b≠e -> ¬lo b->h'.get? b=some o
 slot:∀b o,h.get? b=some o->b∈fr->b≠e -> ¬lo b -> ∃sl,h'.get? b=some {o with slots:=sl}
 there:∀b o,h.get? b=some o -> ∃o',h'.get? b=some o'
theorem vf.trans {fr:List Addr} {lo:Addr->Prop} {h h1 h2:Heap} (a:vf fr e lo h h1) (b:vf fr e lo h1 h2):vf fr e lo h h2 where
 keep:=fun c o q n1 n2 n3=>b.keep c o (a.keep c o q n1 n2 n3) n1 n2 n3
 slot:=fun c o q n1 n2 n3=>by
  obtain ⟨sl,q1⟩:=a.slot c o q n1 n2 n3;obtain ⟨sl2,q2⟩:=b.slot c _ q1 n1 n2 n3;exact ⟨sl2,q2⟩
 there:=fun c o q=>by
  obtain ⟨o1,q1⟩:=a.there c o q;exact b.there c o1 q1
theorem sE {h:Heap} {a:Addr} {o:Obj} {vs:Array Value} (q:h.get? a=some o) (d:o.data = .fields vs) (i:Nat) (v:Value):
 (h.update a (Obj.mapFields (·.setIfInBounds i v))).get? a=some (Obj.mapFields (·.setIfInBounds i v) o)/\(Obj.mapFields (·.setIfInBounds i v) o).data = .fields (vs.setIfInBounds i v) /\
   (Obj.mapFields (·.setIfInBounds i v) o).cls=o.cls/\(Obj.mapFields (·.setIfInBounds i v) o).dict=o.dict:=by
 have d2:=Obj.data_mapFields d (·.setIfInBounds i v);refine ⟨Heap.get?_update_self _ q (Obj.isFreed_of_fields d2),d2,Obj.cls_mapFields _ _, ?_⟩;obtain ⟨c,dd,dt,sl⟩:=o;simp only at d;subst d;rfl
theorem Pq {oe:Obj} {vs:Array Value} {head:Value} {hadNext:Bool} {cls:Value} {dx:Option Addr} {lo:Addr->Prop} {Q:Unit->Shared->Prop} (hfr:A.frames=some (env::outer)) (hl:s.heap.FunFrames base (env::outer)) (hf:env.frame=some L)
 (he:s.heap.get? e=some oe) (hd:oe.data = .fields vs) (hsz:1<vs.size) (hc:oe.cls=cls) (hdx:oe.dict=dx) (hlo:∀T,s.heap.get? T=none->lo T)
 (h:∀h',vf (frs (env::outer)) e lo s.heap h'->zx h' e cls dx lo (some (rawInt L))->Q () {s with heap:=h'}):
 wpAny M A (do let a ←frameOf env;let pl ←entryPlaceOf L hadNext;let b ←EntryCells.newEntry head a .none (rawInt L) .none pl;setField (.ref e) 1 b) Q E s:=by
 have nfr:e∉frs (env::outer):=fun hm=>by
  obtain ⟨_,o,q,nf⟩:=hl.mem hm;rw [he] at q;cases q;exact nf vs hd
 refine wpAny_bind (wpAny_frameOf_fun hfr hl hf fun h1 hs1=> ?_);refine wpAny_bind (wpAny_entryPlaceOf fun pl hpl=> ?_);unfold EntryCells.newEntry newFields;refine wpAny_bind (wpAny_newObj_type ?_ (hpl.sizeOk5 _ _ _ _ _));generalize hob:({cls:= .type "traceback",dict:=none,data:= .fields ([head,.ref L,.none,rawInt L,.none]++(if pl.isEmpty then List.replicate 6 Value.none else pl)).toArray}:Obj)=ob;have q1:h1.get? e=some oe:=(hs1.2.1 e nfr).trans he;have q2:=Heap.get?_push_of_some (h:=h1) ob q1;have nTe:h1.objs.size≠e:=Nat.ne_of_gt (Heap.lt_size q1);have sizes:h1.objs.size=s.heap.objs.size:=hs1.1;have newT:s.heap.get? h1.objs.size=none:=Heap.get?_none_of_le (by rw [sizes];exact Nat.le_refl _);refine wpAny_setField q2 hd hsz (h _ ⟨fun b o q n1 n2 n3=> ?_,fun b o q n1 n2 n3=> ?_,fun b o q=> ?_⟩ ?_)
 ·rw [Heap.get?_update_other _ _ (Ne.symm n2)]
  exact Heap.get?_push_of_some _ ((hs1.2.1 b n1).trans q)
 ·obtain ⟨sl,q3⟩:=hs1.2.2 b o q
  refine ⟨sl, ?_⟩;rw [Heap.get?_update_other _ _ (Ne.symm n2)];exact Heap.get?_push_of_some _ q3
 ·obtain ⟨sl,q3⟩:=hs1.2.2 b o q
  by_cases hb:b=e
  ·subst hb
   exact ⟨_,(sE q2 hd 1 _).1⟩
  ·refine ⟨{o with slots:=sl}, ?_⟩
   rw [Heap.get?_update_other _ _ (Ne.symm hb)];exact Heap.get?_push_of_some _ q3
 ·obtain ⟨u1,u2,u3,u4⟩:=sE q2 hd 1 (Value.ref h1.objs.size)
  refine ⟨_,_,h1.objs.size,ob,_,u1,u3.trans hc,u4.trans hdx,u2,by simp [hsz],hlo _ newT,nTe, ?_,by rw [←hob], ?_⟩
  ·rw [Heap.get?_update_other _ _ (Ne.symm nTe)]
   exact Heap.get?_push_size _ (by rw [←hob];rfl)
  ·first |(simp;done)|(rcases hpl with rfl|⟨_,_,_,_,_,_,_,rfl⟩<;>simp)
theorem Vx {cls:Value} {dx:Option Addr} {lo:Addr->Prop} {Q:Unit->Shared->Prop} {fl:Option Value} (hfl:fl=none\/fl=some .none) (hfr:A.frames=some (env::outer)) (hl:s.heap.FunFrames base (env::outer)) (hf:env.frame=some L)
 (x:zx s.heap e cls dx lo fl) (hlo:∀T,s.heap.get? T=none->lo T)
 (h:∀h',vf (frs (env::outer)) e lo s.heap h'->zx h' e cls dx lo (some (rawInt L))->Q () {s with heap:=h'}):wpAny M A (noteFrame (.ref e) env) Q E s:=by
 unfold noteFrame;simp only [hf];rcases hfl with rfl|rfl
 ·obtain ⟨oe,vs,he,hc,hdx,hd,h1⟩:=x
  refine wpAny_bind (wpAny_field he hd h1 ?_);rw [if_neg (by decide)];exact Pq hfr hl hf he hd (Array.getElem?_eq_some_iff.mp h1).1 hc hdx hlo h
 ·obtain ⟨oe,vs,T,oT,ts,he,hc,hdx,hd,h1,hT,nT,R0,hdT,h3⟩:=x
  refine wpAny_bind (wpAny_field he hd h1 ?_);rw [if_pos (show (Value.ref T != Value.none)=true from by simp)];refine wpAny_bind (wpAny_field R0 hdT h3 ?_);rw [if_neg (show ¬((Value.none==rawInt L)=true) from by simp [rawInt])];have hs3:3<ts.size:=(Array.getElem?_eq_some_iff.mp h3).1;refine wpAny_bind (wpAny_setField R0 hdT hs3 ?_);have oth:∀b,b≠T->(s.heap.update T (Obj.mapFields (·.setIfInBounds 3 Value.none))).get? b=s.heap.get? b:=fun b hb=>Heap.get?_update_other _ _ (Ne.symm hb);obtain ⟨u1,u2,u3,u4⟩:=sE R0 hdT 3 Value.none
  have n0:vf (frs (env::outer)) e lo s.heap (s.heap.update T (Obj.mapFields (·.setIfInBounds 3 Value.none))):=by
   have nb:∀b,¬lo b->b≠T:=fun b hb z=>hb (by rw [z];exact hT);refine ⟨fun b o q _ _ n3=>(oth b (nb b n3)).trans q,fun b o q _ _ n3=>⟨o.slots,(oth b (nb b n3)).trans q⟩,fun b o q=> ?_⟩
   by_cases hb:b=T
   ·subst hb;exact ⟨_,u1⟩
   ·exact ⟨o,(oth b hb).trans q⟩
  have ffs:(s.heap.update T (Obj.mapFields (·.setIfInBounds 3 Value.none))).FunFrames base (env::outer):=hl.of_keeps fun b o q nf=>by
   by_cases hb:b=T
   ·subst hb;rw [R0] at q;cases q;exact absurd hdT (nf ts)
   ·exact ⟨o,(oth b hb).trans q,rfl⟩
  refine Pq (s:={s with heap:=s.heap.update T (Obj.mapFields (·.setIfInBounds 3 Value.none))}) hfr ffs hf ((oth e (Ne.symm nT)).trans he) hd (Array.getElem?_eq_some_iff.mp h1).1 hc hdx (fun T' z=> ?_) fun h' n1 x1=>h h' (n0.trans n1) x1
  by_cases hb:T'=T
  ·rw [hb];exact hT
  ·exact hlo T' ((oth T' hb).symm.trans z)
theorem Pn {cls:Value} {dx:Option Addr} {lo:Addr->Prop} {Q:Unit->Shared->Prop} {fr:List Addr} {f:Value} (x:zx s.heap e cls dx lo (some f))
 (h:∀h',vf fr e lo s.heap h'->zx h' e cls dx lo (some .none)->Q () {s with heap:=h'}):wpAny M A (setFlight (.ref e) none) Q E s:=by
 obtain ⟨oe,vs,T,oT,ts,he,hc,hdx,hd,h1,hT,nT,R0,hdT,h3⟩:=x;have hs3:3<ts.size:=(Array.getElem?_eq_some_iff.mp h3).1;unfold setFlight;refine wpAny_bind (wpAny_field he hd h1 ?_);rw [if_pos (show (Value.ref T != Value.none)=true from by simp)];have oth:∀b,b≠T->(s.heap.update T (Obj.mapFields (·.setIfInBounds 3 Value.none))).get? b=s.heap.get? b:=fun b hb=>Heap.get?_update_other _ _ (Ne.symm hb);obtain ⟨u1,u2,u3,u4⟩:=sE R0 hdT 3 Value.none;have nb:∀b,¬lo b->b≠T:=fun b hb z=>hb (by rw [z];exact hT);refine wpAny_setField R0 hdT hs3 (h _ ⟨fun b o q _ _ n3=>(oth b (nb b n3)).trans q,fun b o q _ _ n3=>⟨o.slots,(oth b (nb b n3)).trans q⟩,fun b o q=> ?_⟩ ?_)
 ·by_cases hb:b=T
  ·subst hb;exact ⟨_,u1⟩
  ·exact ⟨o,(oth b hb).trans q⟩
 ·exact ⟨oe,vs,T,_,_,(oth e (Ne.symm nT)).trans he,hc,hdx,hd,h1,hT,nT,u1,u2,by simp [hs3]⟩
end
section
variable {X:Cx} {pins:List (Addr×Obj)} {σ:St} {H:Hp} {s:Shared} {e:Addr}
theorem gw.there {P:Program} {w:World} {H:Hp} {h:Heap} {a:Addr} {o:HO} (x:gw P w H h a o):∃ob,h.get? a=some ob:=by
 induction o with
 | lst xs=>obtain ⟨_,_,_,_,q⟩:=x;exact ⟨_,q⟩
 | tup xs=>obtain ⟨_,_,_,ob,q,_⟩:=x;exact ⟨ob,q⟩
 | dK kvs=>obtain ⟨_,_,_,_,ob,_,_,q,_⟩:=x;exact ⟨ob,q⟩
 | dT kvs=>obtain ⟨_,_,_,_,ob,_,_,q,_⟩:=x;exact ⟨ob,q⟩
 | set S n=>obtain ⟨ob,_,_,_,q,_⟩:=x;exact ⟨ob,q⟩
 | ins C dx fs=>obtain ⟨_,_,_,q,_⟩:=x;exact ⟨_,q⟩
 | own y=>exact x
 | xd fs=>obtain ⟨_,⟨ob,_,_,q,_⟩,_⟩:=x;exact ⟨ob,q⟩
 | rng lo hi=>obtain ⟨_,_,_,q⟩:=x;exact ⟨_,q⟩
 | rM ob u ih=>exact ⟨ob,x.1⟩
 | Sy ps=>exact ⟨_,x⟩
 | met f y=>exact ⟨_,x⟩
 | ext φ=>exact x.2.1
def GZ (X:Cx) (pins:List (Addr×Obj)) (H:Hp) (b:Addr):Prop:=
 H b=none/\b≠X.env.locals/\b∉X.fs/\X.s₀.heap.get? b=none/\(∀x c,X.env.cells.lookup x=some c->c≠b) /\ ∀p∈X.pn++pins,p.1≠b
theorem Inv.xfp (I:Inv X pins σ H s) (hx:X.ex=[]) {b:Addr} (hb:s.heap.get? b=none):GZ X pins H b:=by
 refine ⟨?_,fun z=> ?_,fun z=> ?_, ?_,fun x c q z=> ?_,fun p hp z=> ?_⟩
 ·cases q:H b with
  | none=>rfl
  | some o=>
    obtain ⟨ob,r⟩:=(I.hok b o q).there;rw [hb] at r;cases r
 ·obtain ⟨m,⟨o,_,_,r,_⟩,_⟩:=I.loc
  rw [←z,hb] at r;cases r
 ·obtain ⟨_,o,r,_⟩:=I.vL.mem z
  rw [hb] at r;cases r
 ·cases q:X.s₀.heap.get? b with
  | none=>rfl
  | some o=>
    obtain ⟨o',r⟩:=I.base.there b o q (by rw [hx];simp);rw [hb] at r;cases r
 ·obtain ⟨v,o,r,_⟩:=I.cell x c q
  rw [z,hb] at r;cases r
 ·obtain ⟨r,_⟩:=I.pin p hp
  rw [z,hb] at r;cases r
theorem Inv.noted {lo:Addr->Prop} {h':Heap} (I:Inv X pins σ H s) (n:vf (frs X.stack) e lo s.heap h') (hlo:∀b,(b=e\/lo b)->GZ X pins H b\/s.heap.get? b=none):Inv X pins σ H {s with heap:=h'}:=by
 have off:∀b o,s.heap.get? b=some o->(¬GZ X pins H b)->b≠e /\ ¬lo b:=fun b o q nx=>
  ⟨fun z=>(hlo b (.inl z)).elim nx fun r=>(by rw [r] at q;cases q),fun z=>(hlo b (.inr z)).elim nx fun r=>(by rw [r] at q;cases q)⟩
 have any:∀b o,s.heap.get? b=some o->(¬GZ X pins H b) -> ∃sl,h'.get? b=some {o with slots:=sl}:=fun b o q nx=>by
  obtain ⟨n1,n2⟩:=off b o q nx
  by_cases hb:b∈frs X.stack
  ·exact n.slot b o q hb n1 n2
  ·exact ⟨o.slots,n.keep b o q hb n1 n2⟩
 have s0:∀b o,X.s₀.heap.get? b=some o -> ¬GZ X pins H b:=fun b o q x=>by rw [x.2.2.2.1] at q;cases q
 have V1:∀b o,X.s₀.heap.get? b=some o->b≠X.env.locals:=fun b o q=>Nat.ne_of_lt (Nat.lt_of_lt_of_le (Heap.lt_size q) I.ok.above);have nst:∀b,b≠X.env.locals->b∉X.fs->b∉frs X.stack:=fun b n1 n2 z=>(List.mem_cons.mp (I.Ax b z)).elim n1 n2;have RV:∀b o,H b=some o -> ¬GZ X pins H b:=fun b o q x=>by rw [x.1] at q;cases q
 have Zq:∀b o,H b=some o->b∉frs X.stack:=fun b o q z=>by rw [I.FP b z] at q;cases q
 have cl:∀x c,X.env.cells.lookup x=some c -> ∀v,s.heap.IsCell c v->h'.IsCell c v:=fun x c q v ⟨o,ho,hd⟩=>by
  obtain ⟨sl,r⟩:=any c o ho fun z=>z.2.2.2.2.1 x c q rfl;exact ⟨_,r,hd⟩
 refine ⟨I.ok,I.os,I.bare,⟨fun b o q nn hb hx=> ?_,fun b o q nn hb hx=> ?_,I.base.free,fun b o q hx=> ?_,I.base.tups,I.base.w5,I.base.yU⟩, ?_,fun x c q=> ?_,I.free,I.ou,fun p hp=> ?_,fun a o q=> ?_,I.len⟩
 ·have q1:=I.base.keep b o q nn hb hx
  obtain ⟨n1,n2⟩:=off b o q1 (s0 b o q);exact n.keep b o q1 (nst b (V1 b o q) hb) n1 n2
 ·obtain ⟨sl,q1⟩:=I.base.slot b o q nn hb hx
  obtain ⟨sl2,q2⟩:=any b _ q1 (s0 b o q);exact ⟨sl2,q2⟩
 ·obtain ⟨o1,q1⟩:=I.base.there b o q hx
  exact n.there b o1 q1
 ·obtain ⟨m,⟨ob,es,ep,ho,r⟩,hl⟩:=I.loc
  obtain ⟨sl,q1⟩:=any _ ob ho fun z=>z.2.1 rfl;refine ⟨m,⟨_,es,ep,q1,r⟩,fun i x v e1 e2 e3=> ?_⟩;obtain ⟨u,ru,l⟩:=hl i x v e1 e2 e3;refine ⟨u,ru, ?_⟩;rcases l with l|⟨k,c,hc,z⟩
  ·exact .inl l
  ·exact .inr ⟨k,c,hc,cl x c hc _ z⟩
 ·obtain ⟨v,z⟩:=I.cell x c q
  exact ⟨v,cl x c q v z⟩
 ·obtain ⟨q,nn,n1,n2,d⟩:=I.pin p hp
  obtain ⟨m1,m2⟩:=off p.1 p.2 q fun z=>z.2.2.2.2.2 p hp rfl;exact ⟨n.keep p.1 p.2 q (nst p.1 n1 n2) m1 m2,nn,n1,n2,d⟩
 ·refine (I.hok a o q).stay (fun b u hb r=> ?_) (fun _ z=>z) fun _ _ z=>z
  rcases hb with rfl|hb
  ·obtain ⟨m1,m2⟩:=off b u r (RV b o q)
   exact n.keep b u r (Zq b o q) m1 m2
  ·obtain ⟨m1,m2⟩:=off b u r (RV b _ hb)
   exact n.keep b u r (Zq b _ hb) m1 m2
def vU (P:Program) (w:World):O7:=fun outer H s E ev s'=>∃(e:Addr) (cls:Value) (dx:Option Addr) (H':Hp),ev = .ref e/\s'.os=s.os/\AllBare s'.gens/\Un (frs outer) [] H H' s.heap s'.heap/\vQ P w H' s'.heap /\
 s.heap.get? e=none/\H' e=none/\zx s'.heap e cls dx (fun T=>s.heap.get? T=none/\H' T=none) (some .none)/\E cls dx H'
def Rz (X:Cx) (E:St->XK):Prop:=∀(pins:List (Addr×Obj)) (σ:St) (H:Hp) (s:Shared) (e:Addr) (cls:Value) (dx:Option Addr) (fl:Option Value),(fl=none\/fl=some .none)->Inv X pins σ H s->GZ X pins H e ->
 zx s.heap e cls dx (GZ X pins H) fl->E σ cls dx H->X.xe (.ref e) s
theorem zx.imp {h:Heap} {e:Addr} {cls:Value} {dx:Option Addr} {lo lo':Addr->Prop} {f:Option Value} (x:zx h e cls dx lo f) (k:∀T,(∃o,h.get? T=some o)->lo T->lo' T):zx h e cls dx lo' f:=by
 cases f with
 | none=>exact x
 | some f=>
   obtain ⟨oe,vs,T,oT,ts,he,hc,hdx,hd,h1,hT,nT,R0,r⟩:=x;exact ⟨oe,vs,T,oT,ts,he,hc,hdx,hd,h1,k T ⟨oT,R0⟩ hT,nT,R0,r⟩
theorem K9 {E:St->XK} {σ:St} (hx:X.ex=[]) (R:Rz X E) {pins:List (Addr×Obj)} {H:Hp} {s s':Shared} {ev:Value} (I:Inv X pins σ H s) (c:vU X.prog X.w X.stack H s (E σ) ev s'):X.xe ev s':=by
 obtain ⟨e,cls,dx,H',rfl,ho,hg,u,hok,ne,he,x,q⟩:=c;have I':Inv X pins σ H' s':=I.call' (ch:=[]) ho u hok hg (fun b hb=>by cases hb)
 have fp:∀T,s.heap.get? T=none->H' T=none->GZ X pins H' T:=fun T h1 h2=>by
  obtain ⟨_,a2,a3,a4,a5,a6⟩:=I.xfp hx h1;exact ⟨h2,a2,a3,a4,a5,a6⟩
 exact R pins σ H' s' e cls dx _ (.inr rfl) I' (fp e ne he) (x.imp fun T _ z=>fp T z.1 z.2) q
theorem Ho {P:Program} {w:World} {K:PySem.W.Frag} {mg:Str->Option Value} {base:Heap} {N:List Str} {qual:Str} {scope:Scope} {f:Addr} {cd:Value} {A:Around} {outer:List Env} {s:Shared} {H:Hp} {E:XK}:
 Rz (tR (vU P w) P w K mg base N qual scope f cd A outer s H E) (fun _=>E):=by
 intro pins σ H1 s1 e cls dx fl hfl I fe x q;show wpAny (model P w) _ (leaving _ (.ref e)) _ _ s1;unfold leaving;have lo1:∀b,(b=e\/(GZ (tR (vU P w) P w K mg base N qual scope f cd A outer s H E) pins H1 b\/s1.heap.get? b=none))->GZ (tR (vU P w) P w K mg base N qual scope f cd A outer s H E) pins H1 b\/s1.heap.get? b=none:=fun b z=>z.elim (fun z=> .inl (by rw [z];exact fe)) fun z=>z;have stk:(tR (vU P w) P w K mg base N qual scope f cd A outer s H E).A.frames=some ((tR (vU P w) P w K mg base N qual scope f cd A outer s H E).env::outer):=I.ok.frames;refine wpAny_bind (Vx (base:=base) (lo:=fun T=>GZ (tR (vU P w) P w K mg base N qual scope f cd A outer s H E) pins H1 T\/s1.heap.get? T=none) hfl stk I.stack rfl (x.imp fun T _ z=> .inl z) (fun T z=> .inr z) fun h1 n1 x1=> ?_);refine Pn (fr:=frs ((tR (vU P w) P w K mg base N qual scope f cd A outer s H E).env::outer)) x1 fun h2 n2 x2=> ?_;have I2:Inv (tR (vU P w) P w K mg base N qual scope f cd A outer s H E) pins σ H1 {s1 with heap:=h2}:=I.noted (n1.trans n2) lo1;refine ⟨e,cls,dx,H1,rfl,I2.os,I2.bare,I2.base,I2.hok,fe.2.2.2.1,fe.1,x2.imp fun T _ z=> ?_,q⟩;rcases z with z|z
 ·exact ⟨z.2.2.2.1,z.1⟩
 ·have y:=I.xfp rfl z
  exact ⟨y.2.2.2.1,y.1⟩
end
end L2
set_option Elab.async false
set_option linter.all false
set_option maxRecDepth 100000
set_option maxHeartbeats 4000000
namespace L2
open PySem PySem.Spec PyProof.Rows
def fM (P:Program) (w:World) (K:PySem.W.Frag) (mg:Str->Option Value) (base:Heap) (k:Nat) (x:Str) (ps:List Str) (sp:Sp):Prop:=
 ∃f fd,gn P w K mg base (vU P w) k f fd ps sp/\mg x=some (.ref f)/\PySem.W.keepIn K (.ref f)=true/\Binds K fd ps []
def WD (sp:Sp) (E:St->XK) (t:TA):TE:=fun σ H Q=>t σ H fun vs H1=>sp vs H1 Q (E σ)
section
variable {X:Cx} {k:Nat} {x:Str} {ps:List Str} {sp:Sp} {e:Expr} {es:List Expr} {t:TA} {p pos:Pos} {E:St->XK}
theorem gQ (F:fM X.prog X.w X.K X.mg X.base k x ps sp) (hx:X.ex=[]) (R:Rz X E) (hr:pR k X.A) (hg:Gl X x) (ha:PA X (e::es) t) (hd:(x==("__debug__" :Str))=false:=by decide)
 (he:starEach (e::es) X.env=(false,eval e X.env)::starEach es X.env:=by rfl) (hpl:(backTo pos (starEach es X.env)).any (·.1)=false:=by rfl):
 PE X (.Call (.Name x p) (e::es) [] pos) (WD sp E t):=by
 obtain ⟨f,fd,G,hm,hk,hb⟩:=F;intro pins s σ H Q I h;refine wpAny_Call_Name_kw (vD I hg hm ?_ hd);refine PySem.W.callWith_K (h₀:=X.base) I.ok.mod.Y8 hk (gU (ha pos pins s σ H _ I h) fun us s1 ⟨vs,H1,I1,r,q⟩=>⟨I1.Ad, ?_⟩) he hpl;have hlen:us.length=ps.length:=by rw [←r.length];exact G.len _ _ _ _ q
 have hbd:=hb s1 us I1.Ad (by rw [List.append_nil];exact hlen);rw [List.append_nil] at hbd;refine wpAny_call (codeAny_mono (G.run X.A X.stack s1 H1 ⟨us,[]⟩ us vs Q (E σ) hr I1.env0 hbd r q) fun res s' hq=> ?_)
 match res,hq with
 | .error ev,hq=>exact K9 hx R I1 hq
 | .ok (.ret u),hq=>exact I1.after hq
end
section
variable {P:Program} {w:World} {K:PySem.W.Frag} {mg:Str->Option Value} {base:Heap}
theorem qj.Jl {x qual:Str} {st:Stmt} {f:Addr} {fd:FuncData} {N ps:List Str} {k:Nat} {sp:Sp} (F:qj K x qual st f fd) (S:bT N ps (aH st)) (len:∀vs H Q E,sp vs H Q E->vs.length=ps.length)
 (hbody:∀(cdv:Value) (A:Around) (outer:List Env) (s:Shared) (H:Hp) (vs:List V) (Q:VK) (E:XK),pR k (A.deeper (envOfC qual (aH st) s.heap.objs.size f cdv))->sp vs H Q E ->
   Rz (tR (vU P w) P w K mg base N qual (aH st) f cdv A outer s H E) (fun _=>E) ->
   ∃t,Jh (tR (vU P w) P w K mg base N qual (aH st) f cdv A outer s H E) (aM st) t/\t {nx:=fun _ H'=>Q .non H',rt:=Q} (start N vs) H):gn P w K mg base (vU P w) (k+1) f fd ps sp:=by
 obtain ⟨oc,od,kV,doc,pm,an,cdv,ct,osl,rfl,lk,hcd⟩:=F.ex;exact Rg lk hcd S len fun A outer s H vs Q E hr hsp=>hbody cdv A outer s H vs Q E hr hsp Ho
end
theorem U3 {K:PySem.W.Frag} {h:Heap} {C:Addr} {bmB:List Value} {newId:String} (X:K.In h) (q:PySem.W.excIn K C bmB newId=true):
 ∃bm N nm qn bs hdct sn sub ab col dd k0 k1 k2 k3 k5 mN,h.get? C=some (excClassObj nm qn C N bs bm hdct sn sub ab col dd k0 k1 k2 k3 k5 newId)/\h.Ns N mN/\mN "__init__" = none/\OwnTail h bmB bm:=by
 unfold PySem.W.excIn at q;split at q
 ·rename_i d0 c0 s0 lk
  split at q
  ·rename_i C1 tl a0 a1 a2 a3 nn a5 em es
   simp only [Bool.and_eq_true,beq_iff_eq,Bool.not_eq_true'] at q;obtain ⟨⟨⟨⟨⟨e1,e2⟩,e3⟩,e4⟩,e5⟩,e6⟩:=q;subst e1 e2;obtain ⟨f1,f2,f3,f4,f5,f6,f7,f8,f9,f10,f11⟩:=c0;dsimp only at em e3 e5 e6;subst em e3
   have ez:s0 = #[a0,a1,a2,a3,some (.builtin nn),a5]:=by
    obtain ⟨l⟩:=s0;simp only at es;rw [es]
   subst ez;exact ⟨tl,f4,_,_,_,_,_,_,_,_,_,_,_,_,_,_,_,X _ _ lk,.of_isNs (PySem.W.isNs_of_in X e5),PySem.W.nsMap_none_of_in X e5 e6,PySem.W.tail_of_in X e4⟩
  ·cases q
 ·cases q
def Wr (cls:Value) (E:St->XK) (ta:TA):TS:=fun _ σ H=>ta σ H fun vs H1=>vs.length<=sizeLine/\E σ cls none H1
section
variable {X:Cx} {E:St->XK} {x:Str} {C:Addr} {B newId initId:String} {bmB:List Value} {e0:Expr} {rest:List Expr} {ta:TA} {np cpos pos:Pos}
theorem qF (FB:ExcBaseFacts B newId initId bmB) (q:PySem.W.excIn X.K C bmB newId=true) (hm:X.mg x=some (.ref C)) (hg:Gl X x) (hc:X.calm=true) (hx:X.ex=[]) (R:Rz X E) (ha:PA X (e0::rest) ta)
 (he:starEach (e0::rest) X.env=(false,eval e0 X.env)::starEach rest X.env:=by rfl) (hplain:(backTo cpos (starEach rest X.env)).any (·.1)=false:=by rfl) (hd:(x==("__debug__" :Str))=false:=by decide):
 PS X (.Raise (some (.Call (.Name x np) (e0::rest) [] cpos)) none pos) (Wr (.ref C) E ta):=by
 intro pins s σ H D I h;obtain ⟨bm,N,nm,qn,bs,hdct,sn,sub,ab,col,dd,k0,k1,k2,k3,k5,mN,hC,hN,hni,T⟩:=U3 I.ok.mod.Y8 q
 refine wpAny_Raise_call_subT (k5:=k5) (k3:=k3) (k2:=k2) (k1:=k1) (k0:=k0) (dd:=dd) (col:=col) (ab:=ab) (sub:=sub) (sn:=sn) (hdct:=hdct) (bs:=bs) (q:=qn) (nm:=nm)
  (C:=C) (N:=N) (bm:=bm) (mN:=mN) FB (T.hasType FB.hasBase) (I.ok.hd hc) (by rw [he];show (false||(backTo cpos (starEach rest X.env)).any (·.1))=false;rw [hplain];rfl) hni (vD I hg hm ⟨rfl, ?_⟩ hd)
 have h2:=ha cpos pins s σ H _ I h;rw [he] at h2 ⊢;refine Calls.evalArgs_plain (gU h2 fun us s1 ⟨vs,H1,I1,r,hl,hE⟩=>⟨rfl,by rw [←r.length];exact hl,I1.bk _ _ hC,hN.keeps I1.bk,T.keeps I1.bk,fun h' e mk=> ?_⟩);obtain ⟨t,ht,_,_⟩:=mk.there;have I2:Inv X pins σ H1 {s1 with heap:=h'}:=I1.kept (t':=s1.toks) mk.keeps;exact R pins σ H1 _ e (.ref C) none none (.inl rfl) I2 (I1.xfp hx mk.new) ⟨_,_,ht,rfl,rfl,rfl,rfl⟩ hE
end
def XO (C:Addr) (dx:Option Addr) (e:Addr):HO:= .ext fun h=>∃oe vs,h.get? e=some oe/\oe.cls = .ref C/\oe.dict=dx/\oe.data = .fields vs
def Gz (X:Cx) (e:Addr):Cx:={X with A:=X.A.mark (some (.ref e)),calm:=false,xe:=fun _ _=>False}
def Ck (X:Cx) (pins:List (Addr×Obj)) (xe:Value->Shared->Prop):Cx:={X with pn:=X.pn++pins,xe:=xe}
section
variable {X:Cx} {pins:List (Addr×Obj)} {σ:St} {H:Hp} {s:Shared}
theorem Inv.Zr (I:Inv X pins σ H s) (xe:Value->Shared->Prop):Inv (Ck X pins xe) [] σ H s:=
 ⟨⟨I.ok.mod,I.ok.kind,I.ok.glob,I.ok.blt,I.ok.above,I.ok.inj,I.ok.has,I.ok.cab,I.ok.hd,I.ok.frames,I.ok.stk,I.ok.Zf,I.ok.bs,I.ok.O5,I.ok.Gm,I.ok.Ik,I.ok.vL,I.ok.R_⟩,I.os,I.bare,I.base,I.loc,I.cell,I.free,I.ou,
   fun p hp=>I.pin p (by rw [List.append_nil] at hp;exact hp),I.hok,I.len⟩
theorem Inv.Ej {xe:Value->Shared->Prop} {tH:List (Addr×Obj)} (I:Inv (Ck X pins xe) tH σ H s):Inv X pins σ H s:=
 ⟨⟨I.ok.mod,I.ok.kind,I.ok.glob,I.ok.blt,I.ok.above,I.ok.inj,I.ok.has,I.ok.cab,I.ok.hd,I.ok.frames,I.ok.stk,I.ok.Zf,I.ok.bs,I.ok.O5,I.ok.Gm,I.ok.Ik,I.ok.vL,I.ok.R_⟩,I.os,I.bare,I.base,I.loc,I.cell,I.free,I.ou,
   fun p hp=>I.pin p (List.mem_append_left _ hp),I.hok,I.len⟩
theorem Inv.PB (I:Inv X pins σ H s) (e:Addr):Inv (Gz X e) pins σ H s:=
 ⟨⟨I.ok.mod,I.ok.kind,I.ok.glob,I.ok.blt,I.ok.above,I.ok.inj,I.ok.has,I.ok.cab,fun z=>(by cases z),I.ok.frames,I.ok.stk,I.ok.Zf,I.ok.bs,I.ok.O5,I.ok.Gm,I.ok.Ik,I.ok.vL,I.ok.R_⟩,I.os,I.bare,I.base,I.loc,I.cell,I.free,I.ou,
   I.pin,I.hok,I.len⟩
theorem Inv.Gk {e:Addr} (I:Inv (Gz X e) pins σ H s) (hd:X.calm=true->X.A.handled=none):Inv X pins σ H s:=
 ⟨⟨I.ok.mod,I.ok.kind,I.ok.glob,I.ok.blt,I.ok.above,I.ok.inj,I.ok.has,I.ok.cab,hd,I.ok.frames,I.ok.stk,I.ok.Zf,I.ok.bs,I.ok.O5,I.ok.Gm,I.ok.Ik,I.ok.vL,I.ok.R_⟩,I.os,I.bare,I.base,I.loc,I.cell,I.free,I.ou,
   I.pin,I.hok,I.len⟩
theorem Inv.track {e C:Addr} {dx:Option Addr} {lo:Addr->Prop} {fl:Option Value} (I:Inv X pins σ H s) (hx:X.ex=[]) (fe:GZ X pins H e) (x:zx s.heap e (.ref C) dx lo fl):Inv X pins σ (upd H e (XO C dx e)) s:=by
 obtain ⟨f1,f2,f3,f4,f5,f6⟩:=fe;obtain ⟨oe,vs,q,hc,hdx,hd⟩:=x.there;have ne:∀b o,H b=some o->b≠e:=fun b o r=>aL r f1;refine ⟨I.ok,I.os,I.bare,⟨I.base.keep,I.base.slot,fun b o r n hh=> ?_,I.base.there,fun b xs r=> ?_,fun b o u r=> ?_,fun b ps r=> ?_⟩,I.loc,I.cell, ?_,fun y c r=> ?_,fun p hp=> ?_,fun a o r=> ?_,I.len⟩
 ·rw [cC (fun z=>by rw [z,f4] at r;cases r)]
  exact I.base.free b o r n hh
 ·have r2:=I.base.tups b xs r
  rw [cC (ne b _ r2)];exact r2
 ·have r2:=I.base.w5 b o u r
  rw [cC (ne b _ r2)];exact r2
 ·obtain ⟨m,r2⟩:=I.base.yU b ps r
  exact ⟨m,by rw [cC (ne b _ r2)];exact r2⟩
 ·rw [cC (Ne.symm f2)];exact I.free
 ·rw [cC (f5 y c r)];exact I.ou y c r
 ·obtain ⟨a1,a2,a3⟩:=I.pin p hp
  exact ⟨a1,by rw [cC (f6 p hp)];exact a2,a3⟩
 ·by_cases ha:a=e
  ·subst ha
   rw [au] at r;cases r;exact ⟨⟨oe,vs,q,hc,hdx,hd⟩,⟨oe,q⟩,fun h1 h2 ⟨o1,v1,p1,p2⟩ k=>⟨o1,v1,k _ p1,p2⟩⟩
  ·rw [cC ha] at r
   refine (I.hok a o r).stay (fun _ _ _ z=>z) (fun b z=>by rw [cC (ne b _ z)];exact z) fun b ys z=>by rw [cC (ne b _ z)];exact z
end
section
variable {M:Model} {A:Around} {Er:Value->Shared->Prop} {s:Shared} {K:PySem.W.Frag} {e C D:Addr}
theorem HY {oe:Obj} {b:Bool} {Q:Bool->Shared->Prop} (X:K.In s.heap) (he:s.heap.get? e=some oe) (hc:oe.cls = .ref C) (hD:(PySem.W.clsIn K D).isSome=true) (hty:PySem.W.typeIn K (.ref D)=some (.type "type"))
 (hB:PySem.W.subIn K (.ref D) (.type "BaseException")=some true) (hs:PySem.W.subIn K (.ref C) (.ref D)=some b) (hq:Q b s):wpAny M A (excMatches (.ref e) (.ref D)) Q Er s:=by
 obtain ⟨hh,g,d,t,os⟩:=s;have L1:PySem.W.Looks M hh (typeOf (.ref D)) (.type "type"):=PySem.W.looks_typeIn X hty;have L2:PySem.W.Looks M hh (isSubtype (.ref D) (.type "BaseException")) true:=PySem.W.looks_subIn X hB;have L3:PySem.W.Looks M hh (isSubtype (.ref C) (.ref D)) b:=PySem.W.looks_subIn X hs
 have L4:PySem.W.Looks M hh (isType (.ref D)) true:=by
  unfold PySem.W.clsIn at hD;split at hD
  ·rename_i c' d' cd' sl' ho
   intro A' Q' E' s' k q;unfold isType loadHead;exact wpAny_bind (wpAny_loadPart (k _ _ (X _ _ ho)) (wpAny_pure q))
  ·cases hD
 have f:=tc_notTuple;unfold excMatches isExcClass isInstance;refine wpAny_bind (wpAny_bind (L1.at ?_));refine wpAny_of_eq f ?_;rw [if_neg (by decide)];refine wpAny_bind (wpAny_pure ?_);simp only [List.forIn_cons,List.forIn_nil];refine wpAny_bind (wpAny_bind (wpAny_bind (wpAny_bind (L4.at ?_))));rw [if_pos rfl];refine L2.at ?_;simp only [Bool.not_true,Bool.false_eq_true,if_false];refine wpAny_pure (wpAny_pure ?_)
 have L0:PySem.W.Looks M hh (typeOf (.ref e)) (.ref C):=by
  intro A' Q' E' s' k q;unfold typeOf;refine wpAny_bind (wpAny_loadPart (k _ _ he) ?_);rw [hc];exact wpAny_pure q
 refine wpAny_bind (L0.at ?_);refine wpAny_bind (wpAny_bind (wpAny_bind (L3.at ?_)));cases b with
 | true=>exact wpAny_pure (wpAny_pure (wpAny_pure hq))
 | false=>exact wpAny_pure (wpAny_pure (wpAny_pure hq))
end
end L2
set_option Elab.async false
set_option linter.all false
set_option maxRecDepth 100000
set_option maxHeartbeats 4000000
namespace L2
open PySem PySem.Spec PyProof.Rows
section
variable {X:Cx} {pins:List (Addr×Obj)} {σ:St} {H:Hp} {s:Shared}
theorem Inv.gone {i:Nat} {n:Str} {m:Str->Option Value} {v:Option Value} {h':Heap} {t:Nat} (I:Inv X pins σ H s) (hN:X.N.Nodup) (hi:X.N[i]? = some n)
 (hm:∀(j:Nat) (x:Str) (u:V),X.N[j]? = some x->σ[j]? = some (some u)->Vis X.env.scope x -> ∃w',RelV u w'/\Look X.env s.heap m x w')
 (hn:h'.Ns X.env.locals (fun x=>if x=n then v else m x)) (sb:Heap.SameBut X.env.locals s.heap h'):Inv X pins (σ.set i none) H {s with heap:=h',toks:=t}:=by
 have V1:∀b o,X.s₀.heap.get? b=some o->b≠X.env.locals:=fun b o q=>Nat.ne_of_lt (Nat.lt_of_lt_of_le (Heap.lt_size q) I.ok.above);have cl:∀x c,X.env.cells.lookup x=some c -> ∀w',s.heap.IsCell c w'->h'.IsCell c w':=fun x c q w' ⟨o,ho,hd⟩=>⟨o,(sb.2 c (I.V8 x c q)).trans ho,hd⟩;have RV:∀b o,H b=some o->b≠X.env.locals:=fun b o q=>aL q I.free;refine ⟨I.ok,I.os,I.bare,⟨fun b o q nn hb hx=>(sb.2 b (V1 b o q)).trans (I.base.keep b o q nn hb hx),fun b o q nn hb hx=> ?_,I.base.free,fun b o q hx=> ?_,I.base.tups,I.base.w5,I.base.yU⟩,⟨_,hn,fun j x u e1 e2 e3=> ?_⟩,fun x c q=> ?_,I.free,I.ou,fun p hp=> ?_,fun a o q=> ?_, ?_⟩
 ·obtain ⟨sl,r⟩:=I.base.slot b o q nn hb hx
  exact ⟨sl,(sb.2 b (V1 b o q)).trans r⟩
 ·obtain ⟨o',r⟩:=I.base.there b o q hx
  exact ⟨o',(sb.2 b (V1 b o q)).trans r⟩
 ·have hji:j≠i:=by
   rintro rfl
   by_cases hlt:j<σ.length
   ·rw [List.getElem?_set_self hlt] at e2
    cases e2
   ·rw [List.getElem?_eq_none (by rw [List.length_set];omega)] at e2
    cases e2
  rw [List.getElem?_set_ne (Ne.symm hji)] at e2;obtain ⟨w',r,l⟩:=hm j x u e1 e2 e3;refine ⟨w',r, ?_⟩;have hxn:x≠n:=fun z=>hji (BK hN e1 (by rw [z];exact hi));rcases l with ⟨k,q⟩|⟨k,c,hc,z⟩
  ·exact .inl ⟨k,by show (if x=n then v else m x)=some w';rw [if_neg hxn];exact q⟩
  ·exact .inr ⟨k,c,hc,cl x c hc _ z⟩
 ·obtain ⟨w',z⟩:=I.cell x c q
  exact ⟨w',cl x c q w' z⟩
 ·obtain ⟨q,nn,n1,r⟩:=I.pin p hp
  exact ⟨(sb.2 p.1 n1).trans q,nn,n1,r⟩
 ·refine (I.hok a o q).stay (fun b u hb r=> ?_) (fun _ z=>z) fun _ _ z=>z
  rcases hb with rfl|hb
  ·exact (sb.2 b (RV b o q)).trans r
  ·exact (sb.2 b (RV b _ hb)).trans r
 ·show (σ.set i none).length=X.N.length
  rw [List.length_set];exact I.len
theorem vC {M:Model} {A:Around} {E:Value->Shared->Prop} {i:Nat} {n:Str} {pos:Pos} {Q:Unit->Shared->Prop} (I:Inv X pins σ H s) (hN:X.N.Nodup) (hi:X.N[i]? = some n) (hl:X.env.kindOf n=some .local)
 (h:∀s',Inv X pins (σ.set i none) H s'->Q () s'):wpAny M A (do bindName X.env n .none;unbindBehindTheSuite X.env n pos) Q E s:=by
 obtain ⟨m,hn,hm⟩:=I.loc;exact wpAny_nameGoes_keeps hl hn (by rw [I.ok.kind];rfl) fun h' v hn' sb=>h _ (I.gone hN hi hm hn' sb)
end
def aaP (D:Ends) (i:Nat):Ends:={nx:=fun σ H=>D.nx (σ.set i none) H,rt:=D.rt,bk:=fun σ H=>D.bk (σ.set i none) H,ct:=fun σ H=>D.ct (σ.set i none) H}
def adD (K:PySem.W.Frag) (i:Nat) (Dc:Addr) (tb:(St->XK)->TS) (th:TS):TS:=fun D σ H=>
 tb (fun σ1 cls dx H1=>∃C,cls = .ref C/\PySem.W.subIn K (.ref C) (.ref Dc)=some true /\ ∀e,H1 e=none->th (aaP D i) (σ1.set i (some (.ref e))) (upd H1 e (XO C dx e))) D σ H
structure XHd (K:PySem.W.Frag) (D:Addr):Prop where
 cl:(PySem.W.clsIn K D).isSome=true
 ty:PySem.W.typeIn K (.ref D)=some (.type "type")
 bs:PySem.W.subIn K (.ref D) (.type "BaseException")=some true
section
variable {X:Cx} {body suite:List Stmt} {b0:Stmt} {n cn:Str} {i:Nat} {Dc:Addr} {tb:(St->XK)->TS} {th:TS} {cp hpos pos:Pos}
theorem W_ (hc:X.calm=true) (hx:X.ex=[]) (hst:X.stack=X.env::X.outer) (hfm:X.env.frame=some X.env.locals) (hN:X.N.Nodup) (hi:X.N[i]? = some n) (hl:X.env.kindOf n=some .local) (hg:Gl X cn) (hm:X.mg cn=some (.ref Dc)) (hD:XHd X.K Dc)
 (hb:∀(pn:List (Addr×Obj)) (xe:Value->Shared->Prop) (E:St->XK),PassesOwn (model X.prog X.w) X.A X.env xe->Rz {X with pn:=pn,xe:=xe} E->Jh {X with pn:=pn,xe:=xe} body (tb E))
 (hh:∀e,Jh (Gz X e) (b0::suite) th) (hd:(cn==("__debug__" :Str))=false:=by decide):
 PS X (.Try body [.ExceptHandler (some (.Name cn cp)) (some n) (b0::suite) hpos] [] [] pos) (adD X.K i Dc tb th):=by
 intro pins s σ H D I h;refine wpAny_Try_except ?_
 refine wpAny_mono (hb (X.pn++pins) (fun e s₁=>wpAny (model X.prog X.w) X.A (noteFrame e X.env) (fun _ s₂=>wpAny (model X.prog X.w) X.A (setFlight e none) (fun _ s₃=>wpAny (model X.prog X.w) X.A (handleBy e X.env [.ExceptHandler (some (.Name cn cp)) (some n) (b0::suite) hpos]) (SP X pins D) X.xe s₃) X.xe s₂) X.xe s₁) _
  PassesOwn.looking ?_ [] s σ H D (I.Zr _) h) (fun f s1 q=> ?_) fun _ _ q=>q
 ·
  intro tH σ1 H1 s1 e cls dx fl hfl I1 fe x hE;obtain ⟨C,rfl,hsub,hth⟩:=hE;have lo1:∀b,(b=e\/(GZ (Ck X pins X.xe) tH H1 b\/s1.heap.get? b=none))->GZ (Ck X pins X.xe) tH H1 b\/s1.heap.get? b=none:=fun b z=>z.elim (fun z=> .inl (by rw [z];exact fe)) fun z=>z;have hfr:X.A.frames=some (X.env::X.outer):=by rw [←hst];exact I.ok.frames
  have hff:s1.heap.FunFrames X.base (X.env::X.outer):=by rw [←hst];exact I1.stack
  refine Vx (base:=X.base) (lo:=fun T=>GZ (Ck X pins X.xe) tH H1 T\/s1.heap.get? T=none) hfl hfr hff hfm (x.imp fun T _ z=> .inl z) (fun T z=> .inr z) fun h1 n1 x1=> ?_;refine Pn (fr:=frs (X.env::X.outer)) x1 fun h2 n2 x2=> ?_;have n12:vf (frs X.stack) e (fun T=>GZ (Ck X pins X.xe) tH H1 T\/s1.heap.get? T=none) s1.heap h2:=by rw [hst];exact n1.trans n2
  have I2:Inv X pins σ1 H1 {s1 with heap:=h2}:=(I1.noted n12 lo1).Ej;refine wpAny_handleBy_cons (codeAny_handlers_test (vD (I2.PB e) hg hm ?_ hd)) (by intro z;cases z);obtain ⟨oe,vs,q1,q2,q3,q4⟩:=x2.there;refine HY (K:=X.K) I2.Ad q1 q2 hD.cl hD.ty hD.bs hsub ?_;rw [if_pos rfl];refine codeAny_handlers_suite_as ?_;refine Pn (fr:=frs (X.env::X.outer)) x2 fun h3 n3 x3=> ?_;have n13:vf (frs X.stack) e (fun T=>GZ (Ck X pins X.xe) tH H1 T\/s1.heap.get? T=none) s1.heap h3:=by rw [hst];exact (n1.trans n2).trans n3
  have I3:Inv X pins σ1 H1 {s1 with heap:=h3}:=(I1.noted n13 lo1).Ej;have feX:GZ X pins H1 e:=⟨fe.1,fe.2.1,fe.2.2.1,fe.2.2.2.1,fe.2.2.2.2.1,fun p hp=>fe.2.2.2.2.2 p (List.mem_append_left _ hp)⟩;have I4:Inv X pins σ1 (upd H1 e (XO C dx e)) {s1 with heap:=h3}:=I3.track hx feX x3;refine Aw (X:=Gz X e) (I4.PB e) hN hi (.inl hl) (v:= .ref e) rfl (fun s5 I5=> ?_) (.inr hl);refine wpAny_mono (hh e pins s5 _ _ (aaP D i) I5 (hth e fe.1)) (fun f s6 q6=> ?_) fun _ _ z=>z.elim;cases f with
  | next=>
    obtain ⟨σ6,H6,J6,r6⟩:=q6;exact vC (J6.Gk I.ok.hd) hN hi hl fun s7 J7=>⟨_,H6,J7,r6⟩
  | brk=>
    obtain ⟨σ6,H6,J6,r6⟩:=q6;exact vC (J6.Gk I.ok.hd) hN hi hl fun s7 J7=>⟨_,H6,J7,r6⟩
  | cont=>
    obtain ⟨σ6,H6,J6,r6⟩:=q6;exact vC (J6.Gk I.ok.hd) hN hi hl fun s7 J7=>⟨_,H6,J7,r6⟩
  | ret u=>
    obtain ⟨v6,σ6,H6,J6,rv,r6⟩:=q6;exact vC (J6.Gk I.ok.hd) hN hi hl fun s7 J7=>⟨v6,_,H6,J7,rv,r6⟩
 ·cases f with
  | next=>obtain ⟨σ1,H1,J,r⟩:=q;exact wpAny_execs_nil ⟨σ1,H1,J.Ej,r⟩
  | brk=>obtain ⟨σ1,H1,J,r⟩:=q;exact ⟨σ1,H1,J.Ej,r⟩
  | cont=>obtain ⟨σ1,H1,J,r⟩:=q;exact ⟨σ1,H1,J.Ej,r⟩
  | ret u=>obtain ⟨v,σ1,H1,J,rv,r⟩:=q;exact ⟨v,σ1,H1,J.Ej,rv,r⟩
end
section
variable {X:Cx} {K:PySem.W.Frag}
theorem Du {o:Obj} {vs:Array Value} (h:o.data = .fields vs):PySem.W.notCls o=true:=by
 obtain ⟨c,d,dt,sl⟩:=o;simp only at h;subst h;rfl
theorem KC {C e:Addr} {P:Program} {w:World} {H:Hp} {h:Heap} (x:gw P w H h e (XO C none e)):∃ox odo,PySem.W.InstAt h e ox C odo:=by
 obtain ⟨⟨oe,vs,q,hc,hd,hf⟩,_⟩:=x;exact ⟨oe,none,⟨q,hc,Du hf,by rw [hd];trivial⟩⟩
theorem vd {c:Value} {cv:V} (hk:X.K=K) (rc:∀u,RelV cv u->u=c):mZ X (.builtin "isinstance") (fun xs H Q=>∃(e C:Addr) (b:Bool),xs=[.ref e,cv]/\H e=some (XO C none e)/\PySem.W.Vi K C/\PySem.W.kitOne K (.ref C) c=some b/\Q (.bl b) H):=by
 subst hk;intro pins s σ H xs us Q I r h;obtain ⟨e,C,b,rfl,he,xc,hb,q⟩:=h;obtain ⟨u,w',rfl,r1,r2⟩:=vals2 r;cases (show u=Value.ref e from r1);have:=rc _ r2;subst this;exact PySem.W.kia_one (PySem.W.Ie xc) I.Ad (KC (I.hok e _ he)) hb (by intro z;cases z) fun tk=>⟨.bl b,H,I.tok _,rfl,q⟩
theorem Ml {cs:List Addr}:∀{us:List Value},Vals (cs.map V.ref) us->us=cs.map Value.ref:=by
 induction cs with
 | nil=>intro us r;cases r;rfl
 | cons c cs ih=>
   intro us r;cases r with
   | cons r rs=>cases (show _=Value.ref c from r);rw [ih rs];rfl
end
end L2
set_option Elab.async false
set_option linter.all false
set_option maxRecDepth 100000
set_option maxHeartbeats 4000000
namespace L2
open PySem PySem.Spec PyProof.Rows
section
variable {X:Cx} {K:PySem.W.Frag}
theorem Fl (hk:X.K=K):mZ X (.builtin "isinstance") (fun xs H Q=>∃(e t C:Addr) (cs:List Addr) (b:Bool),xs=[.ref e,.ref t]/\H e=some (XO C none e)/\PySem.W.Vi K C/\H t=some (.tup (cs.map V.ref)) /\
 PySem.W.kitAny K (.ref C) (cs.map Value.ref)=some b/\Q (.bl b) H):=by
 subst hk;intro pins s σ H xs us Q I r h;obtain ⟨e,t,C,cs,b,rfl,he,xc,ht,hb,q⟩:=h;obtain ⟨u,w',rfl,r1,r2⟩:=vals2 r;cases (show u=Value.ref e from r1);cases (show w'=Value.ref t from r2);obtain ⟨its,rv,⟨o,ho,hc,m,hd⟩,hz⟩:=I.tuple (eV.of ht);have ei:=Ml rv;subst ei;obtain ⟨c0,d0,dt,sl⟩:=o;simp only at hc hd;subst hc hd;exact PySem.W.kia_tup (PySem.W.Ie xc) I.Ad (KC (I.hok e _ he)) ho hb (by intro z;cases z) fun tk=>⟨.bl b,H,I.tok _,rfl,q⟩
end
structure aG (K:PySem.W.Frag) (C D:Addr) (b:Bool):Prop where
 ne:(Value.ref C==Value.ref D)=false
 sub:PySem.W.subIn K (.ref C) (.ref D)=some b
theorem dj {K:PySem.W.Frag} {C D:Addr} {b:Bool} (h:XHd K D) (p:aG K C D b):PySem.W.kitOne K (.ref C) (.ref D)=some b:=by
 unfold PySem.W.kitOne;rw [if_neg (by rw [p.ne];decide)];show (if ((PySem.W.clsIn K D).isSome&&PySem.W.typeIn K (.ref D)==some (.type "type"))=true then PySem.W.subIn K (.ref C) (.ref D) else none)=some b;rw [if_pos (by rw [h.cl,h.ty];rfl)];exact p.sub
theorem yh {K:PySem.W.Frag} {C:Addr}:PySem.W.kitOne K (.ref C) (.ref C)=some true:=by
 unfold PySem.W.kitOne;rw [if_pos (by simp)]
theorem vG {K:PySem.W.Frag} {C:Addr} {b:Bool} (h:PySem.W.subIn K (.ref C) (.type "ValueError")=some b):PySem.W.kitOne K (.ref C) (.type "ValueError")=some b:=by
 unfold PySem.W.kitOne;rw [if_neg (by intro z;cases beq_iff_eq.mp z)];show (if PySem.W.kitMeta "ValueError" = true then PySem.W.subIn K (.ref C) (.type "ValueError") else none)=some b;rw [if_pos (by decide +kernel)];exact h
theorem iJ {K:PySem.W.Frag} {C:Addr}:∀{cs:List Addr},(∀D∈cs,PySem.W.kitOne K (.ref C) (.ref D)=some false)->PySem.W.kitAny K (.ref C) (cs.map Value.ref)=some false
 | [],_=>rfl
 | D::cs,h=>by
   show PySem.W.kitAny K (.ref C) (.ref D::cs.map Value.ref)=some false;unfold PySem.W.kitAny;rw [h D List.mem_cons_self];exact iJ fun D' hD=>h D' (List.mem_cons_of_mem _ hD)
theorem DK:bootBuiltins "ValueError" = some (.type "ValueError"):=by kernel_rfl
end L2
namespace L2
open PySem
structure Xr (K:PySem.W.Frag) (mg:Str->Option Value) (C:Addr) (nm:Str):Prop where
 bd:mg nm=some (.ref C)
 hd:XHd K C
 xc:PySem.W.Vi K C
 ex:PySem.W.excIn K C [.type "ValueError",.type "Exception",.type "BaseException",.type "object"] "ValueError.__new__" = true
 ve:PySem.W.subIn K (.ref C) (.type "ValueError")=some true
structure Xo (K:PySem.W.Frag) (mg:Str->Option Value) (C D:Addr) (nm:Str) (b:Bool):Prop where
 bd:mg nm=some (.ref D)
 hd:XHd K D
 pr:aG K C D b
theorem Xo.kit {K:PySem.W.Frag} {mg:Str->Option Value} {C D:Addr} {nm:Str} {b:Bool} (x:Xo K mg C D nm b):PySem.W.kitOne K (.ref C) (.ref D)=some b:=dj x.hd x.pr
end L2
set_option Elab.async false
set_option linter.all false
set_option maxRecDepth 100000
set_option maxHeartbeats 4000000
namespace L2
open PySem PySem.Spec PyProof.Rows
section
variable {X:Cx} {pins:List (Addr×Obj)} {σ:St} {H:Hp} {s:Shared} {h':Heap}
theorem Inv.KJ {t':Nat} {fp:List Addr} (I:Inv X pins σ H s) (hf:∀b∈fp,xr X pins H b) (k:∀b o,b∉fp->s.heap.get? b=some o->h'.get? b=some o):Inv X pins σ H {s with heap:=h',toks:=t'}:=by
 have Xv:∀b u,H b=some u->b∉fp:=fun b u e z=>by rw [(hf b z).1] at e;cases e
 refine I.step (g':=s.gens) (d':=s.drawn) (ch:=fp) (fun b hb=> ?_) (fun b o _ _ hc e _=>k b o hc e) (fun b o _ _ hc e _=>⟨o.slots,k b o hc e⟩) (fun _ _ _ _ n=>n)
  (fun b o hc e=>⟨o,k b o hc e⟩) (fun _ _ e=>e) (fun _ _ _ e=>e) (fun b ps e=>⟨#[],by rw [e];simp⟩) (fun m hm=> ?_) (fun b u e=> ?_) I.bare
 ·obtain ⟨f0,f1,f2,f3,f4,f5⟩:=hf b hb
  exact ⟨f3,f1,f4,f5⟩
 ·obtain ⟨o,es,ep,ho,r⟩:=hm
  exact ⟨o,es,ep,k _ o (fun z=>(hf _ z).2.1 rfl) ho,r⟩
 ·refine (I.hok b u e).stay (fun c v hc q=>k c v ?_ q) (fun _ q=>q) fun _ _ q=>q
  rcases hc with z|z
  ·rw [z];exact Xv b u e
  ·exact Xv c _ z
theorem xr.upd {b p:Addr} {o:HO} (h:xr X pins H b) (n:b≠p):xr X pins (upd H p o) b:=by
 obtain ⟨f0,r⟩:=h;exact ⟨by rw [cC n];exact f0,r⟩
theorem Q_ {h:Heap} {o u:Obj} {b:Addr} (ho:o.isFreed=false) (e:(h.push o).get? b=some u):(b=h.objs.size/\u=o)\/h.get? b=some u:=by
 by_cases hb:b=h.objs.size
 ·subst hb
  rw [Heap.get?_push_size _ ho] at e;exact .inl ⟨rfl,(Option.some.inj e).symm⟩
 ·refine .inr ?_
  have lt:=Heap.lt_size e
  have lt2:b<h.objs.size:=by
   have:(h.push o).objs.size=h.objs.size+1:=by simp [Heap.push]
   rw [this] at lt;exact Nat.lt_of_le_of_ne (Nat.le_of_lt_succ lt) hb
  have:(h.push o).get? b=h.get? b:=by
   simp only [Heap.get?,Heap.push];rw [Array.getElem?_push_lt lt2,Array.getElem?_eq_getElem lt2]
  rw [←this];exact e
end
section
variable {X:Cx}
end
def Itz (K:PySem.W.Frag) (l1 l2:Addr):It:=
 ⟨fun i H=>∃xs ys x y,bK K H l1 xs/\bK K H l2 ys/\xs[i]? = some x/\ys[i]? = some y,
  fun i H x H'=>∃(p:Addr) (y z:V),x = .ref p/\H p=none/\(∀xs,bK K H l1 xs->xs[i]? = some y)/\(∀ys,bK K H l2 ys->ys[i]? = some z)/\H'=upd H p (.tup [y,z]),
  fun i H=>∃xs ys,bK K H l1 xs/\bK K H l2 ys/\(xs.length<=i\/ys.length<=i)⟩
theorem Py {P:Program} {w:World} {K:PySem.W.Frag} {elts:List Expr} {x1:Nat} {pos:Pos} (z TI TO i1 i2 l1 l2:Addr) (ap:ZipApart z TI TO i1 i2 l1 l2):Turn P w K (.Tuple elts x1 pos) (Itz K l1 l2) [z,TI,TO,i1,i2] z
 (fun i h=>IsZip h z TI TO .none/\IsPair h TI (.ref i1) (.ref i2)/\(∃a b,IsPair h TO a b)/\h.IsListIter i1 l1 i/\h.IsListIter i2 l2 i) where
 mem:=by simp
 obj:=fun i h st b hb=>by
  obtain ⟨hz,hTI,⟨a,c,hTO⟩,⟨o1,h1,c1,d1⟩,⟨o2,h2,c2,d2⟩⟩:=st;have hb':b=z\/b=TI\/b=TO\/b=i1\/b=i2:=by simpa using hb
  rcases hb' with rfl|rfl|rfl|rfl|rfl
  ·exact ⟨_,hz,fun v z=>by cases z⟩
  ·exact ⟨_,hTI,fun v z=>by cases z⟩
  ·exact ⟨_,hTO,fun v z=>by cases z⟩
  ·exact ⟨_,h1,fun v z=>by rw [d1] at z;cases z⟩
  ·exact ⟨_,h2,fun v z=>by rw [d2] at z;cases z⟩
 keep:=fun i h h' st k=>by
  obtain ⟨hz,hTI,⟨a,c,hTO⟩,⟨o1,h1,c1,d1⟩,⟨o2,h2,c2,d2⟩⟩:=st;exact ⟨k z (by simp) _ hz,k TI (by simp) _ hTI,⟨a,c,k TO (by simp) _ hTO⟩,⟨o1,k i1 (by simp) _ h1,c1,d1⟩,⟨o2,k i2 (by simp) _ h2,c2,d2⟩⟩
 item:=by
  intro X hP hw hK hc i pins s σ H E I hf st hg;subst hP hw hK;obtain ⟨xs,ys,x,y,hq1,hq2,hx,hy⟩:=hg;obtain ⟨aau,rv1,p1,hz1⟩:=I.list hq1;obtain ⟨its2,rv2,p2,hz2⟩:=I.list hq2;obtain ⟨u1,hu1,ru1⟩:=rv1.get hx;obtain ⟨u2,hu2,ru2⟩:=rv2.get hy;obtain ⟨hz,hTI,⟨a,c,hTO⟩,hi1,hi2⟩:=st;have zlt:=Heap.lt_size hz;have aku:=Heap.lt_size hTI;have akt:=Heap.lt_size hTO;have ahC:i1<s.heap.objs.size:=by obtain ⟨o,ho,_⟩:=id hi1;exact Heap.lt_size ho
  have ahB:i2<s.heap.objs.size:=by obtain ⟨o,ho,_⟩:=id hi2;exact Heap.lt_size ho
  refine wpAny_pyNext_zip_item ap hz hTI hTO hi1 hi2 p1.isList p2.isList (x:=u1) (y:=u2) (by simpa using hu1) (by simpa using hu2) fun h' hz' ahZ ahU hi2' hnew hsz hk=> ?_;refine ⟨_,rfl, ?_⟩;refine wpAny_letOwnedTupleGo_zip hz' fun h2 ahD sb=> ?_;have hfr:H s.heap.objs.size=none:=I.hok.fresh (Nat.le_refl _)
  have I0:Inv X pins σ (upd H s.heap.objs.size (.tup [x,y])) {s with heap:=s.heap.push {cls:= .type "tuple",data:= .seq #[u1,u2]}}:=
   I.laid (t':=s.toks) (fun b u e=>Heap.get?_push_of_some _ e) (Nat.le_refl _) ⟨by show 2<=sizeLine;decide,[u1,u2],.cons ru1 (.cons ru2 .nil),⟨_,Heap.get?_push_size _ rfl,rfl,_,rfl⟩⟩
  have hf0:∀b∈[z,TI,TO,i1,i2],xr X pins (upd H s.heap.objs.size (.tup [x,y])) b:=fun b hb=>by
   refine (hf b hb).upd ?_;have hb':b=z\/b=TI\/b=TO\/b=i1\/b=i2:=by simpa using hb
   rcases hb' with rfl|rfl|rfl|rfl|rfl
   ·exact Nat.ne_of_lt zlt
   ·exact Nat.ne_of_lt aku
   ·exact Nat.ne_of_lt akt
   ·exact Nat.ne_of_lt ahC
   ·exact Nat.ne_of_lt ahB
  have I1:=I0.KJ (h':=h2) (t':=s.toks) hf0 (fun b o hb eb=>by
   have b1:b≠z:=fun e=>hb (by simp [e]);have b2:b≠TO:=fun e=>hb (by simp [e]);have b3:b≠i1:=fun e=>hb (by simp [e]);have b4:b≠i2:=fun e=>hb (by simp [e]);rw [sb.2 b b1];rcases Q_ rfl eb with ⟨rfl,rfl⟩|eb
   ·exact hnew
   ·exact hk b o b1 b2 b3 b4 eb)
  refine ⟨.ref s.heap.objs.size,_,I1,rfl,⟨s.heap.objs.size,x,y,rfl,hfr,fun ys hy=>by rw [I.BP hy hq1];exact hx,fun ys' hy'=>by rw [I.BP hy' hq2];exact hy,rfl⟩, ?_,fun b hb=>(hf0 b hb).1⟩;obtain ⟨o1,ho1,c1,d1⟩:=ahU;obtain ⟨o2,ho2,c2,d2⟩:=hi2';exact ⟨ahD,(sb.2 TI ap.TIz).trans (hk TI _ ap.TIz ap.TITO ap.TIi1 ap.TIi2 hTI),⟨_,_,(sb.2 TO ap.TOz).trans ahZ⟩,⟨o1,(sb.2 i1 ap.i1z).trans ho1,c1,d1⟩,⟨o2,(sb.2 i2 ap.i2z).trans ho2,c2,d2⟩⟩
 done:=by
  intro X hP hw hK hc i pins s σ H E I hf st hg;subst hP hw hK;obtain ⟨xs,ys,hq1,hq2,hx⟩:=hg;obtain ⟨aau,rv1,p1,hz1⟩:=I.list hq1;obtain ⟨its2,rv2,p2,hz2⟩:=I.list hq2;obtain ⟨hz,hTI,⟨a,c,hTO⟩,hi1,hi2⟩:=st;have hl1:=rv1.length;have hl2:=rv2.length;refine wpAny_pyNext_zip_end (I.ok.hd hc) ap hz hTI hTO hi1 hi2 p1.isList p2.isList ?_ fun h' eb=>⟨rfl,I.KJ (t':=s.toks) hf (fun b o hb e=>eb b o (fun z=>hb (by simp [z])) (fun z=>hb (by simp [z])) (fun z=>hb (by simp [z])) (fun z=>hb (by simp [z])) e)⟩;rcases hx with hx|hx
  ·exact .inl (by simp;omega)
  ·exact .inr (by simp;omega)
 self:=fun _ _ _ _ _ st h=>wpAny_pyIter_zip st.1 h
section
variable {X:Cx}
def ahA (K:PySem.W.Frag) (ta:TA):TI:=fun σ H R=>ta σ H fun vs H1=>∃l1 l2 xs ys,vs=[.ref l1,.ref l2]/\bK K H1 l1 xs/\bK K H1 l2 ys/\R (Itz K l1 l2) H1
theorem Gf {K:PySem.W.Frag} {a b:Expr} {ta:TA} {p pos:Pos} {elts:List Expr} {x1:Nat} {tpos:Pos} (hK:X.K=K) (hg:Gl X "zip") (hm:X.mg "zip" = none) (ha:PA X [a,b] ta) (hs:starEach [a,b] X.env=[(false,eval a X.env),(false,eval b X.env)]:=by rfl) (hs2:starEach [b] X.env=[(false,eval b X.env)]:=by rfl):PI X (.Tuple elts x1 tpos) (.Call (.Name "zip" p) [a,b] [] pos) (ahA K ta):=by
 subst hK;intro pins s σ H R I h;refine Call_ (BR I hg hm boot_zip (PyProof.Rows.callWith_type1 (gU (ha pos pins s σ H _ I h) fun us s1 ⟨vs,H1,I1,r1,q1⟩=> ?_) (by rw [hs,hs2]) (by rw [hs2];rfl)));obtain ⟨l1,l2,xs,ys,e,hq1,hq2,q⟩:=q1;subst e;cases r1 with
 | cons r rr=>
   cases rr with
   | cons r' rr=>
     cases rr;cases r;cases r';obtain ⟨aau,rv1,pl1,hz1⟩:=I1.list hq1;obtain ⟨its2,rv2,pl2,hz2⟩:=I1.list hq2;have lt1:l1<s1.heap.objs.size:=by obtain ⟨o,ho,_⟩:=pl1.isList;exact Heap.lt_size ho
     have lt2:l2<s1.heap.objs.size:=by obtain ⟨o,ho,_⟩:=pl2.isList;exact Heap.lt_size ho
     refine call_zip_2 pl1.isList pl2.isList fun h' hZ hTI hTO hi1 hi2 hsz hk=> ?_;refine wpAny_pyIter_zip hZ ?_;have I2:Inv X pins σ H1 {s1 with heap:=h'}:=I1.kept (t':=s1.toks) hk;refine ⟨s1.heap.objs.size+4,[s1.heap.objs.size+4,s1.heap.objs.size+2,s1.heap.objs.size+3,s1.heap.objs.size,s1.heap.objs.size+1],_,_,H1,rfl,I2,Py _ _ _ _ _ l1 l2 (zipApart_new lt1 lt2),⟨hZ,hTI,⟨_,_,hTO⟩,hi1,hi2⟩,fun b hb=> ?_,q⟩
     have hb':s1.heap.objs.size<=b:=by
      have:b=s1.heap.objs.size+4\/b=s1.heap.objs.size+2\/b=s1.heap.objs.size+3\/b=s1.heap.objs.size\/b=s1.heap.objs.size+1:=by simpa using hb
      rcases this with rfl|rfl|rfl|rfl|rfl
      ·exact Nat.le_add_right _ _
      ·exact Nat.le_add_right _ _
      ·exact Nat.le_add_right _ _
      ·exact Nat.le_refl _
      ·exact Nat.le_add_right _ _
     exact I1.Gw hb' (I1.hok.fresh hb')
end
end L2
set_option Elab.async false
set_option linter.all false
set_option maxRecDepth 100000
set_option maxHeartbeats 4000000
namespace L2
open PySem PySem.Spec PyProof.Rows
section
variable {K:PySem.W.Frag} {a l1 l2 D:Addr} {xs ys:List V} {g:TG} {tc:TT} {te:TE} {Q:VK} {σ0:St} {H1:Hp}
theorem Ro {n:Nat} (hn1:xs.length=n) (hn2:ys.length=n) (Pv:Nat->St->Hp->Prop) (h0:Pv 0 σ0 (upd H1 D (.lst []))) (hl:∀i σ H,i<=n->Pv i σ H->bK K H l1 xs/\bK K H l2 ys)
 (hs:∀i x y σ H p,xs[i]? = some x->ys[i]? = some y->Pv i σ H->H p=none->g (.ref p) σ (upd H p (.tup [x,y])) fun σ2 H2=>tc σ2 H2 fun b H3=>
   if b=true then te σ2 H3 fun y H4=>∃acc,H4 D=some (.lst acc)/\acc.length<sizeLine/\Pv (i+1) σ2 (upd H4 D (.lst (acc++[y]))) else Pv (i+1) σ2 H3)
 (hd:∀σ H,Pv n σ H->Q (.ref D) H):tQ (Itz K l1 l2) g tc te Q D σ0 H1:=by
 refine ⟨fun i m σ H=>m=n - i/\i<=n/\Pv i σ H,⟨n,by simp,Nat.zero_le _,h0⟩, ?_⟩;rintro i m σ H ⟨rfl,hi,p⟩;obtain ⟨q1,q2⟩:=hl i σ H hi p
 by_cases hlt:i<n
 ·refine .inr ⟨⟨xs,ys,xs[i],ys[i],q1,q2,by simp [hn1,hlt],by simp [hn2,hlt]⟩,Pv (i+1),fun σ' H' p'=>⟨n - (i+1),by omega,rfl,hlt,p'⟩,fun x H' y=> ?_⟩
  obtain ⟨t,z,u,rfl,ht,hz,hu,rfl⟩:=y;exact hs i z u σ _ t (hz xs q1) (hu ys q2) p ht
 ·have e:i=n:=by omega
  subst e;exact .inl ⟨⟨xs,ys,q1,q2,.inl (by omega)⟩,hd σ H p⟩
end
section
variable {K:PySem.W.Frag} {a l1 l2:Addr} {xs ys:List V} {g:TG} {tb:TS} {D:Ends} {σ:St} {H:Hp}
end
section
variable {X:Cx}
def Tn:V->List V->Hp->VK->Prop:=fun x vs H Q=>∃l xs i y,x = .ref l/\vs=[.int i,y]/\H l=some (.lst xs)/\0<=i/\i<=xs.length/\xs.length<sizeLine/\Q .non (upd H l (.lst (xs.take i.toNat++y::xs.drop i.toNat)))
theorem qp:MtM X "list.insert" Tn:=by
 intro pins s σ H x vs v us Q I rx rv h;obtain ⟨l,xs,i,y,rfl,rfl,hH,i0,i1,hz,q⟩:=h;cases rx;obtain ⟨u,u2,rfl,ru,ru2⟩:=rv.two;obtain ⟨t,rfl⟩:=ru;obtain ⟨z,its,n,r,hl,e⟩:=I.J3 hH;have l63:=tu
 refine call_meets F.slot_list_insert ⟨_,e,rfl⟩ F.entry_list_insert (F.args_list_insert_3 _ _ _)
  (AutoSeq1.list_insert_list_int_val_1 l its.toArray n i t u2 (by rw [show Builtin.List.listFitsIndex i=true from fitsIndex_both (by omega) (by omega)];decide) (by rw [List.size_toArray];omega)) ⟨e, ?_⟩
 refine ⟨.non,_,I.Uq (its':=its.take i.toNat++u2::its.drop i.toNat) hH e ?_ ((r.take _).append (.cons ru2 (r.drop _))) ?_,rfl,q⟩
 ·have hi:¬i<0:=by omega
  simp only [hi,if_false];have hm:min i.toNat its.toArray.size=i.toNat:=by rw [List.size_toArray];omega
  simp only [hm];apply Array.ext';simp [List.extract_eq_drop_take,List.take_of_length_le]
 ·simp only [List.length_append,List.length_cons,List.length_take,List.length_drop]
  omega
theorem Ar:∀{ns:List Int} {us:List Value},Vals (ns.map V.int) us->IntsAre us ns
 | [],us,r=>by cases r;exact .nil
 | n::ns,us,r=>by
   cases r with
   | cons r rs=>
     obtain ⟨t,rfl⟩:=r;exact .cons n t (Ar rs)
def Tq:V->List V->Hp->VK->Prop:=fun x vs H Q=>∃(l:Addr) (ns:List Int) (i:Int),x = .ref l/\vs=[.int i]/\bK X.K H l (ns.map V.int)/\Q (.int (ns.count i)) H
theorem QC:MtR X "list.count" (Tq (X:=X)):=by
 intro pins s σ H x vs v us Q I rx rv h;obtain ⟨l,ns,i,rfl,rfl,hq,q⟩:=h;cases rx;obtain ⟨u,rfl,ru⟩:=rv.one;obtain ⟨t,rfl⟩:=ru;obtain ⟨its,r',pl,hz⟩:=I.list hq;exact count_list_ints pl.isList (Ar r') ⟨.int _,H,I.tok _,⟨_,rfl⟩,q⟩
theorem Br (ns:List Int):∀n,n<=ns.length->preSum (fun i=>(ns[i]?).getD 0) n=(ns.take n).sum
 | 0,_=>by simp [preSum]
 | n+1,h=>by
   have ih:=Br ns n (by omega);have hn:n<ns.length:=h;rw [List.take_succ,List.sum_append,←ih];simp [preSum,hn]
def aeo (K:PySem.W.Frag):List V->Hp->VK->Prop:=fun xs H Q=>∃(p:Addr) (ns:List Int),xs=[.ref p]/\bK K H p (ns.map V.int)/\Q (.int ns.sum) H
theorem Fi {K:PySem.W.Frag} (hK:X.K=K) (hc:X.calm=true):mZ X (.builtin "sum") (aeo K):=by
 subst hK;intro pins s σ H xs us Q I r h;obtain ⟨p,ns,rfl,hq,q⟩:=h;obtain ⟨u,rfl,rx⟩:=vals1 r;cases rx;obtain ⟨its,rv,pl,hz⟩:=I.list hq;have e:=Ar rv;have hlen:its.length=ns.length:=by rw [←rv.length,List.length_map]
 refine call_sum_walkG (wpAny_pyIter_list pl.isList ⟨s.heap.objs.size,[s.heap.objs.size,p],[s.heap.objs.size],its.length,_,_,fun i=>(ns[i]?).getD 0,rfl,
  sy (show X.A.in1.handled=none from I.ok.hd hc) s.heap.objs.size p ?_ its,⟨⟨_,Heap.get?_push_size _ rfl,rfl,rfl⟩, ?_⟩, ?_, ?_, ?_⟩)
 ·intro z
  obtain ⟨o,ho,_⟩:=pl.isList;have:=Heap.lt_size ho;rw [←z] at this;exact Nat.lt_irrefl _ this
 ·obtain ⟨o,ho,hcl⟩:=pl.isList
  exact ⟨o,Heap.get?_push_of_some _ ho,hcl⟩
 ·intro b hb
  have hsz:(s.heap.push {cls:= .type "list_iterator",data:= .fields #[.ref p,.int 0 0]}).objs.size=s.heap.objs.size+1:=by simp [Heap.push]
  have hb':b=s.heap.objs.size\/b=p:=by simpa using hb
  show b<(s.heap.push _).objs.size;rw [hsz];rcases hb' with rfl|rfl
  ·exact Nat.lt_succ_self _
  ·obtain ⟨o,ho,_⟩:=pl.isList
   exact Nat.lt_succ_of_lt (Heap.lt_size ho)
 ·intro i v hP
  obtain ⟨j,hj,rj⟩:∃j,ns[i]? = some j /\ ∃t,v = .int j t:=by
   have hi:i<its.length:=(List.getElem?_eq_some_iff.mp hP).1;have hv:=(rv.get (i:=i) (x:=V.int (ns[i]'(by omega))) (by simp [show i<ns.length by omega]));obtain ⟨u,hu,ru⟩:=hv;rw [hP] at hu;cases hu;obtain ⟨t,ht⟩:=ru;exact ⟨ns[i]'(by omega),by simp [show i<ns.length by omega],t,ht⟩
  obtain ⟨t,rfl⟩:=rj;exact ⟨t,by simp [hj]⟩
 ·intro h' tk t' k
  rw [Br ns its.length (by omega),List.take_of_length_le (by omega)];have f:=I.Gw (H':=H) (b:=s.heap.objs.size) (Nat.le_refl _) (I.hok.fresh (Nat.le_refl _));have I2:Inv X pins σ H {s with heap:=h',toks:=tk}:=I.turned (h':=h') (t':=tk) (it:=s.heap.objs.size) (fun b o hb e=>k b o (by simpa using hb) (Heap.get?_push_of_some _ e)) f.1 f.2.1 f.2.2.2.1 f.2.2.2.2.1 f.2.2.2.2.2;exact ⟨.int _,H,I2,⟨_,rfl⟩,q⟩
theorem pO {K:PySem.W.Frag} {T name id:String} {r:V->List V->Hp->VK->Prop} {o e:Expr} {es:List Expr} {to:TE} {t:TA} {apos cpos:Pos} (h:X.K=K) (pa:PlainAttrs T) (slot:Slot T name id) (hty:typeOf (.builtin id)=pure (.type "method_descriptor")) (hm:MtR X id r) (ho:PE X o to) (ha:PA X (e::es) t)
 (hbase:attributeBase o name X.env (eval o X.env)=eval o X.env:=by rfl)
 (hfew:((backTo cpos (starEach (e::es) X.env)).all (fun x=> !x.1)&&(backToKw cpos (keywordEach [] X.env)).all (fun x=>x.1.isSome)
   && decide ((e::es).length+([]:List Keyword).length+(if ([]:List Keyword).isEmpty then 0 else 1)<30))=true:=by rfl)
 (hline:(apos.endLine==cpos.line)=true:=by rfl) (hs:starEach (e::es) X.env=(false,eval e X.env)::starEach es X.env:=by rfl) (hplain:(backTo cpos (starEach es X.env)).any (·.1)=false:=by rfl):
 PE X (.Call (.Attribute o name apos) (e::es) [] cpos) (tBM K T r to t):=by
 subst h;exact VP pa slot hty hm ho ha hbase hfew hline hs hplain
def W6 (K:PySem.W.Frag):V->List V->Hp->VK->Prop:=fun x vs H Q=>∃(l:Addr) (ns:List Int) (i:Int),x = .ref l/\vs=[.int i]/\bK K H l (ns.map V.int)/\Q (.int (ns.count i)) H
theorem Em {K:PySem.W.Frag} (h:X.K=K):MtR X "list.count" (W6 K):=by subst h;exact QC
theorem z_ {K:PySem.W.Frag} {es:List Expr} {k:Nat} {t:Wb} {n:Nat} {pos:Pos} (hK:X.K=K) (hc:X.calm=true) (h:PGs X es t)
 (hn:(assignEach es X.env).length=n:=by rfl) (hst:(assignEach es X.env).findIdx? (·.1)=none:=by rfl):PG X (.Tuple es k pos) (Yl K n t):=by subst hK;exact Xc hc h hn hst
end
end L2
set_option Elab.async false
set_option linter.all false
set_option maxRecDepth 100000
set_option maxHeartbeats 4000000
namespace L2
open PySem
section
variable {K:PySem.W.Frag} {a D:Addr} {xs:List V} {tc:TT} {te:TE} {Q:VK} {rest:St} {H1:Hp}
theorem lG {α:Type} (f:Nat->Option α) (n:Nat):(List.range (n+1)).filterMap f=(List.range n).filterMap f++(f n).toList:=by
 rw [List.range_succ,List.filterMap_append];cases h:f n<;>simp [h]
theorem uZ {α:Type} (f:Nat->Option α) (n:Nat):((List.range n).filterMap f).length<=n:=by
 have:=List.length_filterMap_le f (List.range n);simpa using this
theorem Same.newly {H H1:Hp} {D:Addr} {o:HO} (h:Same H H1) (n:H D=none):Same H (upd H1 D o):=fun b u e=>by rw [cC (aL e n)];exact h b u e
theorem oA (f:Nat->Option V) (hD:H1 D=none) (hq:bK K H1 a xs) (hx:xs.length<=100000)
 (hs:∀i x H (G:Hp->Prop) (F:VK),xs[i]? = some x->Same H1 H->(∀H',Same H H'->f i=none->G H')->(∀y H',Same H H'->f i=some y->F y H')->tc (some x::rest) H fun b H3=>if b=true then te (some x::rest) H3 F else G H3)
 (hd:∀H,Same H1 H->H D=some (.lst ((List.range xs.length).filterMap f))->Q (.ref D) H):tQ (Vp K a) (tM 0) tc te Q D (none::rest) H1:=by
 refine zq (K:=K) (xs:=xs) (fun i σ H=>(∃v,σ=v::rest)/\Same H1 H/\H D=some (.lst ((List.range i).filterMap f))) ⟨⟨none,rfl⟩,aJ hD,au⟩ (fun i σ H _ ⟨_,sm,_⟩=>sm.sqL _ _ hq) ?_ (fun σ H ⟨_,sm,e⟩=>hd H sm e);rintro i x σ H hi ⟨⟨v,rfl⟩,sm,e⟩;have hil:i<xs.length:=(List.getElem?_eq_some_iff.mp hi).1;refine hs i x H _ _ hi sm (fun H3 s3 ef=>⟨⟨_,rfl⟩,sm.trans s3,by rw [s3 _ _ e,lG,ef];simp⟩) (fun y H4 s4 ef=> ?_);refine ⟨_,s4 _ _ e, ?_,⟨_,rfl⟩,(sm.trans s4).newly hD, ?_⟩
 ·have:=uZ f i
  rw [sizeLine_eq];omega
 ·rw [au,lG,ef];rfl
theorem Oo (f:Nat->Option V) (hD:H1 D=none) (hq:H1 a=some (.tup xs)) (hx:xs.length<=100000)
 (hs:∀i x H (G:Hp->Prop) (F:VK),xs[i]? = some x->Same H1 H->(∀H',Same H H'->f i=none->G H')->(∀y H',Same H H'->f i=some y->F y H')->tc (some x::rest) H fun b H3=>if b=true then te (some x::rest) H3 F else G H3)
 (hd:∀H,Same H1 H->H D=some (.lst ((List.range xs.length).filterMap f))->Q (.ref D) H):tQ (Itt K a) (tM 0) tc te Q D (none::rest) H1:=by
 refine Rp (K:=K) (xs:=xs) (fun i σ H=>(∃v,σ=v::rest)/\Same H1 H/\H D=some (.lst ((List.range i).filterMap f))) ⟨⟨none,rfl⟩,aJ hD,au⟩ (fun i σ H _ ⟨_,sm,_⟩=>eV.of (sm.tups _ _ hq)) ?_ (fun σ H ⟨_,sm,e⟩=>hd H sm e);rintro i x σ H hi ⟨⟨v,rfl⟩,sm,e⟩;have hil:i<xs.length:=(List.getElem?_eq_some_iff.mp hi).1;refine hs i x H _ _ hi sm (fun H3 s3 ef=>⟨⟨_,rfl⟩,sm.trans s3,by rw [s3 _ _ e,lG,ef];simp⟩) (fun y H4 s4 ef=> ?_);refine ⟨_,s4 _ _ e, ?_,⟨_,rfl⟩,(sm.trans s4).newly hD, ?_⟩
 ·have:=uZ f i
  rw [sizeLine_eq];omega
 ·rw [au,lG,ef];rfl
theorem mY {n:Nat} (f:Nat->Option V) (hD:H1 D=none) (hx:n<=100000)
 (hs:∀i H (G:Hp->Prop) (F:VK),i<n->Same H1 H->(∀H',Same H H'->f i=none->G H')->(∀y H',Same H H'->f i=some y->F y H')->tc (some (.int (0+i))::rest) H fun b H3=>if b=true then te (some (.int (0+i))::rest) H3 F else G H3)
 (hd:∀H,Same H1 H->H D=some (.lst ((List.range n).filterMap f))->Q (.ref D) H):tQ (Vo 0 n) (tM 0) tc te Q D (none::rest) H1:=by
 refine Cq (lo:=0) (n:=n) (fun i σ H=>(∃v,σ=v::rest)/\Same H1 H/\H D=some (.lst ((List.range i).filterMap f))) ⟨⟨none,rfl⟩,aJ hD,au⟩ ?_ (fun σ H ⟨_,sm,e⟩=>hd H sm e);rintro i σ H hi ⟨⟨v,rfl⟩,sm,e⟩;refine hs i H _ _ hi sm (fun H3 s3 ef=>⟨⟨_,rfl⟩,sm.trans s3,by rw [s3 _ _ e,lG,ef];simp⟩) (fun y H4 s4 ef=> ?_);refine ⟨_,s4 _ _ e, ?_,⟨_,rfl⟩,(sm.trans s4).newly hD, ?_⟩
 ·have:=uZ f i
  rw [sizeLine_eq];omega
 ·rw [au,lG,ef];rfl
theorem zp {l1 l2:Addr} {ys:List V} {n:Nat} (hn1:xs.length=n) (hn2:ys.length=n) (f:Nat->Option V) (hD:H1 D=none) (hq1:bK K H1 l1 xs) (hq2:bK K H1 l2 ys) (hx:n<=100000)
 (hs:∀i x y H (G:Hp->Prop) (F:VK),xs[i]? = some x->ys[i]? = some y->Same H1 H->(∀H',Same H H'->f i=none->G H')->(∀y H',Same H H'->f i=some y->F y H')->tc (some x::some y::rest) H fun b H3=>if b=true then te (some x::some y::rest) H3 F else G H3)
 (hd:∀H,Same H1 H->H D=some (.lst ((List.range n).filterMap f))->Q (.ref D) H):tQ (Itz K l1 l2) (Yl K 2 (Rc (tM 0) (Rc (tM 1) aaM))) tc te Q D (none::none::rest) H1:=by
 refine Ro (K:=K) (xs:=xs) (ys:=ys) hn1 hn2 (fun i σ H=>(∃u v,σ=u::v::rest)/\Same H1 H/\H D=some (.lst ((List.range i).filterMap f))) ⟨⟨none,none,rfl⟩,aJ hD,au⟩ (fun i σ H _ ⟨_,sm,_⟩=>⟨sm.sqL _ _ hq1,sm.sqL _ _ hq2⟩) ?_ (fun σ H ⟨_,sm,e⟩=>hd H sm e);rintro i x y σ H p hix hiy ⟨⟨u,v,rfl⟩,sm,e⟩ hp;have sp:=aJ (o:=HO.tup [x,y]) hp;refine ⟨p,[x,y],rfl,eV.of au,rfl,_,_,rfl,_,_,rfl,rfl, ?_⟩;have hil:i<xs.length:=(List.getElem?_eq_some_iff.mp hix).1;refine hs i x y _ _ _ hix hiy (sm.trans sp) (fun H3 s3 ef=>⟨⟨_,_,rfl⟩,(sm.trans sp).trans s3,by rw [s3 _ _ (sp _ _ e),lG,ef];simp⟩) (fun y H4 s4 ef=> ?_);refine ⟨_,s4 _ _ (sp _ _ e), ?_,⟨_,_,rfl⟩,((sm.trans sp).trans s4).newly hD, ?_⟩
 ·have:=uZ f i
  rw [sizeLine_eq];omega
 ·rw [au,lG,ef];rfl
theorem pG {α β:Type} {f g:α->Option β}:∀(l:List α) (_:True) (h:∀x∈l,f x=g x),l.filterMap f=l.filterMap g
 | [],_,_=>rfl
 | x::l,_,h=>by
   rw [List.filterMap_cons,List.filterMap_cons,h x (by simp),pG l trivial fun y hy=>h y (by simp [hy])]
theorem snocInd {α:Type} {P:List α->Prop} (h0:P []) (hs:∀xs x,P xs->P (xs++[x])) (xs:List α):P xs:=by
 rw [←List.reverse_reverse xs]
 induction xs.reverse with
 | nil=>exact h0
 | cons x l ih=>rw [List.reverse_cons];exact hs _ _ ih
theorem yq {α β:Type} (xs:List α) (g:α->β):(List.range xs.length).filterMap (fun i=>(xs[i]?).map g)=xs.map g:=by
 refine snocInd (P:=fun xs=>(List.range xs.length).filterMap (fun i=>(xs[i]?).map g)=xs.map g) rfl (fun xs x ih=> ?_) xs
 ·show (List.range (xs++[x]).length).filterMap (fun i=>((xs++[x])[i]?).map g)=(xs++[x]).map g
  rw [List.length_append,List.length_singleton,lG,List.map_append];congr 1
  ·rw [←ih]
   refine pG _ trivial fun i hi=> ?_;have:i<xs.length:=by simpa using hi
   rw [List.getElem?_append_left this]
  ·simp
end
end L2
namespace L2
open PySem
section
variable {X:Cx} {K:PySem.W.Frag}
theorem Bw (h:X.K=K):xq X (binaryOp .Add) (VL K):=by subst h;exact Ld
end
end L2
namespace L2
open PySem
theorem gB {a b:TS} {D:Ends} {σ:St} {H:Hp} (P:St->Hp->Prop) (h1:∀D':Ends,(∀σ' H',P σ' H'->D'.nx σ' H')->D'.rt=D.rt->a D' σ H) (h2:∀σ' H',P σ' H'->b D σ' H'):Zz a b D σ H:=h1 _ h2 rfl
end L2
namespace L2
open PySem PySem.Spec PyProof.Rows
section
variable {X:Cx} {K:PySem.W.Frag} {a:Expr} {ta:TE} {pos:Pos}
def adE (K:PySem.W.Frag) (ta:TE):TT:=fun σ H Q=>ta σ H fun x H'=>∃k,Vj K x H' k/\Q k H'
def ZF (K:PySem.W.Frag) (ta:TE):TE:=fun σ H Q=>ta σ H fun x H'=>∃k,Vj K x H' k/\Q (.bl (!k)) H'
theorem vp (h:X.K=K) (ha:PE X a ta) (he:∀whole,isTrue a X.env whole=(do let v ←whole;standAt a.pos;holding [v] (truthy v)):=by intro _;rfl):PT X a (adE K ta):=by
 subst h;exact Qh ha he
theorem TV (h:X.K=K) (ha:PE X a ta):PE X (.UnaryOp .Not a pos) (ZF K ta):=by
 subst h;intro pins s σ H Q I h;refine UnaryOp_ (gU (ha pins s σ H _ I h) fun v s1 ⟨x,H1,I1,r1,q1⟩=> ?_);obtain ⟨k,e,q1⟩:=q1;exact not_of (gU (Pz pins s1 σ H1 x v (fun b H=>Q (.bl (!b)) H) I1 r1 ⟨k,e,q1⟩) fun b s2 ⟨H2,I2,q2⟩=>⟨.bl (!b),H2,I2,rfl,q2⟩)
end
end L2
set_option Elab.async false
set_option linter.all false
set_option maxRecDepth 100000
set_option maxHeartbeats 4000000
namespace L2
open PySem PySem.Spec PyProof.Rows
section
variable {X:Cx} {K:PySem.W.Frag}
end
section
variable {K:PySem.W.Frag} {a D:Addr} {xs:List V} {te:TE} {Q:VK} {rest:St} {H1:Hp}
theorem E_ {H:Hp} {vs:List V} {ds:List PyData} {v:V} {d:PyData} (h:bf H vs ds) (hd:Dat H v d):bf H (vs++[v]) (ds++[d]):=bf.append h (by simp only [bf,and_true];exact hd)
end
end L2
set_option Elab.async false
set_option linter.all false
namespace L2
open PySem
end L2
set_option Elab.async false
set_option linter.all false
set_option maxRecDepth 100000
set_option maxHeartbeats 4000000
namespace L2
open PySem PySem.Spec PyProof.Rows
section
variable {prog:Program} {w:World} {K:Type} [DecidableEq K] {knd:HeapKind prog w K}
theorem Ko {xs:List (K×Addr×Value)} {k:K} (h:∀(j:Nat) (p:Addr×Value),xs[j]? ≠ some (k,p)):atKey xs k=none:=by
 unfold atKey;rw [Option.map_eq_none_iff,List.find?_eq_none];intro x hx e;obtain ⟨j,hj⟩:=List.getElem?_of_mem hx;have e':x.1=k:=of_decide_eq_true e;exact h j x.2 (by rw [hj,←e'])
theorem Km {xs:List (K×Addr×Value)} {k:K} {j:Nat} {p:Addr×Value} (hn:(xs.map (·.1)).Nodup) (h:xs[j]? = some (k,p)):atKey xs k=some p:=by
 unfold atKey
 induction xs generalizing j with
 | nil=>cases h
 | cons x xs ih=>
   rw [List.find?_cons];cases j with
   | zero=>
     have:x=(k,p):=by simpa using h
     subst this;simp
   | succ j=>
     have hj:xs[j]? = some (k,p):=by simpa using h
     have hn':=List.nodup_cons.mp (by simpa using hn:(x.1::xs.map (·.1)).Nodup);have ne:¬x.1=k:=fun z=>hn'.1 (by rw [z];exact List.mem_map.mpr ⟨(k,p),List.mem_of_getElem? hj,rfl⟩);rw [decide_eq_false ne];exact ih hn'.2 hj
theorem vM {A:Around} {E:Value->Shared->Prop} {s:Shared} {d a:Addr} {xs:List (K×Addr×Value)} {k:K} {dflt:Value} {Q:Value->Shared->Prop}
 (hr:knd.room A) (hk:knd.is s.heap k a) (dd:Heap.DictOfH knd s.heap d xs) (hz:xs.length<=sizeLine)
 (h1:∀p,atKey xs k=some p->Q p.2 {s with toks:=s.toks+knd.draws k})
 (h2:atKey xs k=none -> ∀h',Heap.DictOfH knd h' d (xs++[(k,a,dflt)])->Heap.SameBut d s.heap h'->Q dflt {s with heap:=h',toks:=s.toks+knd.draws k}):
 wpAny (model prog w) A (dictSetDefault d (.ref a) dflt) Q E s:=by
 unfold dictSetDefault;refine wpAny_holding (wpAny_bind (knd.pyHash hr hk ?_));obtain ⟨o,es,ep,ho,hx,hd,he,hi,hn⟩:=id dd;have hl:es.size=xs.length:=by rw [←Array.length_toList,he,List.length_map]
 refine wpAny_bind (wpAny_dictFind_heap (s:={s with toks:=s.toks+knd.draws k}) hr hk ho hd he hi hn (fun hno=> ?_) (fun j p hj=> ?_))
 ·refine wpAny_bind (wpAny_rule ?_)
  have an:=Ko hno;refine wpAny_bind (wpAny_updateDictKeys (s:={s with toks:=s.toks+knd.draws k}) ho hd ?_ (by omega) (by simp));refine wpAny_pure ?_;have sb:=Heap.SameBut.update s.heap d (Obj.mapDictKeys fun x=>x.push {hash:=knd.hash k,key:= .ref a,val:=dflt});refine h2 an _ ?_ sb;obtain ⟨oc,od,ae6,osl⟩:=o;simp only at hd;subst hd;refine ⟨_,es.push {hash:=knd.hash k,key:= .ref a,val:=dflt},ep+1,Heap.get?_update_self _ ho ?_,hx,rfl, ?_, ?_, ?_⟩
  ·obtain ⟨c1,c2,c3⟩:=hx
   simp only at c1;subst c1;rfl
  ·rw [Array.toList_push,he,List.map_append];rfl
  ·intro x QW
   rcases List.mem_append.mp QW with QW|QW
   ·exact knd.keeps (hi x QW) ho rfl sb
   ·have:x=(k,a,dflt):=by simpa using QW
    subst this;exact knd.keeps hk ho rfl sb
  ·rw [List.map_append]
   refine List.nodup_append.mpr ⟨hn,by simp, ?_⟩;intro y hy z hz' e;have:z=k:=by simpa using hz'
   subst this;subst e;obtain ⟨x,hx',rfl⟩:=List.mem_map.mp hy;obtain ⟨j,hj⟩:=List.getElem?_of_mem hx';exact hno j x.2 hj
 ·refine wpAny_bind (wpAny_dictEntries (s:={s with toks:=s.toks+knd.draws k}) ho hd ?_)
  have ej:es[j]? = some (entryOfKey knd (k,p)):=by
   rw [←Array.getElem?_toList,he,List.getElem?_map,hj];rfl
  rw [ej];exact wpAny_bind (wpAny_rule (wpAny_pure (h1 p (Km hn hj))))
theorem yg (knd:HeapKind prog w K) (d a:Addr) (hd:(d==sysModules)=false) (dflt:Value):MeetsIn prog w (Builtin.«dict.setdefault» {pos:=[.ref d,.ref a,dflt]}) fun A R s=>
 knd.room A.in1 /\ ∃k xs,knd.is s.heap k a/\Heap.DictOfH knd s.heap d xs/\xs.length<=sizeLine/\(∀p,atKey xs k=some p->R (.ok (.ret p.2)) {s with toks:=s.toks+knd.draws k}) /\
  (atKey xs k=none -> ∀h',Heap.DictOfH knd h' d (xs++[(k,a,dflt)])->Heap.SameBut d s.heap h'->R (.ok (.ret dflt)) {s with heap:=h',toks:=s.toks+knd.draws k}):=by
 rintro A R s ⟨hr,k,xs,hk,dd,hz,h1,h2⟩;obtain ⟨o,es,ep,ho,hx,hdat,_⟩:=id dd;unfold Builtin.«dict.setdefault»;have ht:s.TypeIs (.ref d) "dict" :=⟨o,ho,hx.1⟩;refine wpAny_bind ?_;unfold Builtin.Dict.keyAndDefault;refine wpAny_bind ?_;unfold Builtin.Dict.notOrdered;rw [if_pos (by decide)];refine wpAny_bind (wpAny_typeOf ht ?_);rw [if_neg (by decide)];refine wpAny_pure ?_;refine wpAny_bind ?_;unfold Builtin.Dict.nameIsSure;rw [if_neg (by show ¬(false=true);decide)];refine wpAny_pure ?_;refine wpAny_bind ?_;unfold selfAndSome noKeywords;refine wpAny_bind ?_;rw [if_pos (by rfl)];refine wpAny_pure ?_;show wpAny (model prog w) A.in1 (checkCount "setdefault" 1 2 2 >>= fun _=>pure (Value.ref d,[Value.ref a,dflt])) _ _ s;refine wpAny_bind ?_;have ck:checkCount "setdefault" 1 2 2=pure ():=rfl;rw [ck];refine wpAny_pure (wpAny_pure ?_);show wpAny (model prog w) A.in1 (Builtin.Dict.addrOf (.ref d) >>= fun x=>pure (x,Value.ref a,some dflt)) _ _ s;refine wpAny_bind (wpAny_pure (wpAny_pure ?_));show wpAny (model prog w) A.in1 (if (d==sysModules)=true then _ else (dictSetDefault d (.ref a) dflt >>= fun v=>ret v)) _ _ s;rw [if_neg (by rw [hd];decide)];refine wpAny_bind (vM hr hk dd hz (fun p hp=>wpAny_pure (h1 p hp)) (fun hn h' O4 sb=>wpAny_pure (h2 hn h' O4 sb)))
end
section
variable {X:Cx} {o e f:Expr} {td ty tx:TE} {apos cpos:Pos}
def Wu (td ty tx:TE):TE:=fun σ H Q=>td σ H fun x H1=>∃a,x = .ref a/\IsD H1 a/\ty σ H1 fun y H2=>tx σ H2 fun z H3=>∃kvs k b,H3 a=some (.dT kvs)/\y = .ref b/\H3 b=some (.tup (k.map kV))/\kvs.length<sizeLine /\
 (∀v,gR kvs k=some v->Q v H3)/\(gR kvs k=none->Q z (upd H3 a (.dT (putK kvs k z))))
theorem Qj (hu:X.A.units+1<cLine) (ho:PE X o td) (he:PE X e ty) (hf:PE X f tx) (m:M2 X o "setdefault" apos e f cpos):PE X (.Call (.Attribute o "setdefault" apos) [e,f] [] cpos) (Wu td ty tx):=by
 intro pins s σ H Q I h;refine wpAny_Call_method m.base m.few m.line PySem.F.plainAttrs_dict PySem.F.slot_dict_setdefault PySem.F.type_dict_setdefault (gU (ho pins s σ H _ I h) fun u s1 ⟨x,H1,I1,rx,a,ex,d,q1⟩=> ?_);subst ex;obtain rfl:u=Value.ref a:=rx;obtain ⟨t1,t2,_⟩:=J9 I1 d;refine ⟨t1,t2, ?_⟩;rw [m.trees]
 refine Calls.callWith_builtin rfl (Calls.evalArgs_plain (Calls.spliced_cons (gU (he pins s1 σ H1 _ I1 q1) fun iv s2 ⟨y,H2,I2,ry,q2⟩=>
  Calls.spliced_cons (gU (hf pins s2 σ H2 _ I2 q2) fun fv s3 ⟨z,H3,I3,rz,kvs,k,b,ea,ey,eb,hl,q3,q4⟩=>Calls.spliced_nil ?_))))
 subst ey;cases (show iv=Value.ref b from ry);obtain ⟨hz,hd,xs,rel,dd⟩:=zF I3.hok ea;have hz':xs.length<=sizeLine:=by rw [←Paired.length rel];exact hz
 have rv:=rel.val k;refine call_meetsIn PySem.F.slot_dict_setdefault dd.typeIs PySem.F.entry_dict_setdefault (PySem.F.args_dict_setdefault_3 _ _ _) (yg (tupleKind (d_ X.prog X.w)) a b hd fv) ⟨tupleKind_room_in1 hu,k,xs,qY I3.hok eb,dd,hz',fun p hp=> ?_,fun hn h' O4 sb=> ?_⟩
 ·rw [hp] at rv
  cases lv:gR kvs k with
  | none=>rw [lv] at rv;exact absurd rv (by simp [xg])
  | some v=>
    rw [lv] at rv;exact ⟨v,H3,I3.tok _,rv,q3 v lv⟩
 ·rw [hn] at rv
  have lv:gR kvs k=none:=by
   cases lv:gR kvs k with
   | none=>rfl
   | some v=>rw [lv] at rv;exact absurd rv (by simp [xg])
  have hl':(putK kvs k z).length<=sizeLine:=by have:=jO kvs k z;omega
  obtain ⟨q,es,ep,hq,h2,h3,h4,_,h5⟩:=O4;have est:storedH xs k b fv=xs++[(k,b,fv)]:=by unfold storedH;rw [hn];rfl
  have rp:=rel.put k eb rz;rw [est] at rp;refine ⟨z,upd H3 a (.dT (putK kvs k z)),vI (ob:= .dT (putK kvs k z)) I3 (by rw [ea];exact True.intro) sb ⟨q,hq⟩ ⟨hl',hd,_,rp.keeps fun c ys ec=> ?_,q,es,ep,hq,h2,h3,h4,h5⟩,rz,q4 lv⟩;rw [cC (tK ec ea (fun z=>nomatch z))];exact ec
end
end L2
namespace L2
open PySem PySem.Spec PyProof.Rows
section
variable {X:Cx} {K:PySem.W.Frag}
def Z9 (K:PySem.W.Frag):V->V->Hp->VK->Prop:=fun x y H Q=>∃p xs i v,x = .ref p/\y = .int i/\bK K H p xs/\0<=i/\xs[i.toNat]? = some v/\Q v H
theorem Bu (h:X.K=K):abF X (Z9 K):=by
 subst h;intro pins s σ H o i ov iv Q I ro ri h;obtain ⟨p,xs,k,v,rfl,rfl,hq,k0,he,q⟩:=h;cases ro;obtain ⟨t,rfl⟩:=ri;obtain ⟨its,r,pl,hz⟩:=I.list hq;obtain ⟨w,ew,rw'⟩:=r.get he;have hl:=r.length;have hn:=tu;have:k.toNat<xs.length:=(List.getElem?_eq_some_iff.mp he).1;exact getItem_listL pl.isList k0 (by omega) ew ⟨v,H,I,rw',q⟩
end
end L2
namespace L2
open PySem
theorem Ip {K:PySem.W.Frag} {T:String} {r:V->List V->Hp->VK->Prop} {to:TE} {t:TA} {D:Ends} {σ:St} {H:Hp} (P:V->Hp->Prop) (h1:∀Q':VK,(∀v H',P v H'->Q' v H')->to σ H Q') (h2:∀v H',P v H'->tyV K T v H'/\t σ H' fun xs H2=>r v xs H2 fun _ H3=>D.nx σ H3):Vy (tBM K T r to t) D σ H:=h1 _ h2
end L2
set_option Elab.async false
set_option linter.all false
set_option maxRecDepth 100000
set_option maxHeartbeats 4000000
namespace L2
open PySem PySem.Spec PyProof.Rows
section
variable {X:Cx} {K:PySem.W.Frag}
end
def cat:List Str->Str
 | []=>Str.empty
 | x::xs=>x++cat xs
end L2
set_option Elab.async false
set_option linter.all false
set_option maxRecDepth 100000
set_option maxHeartbeats 4000000
namespace L2
open PySem PySem.Spec PyProof.Rows
section
variable {X:Cx} {body suite:List Stmt} {b0:Stmt} {cn:Str} {Dc:Addr} {tb:(St->XK)->TS} {th:TS} {cp hpos pos:Pos}
end
end L2
namespace L2
open PySem PySem.Spec PyProof.Rows
section
variable {X:Cx}
def abM (i j:Int):Prop:=0<j/\j<1329227995784915872903807060280344576
theorem Qn:xq X (binaryOp .FloorDiv) (rI abM fun i j=> .int (i / j)):=opI fun i j _ _ _ _ _ hc q=>by
 have h1:(0:Int)<j:=hc.1;have h2:j<1329227995784915872903807060280344576:=hc.2;refine floordiv_int (by omega) (by rw [Int.fdiv_eq_ediv_of_nonneg i (by omega)];exact q) (.inl ?_);unfold Builtin.divisionGoesByPylong;have hn:j.natAbs<2 ^ 120:=by omega
 have hl:j.natAbs.log2<120:=(Nat.log2_lt (by omega)).mpr hn
 have hz:(j==0)=false:=by
  rw [beq_eq_false_iff_ne];omega
 simp only [hz,Bool.false_eq_true,if_false];have:¬j.natAbs.log2 / 30+1>300:=by omega
 rw [decide_eq_false this,Bool.false_and]
end
end L2
set_option Elab.async false
set_option linter.all false
set_option maxRecDepth 100000
set_option maxHeartbeats 4000000
namespace L2
open PySem PySem.Spec PyProof.Rows
section
variable {X:Cx} {pins:List (Addr×Obj)} {σ:St} {H:Hp} {s:Shared} {d:Addr} {u u':HO}
theorem Inv.VG (I:Inv X pins σ H s) (e:H d=some u) (h1:∀xs,u ≠ .tup xs) (h2:∀a,u ≠ .own a) (h3:∀ps,u ≠ .Sy ps) (hz:∀o v,X.H₀ d≠some (.rM o v)) (ok:gw X.prog X.w (upd H d u') s.heap d u'):Inv X pins σ (upd H d u') s:=by
 have nd:∀{b:Addr},H b=none->b≠d:=fun q z=>by rw [z,e] at q;cases q
 have ht:∀b xs,H b=some (HO.tup xs)->(upd H d u') b=some (HO.tup xs):=fun b xs q=>by
  have:b≠d:=fun z=>by rw [z,e] at q;exact h1 xs (Option.some.inj q)
  rw [cC this];exact q
 refine ⟨I.ok,I.os,I.bare,⟨I.base.keep,I.base.slot,fun b o q n hx=> ?_,I.base.there,fun b xs q=>ht b xs (I.base.tups b xs q),fun b o v q=> ?_,fun b ps q=> ?_⟩,I.loc,I.cell, ?_,fun x c q=> ?_,fun p hp=> ?_,fun b v q=> ?_,I.len⟩
 ·have:=I.base.free b o q n hx
  rw [cC (nd this)];exact this
 ·have:=I.base.w5 b o v q
  have nb:b≠d:=fun z=>by rw [z] at q;exact hz o v q
  rw [cC nb];exact this
 ·obtain ⟨more,r⟩:=I.base.yU b ps q
  have nb:b≠d:=fun z=>by rw [z,e] at r;exact h3 _ (Option.some.inj r)
  exact ⟨more,by rw [cC nb];exact r⟩
 ·rw [cC (nd I.free)];exact I.free
 ·rw [cC (nd (I.ou x c q))];exact I.ou x c q
 ·obtain ⟨q1,q2,q3⟩:=I.pin p hp
  exact ⟨q1,by rw [cC (nd q2)];exact q2,q3⟩
 ·by_cases hb:b=d
  ·subst hb
   rw [au] at q;cases q;exact ok
  ·rw [cC hb] at q
   refine (I.hok b v q).stay (fun _ _ _ r=>r) (fun c r=> ?_) ht;have:c≠d:=fun z=>by rw [z,e] at r;exact h2 _ (Option.some.inj r)
   rw [cC this];exact r
end
section
variable {X:Cx} {tg:Expr}
end
section
variable {d D:Addr} {o:Obj} {kvs:List (Key×V)} {tc:TT} {te:TE} {Q:VK} {rest:St} {H1:Hp}
end
end L2
set_option Elab.async false
set_option linter.all false
set_option maxRecDepth 100000
set_option maxHeartbeats 4000000
namespace L2
open PySem PySem.Spec PyProof.Rows
section
variable {X:Cx} {tg:Expr}
theorem zG (v:Nat->Int):∀n,argBest (fun i j=>decide (v i<v j)) n<=n /\ ∀j,j<=n->v (argBest (fun i j=>decide (v i<v j)) n)<=v j
 | 0=>⟨Nat.le_refl _,fun j hj=>by
   have:j=0:=by omega
   subst this;exact Int.le_refl _⟩
 | n+1=>by
   obtain ⟨l,ih⟩:=zG v n;have e:argBest (fun i j=>decide (v i<v j)) (n+1)=if decide (v (n+1)<v (argBest (fun i j=>decide (v i<v j)) n)) then n+1 else argBest (fun i j=>decide (v i<v j)) n:=rfl;rw [e]
   by_cases q:v (n+1)<v (argBest (fun i j=>decide (v i<v j)) n)
   ·rw [decide_eq_true q,if_pos rfl]
    refine ⟨Nat.le_refl _,fun j hj=> ?_⟩
    by_cases hj':j=n+1
    ·subst hj';exact Int.le_refl _
    ·have:=ih j (by omega)
     omega
   ·rw [decide_eq_false q,if_neg (by decide)]
    refine ⟨by omega,fun j hj=> ?_⟩
    by_cases hj':j=n+1
    ·subst hj';omega
    ·exact ih j (by omega)
def Z7 (K:PySem.W.Frag):List V->Hp->VK->Prop:=fun xs H Q=>∃(p:Addr) (ns:List Int),xs=[.ref p]/\bK K H p (ns.map V.int)/\0<ns.length /\ ∀m,m∈ns->(∀a∈ns,m<=a)->Q (.int m) H
theorem Ke {K:PySem.W.Frag} (hK:X.K=K) (hc:X.calm=true):mZ X (.builtin "min") (Z7 K):=by
 subst hK;intro pins s σ H xs us Q I r h;obtain ⟨p,ns,rfl,hq,hpos,q⟩:=h;obtain ⟨u,rfl,rx⟩:=vals1 r;cases rx;obtain ⟨its,rv,pl,hz⟩:=I.list hq;have hlen:its.length=ns.length:=by rw [←rv.length,List.length_map]
 have item:∀(i:Nat) (v:Value),its[i]? = some v -> ∃t,v=Value.int ((ns[i]?).getD 0) t/\ns[i]? = some ((ns[i]?).getD 0):=by
  intro i v hP;have hi:i<its.length:=(List.getElem?_eq_some_iff.mp hP).1;obtain ⟨u,hu,ru⟩:=rv.get (i:=i) (x:=V.int (ns[i]'(by omega))) (by simp [show i<ns.length by omega]);rw [hP] at hu;cases hu;obtain ⟨t,ht⟩:=ru;exact ⟨t,by simp [show i<ns.length by omega,ht],by simp [show i<ns.length by omega]⟩
 refine call_min_walk (wpAny_pyIter_list pl.isList ⟨s.heap.objs.size,[s.heap.objs.size,p],[s.heap.objs.size],its.length,_,_,fun i j=>decide ((ns[i]?).getD 0<(ns[j]?).getD 0),rfl,
  sy (show X.A.in1.handled=none from I.ok.hd hc) s.heap.objs.size p ?_ its,⟨⟨_,Heap.get?_push_size _ rfl,rfl,rfl⟩, ?_⟩, ?_,by omega, ?_, ?_⟩)
 ·intro z
  obtain ⟨o,ho,_⟩:=pl.isList;have:=Heap.lt_size ho;rw [←z] at this;exact Nat.lt_irrefl _ this
 ·obtain ⟨o,ho,hcl⟩:=pl.isList
  exact ⟨o,Heap.get?_push_of_some _ ho,hcl⟩
 ·intro b hb
  have hsz:(s.heap.push {cls:= .type "list_iterator",data:= .fields #[.ref p,.int 0 0]}).objs.size=s.heap.objs.size+1:=by simp [Heap.push]
  have hb':b=s.heap.objs.size\/b=p:=by simpa using hb
  show b<(s.heap.push _).objs.size;rw [hsz];rcases hb' with rfl|rfl
  ·exact Nat.lt_succ_self _
  ·obtain ⟨o,ho,_⟩:=pl.isList
   exact Nat.lt_succ_of_lt (Heap.lt_size ho)
 ·intro i j vi vj s' Q' E' hi hj hQ
  obtain ⟨t,rfl,_⟩:=item i vi hi;obtain ⟨t',rfl,_⟩:=item j vj hj;exact lt_int hQ
 ·intro v h' tk hv k
  obtain ⟨t,rfl,hm⟩:=item _ v hv;obtain ⟨l,ih⟩:=zG (fun i=>(ns[i]?).getD 0) (its.length - 1);have f:=I.Gw (H':=H) (b:=s.heap.objs.size) (Nat.le_refl _) (I.hok.fresh (Nat.le_refl _));have I2:Inv X pins σ H {s with heap:=h',toks:=tk}:=I.turned (h':=h') (t':=tk) (it:=s.heap.objs.size) (fun b o hb e=>k b o (by simpa using hb) (Heap.get?_push_of_some _ e)) f.1 f.2.1 f.2.2.2.1 f.2.2.2.2.1 f.2.2.2.2.2;refine ⟨.int _,H,I2,⟨_,rfl⟩,q _ (List.mem_of_getElem? hm) fun a ha=> ?_⟩;obtain ⟨j,hj⟩:=List.getElem?_of_mem ha;have hjl:=(List.getElem?_eq_some_iff.mp hj).1;have:=ih j (by omega);simpa [hj] using this
end
end L2
set_option Elab.async false
set_option linter.all false
set_option maxRecDepth 100000
set_option maxHeartbeats 4000000
namespace L2
open PySem PySem.Spec PyProof.Rows
section
variable {X:Cx} {tg:Expr}
end
end L2
set_option Elab.async false
set_option linter.all false
set_option maxRecDepth 100000
set_option maxHeartbeats 4000000
namespace L2
open PySem PySem.Spec PyProof.Rows
def aeu (K:PySem.W.Frag) (neg:Bool):R2:=fun x y H Q=>∃(p:Addr) (vs:List V) (d:PyData) (ds:List PyData),y = .ref p/\bK K H p vs/\bf H vs ds/\Dat H x d/\SeqAt.shaped d=true/\(∀e∈ds,SeqAt.shaped e=true)/\Q (.bl (if neg then !(ds.any fun e=>PyData.eqv e d) else ds.any fun e=>PyData.eqv e d)) H
section
variable {X:Cx}
theorem KH {H:Hp} {pins:List (Addr×Obj)} {σ:St} {s:Shared} (I:Inv X pins σ H s):∀{vs:List V} {us:List Value} {ds:List PyData},Vals vs us->bf H vs ds -> ∀u∈us,∃e∈ds,∃as,Reads s.heap u e as
 | [],_,_,.nil,_=>fun u hu=>by cases hu
 | v::vs,_,d::ds,.cons r rs,h=>fun u hu=>by
   simp only [bf] at h;rcases List.mem_cons.mp hu with rfl|hu
   ·obtain ⟨as,ra⟩:=I.reads d h.1 r
    exact ⟨d,by simp,as,ra⟩
   ·obtain ⟨e,he,q⟩:=KH I rs h.2 u hu
    exact ⟨e,by simp [he],q⟩
 | _::_,_,[],.cons _ _,h=>by simp only [bf] at h
theorem KD {H:Hp} {pins:List (Addr×Obj)} {σ:St} {s:Shared} (I:Inv X pins σ H s):∀{vs:List V} {us:List Value} {ds:List PyData},Vals vs us->bf H vs ds -> ∀e∈ds,∃u∈us,∃as,Reads s.heap u e as
 | [],_,[],.nil,_=>fun e he=>by cases he
 | [],_,_::_,.nil,h=>by simp only [bf] at h
 | v::vs,_,d::ds,.cons r rs,h=>fun e he=>by
   simp only [bf] at h;rcases List.mem_cons.mp he with rfl|he
   ·obtain ⟨as,ra⟩:=I.reads e h.1 r
    exact ⟨_,by simp,as,ra⟩
   ·obtain ⟨u,hu,q⟩:=KD I rs h.2 e he
    exact ⟨u,by simp [hu],q⟩
 | _::_,_,[],.cons _ _,h=>by simp only [bf] at h
open Classical in
noncomputable def RX (s:Shared) (ds:List PyData) (d:PyData) (u:Value):Bool:=decide (∃e∈ds,(∃as,Reads s.heap u e as)/\PyData.eqv e d=true)
open Classical in
theorem Af {s:Shared} {ds:List PyData} {d:PyData} {u:Value}:RX s ds d u=true ↔ ∃e∈ds,(∃as,Reads s.heap u e as)/\PyData.eqv e d=true:=by unfold RX;exact decide_eq_true_iff
theorem X3 {A:Around} {s:Shared} {ds:List PyData} {d:PyData} {u v:Value} {bs:List Addr} (hd:SeqAt.shaped d=true) (hds:∀e∈ds,SeqAt.shaped e=true) (hu:A.units+64<cLine) (rv:Reads s.heap v d bs) (h:∃e∈ds,∃as,Reads s.heap u e as):SeqAt.EqAt A s u v (RX s ds d u):=by
 by_cases q:∃e∈ds,(∃as,Reads s.heap u e as)/\PyData.eqv e d=true
 ·have:RX s ds d u=true:=Af.mpr q
  rw [this];obtain ⟨e,he,⟨as,ra⟩,ee⟩:=q;have:=SeqAt.eqAt_reads e d A s u v as bs ra rv (SeqAt.canLay_of_shaped (hds e he)) (SeqAt.canLay_of_shaped hd) (SeqAt.room_of_shaped (hds e he) hu);rwa [ee] at this
 ·have:RX s ds d u=false:=by
   cases z:RX s ds d u with
   | false=>rfl
   | true=>exact absurd (Af.mp z) q
  rw [this];obtain ⟨e,he,as,ra⟩:=h
  have ee:PyData.eqv e d=false:=by
   cases z:PyData.eqv e d with
   | false=>rfl
   | true=>exact absurd ⟨e,he,⟨as,ra⟩,z⟩ q
  have:=SeqAt.eqAt_reads e d A s u v as bs ra rv (SeqAt.canLay_of_shaped (hds e he)) (SeqAt.canLay_of_shaped hd) (SeqAt.room_of_shaped (hds e he) hu);rwa [ee] at this
theorem Uw {H:Hp} {pins:List (Addr×Obj)} {σ:St} {s:Shared} (I:Inv X pins σ H s) {vs:List V} {us:List Value} {ds:List PyData} {d:PyData} (r:Vals vs us) (h:bf H vs ds):us.toArray.any (RX s ds d)=ds.any fun e=>PyData.eqv e d:=by
 rw [show us.toArray.any (RX s ds d)=us.any (RX s ds d) by simp,Bool.eq_iff_iff,List.any_eq_true,List.any_eq_true];constructor
 ·rintro ⟨u,hu,e⟩
  obtain ⟨e,he,_,ee⟩:=Af.mp e;exact ⟨e,he,ee⟩
 ·rintro ⟨e,he,ee⟩
  obtain ⟨u,hu,q⟩:=KD I r h e he;exact ⟨u,hu,Af.mpr ⟨e,he,q,ee⟩⟩
theorem T6 {K:PySem.W.Frag} (hK:X.K=K) (hu:X.A.in1.units+64<cLine):xq X (compareOp .In) (aeu K false):=by
 subst hK;intro pins s σ H x y v u Q I rx ry h;obtain ⟨p,vs,d,ds,rfl,hq,hds,hd,s1,s2,q⟩:=h;cases ry;obtain ⟨its,r,pl,hz⟩:=I.list hq;obtain ⟨bs,rv⟩:=I.reads d hd rx;refine SeqAt.in_listAt (RX s ds d) pl.isList (fun w hw=>X3 s1 s2 hu rv (KH I r hds w (by simpa using hw))) ⟨.bl _,H,I,rfl, ?_⟩;rw [Uw I r hds];exact q
end
end L2
set_option Elab.async false
set_option linter.all false
set_option maxRecDepth 100000
set_option maxHeartbeats 4000000
namespace L2
open PySem PySem.Spec PyProof.Rows
section
variable {H H':Hp}
mutual
theorem Dat.same (k:Same H H'):∀(d:PyData) {v:V},Dat H v d->Dat H' v d
 | .none,_,h=>by simp only [Dat] at h ⊢;exact h
 | .bool _,_,h=>by simp only [Dat] at h ⊢;exact h
 | .int _,_,h=>by simp only [Dat] at h ⊢;exact h
 | .str _,_,h=>by simp only [Dat] at h ⊢;exact h
 | .list ds,_,h=>by simp only [Dat] at h ⊢;obtain ⟨a,vs,e,q,r⟩:=h;exact ⟨a,vs,e,k _ _ q,bf.same k ds r⟩
 | .tuple ds,_,h=>by simp only [Dat] at h ⊢;obtain ⟨a,vs,e,q,r⟩:=h;exact ⟨a,vs,e,k _ _ q,bf.same k ds r⟩
 | .dict _,_,h=>by simp only [Dat] at h
theorem bf.same (k:Same H H'):∀(ds:List PyData) {vs:List V},bf H vs ds->bf H' vs ds
 | [],[],_=>by simp only [bf]
 | d::ds,v::vs,h=>by simp only [bf] at h ⊢;exact ⟨Dat.same k d h.1,bf.same k ds h.2⟩
 | _::_,[],h=>by simp only [bf] at h
 | [],_::_,h=>by simp only [bf] at h
end
end
section
variable {X:Cx} {K:PySem.W.Frag}
end
section
variable {K:PySem.W.Frag} {a D:Addr} {xs:List V} {tc:TT} {te:TE} {Q:VK} {rest:St} {H1:Hp}
theorem Gr {f:Nat->Option PyData} (hf:∀i d,f i=some d->Ux d=true):∀l:List Nat,Ih (l.filterMap f)=true
 | []=>rfl
 | i::l=>by
   rw [List.filterMap_cons];cases e:f i with
   | none=>exact Gr hf l
   | some d=>simp only [Ih,hf i d e,Gr hf l,Bool.and_self]
theorem Fg (f:Nat->Option PyData) (hf:∀i d,f i=some d->Ux d=true) (hD:H1 D=none) (hq:bK K H1 a xs) (hx:xs.length<=100000)
 (hs:∀i x H (G:Hp->Prop) (F:VK),xs[i]? = some x->Same H1 H->(∀H',Same H H'->f i=none->G H')->(∀y d H',Same H H'->f i=some d->Dat H' y d->F y H')->tc (some x::rest) H fun b H3=>if b=true then te (some x::rest) H3 F else G H3)
 (hd:∀H vs,Same H1 H->H D=some (.lst vs)->bf H vs ((List.range xs.length).filterMap f)->Q (.ref D) H):tQ (Vp K a) (tM 0) tc te Q D (none::rest) H1:=by
 refine zq (K:=K) (xs:=xs) (fun i σ H=>(∃v,σ=v::rest)/\Same H1 H /\ ∃vs,H D=some (.lst vs)/\bf H vs ((List.range i).filterMap f)) ⟨⟨none,rfl⟩,aJ hD,[],au,by simp [bf]⟩ (fun i σ H _ ⟨_,sm,_⟩=>sm.sqL _ _ hq) ?_ (fun σ H ⟨_,sm,vs,e,d⟩=>hd H vs sm e d);rintro i x σ H hi ⟨⟨v,rfl⟩,sm,vs,e,d⟩;have hil:i<xs.length:=(List.getElem?_eq_some_iff.mp hi).1;have im:=Gr hf (List.range i);refine hs i x H _ _ hi sm (fun H3 s3 ef=>⟨⟨_,rfl⟩,sm.trans s3,vs,s3 _ _ e, ?_⟩) (fun y dd H4 s4 ef dy=> ?_)
 ·rw [lG,ef]
  simpa using bf.keep s3.tups _ im d
 ·have hl:vs.length<=i:=by rw [d.length];exact uZ f i
  have kp:Kp D H4 (upd H4 D (.lst (vs++[y]))):=Kp.set;have tp:=kp.tups (s4 _ _ e);refine ⟨vs,s4 _ _ e, ?_,⟨_,rfl⟩,(sm.trans s4).newly hD,vs++[y],au, ?_⟩
  ·rw [sizeLine_eq];omega
  ·rw [lG,ef]
   exact E_ (bf.keep (fun a xs h=>tp _ _ (s4.tups _ _ h)) _ im d) (Dat.keep tp _ (hf i dd ef) dy)
end
section
variable {X:Cx}
def W7:R2:=fun x y H Q=>∃a b xs ys,x = .ref a/\y = .ref b/\H a=some (.tup xs)/\H b=some (.tup ys)/\xs.length+ys.length<=sizeLine /\ ∀p H',H' p=some (.tup (xs++ys))->Same H H'->Q (.ref p) H'
theorem HD:xq X (binaryOp .Add) W7:=by
 intro pins s σ H x y v u Q I rx ry h;obtain ⟨a,b,xs,ys,rfl,rfl,ha,hb,hz,q⟩:=h;cases rx;cases ry;obtain ⟨its,r1,p1,_⟩:=I.tuple (eV.of ha);obtain ⟨its2,r2,p2,_⟩:=I.tuple (eV.of hb)
 by_cases hv:its=[]
 ·obtain ⟨⟨cls,dd,data,sl⟩,ho,hc,n,hd⟩:=id p1
  obtain ⟨⟨cls2,dd2,data2,sl2⟩,ho2,hc2,n2,hd2⟩:=id p2;simp only at hc hd hc2 hd2;subst hc hd hc2 hd2
  exact concat_meets ⟨_,ho,rfl⟩ ⟨_,ho2,rfl⟩ noFill_tuple_add seq_tuple_add PySem.F.slot_tuple_add PySem.F.entry_tuple_add (PySem.F.args_tuple_add_2 _ _)
   (tuple_addW0 a b its.toArray its2.toArray n n2 dd dd2 sl sl2 (by simp [hv])) ⟨ho,ho2,⟨.ref b,H,I,rfl,q b H (by rw [hb,r1.vB.mp hv];rfl) (Same.refl _)⟩⟩
 refine HT.L_ p1 p2 hv (fun z=>⟨.ref a,H,I,rfl,q a H (by rw [ha,r2.vB.mp z,List.append_nil]) (Same.refl _)⟩) (fun z=> ?_) (by rw [←r1.length,←r2.length];exact hz);have fr:=I.hok.fresh (Nat.le_refl s.heap.objs.size);refine ⟨.ref s.heap.objs.size,_,I.laid (t':=s.toks) (o:= .tup (xs++ys)) (fun b ob q=>Heap.get?_push_of_some _ q) (Nat.le_refl _) ?_,rfl,q _ _ au (aJ fr)⟩;exact ⟨by rw [List.length_append];exact hz,_,r1.append r2,IsTup.new _ _⟩
end
end L2
set_option Elab.async false
set_option linter.all false
set_option maxRecDepth 100000
set_option maxHeartbeats 4000000
namespace L2
open PySem PySem.Spec PyProof.Rows
theorem pR.Pu {k:Nat} {A:Around} (r:pR k A):A.in1.units+64<cLine:=by have:=r.un;show A.units+1+64<_;omega
section
variable {X:Cx} {K:PySem.W.Frag} {e st:Expr} {te tk:TE} {pos p2:Pos}
end
end L2
set_option Elab.async false
set_option linter.all false
set_option maxRecDepth 100000
set_option maxHeartbeats 4000000
namespace L2
open PySem PySem.Spec PyProof.Rows
section
variable {H:Hp}
mutual
theorem Dat.fn:∀(d e:PyData) {v:V},Dat H v d->Dat H v e->d=e
 | .none,e,v,h,g=>by cases e<;>simp only [Dat] at h g<;>first |rfl|(subst h;first |(obtain ⟨_,_,z,_⟩:=g;cases z;done)|(cases g;done))
 | .bool _,e,v,h,g=>by cases e<;>simp only [Dat] at h g<;>first |(subst h;first |(injection g with g;rw [g];done)|(obtain ⟨_,_,z,_⟩:=g;cases z;done)|(cases g;done))
 | .int _,e,v,h,g=>by cases e<;>simp only [Dat] at h g<;>first |(subst h;first |(injection g with g;rw [g];done)|(obtain ⟨_,_,z,_⟩:=g;cases z;done)|(cases g;done))
 | .str _,e,v,h,g=>by cases e<;>simp only [Dat] at h g<;>first |(subst h;first |(injection g with g;rw [g];done)|(obtain ⟨_,_,z,_⟩:=g;cases z;done)|(cases g;done))
 | .list ds,.list es,v,h,g=>by
   simp only [Dat] at h g;obtain ⟨a,vs,rfl,ha,da⟩:=h;obtain ⟨b,ws,e,hb,db⟩:=g;injection e with e
   subst e;rw [ha] at hb;injection hb with hb
   injection hb with hb
   subst hb;rw [bf.fn ds es da db]
 | .tuple ds,.tuple es,v,h,g=>by
   simp only [Dat] at h g;obtain ⟨a,vs,rfl,ha,da⟩:=h;obtain ⟨b,ws,e,hb,db⟩:=g;injection e with e
   subst e;rw [ha] at hb;injection hb with hb
   injection hb with hb
   subst hb;rw [bf.fn ds es da db]
 | .list ds,.tuple es,v,h,g=>by
   simp only [Dat] at h g;obtain ⟨a,vs,rfl,ha,da⟩:=h;obtain ⟨b,ws,e,hb,db⟩:=g;injection e with e
   subst e;rw [ha] at hb;injection hb with hb
   cases hb
 | .tuple ds,.list es,v,h,g=>by
   simp only [Dat] at h g;obtain ⟨a,vs,rfl,ha,da⟩:=h;obtain ⟨b,ws,e,hb,db⟩:=g;injection e with e
   subst e;rw [ha] at hb;injection hb with hb
   cases hb
 | .list ds,.none,v,h,g=>by simp only [Dat] at h g;obtain ⟨a,vs,rfl,_⟩:=h;cases g
 | .list ds,.bool _,v,h,g=>by simp only [Dat] at h g;obtain ⟨a,vs,rfl,_⟩:=h;cases g
 | .list ds,.int _,v,h,g=>by simp only [Dat] at h g;obtain ⟨a,vs,rfl,_⟩:=h;cases g
 | .list ds,.str _,v,h,g=>by simp only [Dat] at h g;obtain ⟨a,vs,rfl,_⟩:=h;cases g
 | .tuple ds,.none,v,h,g=>by simp only [Dat] at h g;obtain ⟨a,vs,rfl,_⟩:=h;cases g
 | .tuple ds,.bool _,v,h,g=>by simp only [Dat] at h g;obtain ⟨a,vs,rfl,_⟩:=h;cases g
 | .tuple ds,.int _,v,h,g=>by simp only [Dat] at h g;obtain ⟨a,vs,rfl,_⟩:=h;cases g
 | .tuple ds,.str _,v,h,g=>by simp only [Dat] at h g;obtain ⟨a,vs,rfl,_⟩:=h;cases g
 | .list ds,.dict _,v,h,g=>by simp only [Dat] at g
 | .tuple ds,.dict _,v,h,g=>by simp only [Dat] at g
 | .dict _,_,v,h,g=>by simp only [Dat] at h
theorem bf.fn:∀(ds es:List PyData) {vs:List V},bf H vs ds->bf H vs es->ds=es
 | [],[],_,_,_=>rfl
 | d::ds,e::es,v::vs,h,g=>by
   simp only [bf] at h g;rw [Dat.fn d e h.1 g.1,bf.fn ds es h.2 g.2]
 | [],_::_,[],_,g=>by simp only [bf] at g
 | [],_::_,_::_,h,_=>by simp only [bf] at h
 | _::_,[],[],h,_=>by simp only [bf] at h
 | _::_,[],_::_,_,g=>by simp only [bf] at g
 | _::_,_::_,[],h,_=>by simp only [bf] at h
end
end
section
variable {X:Cx}
end
end L2
set_option Elab.async false
set_option linter.all false
set_option maxRecDepth 100000
set_option maxHeartbeats 4000000
namespace L2
open PySem PySem.Spec PyProof.Rows
section
variable {X:Cx} {K:PySem.W.Frag} {e e1 e2 l:Expr} {te t1 t2 tl:TE} {pos:Pos} {tg:Expr}
end
section
variable {X:Cx}
end
end L2
set_option Elab.async false
set_option linter.all false
set_option maxRecDepth 100000
set_option maxHeartbeats 4000000
namespace L2
open PySem PySem.Spec PyProof.Rows PySem.Builtin PySem.Builtin.Str
section
variable {X:Cx} {K:PySem.W.Frag}
end
section
variable {K:PySem.W.Frag} {D:Addr} {tc:TT} {te:TE} {Q:VK} {rest:St} {H1:Hp}
end
section
variable {X:Cx}
end
end L2
set_option Elab.async false
set_option linter.all false
set_option maxRecDepth 100000
set_option maxHeartbeats 4000000
namespace L2
open PySem PySem.Spec PyProof.Rows PySem.Builtin PySem.Builtin.Str
end L2
set_option Elab.async false
set_option linter.all false
set_option maxRecDepth 100000
set_option maxHeartbeats 4000000
namespace L2
open PySem PySem.Spec PyProof.Rows
section
variable (P:Program) (w:World) (K:PySem.W.Frag) (mg:Str->Option Value) (base:Heap)
end
section
variable {P:Program} {w:World} {K:PySem.W.Frag} {mg:Str->Option Value} {base:Heap} {k:Nat} {C:Addr} {m x:Str} {ps:List Str} {sp:Sp} {Oh:List V}
end
section
variable {X:Cx} {k:Nat} {C:Addr} {x m:Str} {ps:List Str} {sp:Sp} {Oh:List V} {e o:Expr} {es:List Expr} {ta:TE} {t:TA} {p pos apos:Pos} {E:St->XK}
end
end L2
namespace L2
open PySem PySem.Spec PyProof.Rows PySem.Builtin PySem.Builtin.Str
section
variable {X:Cx} {K:PySem.W.Frag} {o e value:Expr} {f:Str} {pos pos' tpos:Pos} {ta tv:TE}
end
structure OD (K:PySem.W.Frag) (x qual:Str) (st:Stmt) (ds:List Value) (f:Addr) (fd:FuncData):Prop where
 ex:∃(oc:Value) (od:Option Addr) (T:Addr) (kV doc pm:Value) (an:Option Addr) (cdv ct:Value) (osl:Array (Option Value)) (tc:Value) (td:Option Addr) (tn:Nat) (KN:Array (Option Value)),
  fd=PySem.W.fnOf x qual (aN st) (aM st) (aH st) (.ref T) kV doc pm an cdv ct/\K.lookup f=some ⟨oc,od,.func fd,osl⟩/\PySem.W.codeIn K cdv qual=true/\K.lookup T=some ⟨tc,td,.seq ds.toArray tn,KN⟩
 kp:PySem.W.keepIn K (.ref f)=true
section
variable {P:Program} {w:World} {K:PySem.W.Frag} {mg:Str->Option Value} {base:Heap}
theorem OD.Jl {x qual:Str} {st:Stmt} {ds:List Value} {f:Addr} {fd:FuncData} {N ps:List Str} {k:Nat} {sp:Sp} (F:OD K x qual st ds f fd) (S:bT N ps (aH st)) (len:∀vs H Q E,sp vs H Q E->vs.length=ps.length)
 (hbody:∀(cdv:Value) (A:Around) (outer:List Env) (s:Shared) (H:Hp) (vs:List V) (Q:VK) (E:XK),pR k (A.deeper (envOfC qual (aH st) s.heap.objs.size f cdv))->sp vs H Q E ->
   Rz (tR (vU P w) P w K mg base N qual (aH st) f cdv A outer s H E) (fun _=>E) ->
   ∃t,Jh (tR (vU P w) P w K mg base N qual (aH st) f cdv A outer s H E) (aM st) t/\t {nx:=fun _ H'=>Q .non H',rt:=Q} (start N vs) H):gn P w K mg base (vU P w) (k+1) f fd ps sp:=by
 obtain ⟨oc,od,T,kV,doc,pm,an,cdv,ct,osl,tc,td,tn,KN,rfl,lk,hcd,_⟩:=F.ex;exact Rg lk hcd S len fun A outer s H vs Q E hr hsp=>hbody cdv A outer s H vs Q E hr hsp Ho
end
section
variable {X:Cx} {k:Nat} {C:Addr} {x kn:Str} {ps:List Str} {sp:Sp} {e ke:Expr} {es:List Expr} {te:TE} {t:TA} {p pos kpos:Pos} {E:St->XK}
end
end L2
set_option Elab.async false
set_option linter.all false
set_option maxRecDepth 100000
set_option maxHeartbeats 4000000
namespace L2
open PySem PySem.Spec PyProof.Rows
section
variable {prog:Program} {w:World} {A:Around} {E:Value->Shared->Prop} {s:Shared} {it d:Addr} {ep:Nat} {od:Obj} {es:Array DictEntry}
theorem J5 {Q:Value->Shared->Prop} (nsm:(d==sysModules)=false) (ho:s.heap.get? d=some od) (hx:od.ExactDict) (he:od.data = .dict es ep)
 (k:Q (.ref s.heap.objs.size) {s with heap:=s.heap.push {cls:= .type "dict_keyiterator",data:= .fields #[.ref d,.int 0 0,.int es.size 0,.int ep 0]}}):wpAny (model prog w) A (pyIter (.ref d)) Q E s:=by
 have ty:s.TypeIs (.ref d) "dict" :=⟨od,ho,hx.1⟩
 refine wpAny_pyIter_slot ty F.slot_dict_iter (wpAny_call_entry F.slot_dict_iter ty F.entry_dict_iter (by
  unfold Builtin.«dict.__iter__» Builtin.Dict.dictSlotNone;refine wpAny_bind (wpAny_bind (wpAny_notOrdered_dict ty ?_));show wpAny _ _ (pure (Value.ref d)) _ _ s;refine wpAny_pure ?_;show wpAny _ _ (Builtin.Dict.showsAll d >>= _) _ _ s;unfold Builtin.Dict.showsAll;rw [nsm];rw [if_neg Bool.false_ne_true];refine wpAny_bind (wpAny_pure (wpAny_bind (wpAny_dictEntries ho he (wpAny_bind (wpAny_dictEpoch ho he (wpAny_bind (wpAny_newObj_type (wpAny_pure ?_))))))));exact ⟨_,rfl,"dict_keyiterator",_,⟨_,Heap.get?_push_size _ rfl,rfl⟩,F.slot_dict_keyiterator_next.lookup,by simpa [rawInt] using k⟩) (F.args_dict_iter_1 _))
theorem Ny {i:Nat} {Q:Option Value->Shared->Prop} (st:s.heap.IsKeyIter it d i es.size ep) (ho:s.heap.get? d=some od) (he:od.data = .dict es ep) (hi:i<es.size)
 (k:∀h',h'.IsKeyIter it d (i+1) es.size ep->Heap.SameBut it s.heap h'->Q (some es[i].key) {s with heap:=h'}):wpAny (model prog w) A (pyNext (.ref it)) Q E s:=by
 obtain ⟨oi,hoi,ci,di⟩:=id st;have ty:=st.typeIs;have Nq:Builtin.Dict_items.ownsTuple "dict_keyiterator" = false:=by decide
 have Xu:¬((i:Int)<0):=by omega
 have st':(s.heap.update it (Obj.mapFields (·.setIfInBounds 1 (rawInt ((i:Int)+1))))).IsKeyIter it d (i+1) es.size ep:=
  ⟨_,Heap.get?_update_self _ hoi (Obj.isFreed_of_fields (Obj.data_mapFields di _)),by rw [Obj.cls_mapFields];exact ci,by rw [Obj.data_mapFields di];simp [rawInt]⟩
 unfold pyNext
 refine wpAny_bind (wpAny_attempt (wpAny_callSpecial?_slot (name:=Str.ofString "__next__") ty F.slot_dict_keyiterator_next (wpAny_call_entry F.slot_dict_keyiterator_next ty F.entry_dict_keyiterator_next (by
  refine wpAny_bind (wpAny_pure (wpAny_bind (wpAny_bind ?_)));refine wpAny_bind (wpAny_typeNameOfWhole_keyiter ty (wpAny_pure (wpAny_bind (wpAny_fieldsOf hoi di ?_))));rw [Nq];simp only [Bool.false_eq_true,if_false];show wpAny _ _ (if (Value.ref d==Value.none)=true then _ else _) _ _ s;rw [show (Value.ref d==Value.none)=false from rfl];rw [if_neg Bool.false_ne_true];refine wpAny_bind (wpAny_pure (wpAny_bind (wpAny_dictEntries ho he ?_)));rw [if_neg (by simp)];refine wpAny_bind (wpAny_pure (wpAny_bind (wpAny_dictEpoch ho he ?_)));rw [if_neg (by simp)];refine wpAny_pure ?_;simp only [Xu,if_false,Int.toNat_natCast,Array.getElem?_eq_getElem hi];refine wpAny_bind (wpAny_bind (wpAny_typeNameOfWhole_keyiter ty (wpAny_pure (wpAny_bind (wpAny_isOneOf_keyiter ty ?_)))));show wpAny _ _ (setField (.ref it) 1 (rawInt ((i:Int)+1)) >>= _) _ _ s;refine wpAny_bind (wpAny_setField hoi di (by simp) ?_);refine wpAny_bind (wpAny_holding (wpAny_bind (wpAny_isOneOf_keyiter (s:={s with heap:=s.heap.update it (Obj.mapFields (·.setIfInBounds 1 (rawInt ((i:Int)+1))))}) st'.typeIs ?_)));show wpAny _ _ (pure es[i].key) _ _ _;exact wpAny_pure (wpAny_pure ⟨_,rfl,wpAny_pure (k _ st' (Heap.SameBut.update ..))⟩)) (F.args_dict_keyiterator_next_1 _))))
theorem QL {i:Nat} {Q:Option Value->Shared->Prop} (calm:A.handled=none) (st:s.heap.IsKeyIter it d i es.size ep) (ho:s.heap.get? d=some od) (he:od.data = .dict es ep) (hi:es.size<=i)
 (k:∀h',Heap.ExtBut it s.heap h'->Q none {s with heap:=h'}):wpAny (model prog w) A (pyNext (.ref it)) Q E s:=by
 obtain ⟨oi,hoi,ci,di⟩:=id st;have ty:=st.typeIs;have Nq:Builtin.Dict_items.ownsTuple "dict_keyiterator" = false:=by decide
 have Xu:¬((i:Int)<0):=by omega
 unfold pyNext
 refine wpAny_bind (wpAny_attempt (wpAny_callSpecial?_slot (name:=Str.ofString "__next__") ty F.slot_dict_keyiterator_next (wpAny_call_entry F.slot_dict_keyiterator_next ty F.entry_dict_keyiterator_next (by
  refine wpAny_bind (wpAny_pure (wpAny_bind (wpAny_bind ?_)));refine wpAny_bind (wpAny_typeNameOfWhole_keyiter ty (wpAny_pure (wpAny_bind (wpAny_fieldsOf hoi di ?_))));rw [Nq];simp only [Bool.false_eq_true,if_false];show wpAny _ _ (if (Value.ref d==Value.none)=true then _ else _) _ _ s;rw [show (Value.ref d==Value.none)=false from rfl];rw [if_neg Bool.false_ne_true];refine wpAny_bind (wpAny_pure (wpAny_bind (wpAny_dictEntries ho he ?_)));rw [if_neg (by simp)];refine wpAny_bind (wpAny_pure (wpAny_bind (wpAny_dictEpoch ho he ?_)));rw [if_neg (by simp)];refine wpAny_pure ?_;simp only [Xu,if_false,Int.toNat_natCast,Array.getElem?_eq_none hi];refine wpAny_bind (wpAny_bind (wpAny_typeNameOfWhole_keyiter ty (wpAny_pure ?_)));show wpAny _ _ (setField (.ref it) 0 .none >>= _) _ _ s;refine wpAny_bind (wpAny_setField hoi di (by simp) ?_);show wpAny _ _ (newExc (.type "StopIteration") [] >>= _) _ _ _;refine wpAny_bind ?_;simp only [newExc,newTuple];refine wpAny_bind (wpAny_newObj_type ?_ (by size_fits));refine wpAny_bind (m:=firstArgMember _ _) (wpAny_of_eq (a:=Value.none) (by first |rfl|(simp only [firstArgMember];rfl)) (wpAny_newObj_type ?_ (by size_fits)));simp only [raiseNew];refine wpAny_bind (wpAny_handled ?_);rw [show A.in1.handled=none from calm];refine wpAny_bind (wpAny_pure (wpAny_throw ?_));refine wpAny_bind (wpAny_isInstance (T:= "StopIteration") (b:=true) ⟨_,Heap.get?_push_size _ rfl,rfl⟩ isSubtype_stop ?_);exact wpAny_pure (k _ (((Heap.SameBut.update ..).extBut.push _).push _))) (F.args_dict_keyiterator_next_1 _))))
end
end L2
set_option Elab.async false
set_option linter.all false
set_option maxRecDepth 100000
set_option maxHeartbeats 4000000
namespace L2
open PySem PySem.Spec PyProof.Rows
section
variable {X:Cx} {pins:List (Addr×Obj)} {σ:St} {H:Hp} {s:Shared} {d:Addr}
theorem QK {kvs:List (List Key×V)} {xs:List (List Key×Addr×Value)} {u v:HO} (r:KT H kvs xs) (e:H d=some u) (h1:∀ys,u ≠ .tup ys):KT (upd H d v) kvs xs:=by
 refine Paired.Xx r fun p q z=>⟨z.1, ?_,z.2.2⟩;have:q.2.1≠d:=fun w=>by rw [w,e] at z;exact h1 _ (Option.some.inj z.2.1)
 rw [cC this];exact z.2.1
theorem Inv.Qy {kvs:List (List Key×V)} (I:Inv X pins σ H s) (e:H d=some (.dT kvs)):∀o v,X.H₀ d≠some (.rM o v):=fun o v q=>by
 have:=I.base.w5 d o v q;rw [e] at this;cases this
theorem Inv.U0 {kvs:List (List Key×V)} {o:Obj} (I:Inv X pins σ H s) (e:H d=some (.dT kvs)) (ho:s.heap.get? d=some o):Inv X pins σ (upd H d (.rM o (.dT kvs))) s:=by
 refine I.VG e (fun _ z=>by cases z) (fun _ z=>by cases z) (fun _ z=>by cases z) (I.Qy e) ⟨ho, ?_⟩;obtain ⟨z,y,xs,r,dd⟩:=(show gw X.prog X.w H s.heap d (.dT kvs) from I.hok d _ e);exact ⟨z,y,xs,QK r e (fun _ z=>by cases z),dd⟩
theorem Inv.Zv {kvs:List (List Key×V)} {o:Obj} (I:Inv X pins σ H s) (e:H d=some (.rM o (.dT kvs))) (hz:∀o v,X.H₀ d≠some (.rM o v)):Inv X pins σ (upd H d (.dT kvs)) s:=by
 refine I.VG e (fun _ z=>by cases z) (fun _ z=>by cases z) (fun _ z=>by cases z) hz ?_;obtain ⟨_,z,y,xs,r,dd⟩:=(show gw X.prog X.w H s.heap d (.rM o (.dT kvs)) from I.hok d _ e);exact ⟨z,y,xs,QK r e (fun _ z=>by cases z),dd⟩
end
def RM (d:Addr) (o:Obj) (kvs:List (List Key×V)):It:=
 ⟨fun i H=>i<kvs.length/\H d=some (.rM o (.dT kvs)),fun i H x H'=>H'=H /\ ∃k v b,kvs[i]? = some (k,v)/\x = .ref b/\H b=some (.tup (k.map kV)),fun i H=>kvs.length<=i/\H d=some (.rM o (.dT kvs))⟩
theorem XC {H:Hp} {kvs:List (List Key×V)} {xs:List (List Key×Addr×Value)} (r:KT H kvs xs):∀(i:Nat) (k:List Key) (v:V),kvs[i]? = some (k,v) -> ∃q,xs[i]? = some q/\H q.2.1=some (.tup (k.map kV)):=by
 induction r with
 | nil=>intro i k v h;cases h
 | @cons p q ps qs h r ih=>
   intro i k v e;cases i with
   | zero=>
     have e':p=(k,v):=Option.some.inj e;subst e';exact ⟨q,rfl,h.2.1⟩
   | succ i=>exact ih i k v (by simpa using e)
theorem Jw {P:Program} {w:World} {K:PySem.W.Frag} {tg:Expr} (d it:Addr) (o:Obj) (kvs:List (List Key×V)) (es:Array DictEntry) (ep:Nat) (hd:o.data = .dict es ep):Turn P w K tg (RM d o kvs) [it] it (fun i h=>h.IsKeyIter it d i es.size ep) where
 mem:=by simp
 obj:=fun i h st b hb=>by
  have e:b=it:=by simpa using hb
  subst e;obtain ⟨o,e,c,d⟩:=st;exact ⟨o,e,fun v z=>by rw [d] at z;cases z⟩
 keep:=fun i h h' st k=>by
  obtain ⟨o,e,c,d⟩:=st;exact ⟨o,k it (by simp) o e,c,d⟩
 item:=by
  intro X hP hw hK hc i pins s σ H E I hf st hg;subst hP hw hK;obtain ⟨hi,hH⟩:=hg;obtain ⟨ho,z,y,xs,r,o',es',ep',q1,q2,q3,q4,q5⟩:=(show gw X.prog X.w H s.heap d (.rM o (.dT kvs)) from I.hok d _ hH);rw [ho] at q1;cases q1;rw [hd] at q3;cases q3;have hl:kvs.length=xs.length:=Paired.length r;have hsz:es.size=xs.length:=by rw [←Array.length_toList,q4,List.length_map]
  obtain ⟨k,v,ekv⟩:∃k v,kvs[i]? = some (k,v):=⟨kvs[i].1,kvs[i].2,by simp [hi]⟩;obtain ⟨q,eq,hq⟩:=XC r i k v ekv;have ie:i<es.size:=by omega
  have ek:es[i].key = .ref q.2.1:=by
   have e1:es.toList[i]? = some es[i]:=by simp [ie]
   rw [q4,List.getElem?_map,eq] at e1;have:=Option.some.inj e1;rw [←this];rfl
  obtain ⟨f0,f1,f2,f3,f4,f5⟩:=hf it (by simp);refine Ny st ho hd ie fun h' st' sb=> ?_;have I1:Inv X pins σ H {s with heap:=h'}:=I.turned (t':=s.toks) (fun b o hb e=>(sb.2 b hb).trans e) f0 f1 f3 f4 f5;obtain ⟨ob,e,c,dd⟩:=id st';rw [ek];exact ⟨.ref q.2.1,rfl,Lw (s:={s with heap:=h'}) e c dd (by decide) ⟨.ref q.2.1,H,I1,rfl,⟨rfl,k,v,q.2.1,ekv,rfl,hq⟩,st',fun b hb=>(hf b hb).1⟩⟩
 done:=by
  intro X hP hw hK hc i pins s σ H E I hf st hg;subst hP hw hK;obtain ⟨hi,hH⟩:=hg;obtain ⟨ho,z,y,xs,r,o',es',ep',q1,q2,q3,q4,q5⟩:=(show gw X.prog X.w H s.heap d (.rM o (.dT kvs)) from I.hok d _ hH);rw [ho] at q1;cases q1;rw [hd] at q3;cases q3;have hl:kvs.length=xs.length:=Paired.length r;have hsz:es.size=xs.length:=by rw [←Array.length_toList,q4,List.length_map]
  obtain ⟨f0,f1,f2,f3,f4,f5⟩:=hf it (by simp);exact QL (I.ok.hd hc) st ho hd (by omega) fun h' eb=>⟨rfl,I.turned (t':=s.toks) (fun b o hb e=>eb b o hb e) f0 f1 f3 f4 f5⟩
 self:=fun _ _ _ _ _ st h=>wpAny_pyIter_keyiter st h
section
variable {X:Cx} {tg:Expr}
def X4 (tl:TE):TI:=fun σ H R=>tl σ H fun x H1=>∃d kvs,x = .ref d/\H1 d=some (.dT kvs) /\ ∀o,R (RM d o kvs) (upd H1 d (.rM o (.dT kvs)))
theorem Ht {l:Expr} {tl:TE} (hl:PE X l tl):PI X tg l (X4 tl):=by
 intro pins s σ H R I h;refine gU (hl pins s σ H _ I h) fun v s1 ⟨x,H1,I1,r1,q1⟩=> ?_;obtain ⟨d,kvs,e,hH,q⟩:=q1;subst e;cases r1;obtain ⟨z,hd,xs,r,o,es,ep,ho,q2,q3,q4,q5⟩:=(show gw X.prog X.w H1 s1.heap d (.dT kvs) from I1.hok d _ hH);refine J5 hd ho q2 q3 ?_;have If:=I1.U0 hH ho
 have Xv:(upd H1 d (HO.rM o (.dT kvs))) s1.heap.objs.size=none:=by
  rw [cC (Ne.symm (Nat.ne_of_lt (Heap.lt_size ho)))];exact I1.hok.fresh (Nat.le_refl _)
 refine ⟨s1.heap.objs.size,[s1.heap.objs.size],_,_,upd H1 d (.rM o (.dT kvs)),rfl,If.kept (t':=s1.toks) fun b o e=>Heap.get?_push_of_some _ e,Jw d _ o kvs es ep q3,⟨_,Heap.get?_push_size _ rfl,rfl,rfl⟩,fun b hb=> ?_,q o⟩;have e:b=s1.heap.objs.size:=by simpa using hb
 subst e;exact If.Gw (Nat.le_refl _) Xv
end
def abz (H H' Wh:Hp):Prop:=∃d aar o kvs,H d=some (.dT aar)/\H' d=some (.rM o (.dT kvs))/\Wh=upd H' d (.dT kvs)
def WT (t:TS):TS:=fun D σ H=>t {D with nx:=fun σ' H'=>∃Wh,abz H H' Wh/\D.nx σ' Wh} σ H
theorem Hr {X:Cx} {st:Stmt} {t:TS} (h:PS X st t):PS X st (WT t):=by
 intro pins s σ H D I q;refine wpAny_mono (h pins s σ H _ I q) (fun f s1 q1=> ?_) fun _ _ z=>z;cases f with
 | next=>
   obtain ⟨σ1,H1,I1,H2,⟨d,aar,o,kvs,e1,e2,rfl⟩,q2⟩:=q1;exact ⟨σ1,_,I1.Zv e2 (I.Qy e1),q2⟩
 | brk=>exact q1
 | cont=>exact q1
 | ret u=>exact q1
section
variable {d D:Addr} {o:Obj} {kvs:List (List Key×V)} {tc:TT} {te:TE} {Q:VK} {rest:St} {H1:Hp}
end
end L2
set_option Elab.async false
set_option linter.all false
set_option maxRecDepth 100000
set_option maxHeartbeats 4000000
namespace L2
open PySem PySem.Spec PyProof.Rows
section
variable {X:Cx} {k:Nat} {C:Addr} {sp:Sp}
end
end L2
set_option Elab.async false
set_option linter.all false
set_option maxRecDepth 100000
set_option maxHeartbeats 4000000
namespace L2
open PySem PySem.Spec PyProof.Rows
section
variable {prog:Program} {w:World} {K:Type} [DecidableEq K] {knd:HeapKind prog w K} {A:Around} {E:Value->Shared->Prop} {s:Shared}
theorem Hg {d a:Addr} {xs:List (K×Addr×Value)} {k:K} {v:Value} {Q:Unit->Shared->Prop}
 (hr:knd.room A) (hk:knd.is s.heap k a) (dd:Heap.DictOfH knd s.heap d xs) (hz:xs.length<=sizeLine) (nk:k∉xs.map (·.1))
 (h2:∀h',Heap.DictOfH knd h' d (xs++[(k,a,v)])->Heap.SameBut d s.heap h'->Q () {s with heap:=h'}):
 wpAny (model prog w) A (dictSetHashed d (.ref a) (knd.hash k) v) Q E s:=by
 unfold dictSetHashed;refine wpAny_holding ?_;obtain ⟨o,es,ep,ho,hx,hd,he,hi,hn⟩:=id dd;have hl:es.size=xs.length:=by rw [←Array.length_toList,he,List.length_map]
 refine wpAny_bind (wpAny_dictFind_heap hr hk ho hd he hi hn (fun hno=> ?_) (fun j p hj=>absurd (List.mem_map.mpr ⟨(k,p),List.mem_of_getElem? hj,rfl⟩) nk));refine wpAny_bind (wpAny_rule ?_);refine wpAny_updateDictKeys ho hd ?_ (by omega) (by simp);have sb:=Heap.SameBut.update s.heap d (Obj.mapDictKeys fun x=>x.push {hash:=knd.hash k,key:= .ref a,val:=v});refine h2 _ ?_ sb;obtain ⟨oc,od,ae6,osl⟩:=o;simp only at hd;subst hd;refine ⟨_,es.push {hash:=knd.hash k,key:= .ref a,val:=v},ep+1,Heap.get?_update_self _ ho ?_,hx,rfl, ?_, ?_, ?_⟩
 ·obtain ⟨c1,c2,c3⟩:=hx
  simp only at c1;subst c1;rfl
 ·rw [Array.toList_push,he,List.map_append];rfl
 ·intro x QW
  rcases List.mem_append.mp QW with QW|QW
  ·exact knd.keeps (hi x QW) ho rfl sb
  ·have:x=(k,a,v):=by simpa using QW
   subst this;exact knd.keeps hk ho rfl sb
 ·rw [List.map_append]
  refine List.nodup_append.mpr ⟨hn,by simp, ?_⟩;intro y hy z hz' e;have:z=k:=by simpa using hz'
  subst this;subst e;exact nk hy
theorem J1 {nm:String} {d o:Addr} {xs ys:List (K×Addr×Value)} {Q:Unit->Shared->Prop} (hr:knd.room A) (hdo:d≠o) (hoS:(o==sysModules)=false)
 (dd:Heap.DictOfH knd s.heap d xs) (od:Heap.DictOfH knd s.heap o ys) (nd:((xs++ys).map (·.1)).Nodup) (few:xs=[] -> ∃y,ys=[y])
 (hz:xs.length+ys.length<=sizeLine)
 (qe:∀y∈ys,∀(R:Bool->Shared->Prop),(∀b,R b s)->wpAny (model prog w) A (Builtin.Dict.quietEq (.ref y.2.1)) R E s)
 (hQ:∀h',Heap.DictOfH knd h' d (xs++ys)->Heap.SameBut d s.heap h'->Q () {s with heap:=h'}):
 wpAny (model prog w) A (Builtin.Dict.mergeDict nm d o) Q E s:=by
 obtain ⟨dO,des,dep,Yt,dhx,Yu,dhe,dhi,dhn⟩:=id dd;obtain ⟨oO,JZ,oep,Xl,ohx,Xm,ohe,ohi,ohn⟩:=id od;have osz:JZ.size=ys.length:=by rw [←Array.length_toList,ohe,List.length_map]
 unfold Builtin.Dict.mergeDict;rw [if_neg (by simpa using hdo)];unfold Builtin.Dict.showsAll;rw [if_neg (by rw [hoS];exact Bool.false_ne_true)];refine wpAny_bind (wpAny_pure ?_);refine wpAny_bind (wpAny_dictEntries Xl Xm ?_)
 have loop:wpAny (model prog w) A (do
  let epoch ←dictEpoch o
  let l ←dictEntries o
  forIn [:l.size] PUnit.unit fun i (_:PUnit)=>(do
   let m ←dictEntries o
   match m[i]? with
    | some e=>do
      holding [e.key,e.val] (dictSetHashed d e.key e.hash e.val)
      let now ←dictEpoch o
      if (now != epoch)=true then do
          (unsupported (toString nm++toString ":source-changed-during-callback"):Sem PUnit)
          pure (ForInStep.yield PUnit.unit)
       else pure (ForInStep.yield PUnit.unit)
    | _=>do (unsupported "internal:dict-merge" :Sem PUnit);pure (ForInStep.yield PUnit.unit):Sem (ForInStep PUnit))
  pure ()) Q E s:=by
  refine wpAny_bind (wpAny_dictEpoch Xl Xm (wpAny_bind (wpAny_dictEntries Xl Xm (wpAny_bind ?_))));rw [Std.Legacy.Range.forIn_eq_forIn_range'];simp only [Std.Legacy.Range.size,Nat.sub_zero,Nat.add_sub_cancel,Nat.div_one];refine wpAny_forIn_list _ (fun rest _ t=>∃h' i,t={s with heap:=h'}/\rest=List.range' i (JZ.size - i)/\i<=JZ.size/\Heap.DictOfH knd h' d (xs++ys.take i)/\h'.get? o=some oO/\Heap.SameBut d s.heap h') _ ?_ ?_ _ _ ⟨s.heap,0,rfl,by simp,Nat.zero_le _,by rw [List.take_zero,List.append_nil];exact dd,Xl,Heap.SameBut.refl _ _⟩
  ·rintro x rest b t ⟨h',i,rfl,hrr,hi,hd',hoo',hs'⟩
   have hlt:i<JZ.size:=Nat.lt_of_not_le fun z=>by rw [Nat.sub_eq_zero_of_le z] at hrr;cases hrr
   rw [show JZ.size - i=(JZ.size - (i+1))+1 by omega,List.range'_succ] at hrr;obtain ⟨rfl,hrest⟩:=List.cons.inj hrr;obtain ⟨y,ey⟩:∃y,ys[x]? = some y:=⟨_,List.getElem?_eq_getElem (by omega)⟩;obtain ⟨k,a,v⟩:=y;have ee:JZ[x]? = some (entryOfKey knd (k,a,v)):=by rw [←Array.getElem?_toList,ohe,List.getElem?_map,ey];rfl
   refine wpAny_bind (wpAny_dictEntries hoo' Xm ?_);rw [ee];have mem:=List.mem_of_getElem? ey;have tk:ys.take (x+1)=ys.take x++[(k,a,v)]:=by rw [List.take_add_one,ey];rfl
   have ndx:((xs++ys.take (x+1)).map (·.1)).Nodup:=by
    refine List.Nodup.sublist ?_ nd;exact List.Sublist.map _ (List.Sublist.append (List.Sublist.refl _) (List.take_sublist _ _))
   rw [tk,←List.append_assoc,List.map_append] at ndx;have nk:k∉(xs++ys.take x).map (·.1):=fun z=>(List.nodup_append.mp ndx).2.2 k z k (by simp) rfl;have hk':knd.is h' k a:=knd.keeps (ohi _ mem) Yt Yu hs';refine wpAny_bind (wpAny_holding (Hg hr hk' hd' (by rw [List.length_append,List.length_take];omega) nk fun h'' hd'' hs''=> ?_));have hoo'':h''.get? o=some oO:=(hs''.2 o (Ne.symm hdo)).trans hoo';refine wpAny_bind (wpAny_dictEpoch hoo'' Xm ?_);rw [if_neg (by simp)];exact wpAny_pure ⟨h'',x+1,rfl,hrest,hlt,by rw [tk,←List.append_assoc];exact hd'',hoo'',hs'.trans hs''⟩
  ·rintro b t ⟨h',i,rfl,hrr,hi,hd',hoo',hs'⟩
   have hin:i=JZ.size:=by
    rcases Nat.lt_or_ge i JZ.size with h|h
    ·rw [show JZ.size - i=(JZ.size - (i+1))+1 by omega,List.range'_succ] at hrr
     cases hrr
    ·omega
   refine wpAny_pure (hQ h' ?_ hs');rw [hin,osz,List.take_length] at hd';exact hd'
 dsimp only;split
 ·refine wpAny_bind (wpAny_dictEntries Yt Yu ?_)
  split
  ·rename_i hemp
   have xe:xs=[]:=by
    have h0:des = #[]:=Array.isEmpty_iff.mp hemp;rw [h0] at dhe;exact List.map_eq_nil_iff.mp dhe.symm
   obtain ⟨y,ye⟩:=few xe;subst xe;subst ye
   have eo:JZ = #[entryOfKey knd y]:=by
    have:JZ.toList=[entryOfKey knd y]:=ohe;rw [←Array.toArray_toList (xs:=JZ),this]
   refine wpAny_bind ?_;unfold Builtin.Dict.entriesForEmpty;refine wpAny_bind (wpAny_dictEntries Xl Xm ?_);subst eo;have qy:=qe y (by simp)
   have fs:¬(Array.filter (fun x=>x.hash==(entryOfKey knd y).hash) #[entryOfKey knd y]).size>1:=by
    have:=Array.size_filter_le (p:=fun x:DictEntry=>x.hash==(entryOfKey knd y).hash) (xs:= #[entryOfKey knd y]);simp at this ⊢
   refine wpAny_bind ?_;rw [←Array.forIn_toList];show wpAny (model prog w) A (forIn [entryOfKey knd y] PUnit.unit _) _ E s;rw [List.forIn_cons];refine wpAny_bind ?_;refine wpAny_bind (qy _ fun q=> ?_)
   have nx:∀(R:ForInStep PUnit->Shared->Prop),R (.yield PUnit.unit) s->wpAny (model prog w) A (if (!q)=true then (if (Array.filter (fun x=>x.hash==(entryOfKey knd y).hash) #[entryOfKey knd y]).size>1 then (do (unsupported (toString nm++toString ":keys-of-equal-hash"):Sem PUnit);pure (ForInStep.yield PUnit.unit)) else pure (ForInStep.yield PUnit.unit)) else pure (ForInStep.yield PUnit.unit)) R E s:=fun R hR=>by
    cases q
    ·rw [if_pos (show (!false)=true from rfl),if_neg fs]
     exact wpAny_pure hR
    ·rw [if_neg (by simp)]
     exact wpAny_pure hR
   refine nx _ ?_;show wpAny (model prog w) A (forIn [] PUnit.unit _) _ E s;rw [List.forIn_nil];refine wpAny_pure (wpAny_pure ?_);rw [if_pos (by simp)];refine wpAny_bind (wpAny_updateDictKeysTo Yt Yu (wpAny_pure (hQ _ ?_ (Heap.SameBut.update ..))) (by show 1<=sizeLine+1;omega));have sb:=Heap.SameBut.update s.heap d (Obj.mapDictKeys fun _=> #[entryOfKey knd y]);refine ⟨_,_,dep+1,Heap.get?_update_self _ Yt (Obj.isFreed_of_dict (Obj.data_mapDictKeys Yu _)),dhx.mapDictKeys _,Obj.data_mapDictKeys Yu _,rfl,fun x hx=> ?_,by simp⟩;exact knd.keeps (ohi x hx) Yt Yu sb
  ·exact loop
 ·exact loop
theorem Dv (knd:HeapKind prog w K) (d o:Addr) (hdo:d≠o) (hoS:(o==sysModules)=false):
 MeetsIn prog w (Builtin.«dict.update» ⟨[.ref d,.ref o],[]⟩) (fun A R s=>knd.room A.in1 /\ ∃xs ys,Heap.DictOfH knd s.heap d xs/\Heap.DictOfH knd s.heap o ys/\((xs++ys).map (·.1)).Nodup/\(xs=[] -> ∃y,ys=[y])/\xs.length+ys.length<=sizeLine /\
  (∀y∈ys,s.TypeIs (.ref y.2.1) "tuple") /\ ∀h',Heap.DictOfH knd h' d (xs++ys)->Heap.SameBut d s.heap h'->R (.ok (.ret .none)) {s with heap:=h'}):=by
 rintro A R s ⟨hr,xs,ys,dd,od,nd,few,hz,ht,h⟩;obtain ⟨dO,des,dep,Yt,dhx,Yu,_⟩:=id dd;obtain ⟨oO,JZ,oep,Xl,ohx,Xm,_⟩:=id od;have td:s.TypeIs (.ref d) "dict" :=⟨dO,Yt,dhx.1⟩;have to:s.TypeIs (.ref o) "dict" :=⟨oO,Xl,ohx.1⟩;unfold Builtin.«dict.update»;refine wpAny_bind ?_;unfold Builtin.Dict.selfAndRest;refine wpAny_bind (wpAny_notOrdered_dict td ?_);show wpAny _ _ (pure (d,[Value.ref o])) _ _ s;refine wpAny_pure ?_;show wpAny _ _ (Builtin.Dict.updateFrom "dict.update" d (.ref o) [] .none) _ _ s;unfold Builtin.Dict.updateFrom;refine wpAny_bind (wpAny_typeOf to ?_);rw [if_neg (by decide)];refine wpAny_bind ?_;unfold Builtin.Dict.merge;refine wpAny_bind ?_;unfold Builtin.Dict.readDirectly;refine wpAny_bind (wpAny_isInstance to isSubtype_dict_dict ?_);simp only [Bool.not_true,Bool.false_eq_true,if_false];refine wpAny_bind (wpAny_specialOf to F.slot_dict_iter.lookup (wpAny_pure ?_));simp only [beq_self_eq_true,if_true];refine wpAny_bind (wpAny_pure ?_);refine J1 hr hdo hoS dd od nd few hz (fun y hy R hR=> ?_) fun h' O4 sb=> ?_
 ·unfold Builtin.Dict.quietEq
  exact wpAny_bind (wpAny_specialOf (ht y hy) PySem.F.slot_tuple_eq.lookup (wpAny_pure (hR _)))
 ·show wpAny _ _ (Builtin.Dict.addKeywords d [] >>= _) _ _ _
  exact wpAny_bind (wpAny_pure (wpAny_pure (h h' O4 sb)))
end
section
variable {X:Cx}
theorem JQ {α β:Type} {R:α->β->Prop}:∀{a b:List α} {c d:List β},Paired R a c->Paired R b d->Paired R (a++b) (c++d):=by
 intro a b c d p q
 induction p with
 | nil=>exact q
 | cons h t ih=>exact .cons h ih
theorem Lj {H:Hp} {kvs:List (List Key×V)} {xs:List (List Key×Addr×Value)} (r:KT H kvs xs):kvs.map (·.1)=xs.map (·.1):=by
 induction r with
 | nil=>rfl
 | cons h t ih=>rw [List.map_cons,List.map_cons,ih,h.1]
theorem Us {H:Hp} {kvs:List (List Key×V)} {xs:List (List Key×Addr×Value)} (r:KT H kvs xs):∀y∈xs,∃ks:List Key,H y.2.1=some (.tup (ks.map kV)):=by
 induction r with
 | nil=>intro y hy;cases hy
 | cons h t ih=>
   intro y hy;rcases List.mem_cons.mp hy with e|hy
   ·subst e
    exact ⟨_,h.2.1⟩
   ·exact ih y hy
def Z2:V->List V->Hp->VK->Prop:=fun x vs H Q=>∃(a b:Addr) (kvs Ul:List (List Key×V)),x = .ref a/\vs=[.ref b]/\H a=some (.dT kvs)/\H b=some (.dT Ul)/\((kvs++Ul).map (·.1)).Nodup/\(kvs=[] -> ∃y,Ul=[y])/\kvs.length+Ul.length<=sizeLine/\Q .non (upd H a (.dT (kvs++Ul)))
theorem Um (hu:X.A.units+1<cLine):MtR X "dict.update" Z2:=by
 intro pins s σ H x vs v us Q I rx rv h;obtain ⟨a,b,kvs,Ul,rfl,rfl,ea,eb,nd,few,hz,q⟩:=h;cases rx;obtain ⟨u,rfl,ru⟩:=rv.one;cases ru
 have hab:a≠b:=fun z=>by
  subst z;rw [ea] at eb;cases eb;rcases kvs with _|⟨y,l⟩
  ·obtain ⟨w,e⟩:=few rfl
   cases e
  ·simp at nd
 obtain ⟨_,_,xs,rel,dd⟩:=zF I.hok ea;obtain ⟨_,hoS,ys,Ti,od⟩:=zF I.hok eb;have hd:=(zF I.hok ea).2.1;have lx:=Paired.length rel;have ly:=Paired.length Ti;refine call_meetsIn PySem.F.slot_dict_update dd.typeIs PySem.F.entry_dict_update (PySem.F.args_dict_update_2 _ _) (Dv (tupleKind (d_ X.prog X.w)) a b hab hoS) ⟨tupleKind_room_in1 hu,xs,ys,dd,od, ?_,fun e=> ?_,by omega,fun y hy=> ?_,fun h' O4 sb=> ?_⟩
 ·rw [List.map_append,←Lj rel,←Lj Ti,←List.map_append]
  exact nd
 ·subst e
  obtain ⟨y,e⟩:=few (List.length_eq_zero_iff.mp lx);rw [e] at ly;exact List.length_eq_one_iff.mp ly.symm
 ·obtain ⟨ks,e⟩:=Us Ti y hy
  obtain ⟨_,its,_,o,h1,h2,_⟩:=(show gw X.prog X.w H s.heap y.2.1 (.tup (ks.map kV)) from I.hok _ _ e);exact ⟨o,h1,h2⟩
 ·obtain ⟨o,es,ep,hq,h2,h3,h4,_,h5⟩:=O4
  refine ⟨.non,upd H a (.dT (kvs++Ul)),vI (ob:= .dT (kvs++Ul)) I (by rw [ea];exact True.intro) sb ⟨o,hq⟩ ⟨by rw [List.length_append];exact hz,hd,_,(show KT H (kvs++Ul) (xs++ys) from JQ rel Ti).keeps fun c zs ec=> ?_,o,es,ep,hq,h2,h3,h4,h5⟩,rfl,q⟩;rw [cC (tK ec ea (fun z=>nomatch z))];exact ec
end
end L2
set_option Elab.async false
set_option linter.all false
set_option maxRecDepth 100000
set_option maxHeartbeats 4000000
namespace L2
open PySem PySem.Spec PyProof.Rows
section
variable {P:Program} {w:World} {K:PySem.W.Frag} {mg:Str->Option Value} {base:Heap}
def Wi (P:Program) (w:World) (K:PySem.W.Frag) (mg:Str->Option Value) (base:Heap) (k:Nat) (x:Str) (ps:List Str) (Oh:List V) (sp:Sp):Prop:=
 ∃f fd ds,gn P w K mg base (vU P w) k f fd ps sp/\mg x=some (.ref f)/\PySem.W.keepIn K (.ref f)=true/\Binds K fd ps ds/\Vals Oh ds
def Mh (P:Program) (w:World) (K:PySem.W.Frag) (mg:Str->Option Value) (base:Heap) (k:Nat) (x:Str) (ps:List Str) (kn:Str) (sp:Sp):Prop:=
 ∃f fd,gn P w K mg base (vU P w) k f fd ps sp/\mg x=some (.ref f)/\PySem.W.keepIn K (.ref f)=true /\
  ∀(s:Shared) (us:List Value) (z:Value),K.In s.heap->(us++[z]).length=ps.length->BindsTo s fd ⟨us,[(kn,z)]⟩ (ps.zip (us++[z]))
end
section
variable {X:Cx} {k:Nat} {x kn:Str} {ps:List Str} {sp:Sp} {Oh:List V} {e ke:Expr} {es:List Expr} {te:TE} {t:TA} {p pos kpos:Pos} {E:St->XK}
def SN (sp:Sp) (E:St->XK) (t:TA) (te:TE):TE:=fun σ H Q=>t σ H fun vs H1=>te σ H1 fun z H2=>∃z',[z]=[z']/\sp (vs++[z']) H2 Q (E σ)
theorem TX (F:Mh X.prog X.w X.K X.mg X.base k x ps kn sp) (hx:X.ex=[]) (R:Rz X E) (hr:pR k X.A) (hg:Gl X x) (ha:PA X (e::es) t) (hk:PE X ke te) (hdb:(x==("__debug__" :Str))=false:=by decide)
 (hall:(backToKw pos (keywordEach [⟨some kn,ke,kpos⟩] X.env)).all (·.1.isSome)=true:=by rfl) (hks:(backToKw pos (keywordEach [⟨some kn,ke,kpos⟩] X.env)).filterMap (·.1)=[kn]:=by rfl)
 (he:starEach (e::es) X.env=(false,eval e X.env)::starEach es X.env:=by rfl)
 (hpl:((backTo pos (starEach (e::es) X.env)).any (·.1)||(backToKw pos (keywordEach [⟨some kn,ke,kpos⟩] X.env)).any (·.1.isNone))=false:=by rfl):
 PE X (.Call (.Name x p) (e::es) [⟨some kn,ke,kpos⟩] pos) (SN sp E t te):=by
 obtain ⟨f,fd,G,hm,hkp,hb⟩:=F;intro pins s σ H Q I h;refine wpAny_Call_Name_kw (vD I hg hm ?_ hdb);refine PySem.W.callWith_KW (h₀:=X.base) I.ok.mod.Y8 hkp hall (gU (ha pos pins s σ H _ I h) fun us s1 ⟨vs,H1,I1,r,q⟩=> ?_) hpl he;refine gU ((TF (nm:=some kn) (kpos:=kpos) hk Xa) pos pins s1 σ H1 (fun zs H2=>∃z',zs=[z']/\sp (vs++[z']) H2 Q (E σ)) I1 q) fun ws s2 ⟨zs,H2,I2,rz,z',ez,q2⟩=>⟨I2.Ad, ?_⟩;subst ez;obtain ⟨z,rfl,rz1⟩:=rz.one;rw [hks];have rv:=r.append rz;have hl:(us++[z]).length=ps.length:=by rw [←rv.length];exact G.len _ _ _ _ q2
 refine wpAny_call (codeAny_mono (G.run X.A X.stack s2 H2 ⟨us,[(kn,z)]⟩ (us++[z]) (vs++[z']) Q (E σ) hr I2.env0 (hb s2 us z I2.Ad hl) rv q2) fun res s' hq=> ?_)
 match res,hq with
 | .error ev,hq=>exact K9 hx R I2 hq
 | .ok (.ret u),hq=>exact I2.after hq
end
end L2
set_option Elab.async false
set_option linter.all false
set_option maxRecDepth 100000
set_option maxHeartbeats 4000000
namespace L2
open PySem PySem.Spec PyProof.Rows
section
variable {X:Cx} {K:PySem.W.Frag}
end
end L2
set_option Elab.async false
set_option linter.all false
set_option maxRecDepth 100000
set_option maxHeartbeats 4000000
namespace L2
open PySem PySem.Spec PyProof.Rows
section
variable {prog:Program} {w:World} {K:Type} [DecidableEq K] {knd:HeapKind prog w K} {A:Around} {E:Value->Shared->Prop} {s:Shared} {d:Addr} {xs:List (K×Addr×Value)}
theorem rm (hm:s.heap.DictOfH knd d xs):s.TypeIs (.ref d) "dict" :=by
 obtain ⟨o,es,ep,ho,hc,_⟩:=hm;exact ⟨o,ho,hc.1⟩
theorem Mt (z:(d==sysModules)=false):MeetsIn prog w (Builtin.«dict.__len__» ⟨[.ref d],[]⟩) (fun _ R s=>∃xs,s.heap.DictOfH knd d xs/\R (.ok (.ret (.int xs.length s.toks))) {s with toks:=s.toks+1}):=
 .of_wp fun A R s ⟨xs,hm,h⟩=>by
  obtain ⟨o,es,ep,ho,_,hdat,he,_⟩:=hm;show wpAny _ _ (dictSize d >>= _) _ _ s;unfold dictSize
  exact wpAny_bind (wpAny_bind (wpAny_dictEntries ho hdat (wpAny_pure (wpAny_bind (wpAny_pendingCount_other z (wpAny_ret_mkInt (by
   have e:es.size=xs.length:=by rw [←Array.length_toList,he,List.length_map]
   rw [Nat.add_zero,e];exact h)))))))
theorem Es {Q:Value->Shared->Prop} (z:(d==sysModules)=false) (hm:s.heap.DictOfH knd d xs) (hf:xs.length<=sizeLine)
 (h:Q (.int xs.length (s.toks+1)) {s with toks:=s.toks+1+1}):wpAny (model prog w) A (Builtin.«len» ⟨[.ref d],[]⟩) (fun r s'=>∃v,r = .done (.ret v)/\Q v s') E s:=by
 have hl:=tu;unfold Builtin.«len»;refine wpAny_bind (m:=oneArg "len" _) (wpAny_pure (wpAny_bind (m:=callSpecial? (.ref d) (Str.ofString "__len__")) (wpAny_callSpecial?_slot (name:=Str.ofString "__len__") (rm hm) F.slot_dict_len (call_meetsIn F.slot_dict_len (rm hm) F.entry_dict_len (F.args_dict_len_1 _) (Mt (knd:=knd) z) ⟨xs,hm, ?_⟩))));show wpAny _ _ _ _ _ {s with toks:=s.toks+1};refine wpAny_bind (wpAny_holding (wpAny_pure (wpAny_bind (wpAny_letGo ?_))));show wpAny _ _ (if ((xs.length:Nat):Int)<0 then _ else _) _ _ _;rw [if_neg (show ¬((xs.length:Nat):Int)<0 by omega)];show wpAny _ _ (if ((xs.length:Nat):Int)≥2 ^ 63 then _ else _) _ _ _;rw [if_neg (show ¬((xs.length:Nat):Int)≥2 ^ 63 by omega)];exact wpAny_bind (wpAny_mkInt (wpAny_pure ⟨_,rfl,h⟩))
theorem Jx {Q:Bool->Shared->Prop} (z:(d==sysModules)=false) (hm:s.heap.DictOfH knd d xs) (hf:xs.length<=sizeLine) (h:Q (!xs.isEmpty) {s with toks:=s.toks+1+1}):wpAny (model prog w) A (truthy (.ref d)) Q E s:=by
 have e0:((xs.length:Int) != 0) = !xs.isEmpty:=by cases xs<;>simp<;>omega
 have run:wpAny (model prog w) A (runValue (.builtin "len" ⟨[.ref d],[]⟩)) (fun r s'=>r = .int xs.length (s.toks+1)/\Q (!xs.isEmpty) s') E s:=by
  refine wpAny_runValue (codeAny_builtin entry_len ?_);rw [Around.under_plainId plain_len _];refine wpAny_mono (Es (Q:=fun r s'=>r = .int xs.length (s.toks+1)/\Q (!xs.isEmpty) s') z hm hf ⟨rfl,h⟩) (fun fin s' q=> ?_) fun _ _ e=>e;obtain ⟨r,rfl,q⟩:=q;exact q
 have fin:∀(r:Value) (s':Shared),(r = .int xs.length (s.toks+1)/\Q (!xs.isEmpty) s') -> ∃n t,r = .int n t/\Q (n != 0) s':=fun r s' ⟨a,b⟩=>⟨_,_,a,by rw [e0];exact b⟩;unfold truthy
 first
  | refine wpAny_bind (wpAny_callSpecial?_none (name:=Str.ofString "__bool__") (rm hm) noBool_dict ?_)
  | refine wpAny_bind (wpAny_pure (wpAny_bind (wpAny_callSpecial?_none (name:=Str.ofString "__bool__") (rm hm) noBool_dict ?_)))
 first
  | refine wpAny_bind (wpAny_specialOf (name:=Str.ofString "__len__") (rm hm) F.slot_dict_len.lookup ?_)
  | refine wpAny_bind (wpAny_pure (wpAny_bind (wpAny_specialOf (name:=Str.ofString "__len__") (rm hm) F.slot_dict_len.lookup ?_)))
 first
  | exact wpAny_bind (wpAny_mono run (fun r s' q=>by obtain ⟨n,t,rfl,q2⟩:=fin r s' q;exact wpAny_pure q2) fun _ _ e=>e)
  | exact wpAny_bind (wpAny_pure (wpAny_bind (wpAny_mono run (fun r s' q=>by obtain ⟨n,t,rfl,q2⟩:=fin r s' q;exact wpAny_pure q2) fun _ _ e=>e)))
theorem PX {k v:Sem Value} {Q:Addr->Shared->Prop} (hr:knd.room A)
 (h:wpAny (model prog w) A k (fun kv s₁=>wpAny (model prog w) A v (fun vv s₂=>∃(kk:K) (a:Addr),kv = .ref a/\knd.is s₂.heap kk a/\s₂.heap.DictOfH knd s.heap.objs.size [] /\
   ∀h',h'.DictOfH knd s.heap.objs.size [(kk,a,vv)]->Heap.SameBut s.heap.objs.size s₂.heap h' -> ∀t',Q s.heap.objs.size {s₂ with heap:=h',toks:=t'}) E s₁) E {s with heap:=s.heap.push {cls:= .type "dict",data:= .dict #[]}}):
 wpAny (model prog w) A (subDict [(k,v)]) Q E s:=by
 unfold subDict;refine wpAny_bind (wpAny_alloc (wpAny_bind (wpAny_holding ?_)));rw [if_pos (show [(k,v)].length<=15 by simp)];refine wpAny_bind (evalPairs_cons (wpAny_mono h (fun kv s₁ h₁=>wpAny_mono h₁ (fun vv s₂ h₂=>evalPairs_nil ?_) fun _ _ e=>e) fun _ _ e=>e));obtain ⟨kk,a,rfl,hk,dd,q⟩:=h₂;refine wpAny_holding ?_;rw [List.forIn_cons];refine wpAny_bind (wpAny_bind (wpAny_bind (wpAny_dictSet_heap (knd:=knd) (xs:=[]) (hsz:=Nat.zero_le _) hr hk dd fun h' d' sb=>wpAny_pure ?_)));dsimp only;rw [List.forIn_nil];exact wpAny_pure (wpAny_pure (wpAny_pure (q h' d' sb _)))
end
section
variable {X:Cx} {pos:Pos} {k v a:Expr} {tk tv ta:TE}
theorem Bv {kvs:List (List Key×V)} {H:Hp} {ys:List (List Key×Addr×Value)} (r:KT H kvs ys):ys.isEmpty=kvs.isEmpty/\ys.length=kvs.length:=by
 have e:ys.length=kvs.length:=(Paired.length r).symm;refine ⟨?_,e⟩;cases kvs<;>cases ys<;>simp at e ⊢
theorem Fj:mZ X (.builtin "len") (fun xs H Q=>∃a kvs,xs=[V.ref a]/\H a=some (.dT kvs)/\Q (.int kvs.length) H):=by
 intro pins s σ H xs us Q I r h;obtain ⟨a,kvs,rfl,ha,q⟩:=h;obtain ⟨u,rfl,ru⟩:=vals1 r;cases ru;obtain ⟨z,hd,ys,rel,dd⟩:=zF I.hok ha;have e:=(Bv rel).2;refine Calls.call_function_entry kind_len plain_len entry_len (args_len1 _) (Es hd dd (by rw [e];exact z) ?_);rw [e];exact ⟨.int kvs.length,H,I.tok _,⟨_,rfl⟩,q⟩
def Zx (ta:TE):TT:=fun σ H Q=>ta σ H fun x H'=>∃a kvs,x=V.ref a/\H' a=some (.dT kvs)/\Q (!kvs.isEmpty) H'
theorem Tv (ha:PE X a ta) (he:∀whole,isTrue a X.env whole=(do let v ←whole;standAt a.pos;holding [v] (truthy v)):=by intro _;rfl):PT X a (Zx ta):=by
 intro pins s σ H Q I h;refine isTrue_plain (gU (ha pins s σ H _ I h) fun v s1 ⟨x,H1,I1,r1,q1⟩=> ?_) (he _);obtain ⟨d,kvs,rfl,hd,q⟩:=q1;cases r1;obtain ⟨z,hs,ys,rel,dd⟩:=zF I1.hok hd;obtain ⟨e1,e2⟩:=Bv rel;refine Jx hs dd (by rw [e2];exact z) ?_;rw [e1];exact ⟨H1,I1.tok _,q⟩
def Wt (tk tv:TE):TE:=fun σ H Q=>∀p,H p=none->tk σ (upd H p (.dT [])) fun x H1=>tv σ H1 fun y H2=>∃(t:Addr) (ks:List Key),x = .ref t/\H2 t=some (.tup (ks.map kV))/\H2 p=some (.dT [])/\Q (.ref p) (upd H2 p (.dT [(ks,y)]))
theorem Ql (hu:X.A.units<cLine) (hk:PE X k tk) (hv:PE X v tv):PE X (.Dict [some k] [v] pos) (Wt tk tv):=by
 intro pins s σ H Q I q;have hn:=I.hok.fresh (Nat.le_refl s.heap.objs.size);have I1:=I.laid (a:=s.heap.objs.size) (o:= .dT []) (h':=s.heap.push {cls:= .type "dict",data:= .dict #[]}) (t':=s.toks) (fun _ _ q=>Heap.get?_push_of_some _ q) (Nat.le_refl _) (Io s.heap I.big);have hs:(evalEachOpt [some k] X.env).zip ((evalEach [v] X.env).map fun v=>do let x ←v;standAt pos;pure x)=[((eval k X.env),(do let x ←eval v X.env;standAt pos;pure x))].map fun p=>(some p.1,p.2):=rfl;rw [arm_eval_Dict,hs,dictDisplay_pairs _ (by simp) (by simp)];refine wpAny_bind (wpAny_standAt (wpAny_bind (PX (knd:=tupleKind (d_ X.prog X.w)) (show (tupleKind (d_ X.prog X.w)).room X.A from hu) (gU (hk pins _ σ _ _ I1 (q _ hn)) fun kv s1 ⟨x,H1,I2,r1,q1⟩=>wpAny_bind (gU (hv pins s1 σ H1 _ I2 q1) fun vv s2 ⟨y,H2,I3,r2,t,ks,e,ht,hp,q2⟩=>wpAny_bind (wpAny_standAt (wpAny_pure ?_)))))));subst e;cases r1;obtain ⟨z,hd,xs,rel,dd⟩:=zF I3.hok hp;cases rel;refine ⟨ks,t,rfl,qY I3.hok ht,dd,fun h' d' sb t'=>wpAny_pure ⟨.ref s.heap.objs.size,_, ?_,rfl,q2⟩⟩;obtain ⟨o,es,ep,hq,h2,h3,h4,_,h5⟩:=d';refine vI I3 (by rw [hp];exact True.intro) sb ⟨o,hq⟩ ⟨by show 1<=sizeLine;decide,hd,_, ?_,o,es,ep,hq,h2,h3,h4,h5⟩;refine .cons ⟨rfl, ?_,r2⟩ .nil;show upd H2 s.heap.objs.size (.dT [(ks,y)]) t=_;rw [cC (tK ht hp (fun z=>nomatch z))];exact ht
def Qf (K:PySem.W.Frag):R2:=fun x y H Q=>∃a b xs ys,x = .ref a/\y = .ref b/\eV K H a xs/\eV K H b ys/\xs.length+ys.length<=sizeLine /\
 (xs=[]->Q (.ref b) H)/\(xs≠[]->ys=[]->Q (.ref a) H)/\(xs≠[]->ys≠[] -> ∀p,H p=none->Q (.ref p) (upd H p (.tup (xs++ys))))
theorem Le {K:PySem.W.Frag} (hK:X.K=K):xq X (binaryOp .Add) (Qf K):=by
 subst hK;intro pins s σ H x y v u Q I rx ry h;obtain ⟨a,b,xs,ys,rfl,rfl,ha,hb,hz,q0,q1,q2⟩:=h
 by_cases hx:xs=[]
 ·cases rx
  cases ry;obtain ⟨its,r1,p1,_⟩:=I.tuple ha;obtain ⟨its2,r2,p2,_⟩:=I.tuple hb;have hv:its=[]:=r1.vB.mpr hx;obtain ⟨⟨c1,d1,aob,sl1⟩,ho,hc,n,hd⟩:=id p1;obtain ⟨⟨c2,d2,aoa,sl2⟩,ho2,hc2,n2,hd2⟩:=id p2;simp only at hc hd hc2 hd2;subst hc hd hc2 hd2;exact concat_meets ⟨_,ho,rfl⟩ ⟨_,ho2,rfl⟩ noFill_tuple_add seq_tuple_add F.slot_tuple_add F.entry_tuple_add (F.args_tuple_add_2 _ _) (tuple_addW0 a b its.toArray its2.toArray n n2 d1 d2 sl1 sl2 (by simp [hv])) ⟨ho,ho2,.ref b,H,I,rfl,q0 hx⟩
 ·exact Ld pins s σ H _ _ v u Q I rx ry ⟨a,b,xs,ys,rfl,rfl,ha,hb,hx,hz,q1 hx,q2 hx⟩
end
end L2
namespace L2
open PySem PySem.Spec PyProof.Rows
section
variable {d:Addr} {o:Obj} {kvs:List (List Key×V)} {g:TG} {tb:TS} {D:Ends} {σ:St} {H:Hp}
theorem Rf (Pv:Nat->St->Hp->Prop) (h0:Pv 0 σ H) (hl:∀i σ H,i<=kvs.length->Pv i σ H->H d=some (.rM o (.dT kvs)))
 (hs:∀i k v b σ H,kvs[i]? = some (k,v)->H b=some (.tup (k.map kV))->Pv i σ H->g (.ref b) σ H fun σ2 H2=>tb {D with nx:=Pv (i+1),ct:=Pv (i+1),bk:=D.nx} σ2 H2) (hd:∀σ H,Pv kvs.length σ H->D.nx σ H):
 ∃W:Nat->Nat->St->Hp->Prop,(∃m,W 0 m σ H) /\ ∀i m σ H,W i m σ H ->
  ((RM d o kvs).stop i H/\D.nx σ H)\/((RM d o kvs).go i H /\ ∃N:St->Hp->Prop,(∀σ' H',N σ' H' -> ∃m',m'<m/\W (i+1) m' σ' H') /\ ∀x H',(RM d o kvs).YW i H x H'->g x σ H' fun σ2 H2=>tb {D with nx:=N,ct:=N,bk:=D.nx} σ2 H2):=by
 refine ⟨fun i m σ H=>m=kvs.length - i/\i<=kvs.length/\Pv i σ H,⟨kvs.length,by simp,Nat.zero_le _,h0⟩, ?_⟩;rintro i m σ H ⟨rfl,hi,p⟩;have q:=hl i σ H hi p
 by_cases hlt:i<kvs.length
 ·refine .inr ⟨⟨hlt,q⟩,Pv (i+1),fun σ' H' p'=>⟨kvs.length - (i+1),by omega,rfl,hlt,p'⟩,fun x H' y=> ?_⟩
  obtain ⟨rfl,k,v,b,e,rfl,hb⟩:=y;exact hs i k v b σ _ e hb p
 ·have e:i=kvs.length:=by omega
  subst e;exact .inl ⟨⟨Nat.le_refl _,q⟩,hd σ H p⟩
end
end L2
namespace L2
open PySem PySem.Spec PyProof.Rows
section
variable {X:Cx}
end
end L2
set_option Elab.async false
set_option linter.all false
set_option maxRecDepth 100000
set_option maxHeartbeats 4000000
namespace L2
open PySem PySem.Spec PyProof.Rows
theorem Gp:typeLookup (.type "list") "keys" = pure none:=by rw [typeLookup_type,builtinLookup_eq_fast];kernel_rfl
theorem tO:entryFor table "dict.update.loop" = some Builtin.«dict.update.loop» :=entryFor_of_tree (by kernel_rfl)
theorem lE:plainId "dict.update.loop" = true:=by decide +kernel
section
variable {prog:Program} {w:World} {A:Around} {E:Value->Shared->Prop} {s:Shared}
theorem RK {a:Addr} {o:Obj} {xs:Array Value} {k:Nat} {Q:Option Value->Shared->Prop} (hx:s.heap.get? a=some o) (hc:o.cls = .type "list") (hdat:o.data = .seq xs k) (hd:o.dict=none) (hA:A.handled=none)
 (h:∀h' tk e,Heap.NewExcOf s.heap h' e "AttributeError" -> Q none {s with heap:=h',toks:=tk}):wpAny (model prog w) A (getAttr? (.ref a) "keys") Q E s:=by
 obtain ⟨c,dct,dat,sl⟩:=o;simp only at hc hdat hd;subst hc hdat hd;obtain ⟨hp,g,d,tk,os⟩:=s;have hT:∀tk',(⟨hp,g,d,tk',os⟩:Shared).TypeIs (.ref a) "list" :=fun _=>⟨_,hx,rfl⟩;have f1:=sub_AttributeError;have f3:=F.slot_list_getattribute.lookup;have f4:=F.slot_list_getattribute.bind (.ref a);have f5:=am_list_getattr_none;unfold getAttr? getAttrBy? getAttrBy
 repeat (any_goals (first |assumption|exact hT _|((with_reducible show wpAny _ _ (call (Value.builtin "list.__getattribute__") _ _) _ _ _);refine call_meets F.slot_list_getattribute (hT _) am_entry_list_getattribute (F.args_list_getattribute_2 _ _) (meets_getattribute_miss_list a xs k sl _ _ Gp (by decide) (by size_fits)) ⟨hx,hA,fun h' tk' e hx'=> ?_⟩)|wp_step))
 obtain ⟨t',u',he⟩:=hx'.there;show wpAny _ _ (getattributeRaised _ _ _ _ _ _ _) _ _ _;unfold getattributeRaised
 repeat (any_goals (first |assumption|wp_step))
 exact h _ _ _ hx'.of
def sX (kvs:List (List Key×V)) (ps:List (List Key×V)):List (List Key×V):=ps.foldl (fun l p=>putK l p.1 p.2) kvs
theorem Hq (kvs ps:List (List Key×V)):(sX kvs ps).length<=kvs.length+ps.length:=by
 induction ps generalizing kvs with
 | nil=>exact Nat.le_refl _
 | cons p ps ih=>
   have h1:=ih (putK kvs p.1 p.2);have h2:=jO kvs p.1 p.2;show (sX (putK kvs p.1 p.2) ps).length<=_;rw [List.length_cons];omega
theorem MF {ps:List (List Key×V)} {i:Nat} {p:List Key×V} (h:ps[i]? = some p):sX [] (ps.take (i+1))=putK (sX [] (ps.take i)) p.1 p.2:=by
 rw [List.take_add_one,h];unfold sX;rw [List.foldl_append];rfl
def Ah (H:Hp) (vs:List V) (ps:List (List Key×V)):Prop:=vs.length=ps.length /\ ∀(i:Nat) v p,vs[i]? = some v->ps[i]? = some p -> ∃t a,v = .ref t/\H t=some (.tup [.ref a,p.2])/\H a=some (.tup (p.1.map kV))
theorem Xz {H:Hp} {kvs:List (List Key×V)} {xs:List (List Key×Addr×Value)} (r:KT H kvs xs) {x:List Key×Addr×Value} (hx:x∈xs):H x.2.1=some (.tup (x.1.map kV)):=by
 induction r with
 | nil=>cases hx
 | @cons p q ps qs h t ih=>
   rcases List.mem_cons.mp hx with rfl|hx
   ·rw [←h.1];exact h.2.1
   ·exact ih hx
theorem M7 {H:Hp} {h0:Heap} {d it p:Addr} {vs:List V} {its:List Value} {ps:List (List Key×V)} {R:Result->Shared->Prop} (hu:A.in1.units<cLine)
 (W:Walks prog w A.in1 it [it,p] [it] its.length (fun i v=>its[i]? = some v) (fun i h=>h.IsListIter it p i/\h.IsList p its.toArray))
 (ok:vQ prog w H h0) (rv:Vals vs its) (pa:Ah H vs ps) (hd:h0.get? d=none) (hi0:h0.get? it=none) (hp:∃o,h0.get? p=some o) (ndi:d≠it) (hz:ps.length<=sizeLine):
 ∀(m i:Nat) (s:Shared) (xs:List (List Key×Addr×Value)),its.length - i=m->i<=its.length->(s.heap.IsListIter it p i/\s.heap.IsList p its.toArray)->(∀b o,h0.get? b=some o->s.heap.get? b=some o) ->
  s.heap.DictOfH (tupleKind (d_ prog w)) d xs->KT H (sX [] (ps.take i)) xs ->
  (∀h' tk xs',(∀b o,h0.get? b=some o->h'.get? b=some o)->h'.DictOfH (tupleKind (d_ prog w)) d xs'->KT H (sX [] ps) xs'->R (.ok (.ret .none)) {s with heap:=h',toks:=tk}) ->
  codeAny (model prog w) A (.builtin "dict.update.loop" ⟨[.ref d,.ref it,rawInt i,.none],[]⟩) R s:=by
 have lens:its.length=ps.length:=by rw [←rv.length];exact pa.1
 have dp:d≠p:=fun z=>by obtain ⟨o,ho⟩:=hp;rw [←z,hd] at ho;cases ho
 have moved:∀{h h':Heap} {xs:List (List Key×Addr×Value)} {kvs:List (List Key×V)},(∀b o,b≠it->h.get? b=some o->h'.get? b=some o)->(∀b o,h0.get? b=some o->h.get? b=some o)->h.DictOfH (tupleKind (d_ prog w)) d xs->KT H kvs xs ->
  (∀b o,h0.get? b=some o->h'.get? b=some o)/\h'.DictOfH (tupleKind (d_ prog w)) d xs:=fun {h h' xs kvs} k k0 dd kt=>by
  have k1:∀b o,h0.get? b=some o->h'.get? b=some o:=fun b o e=>k b o (fun z=>by rw [z,hi0] at e;cases e) (k0 b o e);refine ⟨k1, ?_⟩;obtain ⟨o,es,ep,h1,h2,h3,h4,h5,h6⟩:=dd;have ok':=ok.kept k1;refine ⟨o,es,ep,k d o ndi h1,h2,h3,h4,fun x hx=> ?_,h6⟩;exact qY ok' (Xz kt hx)
 intro m
 induction m with
 | zero=>
   intro i s xs hm hi st k0 dd kt hR;have hin:i=its.length:=by omega
   subst hin;refine codeAny_builtin tO ?_;rw [Around.under_plainId lE _];show wpAny _ A.in1 (pyNext (.ref it) >>= _) _ _ s;refine wpAny_bind (W.done s _ _ st fun h' tk k=> ?_);obtain ⟨k1,d1⟩:=moved (h:=s.heap) (h':=h') (fun b o nb e=>k b o (by simpa using nb) e) k0 dd kt;show wpAny _ A.in1 (ret Value.none) _ _ _;rw [lens,List.take_length] at kt;exact wpAny_pure (hR h' tk xs k1 d1 kt)
 | succ m ih=>
   intro i s xs hm hi st k0 dd kt hR;have hlt:i<its.length:=by omega
   refine codeAny_builtin tO ?_;rw [Around.under_plainId lE _];show wpAny _ A.in1 (pyNext (.ref it) >>= _) _ _ s;refine wpAny_bind (W.item i s _ _ hlt st fun v h1 tk hP st1 k=> ?_);obtain ⟨k1,d1⟩:=moved (h:=s.heap) (h':=h1) (fun b o nb e=>k b o (by simpa using nb) e) k0 dd kt;have hv1:i<vs.length:=by rw [rv.length];exact hlt
   have hp1:i<ps.length:=by omega
   obtain ⟨t,a,ev,ht,ha⟩:=pa.2 i vs[i] ps[i] (by simp [hv1]) (by simp [hp1]);obtain ⟨u,eu,rvi⟩:=rv.get (i:=i) (x:= .ref t) (by rw [←ev];simp [hv1]);rw [hP] at eu;cases eu;cases rvi;have ok1:=ok.kept k1;obtain ⟨_,its2,r2,o2,ho2,hc2,n2,hd2⟩:=ok1 _ _ ht;obtain ⟨u1,u2,rfl,ra,ry⟩:=vals2 r2;cases ra;show wpAny _ A.in1 (holding [Value.ref t] _ >>= _) _ _ _;refine wpAny_bind (wpAny_holding ?_);refine wpAny_bind (wpAny_tryCatch ?_);unfold Builtin.Dict.pairItems;refine wpAny_bind (wpAny_typeOf (T:= "tuple") ⟨o2,ho2,hc2⟩ ?_);rw [if_pos (by decide)];refine wpAny_bind (wpAny_seqItems ho2 hd2 (wpAny_pure ?_));show wpAny _ A.in1 (holding [Value.ref a,u2] (dictSet d (.ref a) u2)) _ _ _;refine wpAny_holding ?_
   have lz:xs.length<=sizeLine:=by
    have e1:=Paired.length kt;have e2:=Hq [] (ps.take i);rw [List.length_take,List.length_nil] at e2;omega
   refine wpAny_dictSet_heap (knd:=tupleKind (d_ prog w)) (xs:=xs) (hsz:=lz) hu (qY ok1 ha) d1 fun h2 d2 sb=> ?_;have k2:∀b o,h0.get? b=some o->h2.get? b=some o:=fun b o e=>(sb.2 b (fun z=>by rw [z,hd] at e;cases e)).trans (k1 b o e);refine wpAny_pure ⟨plainId_quiet lE _, ?_⟩;refine ih (i+1) _ _ (by omega) (by omega) (W.frame _ _ _ st1 fun b hb o e=> ?_) k2 d2 ?_ fun h' tk' xs' k' d' kt'=>hR h' tk' xs' k' d' kt'
   ·have:b≠d:=fun z=>by
     subst z;rcases List.mem_cons.mp hb with rfl|hb
     ·exact ndi rfl
     ·exact dp (by simpa using hb)
    exact (sb.2 b this).trans e
   ·rw [MF (p:=ps[i]) (by simp [hp1])]
    exact kt.put ps[i].1 ha ry
theorem Ek {h:Heap} {a:Addr} (l:h.objs.size<=a):h.get? a=none:=by
 cases e:h.get? a with
 | none=>rfl
 | some q=>exact absurd (Heap.lt_size e) (Nat.not_lt.mpr l)
theorem Kd {H:Hp} {p:Addr} {vs:List V} {its:List Value} {ps:List (List Key×V)} {Q:Value->Shared->Prop} (hh:A.handled=none) (hu:A.in1.in1.units<cLine) (pl:PlainL s.heap p its.toArray)
 (ok:vQ prog w H s.heap) (rv:Vals vs its) (pa:Ah H vs ps) (hz:ps.length<=sizeLine)
 (h:∀h' tk xs,(∀b o,s.heap.get? b=some o->h'.get? b=some o)->h'.DictOfH (tupleKind (d_ prog w)) s.heap.objs.size xs->KT H (sX [] ps) xs->Q (.ref s.heap.objs.size) {s with heap:=h',toks:=tk}):
 wpAny (model prog w) A (call (.type "dict") [.ref p]) Q E s:=by
 refine callType_codes (Q₁:=fun obj s₁=>obj = .ref s.heap.objs.size/\s₁={s with heap:=s.heap.push {cls:= .type "dict",data:= .dict #[]}}) F.kt_called_dict (F.kt_typeCall_dict_1 _) F.entry_dict_init (kt_code_dict_new _ ⟨rfl,rfl⟩) ?_;rintro obj s₁ ⟨rfl,rfl⟩;have hnew:(s.heap.push {cls:= .type "dict",data:= .dict #[]}).DictOfH (tupleKind (d_ prog w)) s.heap.objs.size []:=⟨_,_,_,Heap.get?_push_size _ rfl,⟨rfl,rfl,rfl⟩,rfl,rfl,fun x hx=>(by cases hx),by simp⟩;have hT:Shared.TypeIs {s with heap:=s.heap.push {cls:= .type "dict",data:= .dict #[]}} (.ref s.heap.objs.size) "dict" :=⟨_,Heap.get?_push_size _ rfl,rfl⟩;refine ⟨hT,F.args_dict_init_2 _ _, ?_⟩;obtain ⟨o,n,ho,hc,hd,hs⟩:=id pl;have ho1:(s.heap.push {cls:= .type "dict",data:= .dict #[]}).get? p=some o:=Heap.get?_push_of_some _ ho;unfold Builtin.«dict.__init__»;refine wpAny_bind ?_;unfold Builtin.Dict.selfAndRest;refine wpAny_bind (wpAny_notOrdered_dict hT ?_);show wpAny _ _ (pure (s.heap.objs.size,[Value.ref p])) _ _ _;refine wpAny_pure ?_;show wpAny _ _ (Builtin.Dict.updateFrom "dict.__init__" s.heap.objs.size (.ref p) [] .none) _ _ _;unfold Builtin.Dict.updateFrom;refine wpAny_bind (wpAny_typeOf (T:= "list") ⟨o,ho1,hc⟩ ?_);rw [if_pos (by decide)];refine wpAny_bind (RK (s:={s with heap:=s.heap.push {cls:= .type "dict",data:= .dict #[]}}) ho1 hc hs hd (show A.in1.in1.handled=none from hh) fun h1 tk e ne=> ?_);have k1:∀b q,s.heap.get? b=some q->h1.get? b=some q:=fun b q eb=>ne.keeps b q (Heap.get?_push_of_some _ eb);have hp1:h1.get? p=some o:=k1 p o ho
 have hd1:h1.DictOfH (tupleKind (d_ prog w)) s.heap.objs.size []:=by
  obtain ⟨q,es,ep,q1,q2⟩:=hnew;refine ⟨q,es,ep,ne.keeps _ _ q1,q2.1,q2.2.1,q2.2.2.1,fun x hx=>(by cases hx),q2.2.2.2.2⟩
 rw [if_pos (show (none:Option Value).isNone=true from rfl)];refine wpAny_bind (wpAny_rule ?_);have pl1:h1.IsList p its.toArray:=⟨o,hp1,hc,n,hs⟩;refine wpAny_bind (wpAny_pyIter_list (s:={s with heap:=h1,toks:=tk}) pl1 ?_);refine wpAny_pure ⟨plainId_quiet lE _, ?_⟩;have lts:s.heap.objs.size<h1.objs.size:=by obtain ⟨q,_,_,q1,_⟩:=hd1;exact Heap.lt_size q1
 have ltp:p<h1.objs.size:=Heap.lt_size hp1;refine M7 (A:=A.in1) (H:=H) (h0:=s.heap) (d:=s.heap.objs.size) (it:=h1.objs.size) (p:=p) hu (sy (show A.in1.in1.handled=none from hh) h1.objs.size p (fun z=>by rw [z] at ltp;exact Nat.lt_irrefl _ ltp) its) ok rv pa ?_ ?_ ⟨o,ho⟩ (Nat.ne_of_lt lts) hz its.length 0 _ [] (by omega) (Nat.zero_le _) ⟨⟨_,Heap.get?_push_size _ rfl,rfl,rfl⟩,o,Heap.get?_push_of_some _ hp1,hc,n,hs⟩ (fun b q eb=>Heap.get?_push_of_some _ (k1 b q eb)) ?_ .nil ?_
 ·exact Ek (Nat.le_refl _)
 ·exact Ek (Nat.le_of_lt lts)
 ·obtain ⟨q,es,ep,q1,q2,q3,q4,_,q6⟩:=hd1
  exact ⟨q,es,ep,Heap.get?_push_of_some _ q1,q2,q3,q4,fun x hx=>(by cases hx),q6⟩
 ·exact fun h' tk' xs k' d' kt'=>⟨rfl,h h' tk' xs k' d' kt'⟩
end
section
variable {X:Cx}
def W5 (K:PySem.W.Frag):List V->Hp->VK->Prop:=fun xs H Q=>∃(p:Addr) (vs:List V) (ps:List (List Key×V)),xs=[.ref p]/\bK K H p vs/\Ah H vs ps /\ ∀q,H q=none->Q (.ref q) (upd H q (.dT (sX [] ps)))
theorem IW {K:PySem.W.Frag} (hK:X.K=K) (hc:X.calm=true) (hu:X.A.in1.units+64<cLine):mZ X (.type "dict") (W5 K):=by
 subst hK;intro pins s σ H xs us Q I r h;obtain ⟨p,vs,ps,rfl,hq,pa,q⟩:=h;obtain ⟨u,rfl,rx⟩:=vals1 r;cases rx;obtain ⟨its,rv,pl,hz⟩:=I.list hq;have z:ps.length<=sizeLine:=by rw [←pa.1];exact hz
 refine Kd (H:=H) (I.ok.hd hc) (Nat.lt_of_le_of_lt (show X.A.in1.in1.units<=X.A.in1.units+64 by show X.A.in1.units+1<=_;omega) hu) pl I.hok rv pa z fun h' tk xs k dd kt=> ?_;have hn:=I.hok.fresh (Nat.le_refl s.heap.objs.size);have lp:=Hq [] ps;refine ⟨.ref s.heap.objs.size,_,I.laid (a:=s.heap.objs.size) (o:= .dT (sX [] ps)) k (Nat.le_refl _) ?_,rfl,q _ hn⟩;obtain ⟨o,es,ep,q1,q2,q3,q4,_,q6⟩:=dd;refine ⟨by rw [List.length_nil] at lp;omega, ?_,xs,kt.keeps fun b ys e=> ?_,o,es,ep,q1,q2,q3,q4,q6⟩
 ·have:=I.big
  simp only [beq_eq_false_iff_ne,ne_eq];intro z;rw [z] at this;exact Nat.lt_irrefl _ this
 ·rw [cC (aL e hn)]
  exact e
variable {pos:Pos} {k v:Expr} {tk tv:TE}
def Ws (tk tv:TE):TE:=fun σ H Q=>∀p,H p=none->tk σ (upd H p (.dK [])) fun x H1=>tv σ H1 fun y H2=>∃c,x=kV c/\H2 p=some (.dK [])/\Q (.ref p) (upd H2 p (.dK [(c,y)]))
theorem Qk (hk:PE X k tk) (hv:PE X v tv):PE X (.Dict [some k] [v] pos) (Ws tk tv):=by
 intro pins s σ H Q I q;have hn:=I.hok.fresh (Nat.le_refl s.heap.objs.size);have I1:=I.laid (a:=s.heap.objs.size) (o:= .dK []) (h':=s.heap.push {cls:= .type "dict",data:= .dict #[]}) (t':=s.toks) (fun _ _ q=>Heap.get?_push_of_some _ q) (Nat.le_refl _) (Ir s.heap I.big);refine wpAny_Dict_pairs (knd:=d_ X.prog X.w) (pairs:=[((eval k X.env),(do let x ←eval v X.env;standAt pos;pure x))]) rfl (by simp) (by simp) ?_;refine evalPairs_cons (gU (hk pins _ σ _ _ I1 (q _ hn)) fun kv s1 ⟨x,H1,I2,r1,q1⟩=>wpAny_bind (gU (hv pins s1 σ H1 _ I2 q1) fun vv s2 ⟨y,H2,I3,r2,c,e,hp,q2⟩=>wpAny_bind (wpAny_standAt (wpAny_pure (evalPairs_nil ?_)))));subst e;obtain ⟨z,hd,xs,rel,dd⟩:=V7 I3.hok hp;cases rel;refine ⟨[(c,vv)],⟨BW r1,rfl,True.intro⟩,dd,fun h' d' sb=>⟨.ref s.heap.objs.size,_, ?_,rfl,q2⟩⟩;obtain ⟨o,es,ep,hq,rest⟩:=id d';exact vI I3 (by rw [hp];exact True.intro) sb ⟨o,hq⟩ ⟨by show 1<=sizeLine;decide,hd,_,.cons ⟨rfl,r2⟩ .nil,d'⟩
end
end L2
set_option Elab.async false
set_option linter.all false
set_option maxRecDepth 100000
set_option maxHeartbeats 4000000
namespace Prf
open PySem L2
def top (i:Nat):Stmt:=PySem.Challenge.pw_fewnotes_k97_records_refused_at_each_doo.main.body.getD i (.Pass ⟨0,0,0,0⟩)
abbrev i_:Stmt:=top 16
abbrev jc:Stmt:=top 17
abbrev jT:Stmt:=top 19
abbrev nY:Stmt:=top 21
abbrev iH:Stmt:=top 22
abbrev fV:Stmt:=top 23
abbrev pX:Stmt:=top 24
abbrev gJ:Stmt:=top 25
abbrev sO:Stmt:=top 26
abbrev g_:Stmt:=top 27
abbrev cV:Stmt:=top 28
abbrev bW:Stmt:=top 29
abbrev gM:Stmt:=top 30
abbrev iw:Stmt:=top 31
abbrev gK:Stmt:=top 32
abbrev h_:Stmt:=top 33
abbrev xV:Stmt:=top 34
abbrev fX:Stmt:=top 35
abbrev iI:Stmt:=top 36
abbrev jU:Stmt:=top 37
abbrev ig:Stmt:=top 38
abbrev fU:Stmt:=top 39
abbrev iZ:Stmt:=top 40
abbrev iG:Stmt:=top 41
abbrev fJ:Stmt:=top 42
abbrev iu:Stmt:=top 44
abbrev fW:Stmt:=top 45
abbrev sV:Stmt:=top 47
abbrev pY:Stmt:=top 48
abbrev qb:Stmt:=top 49
abbrev jW:Stmt:=top 50
abbrev n_:Stmt:=top 51
abbrev n6:Stmt:=top 52
abbrev pZ:Stmt:=top 53
abbrev jV:Stmt:=top 54
abbrev qd:Stmt:=top 55
abbrev sS:Stmt:=top 56
abbrev je:Stmt:=top 57
abbrev p7:Stmt:=top 58
abbrev nZ:Stmt:=top 59
abbrev sW:Stmt:=top 60
abbrev jd:Stmt:=top 61
abbrev sU:Stmt:=top 62
abbrev xU:Stmt:=top 63
structure tU (mg:Str->Option Value):Prop where
 GR:mg "ValueError" = none
 CK:mg "all" = none
 YF:mg "bool" = none
 YD:mg "dict" = none
 Wa:mg "int" = none
 fK:mg "isinstance" = none
 fL:mg "len" = none
 pQ:mg "list" = none
 Je:mg "max" = none
 V_:mg "min" = none
 jk:mg "range" = none
 V9:mg "sum" = none
 GQ:mg "tuple" = none
 RJ:mg "zip" = none
theorem Hi:bT ["value"] ["value"] (aH i_):=⟨rfl,rfl,rfl,by decide +kernel,rfl,by decide +kernel,by decide +kernel⟩
theorem Hj:bT ["value","count"] ["value","count"] (aH jc):=⟨rfl,rfl,rfl,by decide +kernel,rfl,by decide +kernel,by decide +kernel⟩
theorem JH:bT ["value"] ["value"] (aH jT):=⟨rfl,rfl,rfl,by decide +kernel,rfl,by decide +kernel,by decide +kernel⟩
theorem Mv:bT ["record","cut"] ["record","cut"] (aH nY):=⟨rfl,rfl,rfl,by decide +kernel,rfl,by decide +kernel,by decide +kernel⟩
theorem nW:bT ["record","some","cut","broken","note"] ["record","some"] (aH iH):=⟨rfl,rfl,rfl,by decide +kernel,rfl,by decide +kernel,by decide +kernel⟩
theorem jr:bT ["record","some","cut","broken","note"] ["record","some"] (aH fV):=⟨rfl,rfl,rfl,by decide +kernel,rfl,by decide +kernel,by decide +kernel⟩
theorem xR:bT ["record","order","firsts","done","hand"] ["record","order"] (aH pX):=⟨rfl,rfl,rfl,by decide +kernel,rfl,by decide +kernel,by decide +kernel⟩
theorem jN:bT ["record","firsts","done","order","free"] ["record"] (aH gJ):=⟨rfl,rfl,rfl,by decide +kernel,rfl,by decide +kernel,by decide +kernel⟩
theorem vh:bT ["record","shortest","starts","start","found"] ["record"] (aH sO):=⟨rfl,rfl,rfl,by decide +kernel,rfl,by decide +kernel,by decide +kernel⟩
theorem Dn:bT ["record","some"] ["record","some"] (aH g_):=⟨rfl,rfl,rfl,by decide +kernel,rfl,by decide +kernel,by decide +kernel⟩
theorem za:bT ["record","most"] ["record","most"] (aH cV):=⟨rfl,rfl,rfl,by decide +kernel,rfl,by decide +kernel,by decide +kernel⟩
theorem wR:bT ["record","most"] ["record","most"] (aH bW):=⟨rfl,rfl,rfl,by decide +kernel,rfl,by decide +kernel,by decide +kernel⟩
theorem Bm:bT ["record"] ["record"] (aH gM):=⟨rfl,rfl,rfl,by decide +kernel,rfl,by decide +kernel,by decide +kernel⟩
theorem Dr:bT ["record","done"] ["record","done"] (aH iw):=⟨rfl,rfl,rfl,by decide +kernel,rfl,by decide +kernel,by decide +kernel⟩
theorem uU:bT ["record","order","hands"] ["record","order"] (aH gK):=⟨rfl,rfl,rfl,by decide +kernel,rfl,by decide +kernel,by decide +kernel⟩
theorem Dp:bT ["counts","note"] ["counts","note"] (aH h_):=⟨rfl,rfl,rfl,by decide +kernel,rfl,by decide +kernel,by decide +kernel⟩
theorem WR:bT ["done","touch"] ["done","touch"] (aH xV):=⟨rfl,rfl,rfl,by decide +kernel,rfl,by decide +kernel,by decide +kernel⟩
theorem zK:bT ["record","done"] ["record","done"] (aH fX):=⟨rfl,rfl,rfl,by decide +kernel,rfl,by decide +kernel,by decide +kernel⟩
theorem sH:bT ["record","firsts","note"] ["record"] (aH iI):=⟨rfl,rfl,rfl,by decide +kernel,rfl,by decide +kernel,by decide +kernel⟩
theorem JK:bT ["counts","firsts","done","hand"] ["counts","firsts","done","hand"] (aH jU):=⟨rfl,rfl,rfl,by decide +kernel,rfl,by decide +kernel,by decide +kernel⟩
theorem Dq:bT ["counts","firsts","done"] ["counts","firsts","done"] (aH ig):=⟨rfl,rfl,rfl,by decide +kernel,rfl,by decide +kernel,by decide +kernel⟩
theorem fH:bT ["record","most","firsts","ways","latest","further","cut","hand","longer"] ["record","most"] (aH fU):=⟨rfl,rfl,rfl,by decide +kernel,rfl,by decide +kernel,by decide +kernel⟩
theorem Hh:bT ["note","following"] ["note","following"] (aH iZ):=⟨rfl,rfl,rfl,by decide +kernel,rfl,by decide +kernel,by decide +kernel⟩
theorem nU:bT ["record","start","chains","length","back"] ["record","start"] (aH iG):=⟨rfl,rfl,rfl,by decide +kernel,rfl,by decide +kernel,by decide +kernel⟩
theorem jR:bT ["record","chains","longer","note","chain"] ["record","chains"] (aH fJ):=⟨rfl,rfl,rfl,by decide +kernel,rfl,by decide +kernel,by decide +kernel⟩
theorem pB:bT ["record","cut","inside","outside","left"] ["record","cut"] (aH iu):=⟨rfl,rfl,rfl,by decide +kernel,rfl,by decide +kernel,by decide +kernel⟩
theorem zJ:bT ["cut","note"] ["cut","note"] (aH fW):=⟨rfl,rfl,rfl,by decide +kernel,rfl,by decide +kernel,by decide +kernel⟩
theorem zZ:bT ["script","total","cell"] ["script"] (aH sV):=⟨rfl,rfl,rfl,by decide +kernel,rfl,by decide +kernel,by decide +kernel⟩
theorem Bo:bT ["number","place","one","two"] ["number","place"] (aH pY):=⟨rfl,rfl,rfl,by decide +kernel,rfl,by decide +kernel,by decide +kernel⟩
theorem Bp:bT ["bag","many","cell","found"] ["bag","many"] (aH qb):=⟨rfl,rfl,rfl,by decide +kernel,rfl,by decide +kernel,by decide +kernel⟩
theorem sJ:bT ["bag","great","few","hands","top"] ["bag","great"] (aH jW):=⟨rfl,rfl,rfl,by decide +kernel,rfl,by decide +kernel,by decide +kernel⟩
theorem rB:bT ["bag","counts","left","order","step","some"] ["bag","counts"] (aH n_):=⟨rfl,rfl,rfl,by decide +kernel,rfl,by decide +kernel,by decide +kernel⟩
theorem vm:bT ["order","found","many","at"] ["order"] (aH n6):=⟨rfl,rfl,rfl,by decide +kernel,rfl,by decide +kernel,by decide +kernel⟩
theorem xT:bT ["bag","counts","some","i","j"] ["bag","counts"] (aH pZ):=⟨rfl,rfl,rfl,by decide +kernel,rfl,by decide +kernel,by decide +kernel⟩
theorem iQ:bT ["bag","great","mode","twice","counts","spots","ties","step","note","along"] ["bag","great"] (aH jV):=⟨rfl,rfl,rfl,by decide +kernel,rfl,by decide +kernel,by decide +kernel⟩
theorem Qa:bT ["record"] ["record"] (aH qd):=⟨rfl,rfl,rfl,by decide +kernel,rfl,by decide +kernel,by decide +kernel⟩
theorem Tf:bT ["bag"] ["bag"] (aH sS):=⟨rfl,rfl,rfl,by decide +kernel,rfl,by decide +kernel,by decide +kernel⟩
theorem gP:bT ["bag","counts","part","below","far","idle","tie","hand","other","found","top"] ["bag","counts"] (aH je):=⟨rfl,rfl,rfl,by decide +kernel,rfl,by decide +kernel,by decide +kernel⟩
theorem uV:bT ["bag","counts","kind","far","some","at"] ["bag","counts"] (aH p7):=⟨rfl,rfl,rfl,by decide +kernel,rfl,by decide +kernel,by decide +kernel⟩
theorem ql:bT ["bag","counts","kind","far","hand","order","at"] ["bag","counts"] (aH nZ):=⟨rfl,rfl,rfl,by decide +kernel,rfl,by decide +kernel,by decide +kernel⟩
theorem Tg:bT ["door","record","lists","limit"] ["door","record","lists","limit"] (aH sW):=⟨rfl,rfl,rfl,by decide +kernel,rfl,by decide +kernel,by decide +kernel⟩
theorem qL:bT ["door","record","lists","limit","found","e"] ["door","record","lists","limit"] (aH jd):=⟨rfl,rfl,rfl,by decide +kernel,rfl,by decide +kernel,by decide +kernel⟩
theorem sI:bT ["door","bad","record","some","order","limit","counts","each","hand","k","other","m"] ["door","bad","record","some","order","limit"] (aH sU):=⟨rfl,rfl,rfl,by decide +kernel,rfl,by decide +kernel,by decide +kernel⟩
theorem iY:bT ["script","bag","bad","great","limit","strange","record","counts","told","tie","some","order","door","handed","asked","found","due"] ["script"] (aH xU):=⟨rfl,rfl,rfl,by decide +kernel,rfl,by decide +kernel,by decide +kernel⟩
section
variable {P:Program} {w:World} {K:PySem.W.Frag} {mg:Str->Option Value} {base:Heap}
def dR (H:Hp) (r b:Addr) (n:Nat):Prop:=∃(ns:List Int) (i f c t:Int),H r=some (.lst [.ref b,.int i,.int f,.int c,.int t])/\H b=some (.lst (ns.map V.int))/\b≠r/\0<=i/\i<=ns.length/\0<=f/\0<=c/\c<=n
theorem dR.keep {H H':Hp} {r b:Addr} {n:Nat} (h:dR H r b n) (k:Same H H'):dR H' r b n:=by
 obtain ⟨ns,i,f,c,t,e1,e2,q⟩:=h;exact ⟨ns,i,f,c,t,k _ _ e1,k _ _ e2,q⟩
theorem dR.kp {H H':Hp} {r b p:Addr} {n:Nat} (h:dR H r b n) (k:Kp p H H') (n1:r≠p) (n2:b≠p):dR H' r b n:=by
 obtain ⟨ns,i,f,c,t,e1,e2,q⟩:=h;exact ⟨ns,i,f,c,t,k _ _ e1 n1,k _ _ e2 n2,q⟩
theorem dR.mono {H:Hp} {r b:Addr} {n m:Nat} (h:dR H r b n) (k:n<=m):dR H r b m:=by
 obtain ⟨ns,i,f,c,t,e1,e2,q0,q1,q2,q3,q4,q5⟩:=h;exact ⟨ns,i,f,c,t,e1,e2,q0,q1,q2,q3,q4,by (clear q4 q3 q2 q1 q0 e2 e1;omega)⟩
theorem dR.lst {H:Hp} {r b:Addr} {n:Nat} (h:dR H r b n):∃ys,H r=some (.lst ys):=by
 obtain ⟨ns,i,f,c,t,e1,_⟩:=h;exact ⟨_,e1⟩
theorem dR.ne {H:Hp} {r b p:Addr} {n:Nat} (h:dR H r b n) (hp:H p=none):p≠r/\p≠b:=by
 obtain ⟨ns,i,f,c,t,e1,e2,_⟩:=h;exact ⟨(aL e1 hp).symm,(aL e2 hp).symm⟩
theorem Kp.new {H H':Hp} {r p:Addr} (k:Kp r H H') (hp:H' p=none) (hr:∃o,H' r=some o):H p=none:=by
 cases e:H p with
 | none=>rfl
 | some o=>
   by_cases n:p=r
   ·subst n
    obtain ⟨o',ho⟩:=hr;rw [hp] at ho;cases ho
   ·rw [k _ _ e n] at hp
    cases hp
theorem dR.at {H:Hp} {r b:Addr} {n:Nat} (h:dR H r b n):∃o,H r=some o:=by
 obtain ⟨ns,i,f,c,t,e1,_⟩:=h;exact ⟨_,e1⟩
theorem dR.tups {H H':Hp} {r b:Addr} {n:Nat} (h:dR H r b n) (k:Kp r H H'):∀a xs,H a=some (HO.tup xs)->H' a=some (HO.tup xs):=by
 obtain ⟨ys,e⟩:=h.lst;exact k.tups e
def Jz (K:PySem.W.Frag):Sp:=fun vs H Q _=>∃(x p:Int),vs=[.int x,.int p]/\0<=p/\p<2 ^ 62 /\ ∀z:Int,0<=z->Q (.int z) H
theorem T8 {f:Addr} {fd:FuncData} (F:qj K "_law_stir" "_law_stir" pY f fd):gn P w K mg base tV 1 f fd ["number","place"] (Jz K):=by
 refine F.ok Bo (fun vs H Q E h=> ?_) (fun cdv A outer s H vs Q E hr h=> ?_)
 ·obtain ⟨x,p,rfl,_⟩:=h
  rfl
 ·obtain ⟨x,p,rfl,p0,p1,k⟩:=h
  refine ⟨_,(aF (bC (i:=2) Bo.nd rfl (Or.inl rfl) (bM pP (bM fD (bM fD (bM sY (pv 0) aB) (bM sY (pv 1) aB)) aB) aB))
   (aF (bC (i:=3) Bo.nd rfl (Or.inl rfl) (bM pP (bM sY (pv 2) (pv 2)) aB))
   (aK (bF (bM Gh (bM pP (bM fD (bM fD (bM sY (pv 3) aB) (bM sY (bM sY (pv 1) (pv 1)) aB)) (bM Gh (pv 2) aB)) aB) aB))))), ?_⟩
  refine ⟨_,rfl,_,_,rfl,rfl,.inr ⟨by decide,by decide⟩,_,rfl,_,_,rfl,rfl,.inr ⟨by decide,by decide⟩,_,_,rfl,rfl,_,_,rfl,rfl,_,_,rfl,rfl,(by show (0:Int)<2305843009213693951;decide), ?_⟩;have o0:(0:Int)<=(x*998244353+p*1000000007+5) % 2305843009213693951:=Int.emod_nonneg _ (by decide);have o1:(x*998244353+p*1000000007+5) % 2305843009213693951<2305843009213693951:=Int.emod_lt_of_pos _ (by decide);generalize (x*998244353+p*1000000007+5) % 2305843009213693951=one at o0 o1;refine ⟨_,rfl,_,rfl,_,_,rfl,rfl,.inl ⟨by (clear o1 o0 p1 p0;omega),by (clear o1 o0 p1 p0;omega)⟩,_,_,rfl,rfl,(by show (0:Int)<2305843009213693951;decide), ?_⟩;refine ⟨_,rfl,_,_,rfl,rfl,.inr ⟨by decide,by decide⟩,_,rfl,_,rfl,_,_,rfl,rfl,.inl ⟨by (clear o1 o0 p1;omega),by (clear o1 o0 p0;omega)⟩,_,_,rfl,rfl,.inr ⟨by decide,by decide⟩,_,_,rfl,rfl,_,rfl,_,_,rfl,rfl,(by show Vw _ 3;exact ⟨by decide,by decide⟩),_,_,rfl,rfl,_,_,rfl,rfl,(by show (0:Int)<2305843009213693921;decide),_,_,rfl,rfl,(by show Vw _ 1024;exact ⟨by decide,by decide⟩), ?_⟩;exact k _ (Int.ediv_nonneg (Int.emod_nonneg _ (by decide)) (by decide))
def qz (K:PySem.W.Frag):Sp:=fun vs H Q _=>∃(r b:Addr) (m:Int) (n:Nat),vs=[.ref r,.int m]/\dR H r b n/\n<1099511627776/\0<m/\m<1329227995784915872903807060280344576 /\ ∀(z:Int) (H':Hp),0<=z->z<m->dR H' r b (n+1)->Kp r H H'->Q (.int z) H'
theorem Ue {f:Addr} {fd:FuncData} (F:qj K "_law_draw" "_law_draw" qb f fd) (Mi:FnAt P w K mg base 1 "_law_stir" ["number","place"] (Jz K)) (Bt:tU mg):gn P w K mg base tV 2 f fd ["bag","many"] (qz K):=by
 refine F.ok Bp (fun vs H Q E h=> ?_) (fun cdv A outer s H vs Q E hr h=> ?_)
 ·obtain ⟨r,b,m,n,rfl,_⟩:=h
  rfl
 ·obtain ⟨r,b,m,n,rfl,⟨ns,i,f,c,t,hR,hB,nb,i0,i1,f0,c0,c1⟩,hn,m0,m1,k⟩:=h
  have gO:=hr.units
  refine ⟨_,(aF (dU (aZ gF (pv 1) aB (bB _)) (aK (bF aB)) bD)
   (aF (qW (bM fD (aU (bh (K:=K) rfl) (pv 0) aB (fun _ _=>rfl)) aB) (qX (pv 0) aB set_list))
   (aF (dU (PW.pt (jf (aZ uY (aU (bh (K:=K) rfl) (pv 0) aB (fun _ _=>rfl)) aB (bB _)) (iC (aZ gF (aU (bh (K:=K) rfl) (pv 0) aB (fun _ _=>rfl)) (aX (aR (K:=K) rfl) (by rfl) Bt.fL d8 (aj (aU (bh (K:=K) rfl) (pv 0) aB (fun _ _=>rfl)) aA)) (bB _))))) (aK (bF (bM pP (bG Mi (hr.mono (by decide)) (by rfl) (aj (aU (bh (K:=K) rfl) (pv 0) aB (fun _ _=>rfl)) (aj (aU (bh (K:=K) rfl) (pv 0) aB (fun _ _=>rfl)) aA))) (pv 1)))) bD)
   (aF (dU (aZ uY (aU (bh (K:=K) rfl) (pv 0) aB (fun _ _=>rfl)) aB (bB _)) (aF (bC (i:=2) Bp.nd rfl (Or.inl rfl) (aU (bh (K:=K) rfl) (aU (bh (K:=K) rfl) (pv 0) aB (fun _ _=>rfl)) (aU (bh (K:=K) rfl) (pv 0) aB (fun _ _=>rfl)) (fun _ _=>rfl)))
   (aF (qW (bM fD (aU (bh (K:=K) rfl) (pv 0) aB (fun _ _=>rfl)) aB) (qX (pv 0) aB set_list))
   (aF (dU (aZ uY (pv 2) (bM JR aB aB) (bB _)) (aK (bF (bM pP (bG Mi (hr.mono (by decide)) (by rfl) (aj (bM pP (pv 2) aB) (aj (aU (bh (K:=K) rfl) (pv 0) aB (fun _ _=>rfl)) aA))) (pv 1)))) bD)
   (aK (qW (bM mX (pv 2) (bM JR aB aB)) (qX (pv 0) aB set_list)))))) bD)
   (aF (bC (i:=3) Bp.nd rfl (Or.inl rfl) (bM pP (aU (bh (K:=K) rfl) (pv 0) aB (fun _ _=>rfl)) (pv 1)))
   (aF (qW (bM Qn (aU (bh (K:=K) rfl) (pv 0) aB (fun _ _=>rfl)) (pv 1)) (qX (pv 0) aB set_list))
   (aK (bF (pv 3))))))))), ?_⟩
  refine ⟨_,rfl,rfl,_,rfl, ?_⟩;refine dY (fun h0=> ?_) (fun h0=> ?_)
  ·have e:m=1:=by injection (of_decide_eq_true h0)
   subst e;exact k 0 H (by decide) (by decide) ⟨ns,i,f,c,t,hR,hB,nb,i0,i1,f0,c0,by (clear h0 m1 m0 gO hn c0 f0 i1 i0 nb hB hR;omega)⟩ (Kp.refl _ _)
  ·
   refine ⟨_,rfl,_,_,_,_,rfl,rfl,bK.of hR,rfl,_,_,rfl,rfl,_,rfl,_,_,_,_,rfl,rfl,hR,rfl, ?_⟩;have k1:Kp r H (upd H r (.lst [.ref b,.int i,.int f,.int (c+1),.int t])):=Kp.set;have vX:(upd H r (.lst [.ref b,.int i,.int f,.int (c+1),.int t])) r=some (.lst [.ref b,.int i,.int f,.int (c+1),.int t]):=au;have Dk:=k1 _ _ hB nb;have ln:(List.map V.int ns).length=ns.length:=List.length_map ..;have Dj:(0:Int)<=c+1:=by (clear ln Dk vX h0 gO m1 m0 hn c1 f0 i1 i0 nb hB hR;omega)
   have Hz:c+1<2 ^ 62:=by (clear Dj ln Dk vX h0 gO m1 m0 c0 f0 i1 i0 nb hB hR;omega)
   have md0:∀z:Int,0<=z % m:=fun z=>Int.emod_nonneg _ (by (clear Hz Dj ln Dk vX h0 gO m1 hn c1 c0 f0 i1 i0 nb hB hR;omega));have md1:∀z:Int,z % m<m:=fun z=>Int.emod_lt_of_pos _ m0;refine ⟨_,rfl,_,_,_,_,rfl,rfl,bK.of vX,rfl,_,_,rfl,rfl,_,rfl, ?_⟩
   by_cases f2:f<2
   ·rw [decide_eq_true f2]
    refine ji ?_;refine ⟨_,rfl,_,_,_,_,rfl,rfl,bK.of vX,rfl,_,rfl,_,_,_,_,rfl,rfl,bK.of vX,rfl,b,_,rfl,.inl (bK.of Dk),rfl,_,rfl, ?_⟩;refine dY (fun h1=> ?_) (fun h1=> ?_)
    ·refine ⟨_,rfl,_,_,_,_,rfl,rfl,bK.of vX,rfl,_,rfl,_,_,_,_,rfl,rfl,bK.of vX,rfl,t,c+1,rfl,Dj,Hz,fun z z0=> ?_⟩
     refine ⟨_,rfl,_,_,rfl,rfl,m0, ?_⟩;exact k _ _ (md0 z) (md1 z) ⟨ns,i,f,c+1,t,vX,Dk,nb,i0,i1,f0,Dj,by (clear z0 h1 f2 Hz Dj ln Dk vX h0 gO m1 m0 hn c0 f0 i1 i0 nb hB hR;omega)⟩ k1
    ·have hlt:i<ns.length:=by
      have:¬i=(ns.length:Int):=fun z=>h1 (decide_eq_true (by rw [ln,z]));omega
     obtain ⟨cell,hc,_⟩:∃cell:Int,CP (ns.map V.int) i=some (V.int cell)/\True:=by
      obtain ⟨m',rfl⟩:=Int.eq_ofNat_of_zero_le i0;have:m'<ns.length:=by (clear h1 Dk vX i1 i0 hR f2 Hz Dj ln h0 gO m1 m0 hn c1 c0 f0 nb hB;omega)
      exact ⟨ns[m'],qg (by simp [this]),trivial⟩
     refine ⟨_,rfl,_,_,_,_,rfl,rfl,bK.of vX,rfl,_,_,rfl,rfl,_,rfl, ?_⟩;rw [decide_eq_true f2];refine ji ?_;refine ⟨_,rfl,_,_,_,_,rfl,rfl,bK.of vX,rfl,_,rfl,_,_,_,_,rfl,rfl,bK.of vX,rfl,_,_,_,_,rfl,rfl,bK.of Dk,hc, ?_⟩;refine ⟨_,rfl,_,_,_,_,rfl,rfl,bK.of vX,rfl,_,_,rfl,rfl,_,rfl,_,_,_,_,rfl,rfl,vX,rfl, ?_⟩;have k2:Kp r (upd H r (.lst [.ref b,.int i,.int f,.int (c+1),.int t])) (upd (upd H r (.lst [.ref b,.int i,.int f,.int (c+1),.int t])) r (.lst [.ref b,.int (i+1),.int f,.int (c+1),.int t])):=Kp.set;have Q9:(upd (upd H r (.lst [.ref b,.int i,.int f,.int (c+1),.int t])) r (.lst [.ref b,.int (i+1),.int f,.int (c+1),.int t])) r=some (.lst [.ref b,.int (i+1),.int f,.int (c+1),.int t]):=au;have hB2:=k2 _ _ Dk nb;refine ⟨_,rfl,_,_,rfl,rfl,(by show Vv 10 18;exact ⟨by decide,by decide,by decide⟩),_,_,rfl,rfl,_,rfl, ?_⟩;refine dY (fun h2=> ?_) (fun h2=> ?_)
     ·refine ⟨_,rfl,_,_,rfl,rfl,(by show (0:Int)<2305843009213693951;decide),_,rfl,_,_,_,_,rfl,rfl,bK.of Q9,rfl,_,c+1,rfl,Dj,Hz,fun z z0=> ?_⟩
      refine ⟨_,rfl,_,_,rfl,rfl,m0, ?_⟩;exact k _ _ (md0 z) (md1 z) ⟨ns,i+1,f,c+1,t,Q9,hB2,nb,by (clear z0 h2 hB2 Q9 hc hlt h1 f2 Hz Dj ln Dk vX h0 gO m1 m0 hn c1 c0 f0 i1 nb hB hR;omega),by (clear z0 h2 hB2 Q9 hc h1 f2 Hz Dj ln Dk vX h0 gO m1 m0 hn c1 c0 f0 i1 i0 nb hB hR;omega),f0,Dj,by (clear z0 h2 hB2 Q9 hc hlt h1 f2 Hz Dj ln Dk vX h0 gO m1 m0 hn c0 f0 i1 i0 nb hB hR;omega)⟩ (k1.trans k2)
     ·have hbig:(0:Int)<=cell - 10 ^ ((18:Int).toNat):=by
       have h2':(1000000000000000000:Int)<=cell:=by simpa using h2
       show (0:Int)<=cell - 1000000000000000000
       (clear h2 hB2 Q9 hc hlt h1 f2 Hz Dj ln Dk vX h0 gO m1 m0 hn c1 c0 f0 i1 i0 nb hB hR;omega)
      refine ⟨_,rfl,_,_,rfl,rfl,(by show Vv 10 18;exact ⟨by decide,by decide,by decide⟩),_,_,rfl,rfl,_,rfl,_,_,_,_,rfl,rfl,Q9,rfl, ?_⟩;have Yk:(upd (upd (upd H r (.lst [.ref b,.int i,.int f,.int (c+1),.int t])) r (.lst [.ref b,.int (i+1),.int f,.int (c+1),.int t])) r (.lst [.ref b,.int (i+1),.int (cell - 10 ^ ((18:Int).toNat)),.int (c+1),.int t])) r=some (.lst [.ref b,.int (i+1),.int (cell - 10 ^ ((18:Int).toNat)),.int (c+1),.int t]):=au;have k3:Kp r (upd (upd H r (.lst [.ref b,.int i,.int f,.int (c+1),.int t])) r (.lst [.ref b,.int (i+1),.int f,.int (c+1),.int t])) (upd (upd (upd H r (.lst [.ref b,.int i,.int f,.int (c+1),.int t])) r (.lst [.ref b,.int (i+1),.int f,.int (c+1),.int t])) r (.lst [.ref b,.int (i+1),.int (cell - 10 ^ ((18:Int).toNat)),.int (c+1),.int t])):=Kp.set;have hB3:=k3 _ _ hB2 nb;refine ⟨_,rfl,_,_,_,_,rfl,rfl,bK.of Yk,rfl,_,rfl,_,_,rfl,rfl,m0, ?_⟩;refine ⟨_,rfl,_,_,_,_,rfl,rfl,bK.of Yk,rfl,_,rfl,_,_,rfl,rfl,⟨m0,m1⟩,_,rfl,_,_,_,_,rfl,rfl,Yk,rfl, ?_⟩;refine ⟨_,rfl, ?_⟩;refine k _ _ (md0 _) (md1 _) ⟨ns,i+1,_,c+1,t,au, ?_,nb,by (clear hB3 Yk hbig h2 hB2 Q9 hc hlt h1 f2 Hz Dj ln Dk vX h0 gO m1 m0 hn c1 c0 f0 i1 nb hB hR;omega),by (clear hB3 Yk hbig h2 hB2 Q9 hc h1 f2 Hz Dj ln Dk vX h0 gO m1 m0 hn c1 c0 f0 i1 i0 nb hB hR;omega),Int.ediv_nonneg hbig (by (clear hB3 Yk hbig h2 hB2 Q9 hc hlt h1 f2 Hz Dj ln Dk vX h0 gO m1 hn c1 c0 f0 i1 i0 nb hB hR;omega)),Dj,by (clear hB3 Yk hbig h2 hB2 Q9 hc hlt h1 f2 Hz Dj ln Dk vX h0 gO m1 m0 hn c0 f0 i1 i0 nb hB hR;omega)⟩ (((k1.trans k2).trans k3).trans Kp.set);rw [cC nb];exact hB3
   ·have Ze:decide (f<2)=false:=decide_eq_false f2
    rw [Ze];refine iM ?_;refine ⟨_,rfl,_,_,_,_,rfl,rfl,bK.of vX,rfl,_,_,rfl,rfl,_,rfl, ?_⟩;rw [Ze];refine iM ?_;refine ⟨_,rfl,_,_,_,_,rfl,rfl,bK.of vX,rfl,_,rfl,_,_,rfl,rfl,m0, ?_⟩;refine ⟨_,rfl,_,_,_,_,rfl,rfl,bK.of vX,rfl,_,rfl,_,_,rfl,rfl,⟨m0,m1⟩,_,rfl,_,_,_,_,rfl,rfl,vX,rfl, ?_⟩;refine ⟨_,rfl, ?_⟩;refine k _ _ (md0 _) (md1 _) ⟨ns,i,_,c+1,t,au, ?_,nb,by (clear Ze f2 Hz Dj ln Dk vX h0 gO m1 m0 hn c1 c0 f0 i1 nb hB hR;omega),by (clear Ze f2 Hz Dj ln Dk vX h0 gO m1 m0 hn c1 c0 f0 i0 nb hB hR;omega),Int.ediv_nonneg f0 (by (clear Ze f2 Hz Dj ln Dk vX h0 gO m1 hn c1 c0 f0 i1 i0 nb hB hR;omega)),Dj,by (clear Ze f2 Hz Dj ln Dk vX h0 gO m1 m0 hn c0 f0 i1 i0 nb hB hR;omega)⟩ (k1.trans Kp.set);rw [cC nb];exact Dk
def P_ (K:PySem.W.Frag):Sp:=fun vs H Q _=>∃(a:Addr) (ns:List Int),vs=[.ref a]/\bK K H a (ns.map V.int)/\ns.length<=63 /\ ∀(r b:Addr) (H':Hp),H r=none->H b=none->dR H' r b 0->Same H H'->Q (.ref r) H'
theorem Xk {f:Addr} {fd:FuncData} (F:qj K "_law_bag" "_law_bag" sV f fd) (Bt:tU mg):gn P w K mg base tV 1 f fd ["script"] (P_ K):=by
 refine F.ok zZ (fun vs H Q E h=> ?_) (fun cdv A outer s H vs Q E hr h=> ?_)
 ·obtain ⟨a,ns,rfl,_⟩:=h
  rfl
 ·obtain ⟨a,ns,rfl,hs,hlen,k⟩:=h
  refine ⟨_,(aF (bC (i:=1) zZ.nd rfl (Or.inl rfl) aB)
   (aF (mV PassesOwn.never rfl (fP (K:=K) rfl (pv 0)) (bY (i:=2) zZ.nd rfl (Or.inl rfl))
   (aK (bC (i:=1) zZ.nd rfl (Or.inl rfl) (bM pP (bM fD (bM fD (bM sY (pv 1) aB) (bM pP (pv 2) aB)) aB) aB))))
   (aK (bF (fO (aj (gW (fQ (K:=K) rfl) (by rfl) Bt.pQ lH (aj (pv 0) aA)) (aj aB (aj aB (aj aB (aj (pv 1) aA)))))))))), ?_⟩
  refine ⟨_,rfl,a,rfl,⟨_,hs⟩,pF (K:=K) (a:=a) (xs:=ns.map V.int) (fun i σ H2=>∃(t:Int) (v:Option V),σ=[some (.ref a),some (.int t),v]/\H2=H)
   ⟨1,none,rfl,rfl⟩ (fun i σ H2 _ ⟨_,_,_,e⟩=>by rw [e];exact hs) ?_ ?_⟩
  ·rintro i y σ H2 hi ⟨t,v,rfl,rfl⟩
   obtain ⟨z,rfl⟩:∃z,y=V.int z:=by
    rw [List.getElem?_map] at hi;cases e:ns[i]? with
    | none=>rw [e] at hi;cases hi
    | some z=>rw [e] at hi;exact ⟨z,(Option.some.inj hi).symm⟩
   refine ⟨_,rfl,_,_,rfl,rfl,.inr ⟨by decide,by decide⟩,_,rfl,_,_,rfl,rfl,(by show (0:Int)<2305843009213693951;decide),_,_,rfl,rfl,_,_,rfl,rfl,_,_,rfl,rfl,(by show (0:Int)<2305843009213693951;decide), ?_⟩;exact ⟨_,_,rfl,rfl⟩
  ·rintro σ H2 ⟨t,v,rfl,rfl⟩
   refine ⟨_,rfl,a,_,rfl,.inl hs,fun b hb=> ?_⟩;refine ⟨_,rfl,(by show 5<=sizeLine;decide),fun r hr'=> ?_⟩;have sm:=aJ (o:=HO.lst (ns.map V.int)) hb;exact k r b _ (sm.free hr') hb ⟨ns,0,0,0,t,au,aJ hr' _ _ au,aL au hr',by decide,by (clear hr' hb hlen;omega),by decide,by decide,by decide⟩ (sm.trans (aJ hr'))
section
variable {D r b:Addr} {te:TE} {Q:VK} {rest:St} {H1:Hp} {n bn:Nat}
theorem Ci {zs:List Int} {z:Int} {p:Nat->Int->Prop} {i:Nat} (hl:zs.length=i) (h:∀j z,zs[j]? = some z->p j z) (hz:p i z):∀j y,(zs++[z])[j]? = some y->p j y:=by
 intro j y e
 by_cases hj:j<zs.length
 ·rw [List.getElem?_append_left hj] at e
  exact h j y e
 ·rw [List.getElem?_append_right (by (clear e hl;omega))] at e
  have:j - zs.length=0:=by
   have:=(List.getElem?_eq_some_iff.mp e).1;simp at this;omega
  rw [this] at e;cases e;have:j=i:=by omega
  rw [this];exact hz
theorem Cr (p:Nat->Int->Prop) (hD:H1 D=none) (hB:dR H1 r b bn) (hx:n<=100000)
 (hs:∀i H (F:VK),i<n->Kp r H1 H->dR H r b (bn+i)->(∀z H',p i z->Kp r H H'->dR H' r b (bn+i+1)->F (.int z) H')->te (some (.int (0+i))::rest) H F)
 (hd:∀H (zs:List Int),zs.length=n->(∀i z,zs[i]? = some z->p i z)->H D=some (.lst (zs.map V.int))->Kp r H1 H->dR H r b (bn+n)->Q (.ref D) H):tQ (Vo 0 n) (tM 0) WL te Q D (none::rest) H1:=by
 obtain ⟨nr,nb⟩:=hB.ne hD;have mv:∀{H:Hp} {o:HO},Kp r H1 H->Kp r H1 (upd H D o):=fun k c u e m=>by rw [cC (aL e hD)];exact k c u e m
 refine Cq (lo:=0) (n:=n) (fun i σ H=>(∃v,σ=v::rest) /\ ∃zs:List Int,zs.length=i/\(∀j z,zs[j]? = some z->p j z)/\H D=some (.lst (zs.map V.int))/\Kp r H1 H/\dR H r b (bn+i)) ⟨⟨none,rfl⟩,[],rfl,fun j z e=>(by cases e),au,.of_same (aJ hD),hB.keep (aJ hD)⟩ ?_ (fun σ H ⟨_,zs,hl,hp,e,k,B⟩=>hd H zs hl hp e k B);rintro i σ H hi ⟨⟨v,rfl⟩,zs,hl,hp,e,k1,B1⟩;refine hs i H _ hi k1 B1 fun z H' hz k2 B2=> ?_;refine ⟨_,k2 _ _ e nr, ?_,⟨_,rfl⟩,zs++[z],by simp [hl],Ci hl hp hz, ?_,mv (k1.trans k2),B2.kp Kp.set nr.symm nb.symm⟩
 ·rw [List.length_map,sizeLine_eq];omega
 ·rw [au];simp
theorem Ka {a:Addr} {xs:List V} {f:Nat} (p:Nat->Int->Prop) (hD:H1 D=none) (hB:dR H1 r b bn) (hx:xs.length<=100000) (ha:H1 a=some (.lst xs)) (Jo:a≠r)
 (hs:∀i x H (F:VK),xs[i]? = some x->Kp r H1 H->dR H r b (bn+i)->(∀z H',p i z->Kp r H H'->dR H' r b (bn+i+1)->F (.int z) H')->te (some x::rest) H F)
 (hd:∀H (zs:List Int),zs.length=xs.length->(∀i z,zs[i]? = some z->p i z)->H D=some (.lst (zs.map V.int))->Kp r H1 H->dR H r b (bn+xs.length)->Q (.ref D) H):tQ (Vp K a) (tM 0) WL te Q D (none::rest) H1:=by
 obtain ⟨nr,nb⟩:=hB.ne hD;have mv:∀{H:Hp} {o:HO},Kp r H1 H->Kp r H1 (upd H D o):=fun k c u e m=>by rw [cC (aL e hD)];exact k c u e m
 refine zq (K:=K) (xs:=xs) (fun i σ H=>(∃v,σ=v::rest) /\ ∃zs:List Int,zs.length=i/\(∀j z,zs[j]? = some z->p j z)/\H D=some (.lst (zs.map V.int))/\Kp r H1 H/\dR H r b (bn+i)) ⟨⟨none,rfl⟩,[],rfl,fun j z e=>(by cases e),au,.of_same (aJ hD),hB.keep (aJ hD)⟩ (fun i σ H _ ⟨_,_,_,_,_,k,_⟩=>bK.of (k _ _ ha Jo)) ?_ (fun σ H ⟨_,zs,hl,hp,e,k,B⟩=>hd H zs hl hp e k B);rintro i x σ H hi ⟨⟨v,rfl⟩,zs,hl,hp,e,k1,B1⟩;have hil:i<xs.length:=(List.getElem?_eq_some_iff.mp hi).1;refine hs i x H _ hi k1 B1 fun z H' hz k2 B2=> ?_;refine ⟨_,k2 _ _ e nr, ?_,⟨_,rfl⟩,zs++[z],by simp [hl],Ci hl hp hz, ?_,mv (k1.trans k2),B2.kp Kp.set nr.symm nb.symm⟩
 ·rw [List.length_map,sizeLine_eq];omega
 ·rw [au];simp
end
abbrev Nt:=Int×Int×Int×Int
def nD (x:Nt):PyData:= .tuple [.int x.1,.int x.2.1,.int x.2.2.1,.int x.2.2.2]
def nV (x:Nt):List V:=[.int x.1,.int x.2.1,.int x.2.2.1,.int x.2.2.2]
theorem iV (x:Nt):Ux (nD x)=true:=rfl
theorem aaV {H:Hp} {v:V} {d:PyData} (h:Dat H v d):bf H [v] [d]:=by
 simp only [bf,and_true];exact h
theorem tD {H:Hp} {t:Addr} {x:Nt} (h:H t=some (.tup (nV x))):Dat H (.ref t) (nD x):=by
 simp only [nD,Dat];exact ⟨t,_,rfl,h,by simp only [nV,bf,Dat,and_self]⟩
theorem J_ {H:Hp} {v:V} {x:Nt} (h:Dat H v (nD x)):∃t,v = .ref t/\H t=some (.tup (nV x)):=by
 simp only [nD,Dat] at h;obtain ⟨t,vs,e,q,d⟩:=h
 match vs,d with
 | [a,b,c,z],d=>
   simp only [bf,Dat,and_true] at d;obtain ⟨rfl,rfl,rfl,rfl⟩:=d;exact ⟨t,e,q⟩
 | [],d=>simp only [bf] at d
 | [_],d=>simp only [bf,and_false] at d
 | [_,_],d=>simp only [bf,and_false] at d
 | [_,_,_],d=>simp only [bf,and_false] at d
 | _::_::_::_::_::_,d=>simp only [bf,and_false] at d
def gA (H:Hp) (a:Addr) (ns:List Nt):Prop:=∃vs,H a=some (.lst vs)/\bf H vs (ns.map nD)
theorem gA.kp {H H':Hp} {a r:Addr} {ns:List Nt} (h:gA H a ns) (hr:∀a xs,H a=some (HO.tup xs)->H' a=some (HO.tup xs)) (k:Kp r H H') (n:a≠r):gA H' a ns:=by
 obtain ⟨vs,e,d⟩:=h;exact ⟨vs,k _ _ e n,bf.keep hr _ (eO _ iV ns) d⟩
theorem gA.same {H H':Hp} {a:Addr} {ns:List Nt} (h:gA H a ns) (k:Same H H'):gA H' a ns:=by
 obtain ⟨vs,e,d⟩:=h;exact ⟨vs,k _ _ e,bf.keep k.tups _ (eO _ iV ns) d⟩
theorem jz {H:Hp} {vs:List V} {ns:List Nt} {i:Nat} {v:V} (d:bf H vs (ns.map nD)) (e:vs[i]? = some v):∃x t,ns[i]? = some x/\v = .ref t/\H t=some (.tup (nV x)):=by
 obtain ⟨q,eq,dq⟩:=d.get e;rw [List.getElem?_map] at eq;cases ex:ns[i]? with
 | none=>rw [ex] at eq;cases eq
 | some x=>
   rw [ex] at eq;cases eq;obtain ⟨t,rfl,ht⟩:=J_ dq;exact ⟨x,t,rfl,rfl,ht⟩
def gI (cs:List Int) (h:Int):Int:=(cs[h.toNat]?).getD 0
theorem gZ {cs:List Int} {h:Int} (h0:0<=h) (h1:h<cs.length):CP (cs.map V.int) h=some (.int (gI cs h)):=by
 obtain ⟨m,rfl⟩:=Int.eq_ofNat_of_zero_le h0;have:m<cs.length:=by (clear h0;omega)
 refine qg ?_;simp [gI,this]
theorem oh {cs:List Int} {i:Nat} {c:Int} (h:cs[i]? = some c):gI cs i=c:=by simp [gI,h]
theorem qP {n:Nat} {i:Int} (h0:0<=i) (h1:i<n):QT n i=some i.toNat:=by unfold QT;rw [if_pos h0,if_pos h1]
theorem wZ {cs:List Int} {h k v:Int} (h0:0<=h) (h1:h<cs.length) (k0:0<=k):gI (cs.set h.toNat v) k=if k=h then v else gI cs k:=by
 unfold gI;rw [List.getElem?_set]
 by_cases e:k=h
 ·subst e
  have:k.toNat<cs.length:=by (clear h0;omega)
  simp [this]
 ·have:¬h.toNat=k.toNat:=by (clear h1;omega)
  simp [e,this]
def qZ (cs:List Int) (x:Nt):Prop:=(0<=x.1/\x.1<cs.length)/\(0<=x.2.1/\x.2.1<gI cs x.1)/\(0<=x.2.2.1/\x.2.2.1<cs.length)/\(0<=x.2.2.2/\x.2.2.2<gI cs x.2.2.1)/\x.1≠x.2.2.1
def oF (cs:List Int):Prop:=cs.length<=8 /\ ∀c∈cs,0<=c/\c<=300
theorem oF.gI {cs:List Int} (h:oF cs) (i:Int):0<=gI cs i/\gI cs i<=300:=by
 unfold Prf.gI;cases e:cs[i.toNat]? with
 | none=>simp
 | some c=>exact h.2 c (List.mem_of_getElem? e)
def abL (cs:List Int):Prop:=cs.length<=4 /\ ∀c∈cs,c<=6
def Bh (K:PySem.W.Frag):Sp:=fun vs H Q _=>∃(r b:Addr) (n:Nat) (g:Int),vs=[.ref r,.int g]/\(g=0\/g=1)/\dR H r b n/\n<549755813888 /\ ∀(a:Addr) (cs:List Int) (H':Hp),H a=none->H' a=some (.lst (cs.map V.int))->oF cs->(g=0->abL cs)->dR H' r b (n+20)->Kp r H H'->Q (.ref a) H'
theorem aap (n:Int) (h0:0<=n) (h1:n<7):∃v:Int,CP [V.int 3,V.int 2,V.int 4,V.int 2,V.int 3,V.int 1,V.int 0] n=some (V.int v)/\0<=v/\v<=4:=by
 have:n=0\/n=1\/n=2\/n=3\/n=4\/n=5\/n=6:=by omega
 rcases this with rfl|rfl|rfl|rfl|rfl|rfl|rfl
 ·exact ⟨3,rfl,by decide,by decide⟩
 ·exact ⟨2,rfl,by decide,by decide⟩
 ·exact ⟨4,rfl,by decide,by decide⟩
 ·exact ⟨2,rfl,by decide,by decide⟩
 ·exact ⟨3,rfl,by decide,by decide⟩
 ·exact ⟨1,rfl,by decide,by decide⟩
 ·exact ⟨0,rfl,by decide,by decide⟩
theorem QD {u v:V} (n:Int) (h0:0<=n) (h1:n<2):(n=0/\CP [u,v] n=some u)\/(n=1/\CP [u,v] n=some v):=by
 have:n=0\/n=1:=by omega
 rcases this with rfl|rfl
 ·exact .inl ⟨rfl,rfl⟩
 ·exact .inr ⟨rfl,rfl⟩
theorem Nj {f:Addr} {fd:FuncData} (F:qj K "_law_counts" "_law_counts" jW f fd) (bL:FnAt P w K mg base 2 "_law_draw" ["bag","many"] (qz K)) (Bt:tU mg):gn P w K mg base tV 3 f fd ["bag","great"] (Bh K):=by
 refine F.ok sJ (fun vs H Q E h=> ?_) (fun cdv A outer s H vs Q E hr h=> ?_)
 ·obtain ⟨r,b,n,g,rfl,_⟩:=h
  rfl
 ·obtain ⟨r,b,n,g,rfl,hg,B0,hn,k⟩:=h
  refine ⟨_,(aF (dU (aZ gF (pv 1) aB (bB _)) (aK (bF (iT rfl (N:=["hand","bag"]) (own:=["hand"]) (caps:=[0]) (bH.of (by kernel_rfl)) (gH (by rfl) Bt.jk (aj (aU (bh (K:=K) rfl) (fO (aj aB (aj aB (aj aB (aj aB (aj aB (aj aB (aj aB aA)))))))) (bG bL (hr.mono (by decide)) (by rfl) (aj (pv 0) (aj aB aA))) (fun _ _=>rfl)) aA)) (fun _ _ _ _=>(bY (i:=0) (show List.Nodup (["hand","bag"]:List Str) by decide +kernel) rfl (Or.inl rfl))) (fun _ _ _ _=>iD) (fun _ _ _ _=>(bG bL (hr.mono (by decide)) (by rfl) (aj (pv 1) (aj aB aA))))))) bD)
   (aF (bC (i:=2) sJ.nd rfl (Or.inl rfl) (bG bL (hr.mono (by decide)) (by rfl) (aj (pv 0) (aj aB aA))))
   (aF (bC (i:=3) sJ.nd rfl (Or.inl rfl) (bM mX aB (bG bL (hr.mono (by decide)) (by rfl) (aj (pv 0) (aj aB aA)))))
   (aF (bC (i:=4) sJ.nd rfl (Or.inr rfl) (aU (bh (K:=K) rfl) (fO (aj (bM fD (bM Gh aB (aX (rG rfl) (by rfl) Bt.Je Cy (aj aB (aj (pv 3) aA)))) aB) (aj aB aA))) (pv 2) (fun _ _=>rfl)))
   (aK (bF (iT rfl (N:=["hand","bag","top"]) (own:=["hand"]) (caps:=[0,4]) (bH.of (by kernel_rfl)) (gH (by rfl) Bt.jk (aj (pv 3) aA)) (fun _ _ _ _=>(bY (i:=0) (show List.Nodup (["hand","bag","top"]:List Str) by decide +kernel) rfl (Or.inl rfl))) (fun _ _ _ _=>iD) (fun _ _ _ _=>(bG bL (hr.mono (by decide)) (by rfl) (aj (pv 1) (aj (pv 2) aA))))))))))), ?_⟩
  refine ⟨_,rfl,rfl,_,rfl, ?_⟩;refine dY (fun h0=> ?_) (fun h0=> ?_)
  ·refine ⟨(by show 7<=sizeLine;decide),fun p hp=> ?_⟩
   have sm:=aJ (o:=HO.lst [V.int 3,V.int 2,V.int 4,V.int 2,V.int 3,V.int 1,V.int 0]) hp;have np:=B0.ne hp;refine ⟨_,rfl,r,b,7,n,rfl,B0.keep sm,by omega,by decide,by decide,fun z H1 z0 z1 B1 k1=> ?_⟩;obtain ⟨v,ev,v0,v1⟩:=aap z z0 z1;refine ⟨_,_,_,_,rfl,rfl,bK.of (k1 _ _ au np.1),ev,v,rfl,by omega,by omega,fun D hD=> ?_⟩;have kk:Kp r H H1:=(Kp.of_same sm).trans k1;refine Cr (fun _ z=>0<=z/\z<7) hD B1 (by omega) (fun i H2 F hi k2 B2 kF=> ?_) (fun H2 zs hl hp2 e k2 B2=> ?_)
   ·exact ⟨_,rfl,r,b,7,_,rfl,B2,by omega,by decide,by decide,fun z H3 z0 z1 B3 k3=>kF z H3 ⟨z0,z1⟩ k3 B3⟩
   ·have sm7:∀c∈zs,0<=c/\c<7:=fun c hc=>by
     obtain ⟨i,hi⟩:=List.getElem?_of_mem hc;exact hp2 i c hi
    exact k D zs H2 (Kp.new kk hD B1.at) e ⟨by omega,fun c hc=>by have:=sm7 c hc;omega⟩ (fun _=>⟨by omega,fun c hc=>by have:=sm7 c hc;omega⟩) (B2.mono (by omega)) (kk.trans k2)
  ·
   refine ⟨_,rfl,r,b,2,n,rfl,B0,by omega,by decide,by decide,fun few H1 f0 f1 B1 k1=> ?_⟩;refine ⟨_,rfl,r,b,9,n+1,rfl,B1,by omega,by decide,by decide,fun z H2 z0 z1 B2 k2=>⟨_,_,rfl,rfl, ?_⟩⟩;refine ⟨_,rfl,_,_,rfl, ?_⟩;have mx:(1:Int)<=(if 8 - z>1 then 8 - z else 1)/\(if 8 - z>1 then 8 - z else 1)<=8:=by split<;>omega
   have mx':(if ((fun i j=>V.int (i - j)) 8 z:V)=(fun i j=>V.int (i - j)) 8 z then (1:Int) else 0)=1:=by simp
   refine ⟨_,_,rfl,rfl,(by show Vw 300 (if 8 - z>1 then 8 - z else 1);exact ⟨by omega,by omega⟩),_,_,rfl,rfl,(by show 2<=sizeLine;decide),fun p hp=> ?_⟩
   have q0:(1:Int)<=300 / (if 8 - z>1 then 8 - z else 1)+1:=by
    have:0<=(300:Int) / (if 8 - z>1 then 8 - z else 1):=Int.ediv_nonneg (by decide) (by omega);omega
   have q1:(300:Int) / (if 8 - z>1 then 8 - z else 1)+1<=301:=by
    have:(300:Int) / (if 8 - z>1 then 8 - z else 1)<=300:=Int.ediv_le_self _ (by decide);omega
   obtain ⟨top,et,t0,t1⟩:∃top:Int,CP [V.int (300 / (if 8 - z>1 then 8 - z else 1)+1),V.int 4] few=some (V.int top)/\0<top/\top<=301:=by
    rcases QD (u:=V.int (300 / (if 8 - z>1 then 8 - z else 1)+1)) (v:=V.int 4) few f0 f1 with ⟨_,e⟩|⟨_,e⟩
    ·exact ⟨_,e,by omega,by omega⟩
    ·exact ⟨_,e,by decide,by decide⟩
   refine ⟨_,rfl,_,_,_,_,rfl,rfl,bK.of au,et, ?_⟩;have sm:=aJ (o:=HO.lst [V.int (300 / (if 8 - z>1 then 8 - z else 1)+1),V.int 4]) hp;have kk:Kp r H (upd H2 p (HO.lst [V.int (300 / (if 8 - z>1 then 8 - z else 1)+1),V.int 4])):=(k1.trans k2).trans (.of_same sm);have B3:=B2.keep sm;refine ⟨_,rfl,8 - z,rfl,by omega,by omega,fun D hD=> ?_⟩;refine Cr (fun _ z=>0<=z/\z<top) hD B3 (by omega) (fun i H2 F hi k2 B2 kF=> ?_) (fun H2 zs hl hp2 e k2 B2=> ?_)
   ·exact ⟨_,rfl,_,rfl,r,b,top,_,rfl,B2,by omega,t0,by omega,fun z H3 z0 z1 B3 k3=>kF z H3 ⟨z0,z1⟩ k3 B3⟩
   ·refine k D zs H2 (Kp.new kk hD B3.at) e ⟨by omega,fun c hc=> ?_⟩ (fun z=>absurd (decide_eq_true (by rw [z])) h0) (B2.mono (by omega)) (kk.trans k2)
    obtain ⟨i,hi⟩:=List.getElem?_of_mem hc;have:=hp2 i c hi;omega
def pos (ls:List Int):List Int:=(List.range ls.length).filterMap fun (i:Nat)=>if gI ls (i:Int)>0 then some (i:Int) else none
theorem Lf {ls:List Int} {h:Int} (m:h∈pos ls):0<=h/\h<ls.length/\0<gI ls h:=by
 unfold pos at m;rw [List.mem_filterMap] at m;obtain ⟨i,hi,e⟩:=m;have hi':i<ls.length:=by simpa using hi
 by_cases q:gI ls i>0
 ·rw [if_pos q] at e
  cases e;exact ⟨by omega,by omega,q⟩
 ·rw [if_neg q] at e
  cases e
theorem Tz {ls:List Int} {h:Int} (h0:0<=h) (h1:h<ls.length) (q:0<gI ls h):h∈pos ls:=by
 unfold pos;rw [List.mem_filterMap];refine ⟨h.toNat,by simp;omega, ?_⟩;have e:((h.toNat:Nat):Int)=h:=by omega
 rw [e,if_pos q]
theorem K7 (ls:List Int):(pos ls).length<=ls.length:=uZ _ _
theorem M4 (ls:List Int):(pos ls).Nodup:=by
 unfold pos;refine List.Pairwise.filterMap (R:=fun a b=>a≠b) _ ?_ List.nodup_range;intro a b n c ec d ed
 by_cases q:gI ls a>0
 ·by_cases q2:gI ls b>0
  ·rw [if_pos q] at ec
   rw [if_pos q2] at ed;cases ec;cases ed;intro z;exact n (by omega)
  ·rw [if_neg q2] at ed
   cases ed
 ·rw [if_neg q] at ec
  cases ec
theorem K6 (ls:List Int):(List.range ls.length).filterMap (fun (i:Nat)=>if gI ls (i:Int)>0 then some (V.int (0+(i:Int))) else none)=(pos ls).map V.int:=by
 unfold pos;rw [List.map_filterMap];refine pG _ trivial fun i _=> ?_
 by_cases q:gI ls (i:Int)>0
 ·rw [if_pos q,if_pos q];simp
 ·rw [if_neg q,if_neg q];rfl
theorem KQ:∀{ls:List Int},0<ls.sum -> ∃i:Nat,i<ls.length/\0<gI ls i
 | [],h=>by simp at h
 | x::ls,h=>by
   by_cases q:0<x
   ·exact ⟨0,by simp,by simpa [gI] using q⟩
   ·rw [List.sum_cons] at h
    obtain ⟨i,hi,e⟩:=KQ (ls:=ls) (by omega);exact ⟨i+1,by simp [hi],by simpa [gI] using e⟩
theorem sum_set:∀{ls:List Int} {i:Nat} {x:Int},ls[i]? = some x -> ∀y,(ls.set i y).sum=ls.sum - x+y
 | [],i,x,h,y=>by cases h
 | z::ls,0,x,h,y=>by
   cases h;simp only [List.set_cons_zero,List.sum_cons];omega
 | z::ls,i+1,x,h,y=>by
   simp only [List.set_cons_succ,List.sum_cons];rw [sum_set (ls:=ls) (i:=i) (x:=x) (by simpa using h) y];omega
theorem FN:∀{ls:List Int},(∀c∈ls,0<=c/\c<=300)->0<=ls.sum/\ls.sum<=300*ls.length
 | [],_=>by simp
 | x::ls,h=>by
   have a:=h x (by simp);have b:=FN (ls:=ls) fun c hc=>h c (by simp [hc]);rw [List.sum_cons,List.length_cons];omega
def Wd (cs os:List Int):Prop:=os.length<=2400 /\ ∀h:Int,0<=h->h<cs.length->(os.count h:Int)=gI cs h
def zX (K:PySem.W.Frag):Sp:=fun vs H Q _=>∃(r b:Addr) (n:Nat) (a:Addr) (cs:List Int),vs=[.ref r,.ref a]/\dR H r b n/\n<274877906944/\H a=some (.lst (cs.map V.int))/\a≠r/\oF cs /\ ∀(o:Addr) (os:List Int) (H':Hp),H o=none->H' o=some (.lst (os.map V.int))->Wd cs os->(∀h∈os,0<=h/\h<cs.length)->dR H' r b (n+2400)->Kp r H H'->Q (.ref o) H'
theorem Qs {f:Addr} {fd:FuncData} (F:qj K "_law_order" "_law_order" n_ f fd) (bL:FnAt P w K mg base 2 "_law_draw" ["bag","many"] (qz K)) (Bt:tU mg):gn P w K mg base tV 3 f fd ["bag","counts"] (zX K):=by
 refine F.ok rB (fun vs H Q E h=> ?_) (fun cdv A outer s H vs Q E hr h=> ?_)
 ·obtain ⟨r,b,n,a,cs,rfl,_⟩:=h
  rfl
 ·obtain ⟨r,b,n,a,cs,rfl,B0,hn,ha,Jo,ok,k⟩:=h
  refine ⟨_,(aF (bC (i:=2) rB.nd rfl (Or.inr rfl) (gW (fQ (K:=K) rfl) (by rfl) Bt.pQ lH (aj (pv 1) aA)))
   (aF (bC (i:=3) rB.nd rfl (Or.inl rfl) (fO aA))
   (aF (mV PassesOwn.never rfl (gH (by rfl) Bt.jk (aj (aX (Fi (K:=K) rfl rfl) (by rfl) Bt.V9 Rt (aj (pv 1) aA)) aA)) (bY (i:=4) rB.nd rfl (Or.inl rfl))
   (aF (pC (i:=5) rfl rB.nd rfl (Or.inl rfl) (N:=["hand","left"]) (own:=["hand"]) (caps:=[2]) (bH.of (by kernel_rfl)) (gH (by rfl) Bt.jk (aj (aX (aR (K:=K) rfl) (by rfl) Bt.fL d8 (aj (pv 2) aA)) aA)) (fun _ _ _ _=>(bY (i:=0) (show List.Nodup (["hand","left"]:List Str) by decide +kernel) rfl (Or.inl rfl))) (fun _ _ _ _=>(qN (aZ yc (aU (bh (K:=K) rfl) (pv 1) (pv 0) (fun _ _=>rfl)) aB (bB _)))) (fun _ _ _ _=>(pv 0)))
   (aF (eZ (wV (K:=K) rfl (pv 3) (aj (aU (bh (K:=K) rfl) (pv 5) (bG bL (hr.mono (by decide)) (by rfl) (aj (pv 0) (aj (aX (aR (K:=K) rfl) (by rfl) Bt.fL d8 (aj (pv 5) aA)) aA))) (fun _ _=>rfl)) aA)))
   (aK (qW (bM mX (aU (bh (K:=K) rfl) (pv 2) (aU (bh (K:=K) rfl) (pv 3) (Hu Av aB) (fun _ _=>rfl)) (fun _ _=>rfl)) aB) (qX (pv 2) (aU (bh (K:=K) rfl) (pv 3) (Hu Av aB) (fun _ _=>rfl)) set_list))))))
   (aK (bF (pv 3)))))), ?_⟩
  refine ⟨_,rfl,a,_,rfl,.inl (bK.of ha),fun l hl=> ?_⟩;have VF:=aJ (o:=HO.lst (cs.map V.int)) hl;refine ⟨(by show 0<=sizeLine;decide),fun p hp=> ?_⟩;have VD:=aJ (o:=HO.lst []) hp;have nlp:l≠p:=aL au hp;have hp0:H p=none:=VF.free hp;have nl:=B0.ne hl;have np:=B0.ne hp0;have hsum:=FN ok.2;have aoq:=ok.1;refine ⟨_,rfl,a,cs,rfl,bK.of (VD _ _ (VF _ _ ha)),cs.sum,rfl,by omega,by omega, ?_⟩
  refine rE (lo:=0) (n:=cs.sum.toNat) (fun i σ H2=>∃(ls os:List Int) (x y:Option V),σ=[some (.ref r),some (.ref a),some (.ref l),some (.ref p),x,y]/\H2 l=some (.lst (ls.map V.int))/\H2 p=some (.lst (os.map V.int)) /\
   ls.length=cs.length/\(∀h:Int,0<=h->0<=gI ls h/\gI ls h+(os.count h:Int)=(if h<cs.length then gI cs h else 0))/\ls.sum+i=cs.sum/\os.length=i/\(∀h∈os,0<=h/\h<(cs.length:Int))/\dR H2 r b (n+i)/\Kp r H H2)
   ⟨cs,[],none,none,rfl,VD _ _ au,au,rfl,fun h h0=>⟨(ok.gI h).1, ?_⟩,by simp,rfl,(fun h hh=>by cases hh),(B0.keep VF).keep VD,.of_same (VF.trans VD)⟩ ?_ ?_
  ·by_cases q:h<cs.length
   ·rw [if_pos q];simp
   ·rw [if_neg q]
    have:cs[h.toNat]? = none:=by simp;omega
    simp [gI,this]
  ·rintro i σ H2 hi ⟨ls,os,x,y,rfl,hL,hP,ll,hgi,hs,ol,oir,B2,k2⟩
   have spos:0<ls.sum:=by omega
   refine ⟨_,rfl,l,_,rfl,.inl (bK.of hL),_,rfl,by rw [List.length_map];omega,by rw [List.length_map];omega,fun D hD=> ?_⟩;have Ia:(((ls.map V.int).length:Nat):Int).toNat=ls.length:=by simp
   rw [Ia];refine mY (fun (i:Nat)=>if gI ls (i:Int)>0 then some (V.int (0+(i:Int))) else none) hD (by omega) (fun j H3 G F hj s3 kG kF=> ?_) (fun H3 s3 e3=> ?_)
   ·refine ⟨_,rfl,_,rfl,_,_,_,_,rfl,rfl,bK.of (s3 _ _ hL),(gZ (h:=0+(j:Int)) (by omega) (by omega)),_,_,rfl,rfl,_,rfl, ?_⟩
    have ej:(0+(j:Int))=(j:Int):=by omega
    rw [ej];refine dY (fun q=> ?_) (fun q=> ?_)
    ·have q:=of_decide_eq_true q
     refine ⟨_,rfl,kF _ H3 (Same.refl _) ?_⟩;rw [if_pos q,ej]
    ·have q:¬gI ls (j:Int)>0:=fun z=>q (decide_eq_true z)
     exact kG H3 (Same.refl _) (if_neg q)
   ·rw [K6] at e3
    have B3:=B2.keep s3;have hL3:=s3 _ _ hL;have hP3:=s3 _ _ hP;have nD:D≠r:=(B2.ne hD).1;obtain ⟨i0,hi0,gp⟩:=KQ spos;have amo:0<(pos ls).length:=List.length_pos_of_mem (Tz (h:=(i0:Int)) (by omega) (by omega) gp);have akN:=K7 ls;refine ⟨_,rfl,.inl ⟨rfl,_,bK.of hP3⟩,_,rfl,_,rfl,_,rfl,D,_,rfl,.inl (bK.of e3),r,b,_,_,rfl,B3,by omega,by rw [List.length_map];omega,by rw [List.length_map];omega,fun z H4 z0 z1 B4 k4=> ?_⟩;rw [List.length_map] at z1;obtain ⟨h,eh⟩:∃h,(pos ls)[z.toNat]? = some h:=⟨(pos ls)[z.toNat]'(by omega),by simp⟩;have hm:=Lf (List.mem_of_getElem? eh)
    have ez:CP ((pos ls).map V.int) z=some (.int h):=by
     obtain ⟨m,rfl⟩:=Int.eq_ofNat_of_zero_le z0;refine qg ?_;have eh':(pos ls)[m]? = some h:=eh;rw [List.getElem?_map,eh'];rfl
    have hP4:=k4 _ _ hP3 np.1;have hL4:=k4 _ _ hL3 nl.1;refine ⟨_,_,_,_,rfl,rfl,bK.of (k4 _ _ e3 nD),ez,p,_,_,rfl,rfl,hP4,(by rw [List.length_map,sizeLine_eq];omega), ?_⟩;have kp5:Kp p H4 (upd H4 p (.lst (os.map V.int++[V.int h]))):=Kp.set;have hL5:=kp5 _ _ hL4 nlp;have hP5:(upd H4 p (.lst (os.map V.int++[V.int h]))) p=some (.lst (os.map V.int++[V.int h])):=au;refine ⟨_,rfl,_,rfl,_,rfl,_,_,_,_,rfl,rfl,bK.of hP5,Jg _ _,_,_,_,_,rfl,rfl,bK.of hL5,gZ hm.1 hm.2.1,_,_,rfl,rfl,_,rfl,_,rfl,_,rfl,_,_,_,_,rfl,rfl,bK.of hP5,Jg _ _,_,_,_,_,rfl,rfl,hL5,qP hm.1 (by rw [List.length_map];exact hm.2.1), ?_⟩;have kl6:Kp l (upd H4 p (.lst (os.map V.int++[V.int h]))) (upd (upd H4 p (.lst (os.map V.int++[V.int h]))) l (.lst ((ls.map V.int).set h.toNat (V.int (gI ls h - 1))))):=Kp.set
    refine ⟨ls.set h.toNat (gI ls h - 1),os++[h],_,_,rfl, ?_, ?_,by simp [ll],fun h' h0'=> ?_, ?_,by simp [ol],(fun z hz=>by
     rcases List.mem_append.mp hz with hz|hz
     ·exact oir z hz
     ·have:z=h:=by simpa using hz
      subst this;exact ⟨hm.1,by rw [←ll];exact hm.2.1⟩), ?_, ?_⟩
    ·show (upd (upd H4 p (.lst (os.map V.int++[V.int h]))) l (.lst ((ls.map V.int).set h.toNat (V.int (gI ls h - 1))))) l=_
     rw [au,List.map_set]
    ·refine (kl6 _ _ hP5 nlp.symm).trans ?_
     simp
    ·have q:=hgi h' h0'
     have hc:((os++[h]).count h':Int)=os.count h'+(if h'=h then 1 else 0):=by
      rw [List.count_append]
      by_cases e:h'=h
      ·subst e;simp
      ·have:¬h=h':=fun z=>e z.symm
       simp [e,this]
     rw [wZ hm.1 (by omega) h0',hc]
     by_cases e:h'=h
     ·subst e
      rw [if_pos rfl,if_pos rfl];have:=hm.2.2;omega
     ·rw [if_neg e,if_neg e]
      omega
    ·have e:ls[h.toNat]? = some (gI ls h):=by
      have:h.toNat<ls.length:=by omega
      simp [gI,this]
     rw [sum_set e];omega
    ·exact ((B4.kp kp5 np.1.symm np.2.symm).kp kl6 nl.1.symm nl.2.symm).mono (by omega)
    ·intro c u ec nc
     have n1:c≠p:=aL ec hp0;have n2:c≠l:=aL ec hl;exact kl6 _ _ (kp5 _ _ (k4 _ _ (s3 _ _ (k2 _ _ ec nc)) nc) n1) n2
  ·rintro σ H2 ⟨ls,os,x,y,rfl,hL,hP,ll,hgi,hs,ol,oir,B2,k2⟩
   refine ⟨_,rfl,k p os H2 hp0 hP ⟨by omega,fun h h0 h1=> ?_⟩ oir (B2.mono (by omega)) k2⟩;have q:=hgi h h0;rw [if_pos h1] at q
   have z:gI ls h=0:=by
    have nn:∀h:Int,0<=h->0<=gI ls h:=fun h h0=>(hgi h h0).1;have s0:ls.sum=0:=by omega
    by_cases e:0<gI ls h
    ·exfalso
     have:∀(ms:List Int),(∀c∈ms,0<=c) -> ∀c∈ms,c<=ms.sum:=by
      intro ms
      induction ms with
      | nil=>intro _ c hc;cases hc
      | cons m ms ih=>
        intro hm c hc;have m0:=hm m (by simp)
        have ms0:0<=ms.sum:=by
         clear ih hc
         induction ms with
         | nil=>simp
         | cons y ys ih2=>
           have:=hm y (by simp);have:=ih2 (fun c hc=>hm c (by simp at hc ⊢;rcases hc with z|z;exact .inl z;exact .inr (.inr z)));rw [List.sum_cons];omega
        rw [List.sum_cons];rcases List.mem_cons.mp hc with rfl|hc
        ·omega
        ·have:=ih (fun c hc=>hm c (by simp [hc])) c hc
         omega
     have hle:h.toNat<ls.length:=by omega
     have mem:gI ls h∈ls:=by
      have e:ls[h.toNat]? = some (gI ls h):=by simp [gI,hle]
      exact List.mem_of_getElem? e
     have:=this ls (fun c hc=>by
      obtain ⟨i,hi⟩:=List.getElem?_of_mem hc;have:=nn (i:Int) (by omega);rw [oh hi] at this;exact this) _ mem
     omega
    ·have:=nn h h0
     omega
   omega
def Kr (kvs:List (List Key×V)) (os:List Int):Prop:=∀(h:Int) (k:Nat),k<os.count h -> ∃p:Nat,gR kvs [Sum.inl h,Sum.inl (k:Int)]=some (.int p)/\os[p]? = some h/\(os.take p).count h=k
def FQ (K:PySem.W.Frag):Sp:=fun vs H Q _=>∃(a:Addr) (os:List Int),vs=[.ref a]/\H a=some (.lst (os.map V.int))/\os.length<=2400 /\ ∀(d:Addr) (kvs:List (List Key×V)) (H':Hp),H d=none->H' d=some (.dT kvs)->Kr kvs os->Same H H'->Q (.ref d) H'
theorem Qp {f:Addr} {fd:FuncData} (F:qj K "_law_spots" "_law_spots" n6 f fd) (Bt:tU mg):gn P w K mg base tV 1 f fd ["order"] (FQ K):=by
 refine F.ok vm (fun vs H Q E h=> ?_) (fun cdv A outer s H vs Q E hr h=> ?_)
 ·obtain ⟨a,os,rfl,_⟩:=h
  rfl
 ·obtain ⟨a,os,rfl,ha,hlen,k⟩:=h
  have hu:=yj hr
  refine ⟨_,(aF (bC (i:=1) vm.nd rfl (Or.inl rfl) xX)
   (aF (bC (i:=2) vm.nd rfl (Or.inl rfl) Hv)
   (aF (mV PassesOwn.never rfl (gH (by rfl) Bt.jk (aj (aX (aR (K:=K) rfl) (by rfl) Bt.fL d8 (aj (pv 0) aA)) aA)) (bY (i:=3) vm.nd rfl (Or.inl rfl))
   (aF (z7 hu (pv 2) (aU (bh (K:=K) rfl) (pv 0) (pv 3) (fun _ _=>rfl)) (bM fD (xY hu (pv 2) (aU (bh (K:=K) rfl) (pv 0) (pv 3) (fun _ _=>rfl)) aB ⟨rfl,rfl,rfl,rfl⟩) aB) rfl)
   (aK (z7 hu (pv 1) (jg (aj (aU (bh (K:=K) rfl) (pv 0) (pv 3) (fun _ _=>rfl)) (aj (bM mX (xZ hu (pv 2) (aU (bh (K:=K) rfl) (pv 0) (pv 3) (fun _ _=>rfl)) (fun _ _=>rfl)) aB) aA))) (pv 3) rfl))))
   (aK (bF (pv 1)))))), ?_⟩
  intro d hd;have VF:=aJ (o:=HO.dT []) hd;intro m hm;have VD:=aJ (o:=HO.dK []) hm;have ndm:d≠m:=aL au hm;have hm0:H m=none:=VF.free hm;have ha2:=VD _ _ (VF _ _ ha);refine ⟨_,rfl,a,_,rfl,.inl (bK.of ha2),_,rfl,by rw [List.length_map];omega,by rw [List.length_map];omega, ?_⟩;have Ia:(((os.map V.int).length:Nat):Int).toNat=os.length:=by simp
  rw [Ia]
  refine rE (lo:=0) (n:=os.length) (fun i σ H2=>∃(fk:List (List Key×V)) (mk:List (Key×V)) (x:Option V),σ=[some (.ref a),some (.ref d),some (.ref m),x]/\Same H H2/\H2 d=some (.dT fk)/\H2 m=some (.dK mk) /\
   fk.length<=i/\mk.length<=i/\(∀h:Int,(gR mk (Sum.inl h)).getD (.int 0) = .int ((os.take i).count h))/\Kr fk (os.take i))
   ⟨[],[],none,rfl,VF.trans VD,VD _ _ au,au,Nat.zero_le _,Nat.zero_le _,fun h=>by simp [gR],fun h k hk=>by simp at hk⟩ ?_ ?_
  ·rintro i σ H2 hi ⟨fk,mk,x,rfl,sm,hD,hM,fl,ml,hv,hS⟩
   have haH:=sm _ _ ha;obtain ⟨y,ey⟩:∃y,os[i]? = some y:=⟨os[i],by simp [hi]⟩;have tk:os.take (i+1)=os.take i++[y]:=by rw [List.take_add_one,ey];rfl
   have ei:(0+(i:Int))=(i:Int):=by omega
   have at_:∀(xs:List V),xs=os.map V.int->CP xs (0+(i:Int))=some (.int y):=by
    rintro xs rfl;rw [ei];refine qg ?_;rw [List.getElem?_map,ey];rfl
   refine ⟨_,rfl,m,rfl,.inl ⟨_,.inl hM⟩,_,rfl,_,rfl,_,_,_,_,rfl,rfl,bK.of haH,at_ _ rfl,_,qI.k (k:=Sum.inl y) hM, ?_⟩;rw [hv y];refine ⟨_,_,rfl,rfl,_,rfl,_,rfl,_,rfl,_,_,_,_,rfl,rfl,bK.of haH,at_ _ rfl,m,_,rfl,D_.k (k:=Sum.inl y) hM (by rw [sizeLine_eq];omega), ?_⟩;have k1:Kp m H2 (upd H2 m (.dK (putK mk (Sum.inl y) (V.int (((os.take i).count y:Nat)+1))))):=Kp.set;have ha1:=k1 _ _ haH (tK haH hM (by intro z;cases z));have hD1:=k1 _ _ hD ndm;have hM1:(upd H2 m (.dK (putK mk (Sum.inl y) (V.int (((os.take i).count y:Nat)+1))))) m=some (.dK (putK mk (Sum.inl y) (V.int (((os.take i).count y:Nat)+1)))):=au;have gv:gR (putK mk (Sum.inl y) (V.int (((os.take i).count y:Nat)+1))) (Sum.inl y)=some (V.int (((os.take i).count y:Nat)+1)):=by rw [q_,if_pos rfl]
   refine ⟨_,rfl,_,rfl,_,rfl,_,rfl,_,_,_,_,rfl,rfl,bK.of ha1,at_ _ rfl,_,rfl,_,rfl,_,rfl,_,_,_,_,rfl,rfl,bK.of ha1,at_ _ rfl,m,_,rfl,gv▸qI.k (k:=Sum.inl y) hM1,_,_,rfl,rfl,(by show 2<=sizeLine;decide),fun t ht=> ?_⟩;have st:=aJ (o:=HO.tup [V.int y,V.int ((((os.take i).count y:Nat):Int)+1 - 1)]) ht;refine ⟨d,_,rfl,D_.t (k:=[Sum.inl y,Sum.inl ((((os.take i).count y:Nat):Int)+1 - 1)]) (st _ _ hD1) au (by rw [sizeLine_eq];omega), ?_⟩;have ec:(((os.take i).count y:Nat):Int)+1 - 1=((os.take i).count y:Nat):=by omega
   refine ⟨_,putK mk (Sum.inl y) (V.int (((os.take i).count y:Nat)+1)),_,rfl, ?_,au, ?_, ?_, ?_,fun h=> ?_,fun h j hj=> ?_⟩
   ·intro c u e
    have n1:c≠d:=aL e hd;have n2:c≠m:=aL e hm0;rw [cC n1];exact st _ _ (k1 _ _ (sm _ _ e) n2)
   ·rw [cC ndm.symm]
    exact st _ _ hM1
   ·exact Nat.le_trans (jO ..) (by omega)
   ·exact Nat.le_trans (jO ..) (by omega)
   ·rw [q_,tk,List.count_append]
    by_cases e:h=y
    ·subst e
     rw [if_pos rfl];simp
    ·rw [if_neg (fun z=>e (Sum.inl.inj z)),hv h]
     have:¬y=h:=fun z=>e z.symm;simp [this]
   ·rw [q_]
    by_cases e:([Sum.inl h,Sum.inl (j:Int)]:List Key)=[Sum.inl y,Sum.inl ((((os.take i).count y:Nat):Int)+1 - 1)]
    ·rw [if_pos e]
     injection e with z1 z2
     injection z2 with z2 _
     have eh:h=y:=Sum.inl.inj z1;have ej:(j:Int)=(((os.take i).count y:Nat):Int)+1 - 1:=Sum.inl.inj z2;subst eh;have tl:(os.take i).length=i:=by rw [List.length_take];omega
     refine ⟨i,by rw [ei], ?_, ?_⟩
     ·rw [tk,List.getElem?_append_right (by omega),tl];simp
     ·rw [tk,List.take_append_of_le_length (by omega),List.take_take,Nat.min_self];omega
    ·rw [if_neg e]
     have hj':j<(os.take i).count h:=by
      rw [tk,List.count_append] at hj
      by_cases ehy:h=y
      ·subst ehy
       simp at hj;have:j≠(os.take i).count h:=fun z=>e (by rw [z,ec]);omega
      ·have:¬y=h:=fun z=>ehy z.symm
       simpa [this] using hj
     obtain ⟨p,e1,e2,e3⟩:=hS h j hj';have pl:p<(os.take i).length:=(List.getElem?_eq_some_iff.mp e2).1;exact ⟨p,e1,by rw [tk,List.getElem?_append_left pl];exact e2,by rw [tk,List.take_append_of_le_length (by omega)];exact e3⟩
  ·rintro σ H2 ⟨fk,mk,x,rfl,sm,hD,hM,fl,ml,hv,hS⟩
   rw [List.take_length] at hS;exact ⟨_,rfl,k d fk H2 hd hD hS sm⟩
def Az (K:PySem.W.Frag):Sp:=fun vs H Q _=>∃(r b:Addr) (n:Nat) (a:Addr) (cs:List Int),vs=[.ref r,.ref a]/\dR H r b n/\n<549755813888/\H a=some (.lst (cs.map V.int))/\a≠r/\oF cs /\
 (∀H',(pos cs).length<2->dR H' r b (n+4)->Kp r H H'->Q .non H') /\ ∀(t:Addr) (x:Nt) (H':Hp),H t=none->H' t=some (.tup (nV x))->qZ cs x->dR H' r b (n+4)->Kp r H H'->Q (.ref t) H'
theorem pos_at {ls:List Int} {z:Int} (z0:0<=z) (z1:z<(pos ls).length):∃h,(pos ls)[z.toNat]? = some h/\CP ((pos ls).map V.int) z=some (.int h)/\0<=h/\h<ls.length/\0<gI ls h:=by
 obtain ⟨m,rfl⟩:=Int.eq_ofNat_of_zero_le z0;have hm:m<(pos ls).length:=by omega
 have e:(pos ls)[m]? = some (pos ls)[m]:=by simp [hm]
 refine ⟨(pos ls)[m],e,qg ?_,Lf (List.mem_of_getElem? e)⟩;rw [List.getElem?_map,e];rfl
theorem T_ {f:Addr} {fd:FuncData} (F:qj K "_law_note" "_law_note" pZ f fd) (bL:FnAt P w K mg base 2 "_law_draw" ["bag","many"] (qz K)) (Bt:tU mg):gn P w K mg base tV 3 f fd ["bag","counts"] (Az K):=by
 refine F.ok xT (fun vs H Q E h=> ?_) (fun cdv A outer s H vs Q E hr h=> ?_)
 ·obtain ⟨r,b,n,a,cs,rfl,_⟩:=h
  rfl
 ·obtain ⟨r,b,n,a,cs,rfl,B0,hn,ha,Jo,ok,kN,k⟩:=h
  refine ⟨_,(aF (pC (i:=2) rfl xT.nd rfl (Or.inl rfl) (N:=["hand","counts"]) (own:=["hand"]) (caps:=[1]) (bH.of (by kernel_rfl)) (gH (by rfl) Bt.jk (aj (aX (aR (K:=K) rfl) (by rfl) Bt.fL d8 (aj (pv 1) aA)) aA)) (fun _ _ _ _=>(bY (i:=0) (show List.Nodup (["hand","counts"]:List Str) by decide +kernel) rfl (Or.inl rfl))) (fun _ _ _ _=>(qN (aZ yc (aU (bh (K:=K) rfl) (pv 1) (pv 0) (fun _ _=>rfl)) aB (bB _)))) (fun _ _ _ _=>(pv 0)))
   (aF (dU (aZ uY (aX (aR (K:=K) rfl) (by rfl) Bt.fL d8 (aj (pv 2) aA)) aB (bB _)) (aK (bF mW)) bD)
   (aF (bC (i:=3) xT.nd rfl (Or.inl rfl) (bG bL (hr.mono (by decide)) (by rfl) (aj (pv 0) (aj (aX (aR (K:=K) rfl) (by rfl) Bt.fL d8 (aj (pv 2) aA)) aA))))
   (aF (bC (i:=4) xT.nd rfl (Or.inl rfl) (bM pP (bM fD (bM fD (pv 3) aB) (bG bL (hr.mono (by decide)) (by rfl) (aj (pv 0) (aj (bM mX (aX (aR (K:=K) rfl) (by rfl) Bt.fL d8 (aj (pv 2) aA)) aB) aA)))) (aX (aR (K:=K) rfl) (by rfl) Bt.fL d8 (aj (pv 2) aA))))
   (aK (bF (jg (aj (aU (bh (K:=K) rfl) (pv 2) (pv 3) (fun _ _=>rfl)) (aj (bG bL (hr.mono (by decide)) (by rfl) (aj (pv 0) (aj (aU (bh (K:=K) rfl) (pv 1) (aU (bh (K:=K) rfl) (pv 2) (pv 3) (fun _ _=>rfl)) (fun _ _=>rfl)) aA))) (aj (aU (bh (K:=K) rfl) (pv 2) (pv 4) (fun _ _=>rfl)) (aj (bG bL (hr.mono (by decide)) (by rfl) (aj (pv 0) (aj (aU (bh (K:=K) rfl) (pv 1) (aU (bh (K:=K) rfl) (pv 2) (pv 4) (fun _ _=>rfl)) (fun _ _=>rfl)) aA))) aA))))))))))), ?_⟩
  have c8:=ok.1;refine ⟨_,rfl,a,_,rfl,.inl (bK.of ha),_,rfl,by rw [List.length_map];omega,by rw [List.length_map];omega,fun D hD=> ?_⟩;have Ia:(((cs.map V.int).length:Nat):Int).toNat=cs.length:=by simp
  rw [Ia];refine mY (fun (i:Nat)=>if gI cs (i:Int)>0 then some (V.int (0+(i:Int))) else none) hD (by omega) (fun j H3 G F hj s3 kG kF=> ?_) (fun H3 s3 e3=> ?_)
  ·refine ⟨_,rfl,_,rfl,_,_,_,_,rfl,rfl,bK.of (s3 _ _ ha),(gZ (h:=0+(j:Int)) (by omega) (by omega)),_,_,rfl,rfl,_,rfl, ?_⟩
   have ej:(0+(j:Int))=(j:Int):=by omega
   rw [ej];refine dY (fun q=> ?_) (fun q=> ?_)
   ·have q:=of_decide_eq_true q
    refine ⟨_,rfl,kF _ H3 (Same.refl _) ?_⟩;rw [if_pos q,ej]
   ·have q:¬gI cs (j:Int)>0:=fun z=>q (decide_eq_true z)
    exact kG H3 (Same.refl _) (if_neg q)
  ·rw [K6] at e3
   have B3:=B0.keep s3;have nD:D≠r:=(B0.ne hD).1;have p8:=K7 cs;have k3:Kp r H H3:= .of_same s3;refine ⟨_,rfl,D,_,rfl,.inl (bK.of e3),_,_,rfl,rfl,_,rfl, ?_⟩;refine dY (fun q=> ?_) (fun q=> ?_)
   ·exact kN H3 (by have:=of_decide_eq_true q;rw [List.length_map] at this;omega) (B3.mono (by omega)) k3
   ·have hp2:2<=(pos cs).length:=by
     have:¬(((pos cs).map V.int).length:Int)<2:=fun z=>q (decide_eq_true z);rw [List.length_map] at this;omega
    refine ⟨_,rfl,_,rfl,D,_,rfl,.inl (bK.of e3),r,b,_,n,rfl,B3,by omega,by rw [List.length_map];omega,by rw [List.length_map];omega,fun i H4 i0 i1 B4 k4=> ?_⟩;rw [List.length_map] at i1;have e4:=k4 _ _ e3 nD;refine ⟨_,rfl,_,_,rfl,rfl,_,rfl,_,rfl,D,_,rfl,.inl (bK.of e4),_,_,rfl,rfl,r,b,_,n+1,rfl,B4,by omega,by show (0:Int)<(((pos cs).map V.int).length:Int) - 1;rw [List.length_map];omega,by show (((pos cs).map V.int).length:Int) - 1<_;rw [List.length_map];omega,fun z H5 z0 z1 B5 k5=> ?_⟩;have z1':z<((pos cs).length:Int) - 1:=by rw [←List.length_map (f:=V.int)];exact z1
    have e5:=k5 _ _ e4 nD;refine ⟨_,_,rfl,rfl,_,rfl,D,_,rfl,.inl (bK.of e5),_,_,rfl,rfl,by rw [List.length_map];omega, ?_⟩;have j0:0<=(i+1+z) % ((pos cs).length:Int):=Int.emod_nonneg _ (by omega);have j1:(i+1+z) % ((pos cs).length:Int)<(pos cs).length:=Int.emod_lt_of_pos _ (by omega)
    have nij:i≠(i+1+z) % ((pos cs).length:Int):=by
     by_cases w:i+1+z<(pos cs).length
     ·rw [Int.emod_eq_of_lt (by omega) w];omega
     ·have:(i+1+z) % ((pos cs).length:Int)=i+1+z - (pos cs).length:=by
       rw [←Int.sub_emod_right,Int.emod_eq_of_lt (by omega) (by omega)]
      omega
    have ej:(fun (i:Int) (j:Int)=>V.int (i % j)) (i+1+z) (((pos cs).map V.int).length:Int)=V.int ((i+1+z) % ((pos cs).length:Int)):=by show V.int _=_;rw [List.length_map]
    generalize (i+1+z) % ((pos cs).length:Int)=j at j0 j1 nij ej;obtain ⟨hi,ehi,ati,hi0,hi1,hi2⟩:=pos_at i0 i1;obtain ⟨hj,ehj,atj,hj0,hj1,hj2⟩:=pos_at j0 j1
    have nh:hi≠hj:=fun z=>by
     have nd:=List.pairwise_iff_getElem.mp (M4 cs);subst z;obtain ⟨a1,a2⟩:=List.getElem?_eq_some_iff.mp ehi;obtain ⟨b1,b2⟩:=List.getElem?_eq_some_iff.mp ehj;rcases Int.lt_or_gt_of_ne nij with w|w
     ·exact nd _ _ a1 b1 (by omega) (a2.trans b2.symm)
     ·exact nd _ _ b1 a1 (by omega) (b2.trans a2.symm)
    have ha5:=k5 _ _ (k4 _ _ (s3 _ _ ha) Jo) Jo;have ghi:=ok.gI hi;have ghj:=ok.gI hj;refine ⟨_,rfl,_,rfl,_,_,_,_,rfl,rfl,bK.of e5,ati,_,rfl,_,rfl,_,rfl,_,rfl,_,_,_,_,rfl,rfl,bK.of e5,ati,_,_,_,_,rfl,rfl,bK.of ha5,gZ hi0 hi1,r,b,_,_,rfl,B5,by omega,hi2,by omega,fun u H6 u0 u1 B6 k6=> ?_⟩;have e6:=k6 _ _ e5 nD;have Q8:=k6 _ _ ha5 Jo;refine ⟨_,rfl,_,rfl,_,_,_,_,rfl,ej,bK.of e6,atj,_,rfl,_,rfl,_,rfl,_,rfl,_,_,_,_,rfl,ej,bK.of e6,atj,_,_,_,_,rfl,rfl,bK.of Q8,gZ hj0 hj1,r,b,_,_,rfl,B6,by omega,hj2,by omega,fun v H7 v0 v1 B7 k7=> ?_⟩;refine ⟨(by show 4<=sizeLine;decide),fun t ht=> ?_⟩;have st:=aJ (o:=HO.tup [V.int hi,V.int u,V.int hj,V.int v]) ht;have kk:Kp r H H7:=(((k3.trans k4).trans k5).trans k6).trans k7;exact k t (hi,u,hj,v) _ (Kp.new kk ht B7.at) au ⟨⟨hi0,hi1⟩,⟨u0,u1⟩,⟨hj0,hj1⟩,⟨v0,v1⟩,nh⟩ (B7.keep st) (kk.trans (.of_same st))
theorem Cd (x y:Nt):PyData.eqv (nD x) (nD y)=decide (x=y):=by
 obtain ⟨a,b,c,d⟩:=x;obtain ⟨a',b',c',d'⟩:=y;simp only [nD,PyData.eqv,PyData.eqvAll,Bool.and_true]
 by_cases e1:a=a'
 ·subst e1
  by_cases e2:b=b'
  ·subst e2
   by_cases e3:c=c'
   ·subst e3
    by_cases e4:d=d'
    ·subst e4;simp
    ·simp [e4]
   ·simp [e3]
  ·simp [e2]
 ·simp [e1]
theorem sG (ns:List Nt):SeqAt.shaped (.list (ns.map nD))=true:=
 uT nD 1 (by decide) (fun _ _=>rfl) (fun _ _=>by show (max 0 (max 0 (max 0 (max 0 0))))+1<=1;decide)
def RecAt (H:Hp) (t c a:Addr) (cs:List Int) (ns:List Nt):Prop:=H t=some (.tup [.ref c,.ref a])/\H c=some (.lst (cs.map V.int))/\gA H a ns
theorem RecAt.same {H H':Hp} {t c a:Addr} {cs:List Int} {ns:List Nt} (h:RecAt H t c a cs ns) (k:Same H H'):RecAt H' t c a cs ns:=⟨k _ _ h.1,k _ _ h.2.1,h.2.2.same k⟩
theorem RecAt.kp {H H':Hp} {t c a r:Addr} {ys:List V} {cs:List Int} {ns:List Nt} (h:RecAt H t c a cs ns) (hr:H r=some (.lst ys)) (k:Kp r H H') (n1:c≠r) (n2:a≠r):RecAt H' t c a cs ns:=⟨k.tups hr _ _ h.1,k _ _ h.2.1 n1,h.2.2.kp (k.tups hr) k n2⟩
def iz (cs:List Int) (ns:List Nt):Prop:=oF cs/\ns.length<=100 /\ ∀x∈ns,qZ cs x
def yW (K:PySem.W.Frag):Sp:=fun vs H Q _=>∃(r b:Addr) (n:Nat) (g:Int),vs=[.ref r,.int g]/\(g=0\/g=1)/\dR H r b n/\n<137438953472 /\ ∀(t c a:Addr) (cs:List Int) (ns:List Nt) (H':Hp),H t=none->H c=none->H a=none->RecAt H' t c a cs ns->iz cs ns->(g=0->abL cs)->dR H' r b (n+4000)->Kp r H H'->c≠a->ns.length<=60->Q (.ref t) H'
theorem Cp (a b c d:V):lD [a,b,c,d] none (some 2)=[a,b]:=yt _ 2
theorem Fd (a b c d:V):lD [a,b,c,d] (some 2) none=[c,d]:=Cm _ 2
theorem uX {α:Type} (xs:List α) (h:xs.length=4):¬(HT.jX xs.length 0 none=0/\HT.jX xs.length xs.length (some 2)=xs.length):=by
 rw [h];decide
theorem wX {α:Type} (xs:List α) (h:xs.length=4):¬(HT.jX xs.length 0 (some 2)=0/\HT.jX xs.length xs.length none=xs.length):=by
 rw [h];decide
theorem Aa {H:Hp} {vs:List V} {ns:List Nt} {v:V} {x:Nt} (i:Nat) (d:bf H vs (ns.map nD)) (dv:Dat H v (nD x)):bf H (vs.take i++v::vs.drop i) ((ns.take i++x::ns.drop i).map nD):=by
 rw [List.map_append,List.map_cons,List.map_take,List.map_drop];refine bf.append (d.take i) ?_;simp only [bf];exact ⟨dv,d.drop i⟩
theorem Lg {ns:List Nt} {x y:Nt} {i:Nat} (h:y∈ns.take i++x::ns.drop i):y=x\/y∈ns:=by
 rcases List.mem_append.mp h with h|h
 ·exact .inr (List.mem_of_mem_take h)
 ·rcases List.mem_cons.mp h with h|h
  ·exact .inl h
  ·exact .inr (List.mem_of_mem_drop h)
theorem Ac (ns:List Nt) (x:Nt) (i:Nat):(ns.take i++x::ns.drop i).length=ns.length+1:=by
 simp only [List.length_append,List.length_cons,List.length_take,List.length_drop];omega
theorem G9 {kvs:List (List Key×V)} {cs os:List Int} {h k:Int} (S:Kr kvs os) (O:Wd cs os) (h0:0<=h) (h1:h<cs.length) (k0:0<=k) (k1:k<gI cs h):∃z:Int,gR kvs [Sum.inl h,Sum.inl k]=some (.int z):=by
 have q:=O.2 h h0 h1;obtain ⟨z,e,_⟩:=S h k.toNat (by omega);have:((k.toNat:Nat):Int)=k:=by omega
 rw [this] at e;exact ⟨(z:Int),e⟩
theorem JT {f:Addr} {fd:FuncData} (F:qj K "_law_record" "_law_record" jV f fd) (bL:FnAt P w K mg base 2 "_law_draw" ["bag","many"] (qz K)) (O1:FnAt P w K mg base 3 "_law_counts" ["bag","great"] (Bh K)) (Df:FnAt P w K mg base 3 "_law_order" ["bag","counts"] (zX K)) (RP:FnAt P w K mg base 1 "_law_spots" ["order"] (FQ K)) (yE:FnAt P w K mg base 3 "_law_note" ["bag","counts"] (Az K)) (Bt:tU mg):gn P w K mg base tV 4 f fd ["bag","great"] (yW K):=by
 refine F.ok iQ (fun vs H Q E h=> ?_) (fun cdv A outer s H vs Q E hr h=> ?_)
 ·obtain ⟨r,b,n,g,rfl,_⟩:=h
  rfl
 ·obtain ⟨r,b,n,g,rfl,hg,B0,hn,k⟩:=h
  have hu:=yj hr;have gO:=hr.units
  refine ⟨_,(aF (bC (i:=2) iQ.nd rfl (Or.inl rfl) (bG bL (hr.mono (by decide)) (by rfl) (aj (pv 0) (aj aB aA))))
   (aF (bC (i:=3) iQ.nd rfl (Or.inl rfl) (bG bL (hr.mono (by decide)) (by rfl) (aj (pv 0) (aj aB aA))))
   (aF (bC (i:=4) iQ.nd rfl (Or.inl rfl) (bG O1 (hr.mono (by decide)) (by rfl) (aj (pv 0) (aj (pv 1) aA))))
   (aF (bC (i:=5) iQ.nd rfl (Or.inl rfl) (bG RP (hr.mono (by decide)) (by rfl) (aj (bG Df (hr.mono (by decide)) (by rfl) (aj (pv 0) (aj (pv 4) aA))) aA)))
   (aF (bC (i:=6) iQ.nd rfl (Or.inl rfl) (fO aA))
   (aF (mV PassesOwn.never rfl (gH (by rfl) Bt.jk (aj (bG bL (hr.mono (by decide)) (by rfl) (aj (pv 0) (aj (aU (bh (K:=K) rfl) (fO (aj aB (aj aB aA))) (pv 1) (fun _ _=>rfl)) aA))) aA)) (bY (i:=7) iQ.nd rfl (Or.inl rfl))
   (aF (bC (i:=8) iQ.nd rfl (Or.inl rfl) (bG yE (hr.mono (by decide)) (by rfl) (aj (pv 0) (aj (pv 4) aA))))
   (aF (bC (i:=9) iQ.nd rfl (Or.inl rfl) (aag (lF gF (pv 2) aB (bB _)) (uW (wW (lF gF (pv 2) aB (bB _)) (uW (lF yc (bG bL (hr.mono (by decide)) (by rfl) (aj (pv 0) (aj aB aA))) aB (bB _)))))))
   (aK (dU (aZ vA (pv 8) mW (bB _)) (aF (dU (PW.pt (jf (iR (pv 9)) (iC (aZ yc (xZ hu (pv 5) (fB (g8 (K:=K) rfl) (pv 8) gD (gC aB)) (fun _ _=>rfl)) (xZ hu (pv 5) (fB (g8 (K:=K) rfl) (pv 8) (gC aB) gD) (fun _ _=>rfl)) (bB _))))) (aK (bC (i:=8) iQ.nd rfl (Or.inl rfl) (bM (Bw (K:=K) rfl) (fB (g8 (K:=K) rfl) (pv 8) (gC aB) gD) (fB (g8 (K:=K) rfl) (pv 8) gD (gC aB))))) bD)
   (aK (eZ (pO (K:=K) rfl PySem.F.plainAttrs_list PySem.F.slot_list_insert PySem.F.type_list_insert qp (pv 6) (aj (bG bL (hr.mono (by decide)) (by rfl) (aj (pv 0) (aj (bM fD (aX (aR (K:=K) rfl) (by rfl) Bt.fL d8 (aj (pv 6) aA)) aB) aA))) (aj (pv 8) aA)))))) bD)))))
   (aF (dU (PW.pt (jf (aZ gF (pv 3) aB (bB _)) (iC (aZ (jh (K:=K) rfl gO) (pv 6) (fO aA) (bB _))))) (aK (eZ (pO (K:=K) rfl PySem.F.plainAttrs_list PySem.F.slot_list_insert PySem.F.type_list_insert qp (pv 6) (aj (bG bL (hr.mono (by decide)) (by rfl) (aj (pv 0) (aj (bM fD (aX (aR (K:=K) rfl) (by rfl) Bt.fL d8 (aj (pv 6) aA)) aB) aA))) (aj (aU (bh (K:=K) rfl) (pv 6) (bG bL (hr.mono (by decide)) (by rfl) (aj (pv 0) (aj (aX (aR (K:=K) rfl) (by rfl) Bt.fL d8 (aj (pv 6) aA)) aA))) (fun _ _=>rfl)) aA))))) bD)
   (aK (bF (jg (aj (pv 4) (aj (pv 6) aA)))))))))))), ?_⟩
  refine ⟨_,rfl,r,b,3,n,rfl,B0,by omega,by decide,by decide,fun mode H1 m0 m1 B1 k1=> ?_⟩;refine ⟨_,rfl,r,b,3,n+1,rfl,B1,by omega,by decide,by decide,fun twice H2 w0 w1 B2 k2=> ?_⟩;refine ⟨_,rfl,_,rfl,r,b,n+2,g,rfl,hg,B2,by omega,fun c cs H3 hc0 hc ok csm B3 k3=> ?_⟩;have nc:c≠r:=(B2.ne hc0).1;refine ⟨_,rfl,_,rfl,r,b,n+22,c,cs,rfl,B3,by omega,hc,nc,ok,fun o os H4 ho0 ho oo _ B4 k4=> ?_⟩;have no:o≠r:=(B3.ne ho0).1;refine ⟨o,os,rfl,ho,oo.1,fun d kvs H5 hd0 hd S s5=> ?_⟩;have nd:d≠r:=(B4.ne hd0).1;have hc5:=s5 _ _ (k4 _ _ hc nc);have B5:=B4.keep s5;refine ⟨(by show 0<=sizeLine;decide),fun a ha0=> ?_⟩;have s6:=aJ (o:=HO.lst []) ha0;have B6:=B5.keep s6;have na:=B5.ne ha0;have hc6:=s6 _ _ hc5;have hd6:=s6 _ _ hd;have Y7:c≠a:=aL hc5 ha0;have nda:d≠a:=aL hd ha0;have kA:Kp r H (upd H5 a (.lst [])):=((((k1.trans k2).trans k3).trans k4).trans (.of_same s5)).trans (.of_same s6);have ah5:H c=none:=Kp.new (k1.trans k2) hc0 B2.at;have Yn:H a=none:=Kp.new ((((k1.trans k2).trans k3).trans k4).trans (.of_same s5)) ha0 B5.at;refine ⟨_,rfl,(by show 2<=sizeLine;decide),fun p hp=> ?_⟩;have s7:=aJ (o:=HO.lst [V.int 13,V.int 41]) hp
  obtain ⟨mx,emx,x0,x1⟩:∃mx:Int,CP [V.int 13,V.int 41] g=some (V.int mx)/\0<mx/\mx<=41:=by
   rcases hg with rfl|rfl
   ·exact ⟨13,rfl,by decide,by decide⟩
   ·exact ⟨41,rfl,by decide,by decide⟩
  refine ⟨_,rfl,_,_,_,_,rfl,rfl,bK.of au,emx,r,b,mx,_,rfl,B6.keep s7,by omega,x0,by omega,fun many H8 y0 y1 B8 k8=> ?_⟩;refine ⟨many,rfl,by omega,by omega, ?_⟩;have hc8:=k8 _ _ (s7 _ _ hc6) nc;have hd8:=k8 _ _ (s7 _ _ hd6) nd;have kB:Kp r H H8:=(kA.trans (.of_same s7)).trans k8
  refine rE (lo:=0) (n:=many.toNat) (fun i σ H9=>∃(ns:List Nt) (x1 x2 x3:Option V),σ=[some (.ref r),some (.int g),some (.int mode),some (.int twice),some (.ref c),some (.ref d),some (.ref a),x1,x2,x3] /\
   H9 c=some (.lst (cs.map V.int))/\H9 d=some (.dT kvs)/\gA H9 a ns/\ns.length<=i/\(∀x∈ns,qZ cs x)/\dR H9 r b (n+2500+10*i)/\Kp r H H9)
   ⟨[],none,none,none,rfl,hc8,hd8,⟨[],k8 _ _ (s7 _ _ au) na.1,by simp only [List.map_nil,bf]⟩,Nat.le_refl _,(fun x hx=>by cases hx),B8.mono (by omega),kB⟩ ?_ ?_
  ·rintro i σ H9 hi ⟨ns,v1,v2,v3,rfl,hc9,hd9,N9,nl,Xp,B9,k9⟩
   obtain ⟨bl,hbl⟩:=B9.lst;refine gB (fun σ vR=>∃(nv:V),σ=[some (.ref r),some (.int g),some (.int mode),some (.int twice),some (.ref c),some (.ref d),some (.ref a),some (.int (0+i)),some nv,v3]/\(nv = .non \/ ∃t x,nv = .ref t/\vR t=some (.tup (nV x))/\qZ cs x)/\dR vR r b (n+2500+10*i+4)/\Kp r H9 vR) (fun D' hD' _=> ?_) ?_
   ·exact ⟨_,rfl,_,rfl,r,b,_,c,cs,rfl,B9,by omega,hc9,nc,ok,fun vR _ B10 k10=>hD' _ _ ⟨_,rfl,.inl rfl,B10,k10⟩,fun t x vR ht0 ht nx B10 k10=>hD' _ _ ⟨_,rfl,.inr ⟨t,x,rfl,ht,nx⟩,B10,k10⟩⟩
   rintro σ vR ⟨nv,rfl,hnv,B10,k10⟩;refine gB (fun σ Kv=>∃(al:Bool),σ=[some (.ref r),some (.int g),some (.int mode),some (.int twice),some (.ref c),some (.ref d),some (.ref a),some (.int (0+i)),some nv,some (.bl al)]/\dR Kv r b (n+2500+10*i+5)/\Kp r vR Kv) (fun D' hD' _=> ?_) ?_
   ·refine ⟨_,rfl,rfl,_,rfl, ?_⟩
    refine dY (fun _=> ?_) (fun _=> ?_)
    ·exact hD' _ _ ⟨true,rfl,B10.mono (by omega),Kp.refl _ _⟩
    ·refine ⟨_,rfl,rfl,_,rfl, ?_⟩
     refine dY (fun _=> ?_) (fun _=> ?_)
     ·exact ⟨_,rfl,r,b,8,_,rfl,B10,by omega,by decide,by decide,fun z Kv z0 z1 B11 k11=>⟨_,_,rfl,rfl,hD' _ _ ⟨_,rfl,B11,k11⟩⟩⟩
     ·exact hD' _ _ ⟨false,rfl,B10.mono (by omega),Kp.refl _ _⟩
   rintro σ Kv ⟨al,rfl,B11,k11⟩;have Uu:=k10.trans k11;have tp:∀a xs,H9 a=some (HO.tup xs)->Kv a=some (HO.tup xs):=fun a xs h=>B10.tups k11 _ _ (B9.tups k10 _ _ h);have aaF:=Uu _ _ hc9 nc;have Uz:=Uu _ _ hd9 nd;have Sh:gA Kv a ns:=N9.kp tp Uu na.1;have aat:=k9.trans Uu;refine ⟨_,rfl,rfl,_,rfl, ?_⟩;rcases hnv with rfl|⟨t,x,rfl,ht,nx⟩
   ·refine dY (fun q=>absurd q (by simp)) (fun _=> ?_)
    exact ⟨ns,_,_,_,rfl,aaF,Uz,Sh,by omega,Xp,B11.mono (by omega),aat⟩
   refine dY (fun _=> ?_) (fun q=>absurd (by simp) q);have X7:=B10.tups k11 _ _ ht;refine gB (fun σ vJ=>∃(t':Addr) (x':Nt),σ=[some (.ref r),some (.int g),some (.int mode),some (.int twice),some (.ref c),some (.ref d),some (.ref a),some (.int (0+i)),some (.ref t'),some (.bl al)]/\vJ t'=some (.tup (nV x'))/\qZ cs x'/\Same Kv vJ) (fun D' hD' _=> ?_) ?_
   ·refine ⟨_,rfl,al,rfl, ?_⟩
    cases al with
    | false=>exact iM (hD' _ _ ⟨t,x,rfl,X7,nx,Same.refl _⟩)
    | true=>
      refine ji ?_;obtain ⟨⟨h0,h1⟩,⟨k0,k1⟩,⟨o0,o1⟩,⟨m0,m1⟩,hne⟩:=id nx;obtain ⟨z1,e1⟩:=G9 S oo h0 h1 k0 k1;obtain ⟨z2,e2⟩:=G9 S oo o0 o1 m0 m1;refine ⟨_,rfl,_,rfl,_,rfl,_,_,rfl,eV.of X7,uX _ rfl,fun p1 hp1=> ?_⟩;have c1:lD (nV x) none (some 2)=[.int x.1,.int x.2.1]:=Cp ..;rw [c1];have vV:=aJ (o:=HO.tup [V.int x.1,V.int x.2.1]) hp1;refine ⟨d,_,rfl,e1▸qI.t (k:=[Sum.inl x.1,Sum.inl x.2.1]) (vV _ _ Uz) au, ?_⟩;have Ii:=vV _ _ X7;refine ⟨_,rfl,_,rfl,_,rfl,_,_,rfl,eV.of Ii,wX _ rfl,fun p2 hp2=> ?_⟩;have c2:lD (nV x) (some 2) none=[.int x.2.2.1,.int x.2.2.2]:=Fd ..;rw [c2];have Td:=aJ (o:=HO.tup [V.int x.2.2.1,V.int x.2.2.2]) hp2;refine ⟨d,_,rfl,e2▸qI.t (k:=[Sum.inl x.2.2.1,Sum.inl x.2.2.2]) (Td _ _ (vV _ _ Uz)) au,_,_,rfl,rfl,_,rfl, ?_⟩;have QZ:=Td _ _ Ii;have zB:=vV.trans Td;refine dY (fun _=> ?_) (fun _=> ?_)
      ·refine ⟨_,rfl,_,rfl,_,_,rfl,eV.of QZ,wX _ rfl,fun p3 hp3=> ?_⟩
       rw [c2];have Tc:=aJ (o:=HO.tup [V.int x.2.2.1,V.int x.2.2.2]) hp3;refine ⟨_,rfl,_,rfl,_,_,rfl,eV.of (Tc _ _ QZ),uX _ rfl,fun p4 hp4=> ?_⟩;rw [c1];have S_:=aJ (o:=HO.tup [V.int x.1,V.int x.2.1]) hp4;refine ⟨_,_,_,_,rfl,rfl,eV.of (S_ _ _ au),eV.of au,by simp,(by show 4<=sizeLine;decide),fun z=>by simp at z,fun _ p5 NT=> ?_⟩;refine hD' _ _ ⟨p5,(x.2.2.1,x.2.2.2,x.1,x.2.1),rfl,au,⟨⟨o0,o1⟩,⟨m0,m1⟩,⟨h0,h1⟩,⟨k0,k1⟩,hne.symm⟩,((zB.trans Tc).trans S_).trans (aJ NT)⟩
      ·exact hD' _ _ ⟨t,x,rfl,QZ,nx,zB⟩
   rintro σ vJ ⟨t',x',rfl,ht',nx',s12⟩;have Wf:=Sh.same s12;have B12:=B11.keep s12;obtain ⟨vs,hA,dA⟩:=id Wf;have vl:vs.length=ns.length:=by rw [dA.length,List.length_map]
   refine ⟨_,rfl,.inl ⟨rfl,_,bK.of hA⟩,_,rfl,_,rfl,a,_,rfl,.inl (bK.of hA),_,_,rfl,rfl,r,b,_,_,rfl,B12,by omega,by omega,by omega,fun z Wg z0 z1 B13 k13=> ?_⟩;have N13:=Wf.kp (B12.tups k13) k13 na.1;obtain ⟨vs',hA',dA'⟩:=id N13;have vl':vs'.length=ns.length:=by rw [dA'.length,List.length_map]
   refine ⟨_,rfl,a,vs',z,_,rfl,rfl,hA',z0,by omega,by rw [sizeLine_eq];omega, ?_⟩;have Dw:Kp a Wg (upd Wg a (.lst (vs'.take z.toNat++V.ref t'::vs'.drop z.toNat))):=Kp.set;have Dl:=Dw.tups hA';refine ⟨ns.take z.toNat++x'::ns.drop z.toNat,_,_,_,rfl,Dw _ _ (k13 _ _ (s12 _ _ aaF) nc) Y7,Dw _ _ (k13 _ _ (s12 _ _ Uz) nd) nda,⟨_,au, ?_⟩,by rw [Ac];omega,fun y hy=> ?_,(B13.kp Dw na.1.symm na.2.symm).mono (by omega), ?_⟩
   ·refine Aa _ (bf.keep Dl _ (eO _ iV ns) dA') (tD (Dl _ _ (B12.tups k13 _ _ ht')))
   ·rcases Lg hy with rfl|hy
    ·exact nx'
    ·exact Xp y hy
   ·intro q u e nq
    have:q≠a:=aL e Yn;exact Dw _ _ (k13 _ _ (s12 _ _ (aat _ _ e nq)) nq) this
  ·rintro σ H9 ⟨ns,v1,v2,v3,rfl,hc9,hd9,N9,nl,Xp,B9,k9⟩
   have fin:∀(ms:List Nt) (H:Hp),True:=fun _ _=>trivial;dsimp only;refine gB (fun σ vR=>∃(ms:List Nt),σ=[some (.ref r),some (.int g),some (.int mode),some (.int twice),some (.ref c),some (.ref d),some (.ref a),v1,v2,v3]/\vR c=some (.lst (cs.map V.int))/\gA vR a ms/\ms.length<=50/\(∀x∈ms,qZ cs x)/\dR vR r b (n+3500)/\Kp r H vR) (fun D' hD' _=> ?_) ?_
   ·have same:D'.nx [some (.ref r),some (.int g),some (.int mode),some (.int twice),some (.ref c),some (.ref d),some (.ref a),v1,v2,v3] H9:=hD' _ _ ⟨ns,rfl,hc9,N9,by omega,Xp,B9.mono (by omega),k9⟩
    refine ⟨_,rfl,rfl,_,rfl, ?_⟩;refine dY (fun _=> ?_) (fun _=>same);obtain ⟨vs,hA,dA⟩:=id N9;have vl:vs.length=ns.length:=by rw [dA.length,List.length_map]
    refine ⟨_,rfl,(by show 0<=sizeLine;decide),fun p1 hp1=> ?_⟩;have vV:=aJ (o:=HO.lst []) hp1;have Vn:=N9.same vV;obtain ⟨vs1,hA1,dA1⟩:=id Vn;refine ⟨_,_,rF hA1 dA1,rF (ds:=([]:List Nt).map nD) au (by simp only [List.map_nil,bf]),sG ns,sG [],_,rfl, ?_⟩;rw [if_pos rfl,gG nD Cd];have vl1:vs1.length=ns.length:=by rw [dA1.length,List.length_map]
    by_cases e0:ns=[]
    ·subst e0
     refine dY (fun q=>absurd q (by simp)) (fun _=> ?_);exact hD' _ _ ⟨[],rfl,vV _ _ hc9,Vn,by simp,Xp,(B9.keep vV).mono (by omega),k9.trans (.of_same vV)⟩
    refine dY (fun _=> ?_) (fun q=>absurd (by simp [e0]) q);have npos:0<ns.length:=List.length_pos_iff.mpr e0;have B10:=B9.keep vV;have Yi:=vV _ _ hc9;refine ⟨_,rfl,.inl ⟨rfl,_,bK.of hA1⟩,_,rfl,_,rfl,a,_,rfl,.inl (bK.of hA1),_,_,rfl,rfl,r,b,_,_,rfl,B10,by omega,by omega,by omega,fun z Kv z0 z1 B11 k11=> ?_⟩;have Sh:=Vn.kp (B10.tups k11) k11 na.1;obtain ⟨vs2,hA2,dA2⟩:=id Sh;have vl2:vs2.length=ns.length:=by rw [dA2.length,List.length_map]
    refine ⟨_,rfl,_,rfl,_,rfl,a,_,rfl,.inl (bK.of hA2),r,b,_,_,rfl,B11,by omega,by omega,by omega,fun u vJ u0 u1 B12 k12=> ?_⟩;have Wf:=Sh.kp (B11.tups k12) k12 na.1;obtain ⟨Pr,hA3,dA3⟩:=id Wf;have vl3:Pr.length=ns.length:=by rw [dA3.length,List.length_map]
    obtain ⟨um,rfl⟩:=Int.eq_ofNat_of_zero_le u0;have hum:um<Pr.length:=by omega
    obtain ⟨x,t,ex,ev,ht⟩:=jz dA3 (i:=um) (v:=Pr[um]) (by simp [hum]);refine ⟨_,_,_,_,rfl,rfl,bK.of hA3,qg (v:=Pr[um]) (by simp [hum]),a,Pr,z,_,rfl,rfl,hA3,z0,by omega,by rw [sizeLine_eq];omega, ?_⟩;have Dw:Kp a vJ (upd vJ a (.lst (Pr.take z.toNat++Pr[um]::Pr.drop z.toNat))):=Kp.set;have Dl:=Dw.tups hA3;refine hD' _ _ ⟨ns.take z.toNat++x::ns.drop z.toNat,rfl,Dw _ _ (k12 _ _ (k11 _ _ Yi nc) nc) Y7,⟨_,au, ?_⟩,by rw [Ac];omega,fun y hy=> ?_,(B12.kp Dw na.1.symm na.2.symm).mono (by omega), ?_⟩
    ·refine Aa _ (bf.keep Dl _ (eO _ iV ns) dA3) ?_
     exact Eq.mpr (congrArg (fun v=>Dat (upd vJ a (.lst (Pr.take z.toNat++Pr[um]::Pr.drop z.toNat))) v (nD x)) ev) (tD (Dl _ _ ht))
    ·rcases Lg hy with rfl|hy
     ·exact Xp y (List.mem_of_getElem? ex)
     ·exact Xp y hy
    ·intro q w e nq
     have:q≠a:=aL e Yn;exact Dw _ _ (k12 _ _ (k11 _ _ (vV _ _ (k9 _ _ e nq)) nq) nq) this
   rintro σ vR ⟨ms,rfl,Yi,Vn,ml,mok,B10,k10⟩;refine ⟨_,rfl,_,rfl,(by show 2<=sizeLine;decide),fun t ht=> ?_⟩;have st:=aJ (o:=HO.tup [V.ref c,V.ref a]) ht;exact k t c a cs ms _ (Kp.new k10 ht B10.at) ah5 Yn ⟨au,st _ _ Yi,Vn.same st⟩ ⟨ok,by omega,mok⟩ csm ((B10.keep st).mono (by omega)) (k10.trans (.of_same st)) Y7 (by omega)
def G6 (i:Int) (n:Nat):Prop:=0<=i/\i<(n:Int)
instance (i:Int) (n:Nat):Decidable (G6 i n):=inferInstanceAs (Decidable (_/\_))
def SX (K:PySem.W.Frag):Sp:=fun vs H Q _=>∃i:Int,vs=[.int i]/\Q (.bl true) H
theorem HJ {f:Addr} {fd:FuncData} (F:qj K "is_whole" "is_whole" i_ f fd) (Bt:tU mg):gn P w K mg base tV 1 f fd ["value"] (SX K):=by
 refine F.ok Hi (fun vs H Q E h=> ?_) (fun cdv A outer s H vs Q E hr h=> ?_)
 ·obtain ⟨i,rfl,_⟩:=h
  rfl
 ·obtain ⟨i,rfl,k⟩:=h
  refine ⟨_,(aK (bF (wW (aX (rH (K:=K) (cv:= .ty "int") (c:= .type "int") rfl rfl) (by rfl) Bt.fK eY (aj (pv 0) (aj (vq (v:= .ty "int") (by rfl) Bt.Wa Rv rfl) aA))) (uW (Xe (aX (rH (K:=K) (cv:= .ty "bool") (c:= .type "bool") rfl rfl) (by rfl) Bt.fK eY (aj (pv 0) (aj (vq (v:= .ty "bool") (by rfl) Bt.YF U_ rfl) aA)))))))), ?_⟩;refine ⟨_,rfl,_,_,true,rfl,.int i,Ig K,true,rfl, ?_⟩;refine ji ?_;exact ⟨_,rfl,_,_,false,rfl,.int i,Gq K,false,rfl,k⟩
def xP (K:PySem.W.Frag):Sp:=fun vs H Q _=>∃(i:Int) (n:Nat),vs=[.int i,.int n]/\Q (.bl (decide (G6 i n))) H
theorem HN {f:Addr} {fd:FuncData} (F:qj K "is_below" "is_below" jc f fd) (xu:FnAt P w K mg base 1 "is_whole" ["value"] (SX K)):gn P w K mg base tV 2 f fd ["value","count"] (xP K):=by
 refine F.ok Hj (fun vs H Q E h=> ?_) (fun cdv A outer s H vs Q E hr h=> ?_)
 ·obtain ⟨i,n,rfl,_⟩:=h
  rfl
 ·obtain ⟨i,n,rfl,k⟩:=h
  refine ⟨_,(aK (bF (wW (bG xu (hr.mono (by decide)) (by rfl) (aj (pv 0) aA)) (uW (Qm Lb uY aB (pv 0) (pv 1)))))), ?_⟩;refine ⟨_,rfl,i,rfl,true,rfl, ?_⟩;refine ji ?_;refine ⟨_,rfl,_,_,rfl,rfl,_,rfl, ?_⟩;refine dY (fun h0=> ?_) (fun h0=> ?_)
  ·refine ⟨_,rfl,_,_,rfl,rfl, ?_⟩
   have e:decide (G6 i n)=decide (i<(n:Int)):=by
    have h0:=of_decide_eq_true h0;rw [Bool.eq_iff_iff,decide_eq_true_iff,decide_eq_true_iff];exact ⟨fun z=>z.2,fun z=>⟨h0,z⟩⟩
   show Q (.bl (decide (i<(n:Int)))) H;rw [←e];exact k
  ·have e:decide (G6 i n)=false:=decide_eq_false fun z=>h0 (decide_eq_true z.1)
   rw [←e];exact k
def xM (K:PySem.W.Frag):Sp:=fun vs H Q _=>∃(t:Addr) (x:Nt),vs=[.ref t]/\H t=some (.tup (nV x)) /\ ∀H',Same H H'->Q (.bl (!decide (x.1=x.2.2.1))) H'
theorem JV {f:Addr} {fd:FuncData} (F:qj K "is_note" "is_note" jT f fd) (xu:FnAt P w K mg base 1 "is_whole" ["value"] (SX K)) (Bt:tU mg):gn P w K mg base tV 2 f fd ["value"] (xM K):=by
 refine F.ok JH (fun vs H Q E h=> ?_) (fun cdv A outer s H vs Q E hr h=> ?_)
 ·obtain ⟨t,x,rfl,_⟩:=h
  rfl
 ·obtain ⟨t,x,rfl,ht,k⟩:=h
  have gO:=hr.units
  refine ⟨_,(aF (dU (PW.pt (qM (lB (iR (aX (rH (K:=K) (cv:= .ty "tuple") (c:= .type "tuple") rfl rfl) (by rfl) Bt.fK eY (aj (pv 0) (aj (vq (v:= .ty "tuple") (by rfl) Bt.GQ Cw rfl) aA))))) (pA (aZ HB (aX (aR (K:=K) rfl) (by rfl) Bt.fL d8 (aj (pv 0) aA)) aB (bB _))))) (aK (bF qO)) bD)
   (aK (bF (wW (aX (gY (K:=K) rfl rfl) (by rfl) Bt.CK w6 (aj (iT rfl (N:=["number"]) (own:=["number"]) (caps:=[]) (bH.of (by kernel_rfl)) (TJ (K:=K) rfl (pv 0)) (fun _ _ _ _=>(bY (i:=0) (show List.Nodup (["number"]:List Str) by decide +kernel) rfl (Or.inl rfl))) (fun _ _ _ _=>iD) (fun _ _ _ _=>(bG xu (hr.mono (by decide)) (by rfl) (aj (pv 0) aA)))) aA)) (uW (lF HB (aU (aY (K:=K) rfl) (pv 0) aB (fun _ _=>rfl)) (aU (aY (K:=K) rfl) (pv 0) aB (fun _ _=>rfl)) (bB _))))))), ?_⟩
  refine ⟨_,rfl,_,_,true,rfl,.tup ht,zN K,true,rfl, ?_⟩;refine iM ?_;refine ⟨_,rfl,t,_,rfl,.inr (eV.of ht),rfl,_,rfl, ?_⟩;refine Lq (by rfl) ?_;refine ⟨_,rfl,t,rfl,⟨_,eV.of ht⟩,fun D hD=> ?_⟩;refine Oo (K:=K) (fun i=>some (.bl true)) hD ht (by show 4<=100000;decide) (fun i v H2 G F hi s2 kG kF=> ?_) (fun H2 s2 e2=> ?_)
  ·obtain ⟨z,rfl⟩:∃z,v=V.int z:=by
    have hm:=List.mem_of_getElem? hi;simp only [nV,List.mem_cons,List.not_mem_nil,or_false] at hm;rcases hm with rfl|rfl|rfl|rfl<;>exact ⟨_,rfl⟩
   exact ⟨_,rfl,z,rfl,kF _ H2 (Same.refl _) rfl⟩
  ·refine ⟨D,[true,true,true,true],rfl,bK.of e2,true,rfl, ?_⟩
   refine ji ?_;refine ⟨_,rfl,_,_,_,_,rfl,rfl,eV.of (s2 _ _ ht),rfl,_,rfl,_,_,_,_,rfl,rfl,eV.of (s2 _ _ ht),rfl,rfl, ?_⟩
   have e:(!decide (V.int x.1=V.int x.2.2.1))=(!decide (x.1=x.2.2.1)):=by
    by_cases q:x.1=x.2.2.1
    ·simp [q]
    ·simp [q]
   show Q (.bl (!decide (V.int x.1=V.int x.2.2.1))) H2;rw [e];exact k H2 s2
instance (cs:List Int) (x:Nt):Decidable (qZ cs x):=by unfold qZ;infer_instance
def eU (cs:List Int) (ns:List Nt):Prop:=∀x∈ns,qZ cs x
def wQ (K:PySem.W.Frag):Sp:=fun vs H Q _=>∃(c t:Addr) (cs:List Int) (x:Nt),vs=[.ref c,.ref t]/\H c=some (.lst (cs.map V.int))/\H t=some (.tup (nV x))/\oF cs /\ ∀H',Same H H'->Q (.bl (decide (qZ cs x))) H'
theorem Bx {f:Addr} {fd:FuncData} (F:qj K "is_between" "is_between" h_ f fd) (jQ:FnAt P w K mg base 2 "is_below" ["value","count"] (xP K)) (zy:FnAt P w K mg base 2 "is_note" ["value"] (xM K)) (Bt:tU mg):gn P w K mg base tV 3 f fd ["counts","note"] (wQ K):=by
 refine F.ok Dp (fun vs H Q E h=> ?_) (fun cdv A outer s H vs Q E hr h=> ?_)
 ·obtain ⟨c,t,cs,x,rfl,_⟩:=h
  rfl
 ·obtain ⟨c,t,cs,x,rfl,hc,ht,m5,k⟩:=h
  have gO:=hr.units
  refine ⟨_,(aF (dU (PW.pt (qM (lB (iR (bG zy (hr.mono (by decide)) (by rfl) (aj (pv 1) aA)))) (qM (lB (iR (bG jQ (hr.mono (by decide)) (by rfl) (aj (aU (aY (K:=K) rfl) (pv 1) aB (fun _ _=>rfl)) (aj (aX (aR (K:=K) rfl) (by rfl) Bt.fL d8 (aj (pv 0) aA)) aA))))) (pA (lB (iR (bG jQ (hr.mono (by decide)) (by rfl) (aj (aU (aY (K:=K) rfl) (pv 1) aB (fun _ _=>rfl)) (aj (aX (aR (K:=K) rfl) (by rfl) Bt.fL d8 (aj (pv 0) aA)) aA))))))))) (aK (bF qO)) bD)
   (aK (bF (wW (bG jQ (hr.mono (by decide)) (by rfl) (aj (aU (aY (K:=K) rfl) (pv 1) aB (fun _ _=>rfl)) (aj (aU (bh (K:=K) rfl) (pv 0) (aU (aY (K:=K) rfl) (pv 1) aB (fun _ _=>rfl)) (fun _ _=>rfl)) aA))) (uW (bG jQ (hr.mono (by decide)) (by rfl) (aj (aU (aY (K:=K) rfl) (pv 1) aB (fun _ _=>rfl)) (aj (aU (bh (K:=K) rfl) (pv 0) (aU (aY (K:=K) rfl) (pv 1) aB (fun _ _=>rfl)) (fun _ _=>rfl)) aA)))))))), ?_⟩
  refine ⟨_,rfl,t,x,rfl,ht,fun H1 s1=>⟨_,rfl, ?_⟩⟩;have hc1:=s1 _ _ hc;have ht1:=s1 _ _ ht
  have no:¬qZ cs x->Q (.bl false) H1:=fun z=>by
   have:=k H1 s1;rw [decide_eq_false z] at this;exact this
  by_cases hne:x.1=x.2.2.1
  ·rw [show (!decide (x.1=x.2.2.1))=false by simp [hne]]
   exact ji (no fun z=>z.2.2.2.2 hne)
  rw [show (!decide (x.1=x.2.2.1))=true by simp [hne]];refine iM ?_;refine ⟨_,rfl,_,_,_,_,rfl,rfl,eV.of ht1,rfl,_,rfl,c,_,rfl,.inl (bK.of hc1),_,_,rfl,_,rfl, ?_⟩;rw [List.length_map]
  by_cases w1:G6 x.1 cs.length
  rotate_left
  ·rw [decide_eq_false w1]
   exact ji (no fun z=>w1 z.1)
  rw [decide_eq_true w1];refine iM ?_;refine ⟨_,rfl,_,_,_,_,rfl,rfl,eV.of ht1,rfl,_,rfl,c,_,rfl,.inl (bK.of hc1),_,_,rfl,_,rfl, ?_⟩;rw [List.length_map]
  by_cases w2:G6 x.2.2.1 cs.length
  rotate_left
  ·rw [decide_eq_false w2]
   exact ji (no fun z=>w2 z.2.2.1)
  rw [decide_eq_true w2];refine iM ?_;have g1:=(m5.gI x.1).1;have g2:=(m5.gI x.2.2.1).1;have e1:gI cs x.1=((gI cs x.1).toNat:Int):=by omega
  have e2:gI cs x.2.2.1=((gI cs x.2.2.1).toNat:Int):=by omega
  refine ⟨_,rfl,_,_,_,_,rfl,rfl,eV.of ht1,rfl,_,rfl,_,rfl,_,_,_,_,rfl,rfl,eV.of ht1,rfl,_,_,_,_,rfl,rfl,bK.of hc1,gZ w1.1 w1.2,x.2.1,(gI cs x.1).toNat,by rw [←e1];rfl,_,rfl, ?_⟩
  by_cases w3:G6 x.2.1 (gI cs x.1).toNat
  rotate_left
  ·rw [decide_eq_false w3]
   refine iM ?_;exact no fun z=>w3 ⟨z.2.1.1,by have:=z.2.1.2;omega⟩
  rw [decide_eq_true w3];refine ji ?_;refine ⟨_,rfl,_,_,_,_,rfl,rfl,eV.of ht1,rfl,_,rfl,_,rfl,_,_,_,_,rfl,rfl,eV.of ht1,rfl,_,_,_,_,rfl,rfl,bK.of hc1,gZ w2.1 w2.2,x.2.2.2,(gI cs x.2.2.1).toNat,by rw [←e2];rfl, ?_⟩
  have e:decide (G6 x.2.2.2 (gI cs x.2.2.1).toNat)=decide (qZ cs x):=by
   rw [Bool.eq_iff_iff,decide_eq_true_iff,decide_eq_true_iff];constructor
   ·intro z
    exact ⟨w1,⟨w3.1,by have:=w3.2;omega⟩,w2,⟨z.1,by have:=z.2;omega⟩,hne⟩
   ·intro z
    exact ⟨z.2.2.2.1.1,by have:=z.2.2.2.1.2;omega⟩
  rw [e];exact k H1 s1
def iU (CN:Addr) (K:PySem.W.Frag):Sp:=fun vs H Q E=>∃(t c a:Addr) (cs:List Int) (ns:List Nt),vs=[.ref t]/\RecAt H t c a cs ns/\oF cs/\ns.length<=200/\(eU cs ns -> ∀H',Same H H'->Q .non H')/\(¬eU cs ns -> ∀H',Same H H'->E (.ref CN) none H')
theorem Ri (n:Nat) (v:V):(List.range n).filterMap (fun _=>some v)=List.replicate n v:=by
 induction n with
 | zero=>rfl
 | succ n ih=>rw [lG,ih,List.replicate_succ'];rfl
theorem zM {f:Addr} {fd:FuncData} (F:qj K "check_notes" "check_notes" gM f fd) (G4:FnAt P w K mg base 3 "is_between" ["counts","note"] (wQ K)) (Bt:tU mg) {ak:Addr} (dW:Xr K mg ak "NoNote"):gn P w K mg base (vU P w) 4 f fd ["record"] (iU ak K):=by
 refine F.Jl Bm (fun vs H Q E h=> ?_) (fun cdv A outer s H vs Q E hr h hR=> ?_)
 ·obtain ⟨t,c,a,cs,ns,rfl,_⟩:=h
  rfl
 ·obtain ⟨t,c,a,cs,ns,rfl,⟨ht,hc,hN⟩,ok,nl,k1,k2⟩:=h
  have gO:=hr.units;obtain ⟨vs,ha,dv⟩:=id hN;have vl:vs.length=ns.length:=by rw [dv.length,List.length_map]
  refine ⟨_,(aK (dU (lB (iR (aX (gY (K:=K) rfl rfl) (by rfl) Bt.CK w6 (aj (iT rfl (N:=["note","record"]) (own:=["note"]) (caps:=[0]) (bH.of (by kernel_rfl)) (fP (K:=K) rfl (aU (aY (K:=K) rfl) (pv 0) aB (fun _ _=>rfl))) (fun _ _ _ _=>(bY (i:=0) (show List.Nodup (["note","record"]:List Str) by decide +kernel) rfl (Or.inl rfl))) (fun _ _ _ _=>iD) (fun _ _ _ _=>(bG G4 (hr.mono (by decide)) (by rfl) (aj (aU (aY (K:=K) rfl) (pv 1) aB (fun _ _=>rfl)) (aj (pv 0) aA))))) aA)))) (aK (qF PySem.F.excBase_ValueError dW.ex dW.bd (by rfl) rfl rfl hR (aj wU aA))) bD)), ?_⟩;refine ⟨_,rfl,_,_,_,_,rfl,rfl,eV.of ht,rfl,a,rfl,⟨_,bK.of ha⟩,fun D hD=> ?_⟩;refine oA (K:=K) (fun i=>(ns[i]?).map fun x=>V.bl (decide (qZ cs x))) hD (bK.of ha) (by omega) (fun i v H2 G F hi s2 kG kF=> ?_) (fun H2 s2 e2=> ?_)
  ·obtain ⟨x,q,ex,rfl,hx⟩:=jz dv hi
   exact ⟨_,rfl,_,_,_,_,rfl,rfl,eV.of (s2 _ _ ht),rfl,_,rfl,c,q,cs,x,rfl,s2 _ _ hc,s2 _ _ hx,ok,fun H3 s3=>kF _ H3 s3 (by rw [ex];rfl)⟩
  rw [vl,yq] at e2;refine ⟨D,ns.map (fun x=>decide (qZ cs x)),rfl,bK.of (by rw [e2,List.map_map];rfl),_,rfl, ?_⟩
  by_cases al:eU cs ns
  ·have ea:(ns.map (fun x=>decide (qZ cs x))).all id=true:=by
    rw [List.all_map,List.all_eq_true];intro h hh;exact decide_eq_true (al h hh)
   rw [ea];refine iM ?_;exact k1 al H2 s2
  ·have ea:(ns.map (fun x=>decide (qZ cs x))).all id=false:=by
    rw [List.all_map,←Bool.not_eq_true,List.all_eq_true];intro z;exact al fun h hh=>of_decide_eq_true (p:=qZ cs h) (z h hh)
   rw [ea];refine ji ?_;exact ⟨(by show 1<=sizeLine;decide),k2 al H2 s2⟩
def cR (cs ds:List Int):Prop:=ds.length=cs.length /\ ∀i:Int,0<=i->i<cs.length->0<=gI ds i/\gI ds i<=gI cs i
def rA (CC:Addr) (K:PySem.W.Frag):Sp:=fun vs H Q E=>∃(t c a d:Addr) (cs ds:List Int) (ns:List Nt),vs=[.ref t,.ref d]/\RecAt H t c a cs ns/\oF cs/\H d=some (.lst (ds.map V.int))/\(cR cs ds -> ∀H',Same H H'->Q .non H')/\(¬cR cs ds -> ∀H',Same H H'->E (.ref CC) none H')
theorem BJ {f:Addr} {fd:FuncData} (F:qj K "check_done" "check_done" iw f fd) (jQ:FnAt P w K mg base 2 "is_below" ["value","count"] (xP K)) (Bt:tU mg) {aC:Addr} (dZ:Xr K mg aC "NoCut"):gn P w K mg base (vU P w) 3 f fd ["record","done"] (rA aC K):=by
 refine F.Jl Dr (fun vs H Q E h=> ?_) (fun cdv A outer s H vs Q E hr h hR=> ?_)
 ·obtain ⟨t,c,a,d,cs,ds,ns,rfl,_⟩:=h
  rfl
 ·obtain ⟨t,c,a,d,cs,ds,ns,rfl,⟨ht,hc,hN⟩,ok,hd,k1,k2⟩:=h
  have gO:=hr.units
  refine ⟨_,(aF (dU (PW.pt (qM (lB (iR (aX (rH (K:=K) (cv:= .ty "list") (c:= .type "list") rfl rfl) (by rfl) Bt.fK eY (aj (pv 1) (aj (vq (v:= .ty "list") (by rfl) Bt.pQ lH rfl) aA))))) (pA (aZ HB (aX (aR (K:=K) rfl) (by rfl) Bt.fL d8 (aj (pv 1) aA)) (aX (aR (K:=K) rfl) (by rfl) Bt.fL d8 (aj (aU (aY (K:=K) rfl) (pv 0) aB (fun _ _=>rfl)) aA)) (bB _))))) (aK (qF PySem.F.excBase_ValueError dZ.ex dZ.bd (by rfl) rfl rfl hR (aj wU aA))) bD)
   (aK (dU (lB (iR (aX (gY (K:=K) rfl rfl) (by rfl) Bt.CK w6 (aj (iT rfl (N:=["number","count"]) (own:=["number","count"]) (caps:=[]) (bH.of (by kernel_rfl)) (Gf (K:=K) rfl (by rfl) Bt.RJ (aj (pv 1) (aj (aU (aY (K:=K) rfl) (pv 0) aB (fun _ _=>rfl)) aA))) (fun _ _ _ _=>(z_ (K:=K) (n:=2) rfl rfl (lC (bY (i:=0) (show List.Nodup (["number","count"]:List Str) by decide +kernel) rfl (Or.inl rfl)) (lC (bY (i:=1) (show List.Nodup (["number","count"]:List Str) by decide +kernel) rfl (Or.inl rfl)) z9)))) (fun _ _ _ _=>iD) (fun _ _ _ _=>(bG jQ (hr.mono (by decide)) (by rfl) (aj (pv 0) (aj (bM fD (pv 1) aB) aA))))) aA)))) (aK (qF PySem.F.excBase_ValueError dZ.ex dZ.bd (by rfl) rfl rfl hR (aj wU aA))) bD))), ?_⟩
  have c8:=ok.1;refine ⟨_,rfl,_,_,true,rfl,.lst hd,vW K,true,rfl, ?_⟩;refine iM ?_;refine ⟨_,rfl,d,_,rfl,.inl (bK.of hd),_,rfl,_,_,_,_,rfl,rfl,eV.of ht,rfl,c,_,rfl,.inl (bK.of hc),rfl,_,rfl, ?_⟩
  by_cases dl:ds.length=cs.length
  rotate_left
  ·refine dY (fun _=> ?_) (fun z=>absurd (by rw [List.length_map,List.length_map];simp;omega) z)
   exact ⟨(by show 1<=sizeLine;decide),k2 (fun z=>dl z.1) H (Same.refl _)⟩
  refine Lq (by rw [List.length_map,List.length_map,dl]) ?_;refine ⟨_,rfl,_,rfl,_,_,_,_,rfl,rfl,eV.of ht,rfl,d,c,_,_,rfl,bK.of hd,bK.of hc,fun D hD=> ?_⟩;refine zp (K:=K) (n:=cs.length) (by rw [List.length_map,dl]) (by rw [List.length_map]) (fun i=>some (.bl (decide (G6 (gI ds (i:Int)) (gI cs (i:Int)+1).toNat)))) hD (bK.of hd) (bK.of hc) (by omega) (fun i x y H2 G F hi hj s2 kG kF=> ?_) (fun H2 s2 e2=> ?_)
  ·rw [List.getElem?_map] at hi hj
   cases ei:ds[i]? with
   | none=>rw [ei] at hi;cases hi
   | some u=>
     cases ej:cs[i]? with
     | none=>rw [ej] at hj;cases hj
     | some v=>
       rw [ei] at hi;rw [ej] at hj;cases hi;cases hj;have q:=ok.gI (i:Int);rw [oh ej] at q;refine ⟨_,rfl,_,rfl,_,_,rfl,rfl,u,(v+1).toNat,by rw [show (((v+1).toNat:Nat):Int)=v+1 by omega];rfl, ?_⟩;exact kF _ H2 (Same.refl _) (by rw [oh ei,oh ej])
  rw [List.filterMap_eq_map' (f:=fun i:Nat=>V.bl (decide (G6 (gI ds (i:Int)) (gI cs (i:Int)+1).toNat)))] at e2;refine ⟨D,(List.range cs.length).map (fun i:Nat=>decide (G6 (gI ds (i:Int)) (gI cs (i:Int)+1).toNat)),rfl,bK.of (by rw [e2,List.map_map];rfl),_,rfl, ?_⟩
  have ea:((List.range cs.length).map (fun i:Nat=>decide (G6 (gI ds (i:Int)) (gI cs (i:Int)+1).toNat))).all id=true↔cR cs ds:=by
   rw [List.all_map,List.all_eq_true];constructor
   ·intro z
    refine ⟨dl,fun i i0 i1=> ?_⟩;obtain ⟨m,rfl⟩:=Int.eq_ofNat_of_zero_le i0;have:=of_decide_eq_true (z m (by simp;omega));have q:=ok.gI (m:Int);exact ⟨this.1,by have:=this.2;omega⟩
   ·intro z i hi
    have hi:i<cs.length:=by simpa using hi
    have q:=z.2 (i:Int) (by omega) (by omega);exact decide_eq_true ⟨q.1,by omega⟩
  by_cases dk:cR cs ds
  ·rw [ea.mpr dk]
   refine iM ?_;exact k1 dk H2 s2
  ·rw [Bool.eq_false_iff.mpr fun z=>dk (ea.mp z)]
   refine ji ?_;exact ⟨(by show 1<=sizeLine;decide),k2 dk H2 s2⟩
theorem jZ (x y:Int):PyData.eqv (.int x) (.int y)=decide (x=y):=by
 simp only [PyData.eqv];rw [Bool.eq_iff_iff];simp
theorem eX {H:Hp} {a:Addr} {ns:List Int} (h:H a=some (.lst (ns.map V.int))):Dat H (.ref a) (.list (ns.map PyData.int)):=rF h (bf.ints ns)
theorem shaped_ints (ns:List Int):SeqAt.shaped (.list (ns.map PyData.int))=true:=uT PyData.int 0 (by decide) (fun _ _=>rfl) (fun _ _=>by show 0<=0;decide)
def rD (cs:List Int) (ns:List Nt):PyData:= .tuple [.list (cs.map PyData.int),.list (ns.map nD)]
theorem LQ {H:Hp} {t c a:Addr} {cs:List Int} {ns:List Nt} (h:RecAt H t c a cs ns):Dat H (.ref t) (rD cs ns):=by
 obtain ⟨ht,hc,vs,ha,dv⟩:=h;simp only [rD,Dat];refine ⟨t,_,rfl,ht, ?_⟩;simp only [bf,and_true];exact ⟨eX hc,rF ha dv⟩
theorem Bl (cs:List Int) (ns:List Nt):SeqAt.shaped (rD cs ns)=true:=by
 have e1:=shaped_ints cs;have e2:=sG ns;simp only [SeqAt.shaped,PyData.depth,PyData.depthAll,PyData.canLay0,PyData.canLayAll0,rD,Bool.and_eq_true,decide_eq_true_eq,Bool.and_true] at e1 e2 ⊢;have d1:PyData.depthAll (cs.map PyData.int)<=0:=jj _ 0 cs (fun _ _=>by show 0<=0;decide);have d2:PyData.depthAll (ns.map nD)<=1:=jj _ 1 ns (fun _ _=>by show (max 0 (max 0 (max 0 (max 0 0))))+1<=1;decide);refine ⟨?_, ?_⟩<;>first |(clear e2 e1;omega)|exact ⟨e1.1,e2.1⟩|exact ⟨e1.2,e2.2⟩|skip
theorem U4 (cs ds:List Int) (ns ms:List Nt):PyData.eqv (rD cs ns) (rD ds ms)=(decide (cs=ds)&&decide (ns=ms)):=by
 simp only [rD,PyData.eqv,PyData.eqvAll,Bool.and_true];have e1:=gG PyData.int jZ cs ds;have e2:=gG nD Cd ns ms;simp only [PyData.eqv] at e1 e2;rw [e1,e2]
def JF (K:PySem.W.Frag):Sp:=fun vs H Q _=>∃(t c a:Addr) (cs:List Int) (ns:List Nt),vs=[.ref t]/\RecAt H t c a cs ns /\ ∀(t' c' a':Addr) (H':Hp),H t'=none->H c'=none->H a'=none->RecAt H' t' c' a' cs ns->Same H H'->Q (.ref t') H'
theorem Uh {f:Addr} {fd:FuncData} (F:qj K "_law_copy" "_law_copy" qd f fd) (Bt:tU mg):gn P w K mg base tV 1 f fd ["record"] (JF K):=by
 refine F.ok Qa (fun vs H Q E h=> ?_) (fun cdv A outer s H vs Q E hr h=> ?_)
 ·obtain ⟨t,c,a,cs,ns,rfl,_⟩:=h
  rfl
 ·obtain ⟨t,c,a,cs,ns,rfl,⟨ht,hc,hN⟩,k⟩:=h
  obtain ⟨vs,ha,dv⟩:=id hN;refine ⟨_,(aK (bF (jg (aj (gW (fQ (K:=K) rfl) (by rfl) Bt.pQ lH (aj (aU (aY (K:=K) rfl) (pv 0) aB (fun _ _=>rfl)) aA)) (aj (gW (fQ (K:=K) rfl) (by rfl) Bt.pQ lH (aj (aU (aY (K:=K) rfl) (pv 0) aB (fun _ _=>rfl)) aA)) aA))))), ?_⟩;refine ⟨_,rfl,_,_,_,_,rfl,rfl,eV.of ht,rfl,c,_,rfl,.inl (bK.of hc),fun c' hc'=> ?_⟩;have s1:=aJ (o:=HO.lst (cs.map V.int)) hc';refine ⟨_,rfl,_,_,_,_,rfl,rfl,eV.of (s1 _ _ ht),rfl,a,_,rfl,.inl (bK.of (s1 _ _ ha)),fun a' ha'=> ?_⟩;have s2:=aJ (o:=HO.lst vs) ha';refine ⟨(by show 2<=sizeLine;decide),fun t' ht'=> ?_⟩;have s3:=aJ (o:=HO.tup [V.ref c',V.ref a']) ht';have sA:=(s1.trans s2).trans s3;exact k t' c' a' _ ((s1.trans s2).free ht') hc' (s1.free ha') ⟨au,s3 _ _ (s2 _ _ au),⟨vs,s3 _ _ au,bf.keep sA.tups _ (eO _ iV ns) dv⟩⟩ sA
abbrev Vl:=Int×Int
def pD (x:Vl):PyData:= .tuple [.int x.1,.int x.2]
theorem Gs (x:Vl):Ux (pD x)=true:=rfl
theorem U6 {H:Hp} {t:Addr} {x:Vl} (h:H t=some (.tup [.int x.1,.int x.2])):Dat H (.ref t) (pD x):=by
 simp only [pD,Dat];exact ⟨t,_,rfl,h,by simp only [bf,Dat,and_self]⟩
theorem Iz {H:Hp} {v:V} {x:Vl} (h:Dat H v (pD x)):∃t,v = .ref t/\H t=some (.tup [.int x.1,.int x.2]):=by
 simp only [pD,Dat] at h;obtain ⟨t,vs,e,q,d⟩:=h
 match vs,d with
 | [a,b],d=>
   simp only [bf,Dat,and_true] at d;obtain ⟨rfl,rfl⟩:=d;exact ⟨t,e,q⟩
 | [],d=>simp only [bf] at d
 | [_],d=>simp only [bf,and_false] at d
 | _::_::_::_,d=>simp only [bf,and_false] at d
def zH (H:Hp) (a:Addr) (ps:List Vl):Prop:=∃vs,H a=some (.lst vs)/\bf H vs (ps.map pD)
theorem zH.same {H H':Hp} {a:Addr} {ws:List Vl} (h:zH H a ws) (k:Same H H'):zH H' a ws:=by
 obtain ⟨vs,e,d⟩:=h;exact ⟨vs,k _ _ e,bf.keep k.tups _ (eO _ Gs ws) d⟩
theorem Tw {H:Hp} {vs:List V} {ps:List Vl} {i:Nat} {v:V} (d:bf H vs (ps.map pD)) (e:vs[i]? = some v):∃x t,ps[i]? = some x/\v = .ref t/\H t=some (.tup [.int x.1,.int x.2]):=by
 obtain ⟨q,eq,dq⟩:=d.get e;rw [List.getElem?_map] at eq;cases ex:ps[i]? with
 | none=>rw [ex] at eq;cases eq
 | some x=>
   rw [ex] at eq;cases eq;obtain ⟨t,rfl,ht⟩:=Iz dq;exact ⟨x,t,rfl,rfl,ht⟩
def xH (n:Nat) (ds es:List Int):Prop:=∀i:Int,0<=i->i<n->gI ds i<=gI es i
theorem xH.refl (n:Nat) (ds:List Int):xH n ds ds:=fun _ _ _=>Int.le_refl _
theorem yV:∀{xs ys:List Int},xs.length=ys.length->(∀i:Nat,i<xs.length->gI xs (i:Int)<=gI ys (i:Int))->xs.sum<=ys.sum
 | [],[],_,_=>by simp
 | [],_::_,h,_=>by simp at h
 | _::_,[],h,_=>by simp at h
 | x::xs,y::ys,h,q=>by
   have q0:=q 0 (by simp)
   have ih:=yV (xs:=xs) (ys:=ys) (by simpa using h) fun i hi=>by
    have:=q (i+1) (by simp;omega);simpa [gI] using this
   simp [gI] at q0;rw [List.sum_cons,List.sum_cons];omega
theorem cR.sum {cs es:List Int} (h:cR cs es):0<=es.sum/\es.sum<=cs.sum:=by
 constructor
 ·have:(List.replicate es.length (0:Int)).sum<=es.sum:=yV (by simp) fun i hi=>by
   have hi':i<es.length:=by simpa using hi
   have:=(h.2 (i:Int) (by omega) (by rw [←h.1];omega)).1;simpa [gI,hi'] using this
  have z:(List.replicate es.length (0:Int)).sum=0:=by
   clear this h
   induction es.length with
   | zero=>rfl
   | succ n ih=>rw [List.replicate_succ,List.sum_cons,ih];rfl
  omega
 ·exact yV h.1 fun i hi=>(h.2 (i:Int) (by omega) (by rw [←h.1];omega)).2
theorem cR.set {cs ds:List Int} {h v:Int} (d:cR cs ds) (h0:0<=h) (h1:h<cs.length) (v0:0<=v) (v1:v<=gI cs h):cR cs (ds.set h.toNat v):=by
 refine ⟨by rw [List.length_set];exact d.1,fun i i0 i1=> ?_⟩;rw [wZ h0 (by rw [d.1];exact h1) i0]
 by_cases e:i=h
 ·subst e;rw [if_pos rfl];exact ⟨v0,v1⟩
 ·rw [if_neg e];exact d.2 i i0 i1
theorem Rb {ds:List Int} {h v:Int} (h0:0<=h) (h1:h<ds.length):(ds.set h.toNat v).sum=ds.sum - gI ds h+v:=by
 have:h.toNat<ds.length:=by omega
 exact sum_set (by simp [gI,this]) v
def ft (x:Nt):Vl:=(x.1,x.2.1)
def fY (ns:List Nt) (o m:Int):List Vl:=(ns.filter fun x=>decide (x.2.2.1=o)&&decide (x.2.2.2=m)).map ft
theorem Dz (ns:List Nt) (x:Nt) (o m:Int):fY (ns++[x]) o m=fY ns o m++(if x.2.2.1=o/\x.2.2.2=m then [ft x] else []):=by
 unfold fY;rw [List.filter_append,List.map_append];congr 1
 by_cases e:x.2.2.1=o/\x.2.2.2=m
 ·simp [e.1,e.2]
 ·rw [if_neg e]
  by_cases e1:x.2.2.1=o
  ·have e2:¬x.2.2.2=m:=fun z=>e ⟨e1,z⟩
   simp [e2]
  ·simp [e1]
def rK (H:Hp) (f:Addr) (ns:List Nt):Prop:=∃kvs,H f=some (.dT kvs) /\ ∀o m:Int,(gR kvs [Sum.inl o,Sum.inl m]=none/\fY ns o m=[]) \/ ∃l,gR kvs [Sum.inl o,Sum.inl m]=some (.ref l)/\zH H l (fY ns o m)
theorem rK.same {H H':Hp} {f:Addr} {ns:List Nt} (h:rK H f ns) (k:Same H H'):rK H' f ns:=by
 obtain ⟨kvs,e,q⟩:=h;refine ⟨kvs,k _ _ e,fun o m=> ?_⟩;rcases q o m with z|⟨l,e1,e2⟩
 ·exact .inl z
 ·exact .inr ⟨l,e1,e2.same k⟩
def uQ (K:PySem.W.Frag):Sp:=fun vs H Q _=>∃(t c a:Addr) (cs:List Int) (ns:List Nt),vs=[.ref t]/\RecAt H t c a cs ns/\iz cs ns /\ ∀(f:Addr) (H':Hp),H f=none->rK H' f ns->Same H H'->Q (.ref f) H'
theorem Nh {f:Addr} {fd:FuncData} (F:qj K "firsts_of" "firsts_of" iI f fd):gn P w K mg base tV 1 f fd ["record"] (uQ K):=by
 refine F.ok sH (fun vs H Q E h=> ?_) (fun cdv A outer s H vs Q E hr h=> ?_)
 ·obtain ⟨t,c,a,cs,ns,rfl,_⟩:=h
  rfl
 ·obtain ⟨t,c,a,cs,ns,rfl,R,ok,k⟩:=h
  have hu:=yj hr;obtain ⟨ht,hc,V0,ha,dn⟩:=id R;have Y6:V0.length=ns.length:=by rw [dn.length,List.length_map]
  have nl:=ok.2.1
  refine ⟨_,(aF (bC (i:=1) sH.nd rfl (Or.inl rfl) xX)
   (aF (mV PassesOwn.never rfl (fP (K:=K) rfl (aU (aY (K:=K) rfl) (pv 0) aB (fun _ _=>rfl))) (bY (i:=2) sH.nd rfl (Or.inl rfl))
   (aK (eZ (wV (K:=K) rfl (Qj hu (pv 1) (fB (g8 (K:=K) rfl) (pv 2) (gC aB) gD) (fO aA) ⟨rfl,rfl,rfl,rfl⟩) (aj (fB (g8 (K:=K) rfl) (pv 2) gD (gC aB)) aA)))))
   (aK (bF (pv 1))))), ?_⟩
  intro f hf;have s1:=aJ (o:=HO.dT []) hf;refine ⟨_,rfl,_,_,_,_,rfl,rfl,eV.of (s1 _ _ ht),rfl,a,rfl,⟨_,bK.of (s1 _ _ ha)⟩, ?_⟩
  refine pF (K:=K) (a:=a) (xs:=V0) (fun i σ H2=>∃(x:Option V) (kvs:List (List Key×V)),σ=[some (.ref t),some (.ref f),x]/\Same H H2/\H2 f=some (.dT kvs)/\kvs.length<=i /\
   (∀o m:Int,(gR kvs [Sum.inl o,Sum.inl m]=none/\fY (ns.take i) o m=[]) \/ ∃l,gR kvs [Sum.inl o,Sum.inl m]=some (.ref l)/\zH H2 l (fY (ns.take i) o m)/\H l=none/\l≠f) /\
   (∀(o m o' m':Int) l,gR kvs [Sum.inl o,Sum.inl m]=some (.ref l)->gR kvs [Sum.inl o',Sum.inl m']=some (.ref l)->o=o'/\m=m'))
   ⟨none,[],rfl,s1,au,Nat.zero_le _,fun o m=> .inl ⟨rfl,rfl⟩,fun o m o' m' l h=>by cases h⟩ (fun i σ H2 _ ⟨_,_,_,sm,_⟩=>bK.of (sm _ _ ha)) ?_ ?_
  ·rintro i v σ H2 hi ⟨x0,kvs,rfl,sm,hF,kl,hval,inj⟩
   obtain ⟨x,w,ex,rfl,hx⟩:=jz dn hi;have il:i<V0.length:=(List.getElem?_eq_some_iff.mp hi).1;have hx2:=sm _ _ hx;have tk:ns.take (i+1)=ns.take i++[x]:=by rw [List.take_add_one,ex];rfl
   refine Ip (fun v H3=>∃l Gn,v = .ref l/\Same H H3/\(∀a xs,H2 a=some (HO.tup xs)->H3 a=some (HO.tup xs))/\H3 f=some (.dT Gn)/\Gn.length<=i+1/\gR Gn [Sum.inl x.2.2.1,Sum.inl x.2.2.2]=some (.ref l) /\
    (∀o m:Int,(gR Gn [Sum.inl o,Sum.inl m]=none/\fY (ns.take i) o m=[]) \/ ∃l,gR Gn [Sum.inl o,Sum.inl m]=some (.ref l)/\zH H3 l (fY (ns.take i) o m)/\H l=none/\l≠f) /\
    (∀(o m o' m':Int) l,gR Gn [Sum.inl o,Sum.inl m]=some (.ref l)->gR Gn [Sum.inl o',Sum.inl m']=some (.ref l)->o=o'/\m=m')) (fun Q' kQ=> ?_) ?_
   ·refine ⟨_,rfl,f,rfl,.inr ⟨_,.inl hF⟩,_,rfl,_,rfl,_,_,rfl,eV.of hx2,wX _ rfl,fun p1 hp1=> ?_⟩
    have c2:lD (nV x) (some 2) none=[.int x.2.2.1,.int x.2.2.2]:=Fd ..;rw [c2];have vV:=aJ (o:=HO.tup [V.int x.2.2.1,V.int x.2.2.2]) hp1;refine ⟨(by show 0<=sizeLine;decide),fun e he=> ?_⟩;have Td:=aJ (o:=HO.lst []) he;have s12:=vV.trans Td;refine ⟨kvs,[Sum.inl x.2.2.1,Sum.inl x.2.2.2],p1,s12 _ _ hF,rfl,Td _ _ au,by rw [sizeLine_eq];omega,fun v hv=> ?_,fun hn=> ?_⟩
    ·rcases hval x.2.2.1 x.2.2.2 with z|⟨l,e1,e2,e3,e4⟩
     ·rw [z.1] at hv;cases hv
     ·rw [e1] at hv
      cases hv;refine kQ _ _ ⟨l,kvs,rfl,sm.trans s12,s12.tups,s12 _ _ hF,by omega,e1,fun o m=> ?_,inj⟩;rcases hval o m with z|⟨l',f1,f2,f3,f4⟩
      ·exact .inl z
      ·exact .inr ⟨l',f1,f2.same s12,f3,f4⟩
    ·have kF:Kp f (upd (upd H2 p1 (.tup [V.int x.2.2.1,V.int x.2.2.2])) e (.lst [])) (upd (upd (upd H2 p1 (.tup [V.int x.2.2.1,V.int x.2.2.2])) e (.lst [])) f (.dT (putK kvs [Sum.inl x.2.2.1,Sum.inl x.2.2.2] (.ref e)))):=Kp.set
     have nef:e≠f:=fun z=>by rw [←z] at hF;rw [vV _ _ hF] at he;cases he
     have hFe:(upd (upd H2 p1 (.tup [V.int x.2.2.1,V.int x.2.2.2])) e (.lst [])) f=some (.dT kvs):=s12 _ _ hF;have he2:H2 e=none:=vV.free he;have tF:∀a xs,(upd (upd H2 p1 (.tup [V.int x.2.2.1,V.int x.2.2.2])) e (.lst [])) a=some (HO.tup xs)->(upd (upd (upd H2 p1 (.tup [V.int x.2.2.1,V.int x.2.2.2])) e (.lst [])) f (.dT (putK kvs [Sum.inl x.2.2.1,Sum.inl x.2.2.2] (.ref e)))) a=some (HO.tup xs):=fun a xs h=>kF _ _ h (tK h hFe (by intro z;cases z))
     have neq:∀o m:Int,([Sum.inl o,Sum.inl m]:List Key)=[Sum.inl x.2.2.1,Sum.inl x.2.2.2]↔o=x.2.2.1/\m=x.2.2.2:=fun o m=>by
      constructor
      ·intro z;injection z with z1 z2;injection z2 with z2 _;exact ⟨Sum.inl.inj z1,Sum.inl.inj z2⟩
      ·rintro ⟨rfl,rfl⟩;rfl
     refine kQ _ _ ⟨e,_,rfl,fun b o eb=>kF _ _ ((sm.trans s12) _ _ eb) (aL eb hf),fun a xs h=>tF _ _ (s12.tups _ _ h),au, ?_,by rw [q_,if_pos rfl],fun o m=> ?_,fun o m o' m' l h1 h2=> ?_⟩
     ·exact Nat.le_trans (jO ..) (by omega)
     ·rw [q_]
      by_cases q:o=x.2.2.1/\m=x.2.2.2
      ·rw [if_pos ((neq o m).mpr q)]
       obtain ⟨rfl,rfl⟩:=q;refine .inr ⟨e,rfl, ?_,sm.free he2,nef⟩;rcases hval x.2.2.1 x.2.2.2 with z|⟨l,e1,_⟩
       ·rw [z.2]
        exact ⟨[],kF _ _ au nef,by simp [bf]⟩
       ·rw [e1] at hn;cases hn
      ·rw [if_neg fun z=>q ((neq o m).mp z)]
       rcases hval o m with z|⟨l',f1,f2,f3,f4⟩
       ·exact .inl z
       ·refine .inr ⟨l',f1, ?_,f3,f4⟩
        obtain ⟨ws,g1,g2⟩:=f2.same s12;exact ⟨ws,kF _ _ g1 f4,bf.keep tF _ (eO _ Gs _) g2⟩
     ·rw [q_] at h1 h2
      have old:∀o m:Int,gR kvs [Sum.inl o,Sum.inl m]=some (V.ref e)->False:=fun o m h=>by
       rcases hval o m with z|⟨l',f1,⟨ws,g1,_⟩,f3,f4⟩
       ·rw [z.1] at h;cases h
       ·rw [f1] at h
        cases h;rw [he2] at g1;cases g1
      by_cases q:o=x.2.2.1/\m=x.2.2.2
      ·rw [if_pos ((neq o m).mpr q)] at h1
       cases h1
       by_cases q':o'=x.2.2.1/\m'=x.2.2.2
       ·exact ⟨q.1.trans q'.1.symm,q.2.trans q'.2.symm⟩
       ·rw [if_neg fun z=>q' ((neq o' m').mp z)] at h2
        exact (old _ _ h2).elim
      ·rw [if_neg fun z=>q ((neq o m).mp z)] at h1
       by_cases q':o'=x.2.2.1/\m'=x.2.2.2
       ·rw [if_pos ((neq o' m').mpr q')] at h2
        cases h2;exact (old _ _ h1).elim
       ·rw [if_neg fun z=>q' ((neq o' m').mp z)] at h2
        exact inj _ _ _ _ _ h1 h2
   ·rintro v H3 ⟨l,Gn,rfl,sm3,tp3,hF3,kl3,hkey,V4,aav⟩
    obtain ⟨z0,PL,hl0,nlf⟩:∃z0:True,zH H3 l (fY (ns.take i) x.2.2.1 x.2.2.2)/\H l=none/\l≠f:=by
     rcases V4 x.2.2.1 x.2.2.2 with z|⟨l',f1,f2,f3,f4⟩
     ·rw [z.1] at hkey;cases hkey
     ·rw [f1] at hkey
      cases hkey;exact ⟨trivial,f2,f3,f4⟩
    obtain ⟨ws,hl3,dl3⟩:=id PL;refine ⟨.inl ⟨rfl,_,bK.of hl3⟩,_,rfl,_,rfl,_,_,rfl,eV.of (tp3 _ _ hx2),uX _ rfl,fun p2 hp2=> ?_⟩;have c1:lD (nV x) none (some 2)=[.int x.1,.int x.2.1]:=Cp ..;rw [c1];have sp:=aJ (o:=HO.tup [V.int x.1,V.int x.2.1]) hp2
    have wl:ws.length<=ns.length:=by
     rw [dl3.length,List.length_map];unfold fY;rw [List.length_map];have a1:=List.length_filter_le (fun y:Nt=>decide (y.2.2.1=x.2.2.1)&&decide (y.2.2.2=x.2.2.2)) (ns.take i);have a2:(ns.take i).length<=ns.length:=by rw [List.length_take];omega
     omega
    refine ⟨l,ws,_,rfl,rfl,sp _ _ hl3,by rw [sizeLine_eq];omega, ?_⟩;have kL:Kp l (upd H3 p2 (.tup [V.int x.1,V.int x.2.1])) (upd (upd H3 p2 (.tup [V.int x.1,V.int x.2.1])) l (.lst (ws++[V.ref p2]))):=Kp.set;have tL:=kL.tups (sp _ _ hl3);refine ⟨_,Gn,rfl,fun b o eb=>kL _ _ (sp _ _ (sm3 _ _ eb)) (aL eb hl0),kL _ _ (sp _ _ hF3) nlf.symm,kl3,fun o m=> ?_,aav⟩;rw [tk,Dz]
    by_cases q:x.2.2.1=o/\x.2.2.2=m
    ·obtain ⟨rfl,rfl⟩:=q
     rw [if_pos ⟨rfl,rfl⟩];refine .inr ⟨l,hkey,⟨_,au, ?_⟩,hl0,nlf⟩;rw [List.map_append];exact bf.append (bf.keep (fun a xs h=>tL _ _ (sp.tups _ _ h)) _ (eO _ Gs _) dl3) (aaV (U6 (x:=ft x) (tL _ _ au)))
    ·rw [if_neg q,List.append_nil]
     rcases V4 o m with z|⟨l',f1,f2,f3,f4⟩
     ·exact .inl z
     ·have nll:l'≠l:=fun z=>by
       subst z;obtain ⟨e1,e2⟩:=aav _ _ _ _ _ f1 hkey;exact q ⟨e1.symm,e2.symm⟩
      obtain ⟨us,g1,g2⟩:=f2;exact .inr ⟨l',f1,⟨us,kL _ _ (sp _ _ g1) nll,bf.keep (fun a xs h=>tL _ _ (sp.tups _ _ h)) _ (eO _ Gs _) g2⟩,f3,f4⟩
  ·rintro σ H2 ⟨x0,kvs,rfl,sm,hF,kl,hval,inj⟩
   rw [Y6,List.take_length] at hval;refine ⟨_,rfl,k f H2 hf ⟨kvs,hF,fun o m=> ?_⟩ sm⟩;rcases hval o m with z|⟨l,f1,f2,_⟩
   ·exact .inl z
   ·exact .inr ⟨l,f1,f2⟩
def isFree (cs:List Int) (ns:List Nt) (ds:List Int) (h:Int):Bool:= !decide (gI ds h=gI cs h)&&(fY ns h (gI ds h)).all fun q=>decide (q.2<gI ds q.1)
def Kz (K:PySem.W.Frag) (H:Hp) (d:Addr) (ds:List Int):Prop:=bK K H d (ds.map V.int)\/eV K H d (ds.map V.int)
theorem Kz.same {K:PySem.W.Frag} {H H':Hp} {d:Addr} {ds:List Int} (h:Kz K H d ds) (k:Same H H'):Kz K H' d ds:=by
 rcases h with h|h
 ·exact .inl (k.seq h)
 ·refine .inr ?_
  rcases h with (h|⟨o,h⟩)|h
  ·exact .inl (.inl (k _ _ h))
  ·exact .inl (.inr ⟨o,k _ _ h⟩)
  ·exact .inr h
theorem JL {K:PySem.W.Frag} {H:Hp} {d:Addr} {ds:List Int} {h:Int} {Q:VK} (D:Kz K H d ds) (h0:0<=h) (h1:h<ds.length) (q:Q (.int (gI ds h)) H):rIx K (.ref d) (.int h) H Q:=by
 rcases D with D|D
 ·exact .inl ⟨d,_,h,_,rfl,rfl,D,gZ h0 h1,q⟩
 ·exact .inr (.inl ⟨d,_,h,_,rfl,rfl,D,gZ h0 h1,q⟩)
def G_ (K:PySem.W.Frag):Sp:=fun vs H Q _=>∃(d t:Addr) (ds:List Int) (h k:Int),vs=[.ref d,.ref t]/\Kz K H d ds/\H t=some (.tup [.int h,.int k])/\0<=h/\h<ds.length/\Q (.bl (decide (k<gI ds h))) H
theorem Xi {f:Addr} {fd:FuncData} (F:qj K "has" "has" xV f fd):gn P w K mg base tV 1 f fd ["done","touch"] (G_ K):=by
 refine F.ok WR (fun vs H Q E h=> ?_) (fun cdv A outer s H vs Q E hr h=> ?_)
 ·obtain ⟨d,t,ds,h,k,rfl,_⟩:=h
  rfl
 ·obtain ⟨d,t,ds,h,k,rfl,hd,ht,h0,h1,q⟩:=h
  refine ⟨_,(aK (bF (lF uY (aU (aY (K:=K) rfl) (pv 1) aB (fun _ _=>rfl)) (aU (Ae (K:=K) rfl) (pv 0) (aU (aY (K:=K) rfl) (pv 1) aB (fun _ _=>rfl)) (fun _ _=>rfl)) (bB _)))), ?_⟩;exact ⟨_,rfl,_,_,_,_,rfl,rfl,eV.of ht,rfl,_,rfl,_,rfl,_,_,_,_,rfl,rfl,eV.of ht,rfl,JL hd h0 h1 ⟨_,_,rfl,rfl,q⟩⟩
def Gb (K:PySem.W.Frag):Sp:=fun vs H Q _=>∃(c f d:Addr) (cs ds:List Int) (ns:List Nt) (h:Int),vs=[.ref c,.ref f,.ref d,.int h]/\H c=some (.lst (cs.map V.int))/\rK H f ns/\Kz K H d ds/\iz cs ns/\ds.length=cs.length/\0<=h/\h<cs.length /\ ∀H',Same H H'->Q (.bl (isFree cs ns ds h)) H'
theorem JW {f:Addr} {fd:FuncData} (F:qj K "is_free" "is_free" jU f fd) (CZ:FnAt P w K mg base 1 "has" ["done","touch"] (G_ K)) (Bt:tU mg):gn P w K mg base tV 2 f fd ["counts","firsts","done","hand"] (Gb K):=by
 refine F.ok JK (fun vs H Q E h=> ?_) (fun cdv A outer s H vs Q E hr h=> ?_)
 ·obtain ⟨c,f,d,cs,ds,ns,h,rfl,_⟩:=h
  rfl
 ·obtain ⟨c,f,d,cs,ds,ns,h,rfl,hc,FA,hd,ok,dl,h0,h1,k⟩:=h
  have hu:=yj hr;have gO:=hr.units
  refine ⟨_,(aF (dU (aZ gF (aU (Ae (K:=K) rfl) (pv 2) (pv 3) (fun _ _=>rfl)) (aU (bh (K:=K) rfl) (pv 0) (pv 3) (fun _ _=>rfl)) (bB _)) (aK (bF qO)) bD)
   (aK (bF (aX (gY (K:=K) rfl rfl) (by rfl) Bt.CK w6 (aj (iT rfl (N:=["first","done"]) (own:=["first"]) (caps:=[2]) (bH.of (by kernel_rfl)) (fP (K:=K) rfl (xY hu (pv 1) (jg (aj (pv 3) (aj (aU (Ae (K:=K) rfl) (pv 2) (pv 3) (fun _ _=>rfl)) aA))) (fO aA) ⟨rfl,rfl,rfl,rfl⟩)) (fun _ _ _ _=>(bY (i:=0) (show List.Nodup (["first","done"]:List Str) by decide +kernel) rfl (Or.inl rfl))) (fun _ _ _ _=>iD) (fun _ _ _ _=>(bG CZ (hr.mono (by decide)) (by rfl) (aj (pv 1) (aj (pv 0) aA))))) aA))))), ?_⟩
  refine ⟨_,rfl,_,rfl,JL hd h0 (by omega) ⟨_,rfl,_,rfl,_,_,_,_,rfl,rfl,bK.of hc,gZ h0 h1,rfl,_,rfl, ?_⟩⟩
  by_cases e:gI ds h=gI cs h
  ·rw [show decide (V.int (gI ds h)=V.int (gI cs h))=true by simp [e]]
   refine ji ?_;have:isFree cs ns ds h=false:=by simp [isFree,e]
   rw [←this];exact k H (Same.refl _)
  ·rw [show decide (V.int (gI ds h)=V.int (gI cs h))=false by simp [e]]
   refine iM ?_;obtain ⟨kvs,hF,hval⟩:=FA;refine ⟨_,rfl,f,rfl,.inr ⟨_,.inl hF⟩,_,rfl,_,rfl,_,rfl,JL hd h0 (by omega) ⟨(by show 2<=sizeLine;decide),fun t ht=> ?_⟩⟩;have s1:=aJ (o:=HO.tup [V.int h,V.int (gI ds h)]) ht;refine ⟨(by show 0<=sizeLine;decide),fun el hel=> ?_⟩;have s2:=aJ (o:=HO.lst []) hel;have s12:=s1.trans s2;refine ⟨_,qI.t (k:=[Sum.inl h,Sum.inl (gI ds h)]) (s12 _ _ hF) (s2 _ _ au), ?_⟩
   obtain ⟨l,el',PL⟩:∃l,(gR kvs [Sum.inl h,Sum.inl (gI ds h)]).getD (V.ref el) = .ref l/\zH (upd (upd H t (.tup [V.int h,V.int (gI ds h)])) el (.lst [])) l (fY ns h (gI ds h)):=by
    rcases hval h (gI ds h) with z|⟨l,e1,e2⟩
    ·exact ⟨el,by rw [z.1];rfl,by rw [z.2];exact ⟨[],au,by simp [bf]⟩⟩
    ·exact ⟨l,by rw [e1];rfl,e2.same s12⟩
   rw [el'];obtain ⟨vs,hl,dv⟩:=id PL;have vl:vs.length=(fY ns h (gI ds h)).length:=by rw [dv.length,List.length_map]
   have fl:(fY ns h (gI ds h)).length<=ns.length:=by unfold fY;rw [List.length_map];exact List.length_filter_le ..
   have nl:=ok.2.1;refine ⟨l,rfl,⟨_,bK.of hl⟩,fun D hD=> ?_⟩;refine oA (K:=K) (fun i=>((fY ns h (gI ds h))[i]?).map fun q=>V.bl (decide (q.2<gI ds q.1))) hD (bK.of hl) (by omega) (fun i v H3 G F hi s3 kG kF=> ?_) (fun H3 s3 e3=> ?_)
   ·obtain ⟨q,u,eq,rfl,hq⟩:=Tw dv hi
    have qm:∃x∈ns,q=ft x:=by
     obtain ⟨x,hx,e⟩:=List.mem_map.mp (List.mem_of_getElem? eq);exact ⟨x,(List.mem_filter.mp hx).1,e.symm⟩
    obtain ⟨x,xm,rfl⟩:=qm;obtain ⟨⟨a0,a1⟩,_⟩:=ok.2.2 x xm;refine ⟨_,rfl,_,rfl,d,u,ds,x.1,x.2.1,rfl,(hd.same s12).same s3,s3 _ _ hq,a0,by omega,kF _ H3 (Same.refl _) ?_⟩;rw [eq];rfl
   ·rw [vl,yq] at e3
    refine ⟨D,(fY ns h (gI ds h)).map (fun q=>decide (q.2<gI ds q.1)),rfl,bK.of (by rw [e3,List.map_map];rfl), ?_⟩
    have:isFree cs ns ds h=((fY ns h (gI ds h)).map (fun q=>decide (q.2<gI ds q.1))).all id:=by
     unfold isFree;rw [List.all_map];simp [e]
    rw [←this];exact k H3 (s12.trans s3)
def jP (cs:List Int) (ns:List Nt) (ds:List Int):List Int:=(List.range cs.length).filterMap fun (i:Nat)=>if isFree cs ns ds (i:Int) then some (i:Int) else none
theorem Ob (cs:List Int) (ns:List Nt) (ds:List Int):(List.range cs.length).filterMap (fun (i:Nat)=>if isFree cs ns ds (i:Int) then some (V.int (0+(i:Int))) else none)=(jP cs ns ds).map V.int:=by
 unfold jP;rw [List.map_filterMap];refine pG _ trivial fun i _=> ?_
 by_cases q:isFree cs ns ds (i:Int)=true
 ·rw [if_pos q,if_pos q];simp
 ·rw [if_neg q,if_neg q];rfl
theorem Eo {cs:List Int} {ns:List Nt} {ds:List Int} {h:Int}:h∈jP cs ns ds↔0<=h/\h<cs.length/\isFree cs ns ds h=true:=by
 unfold jP;rw [List.mem_filterMap];constructor
 ·rintro ⟨i,hi,e⟩
  have hi':i<cs.length:=by simpa using hi
  by_cases q:isFree cs ns ds (i:Int)=true
  ·rw [if_pos q] at e
   cases e;exact ⟨by omega,by omega,q⟩
  ·rw [if_neg q] at e
   cases e
 ·rintro ⟨h0,h1,q⟩
  refine ⟨h.toNat,by simp;omega, ?_⟩;rw [show ((h.toNat:Nat):Int)=h by omega,if_pos q]
theorem Oc (cs:List Int) (ns:List Nt) (ds:List Int):(jP cs ns ds).length<=cs.length:=uZ _ _
def zY (K:PySem.W.Frag):Sp:=fun vs H Q _=>∃(c f d:Addr) (cs ds:List Int) (ns:List Nt),vs=[.ref c,.ref f,.ref d]/\H c=some (.lst (cs.map V.int))/\rK H f ns/\Kz K H d ds/\iz cs ns/\ds.length=cs.length /\ ∀(p:Addr) (H':Hp),H p=none->H' p=some (.lst ((jP cs ns ds).map V.int))->Same H H'->Q (.ref p) H'
theorem Dt {f:Addr} {fd:FuncData} (F:qj K "free_hands" "free_hands" ig f fd) (zA:FnAt P w K mg base 2 "is_free" ["counts","firsts","done","hand"] (Gb K)) (Bt:tU mg):gn P w K mg base tV 3 f fd ["counts","firsts","done"] (zY K):=by
 refine F.ok Dq (fun vs H Q E h=> ?_) (fun cdv A outer s H vs Q E hr h=> ?_)
 ·obtain ⟨c,f,d,cs,ds,ns,rfl,_⟩:=h
  rfl
 ·obtain ⟨c,f,d,cs,ds,ns,rfl,hc,FA,hd,ok,dl,k⟩:=h
  have c8:=ok.1.1;refine ⟨_,(aK (bF (iT rfl (N:=["hand","counts","firsts","done"]) (own:=["hand"]) (caps:=[0,1,2]) (bH.of (by kernel_rfl)) (gH (by rfl) Bt.jk (aj (aX (aR (K:=K) rfl) (by rfl) Bt.fL d8 (aj (pv 0) aA)) aA)) (fun _ _ _ _=>(bY (i:=0) (show List.Nodup (["hand","counts","firsts","done"]:List Str) by decide +kernel) rfl (Or.inl rfl))) (fun _ _ _ _=>(qN (iR (bG zA (hr.mono (by decide)) (by rfl) (aj (pv 1) (aj (pv 2) (aj (pv 3) (aj (pv 0) aA)))))))) (fun _ _ _ _=>(pv 0))))), ?_⟩;refine ⟨_,rfl,c,_,rfl,.inl (bK.of hc),_,rfl,by rw [List.length_map];omega,by rw [List.length_map];omega,fun D hD=> ?_⟩;have Ia:(((cs.map V.int).length:Nat):Int).toNat=cs.length:=by simp
  rw [Ia];refine mY (fun (i:Nat)=>if isFree cs ns ds (i:Int) then some (V.int (0+(i:Int))) else none) hD (by omega) (fun j H3 G F hj s3 kG kF=> ?_) (fun H3 s3 e3=> ?_)
  ·refine ⟨_,rfl,_,rfl,_,rfl,_,rfl,c,f,d,cs,ds,ns,0+(j:Int),rfl,s3 _ _ hc,FA.same s3,hd.same s3,ok,dl,by omega,by omega,fun H4 s4=>⟨_,rfl, ?_⟩⟩
   have ej:(0+(j:Int))=(j:Int):=by omega
   rw [ej]
   by_cases q:isFree cs ns ds (j:Int)=true
   ·rw [q]
    refine ji ⟨_,rfl,kF _ H4 s4 ?_⟩;rw [if_pos q,ej]
   ·have q':isFree cs ns ds (j:Int)=false:=by simpa using q
    rw [q'];exact iM (kG H4 s4 (if_neg q))
  ·rw [Ob] at e3
   exact k D H3 hD e3 s3
def stp (ds:List Int) (h:Int):List Int:=ds.set h.toNat (gI ds h+1)
def runK (cs:List Int) (ns:List Nt):List Int->List Int->Bool
 | [],_=>true
 | h::os,ds=>if isFree cs ns ds h then runK cs ns os (stp ds h) else false
def zs (cs:List Int):List Int:=List.replicate cs.length 0
def inR (cs os:List Int):Prop:=∀h∈os,0<=h/\h<cs.length
theorem Jp (n:Nat):(List.range n).filterMap (fun _=>some (V.int 0))=(List.replicate n (0:Int)).map V.int:=by rw [Ri,List.map_replicate]
def UW (cs:List Int) (ns:List Nt):List Int->List Int->Prop
 | [],ds=>ds=cs
 | h::os,ds=>(jP cs ns ds).head?=some h/\UW cs ns os (stp ds h)
theorem zE {cs:List Int} {ns:List Nt} {os2:List Int}:∀{os ds:List Int},(∀i h,os[i]? = some h->(jP cs ns ((os.take i).foldl stp ds)).head?=some h)->UW cs ns os2 (os.foldl stp ds)->UW cs ns (os++os2) ds
 | [],ds,_,h=>h
 | x::os,ds,h1,h2=>by
   refine ⟨by simpa using h1 0 x rfl,zE (fun i h e=> ?_) h2⟩;have:=h1 (i+1) h (by simpa using e);simpa using this
theorem Ew {cs:List Int} {ns:List Nt} {ds:List Int} {h:Int} (d:cR cs ds) (h0:0<=h) (h1:h<cs.length) (f:isFree cs ns ds h=true):gI ds h<gI cs h:=by
 unfold isFree at f;simp only [Bool.and_eq_true,Bool.not_eq_true',decide_eq_false_iff_not] at f;have:=d.2 h h0 h1;omega
theorem P0 {cs:List Int} {ns:List Nt} {ds:List Int} {h:Int} (d:cR cs ds) (h0:0<=h) (h1:h<cs.length) (f:isFree cs ns ds h=true):cR cs (stp ds h):=by
 have lt:=Ew d h0 h1 f;have:=d.2 h h0 h1;refine ⟨by simp [stp,d.1],fun i i0 i1=> ?_⟩;unfold stp;rw [wZ h0 (by rw [d.1];exact h1) i0]
 by_cases e:i=h
 ·subst e;rw [if_pos rfl];omega
 ·rw [if_neg e];exact d.2 i i0 i1
theorem KR {cs ds:List Int} {h:Int} (d:cR cs ds) (h0:0<=h) (h1:h<cs.length):(stp ds h).sum=ds.sum+1:=by
 have hl:h.toNat<ds.length:=by rw [d.1];omega
 have e:ds[h.toNat]? = some (gI ds h):=by simp [gI,hl]
 unfold stp;rw [sum_set e];omega
theorem O8 {cs:List Int} (h:oF cs):cR cs (zs cs):=by
 refine ⟨by simp [zs],fun i i0 i1=> ?_⟩;have:gI (zs cs) i=0:=by unfold gI zs;rw [List.getElem?_replicate];split<;>rfl
 rw [this];exact ⟨Int.le_refl _,(h.gI i).1⟩
def Stuck (cs:List Int) (ns:List Nt):Prop:=∃ds,cR cs ds/\ds≠cs/\jP cs ns ds=[]
def qG (ds:List Int) (x:Nt):Bool:=decide (x.2.2.2<gI ds x.2.2.1) && !decide (x.2.1<gI ds x.1)
def brk (ds:List Int) (ns:List Nt):List Nt:=ns.filter (qG ds)
theorem Gy {H:Hp} (p:Nt->Bool):∀{vs:List V} {ns:List Nt},bf H vs (ns.map nD)->bf H ((List.range vs.length).filterMap fun i=>(ns[i]?).bind fun x=>if p x then vs[i]? else none) ((ns.filter p).map nD)
 | [],[],_=>by simp [bf]
 | [],_::_,h=>by simp only [List.map_cons,bf] at h
 | _::_,[],h=>by simp only [List.map_nil,bf] at h
 | v::vs,n::ns,h=>by
   simp only [List.map_cons,bf] at h;have ih:=Gy p h.2
   have e:(List.range (v::vs).length).filterMap (fun i=>((n::ns)[i]?).bind fun x=>if p x then (v::vs)[i]? else none)=(if p n then [v] else [])++(List.range vs.length).filterMap fun i=>(ns[i]?).bind fun x=>if p x then vs[i]? else none:=by
    rw [List.length_cons,List.range_succ_eq_map,List.filterMap_cons,List.filterMap_map];cases q:p n
    ·simp [q];rfl
    ·simp [q];rfl
   rw [e,List.filter_cons];cases q:p n
   ·simpa using ih
   ·simp only [if_true,List.cons_append,List.nil_append,List.map_cons,bf]
    exact ⟨h.1,ih⟩
def uR (K:PySem.W.Frag):Sp:=fun vs H Q _=>∃(t c a d:Addr) (cs ds:List Int) (ns:List Nt),vs=[.ref t,.ref d]/\RecAt H t c a cs ns/\iz cs ns/\H d=some (.lst (ds.map V.int))/\ds.length=cs.length /\ ∀(p:Addr) (H':Hp),H p=none->gA H' p (brk ds ns)->Same H H'->Q (.ref p) H'
theorem Nk {f:Addr} {fd:FuncData} (F:qj K "broken_notes" "broken_notes" fX f fd) (CZ:FnAt P w K mg base 1 "has" ["done","touch"] (G_ K)) (Bt:tU mg):gn P w K mg base tV 2 f fd ["record","done"] (uR K):=by
 refine F.ok zK (fun vs H Q E h=> ?_) (fun cdv A outer s H vs Q E hr h=> ?_)
 ·obtain ⟨t,c,a,d,cs,ds,ns,rfl,_⟩:=h
  rfl
 ·obtain ⟨t,c,a,d,cs,ds,ns,rfl,⟨ht,hc,hN⟩,ok,hd,dl,k⟩:=h
  have gO:=hr.units;obtain ⟨vs,ha,dv⟩:=id hN;have vl:vs.length=ns.length:=by rw [dv.length,List.length_map]
  have nl:=ok.2.1;refine ⟨_,(aK (bF (iT rfl (N:=["note","done"]) (own:=["note"]) (caps:=[1]) (bH.of (by kernel_rfl)) (fP (K:=K) rfl (aU (aY (K:=K) rfl) (pv 0) aB (fun _ _=>rfl))) (fun _ _ _ _=>(bY (i:=0) (show List.Nodup (["note","done"]:List Str) by decide +kernel) rfl (Or.inl rfl))) (fun _ _ _ _=>(qN (PW.pt (jf (iR (bG CZ (hr.mono (by decide)) (by rfl) (aj (pv 1) (aj (fB (g8 (K:=K) rfl) (pv 0) (gC aB) gD) aA)))) (iC (lB (iR (bG CZ (hr.mono (by decide)) (by rfl) (aj (pv 1) (aj (fB (g8 (K:=K) rfl) (pv 0) gD (gC aB)) aA)))))))))) (fun _ _ _ _=>(pv 0))))), ?_⟩;refine ⟨_,rfl,_,_,_,_,rfl,rfl,eV.of ht,rfl,a,rfl,⟨_,bK.of ha⟩,fun D hD=> ?_⟩;refine oA (K:=K) (fun i=>(ns[i]?).bind fun x=>if qG ds x then vs[i]? else none) hD (bK.of ha) (by omega) (fun i v H2 G F hi s2 kG kF=> ?_) (fun H2 s2 e2=> ?_)
  ·obtain ⟨x,q,ex,rfl,hx⟩:=jz dv hi
   obtain ⟨⟨h0,h1⟩,⟨k0,k1⟩,⟨o0,o1⟩,⟨m0,m1⟩,hne⟩:=ok.2.2 x (List.mem_of_getElem? ex);have hx2:=s2 _ _ hx;have hd2:=s2 _ _ hd;simp only [ex,Option.bind_some,hi] at kG kF;refine ⟨_,rfl,_,rfl,_,rfl,_,_,rfl,eV.of hx2,wX _ rfl,fun p1 hp1=> ?_⟩;have c2:lD (nV x) (some 2) none=[.int x.2.2.1,.int x.2.2.2]:=Fd ..;rw [c2];have vV:=aJ (o:=HO.tup [V.int x.2.2.1,V.int x.2.2.2]) hp1;refine ⟨d,p1,ds,_,_,rfl,.inl (bK.of (vV _ _ hd2)),au,o0,by omega,_,rfl, ?_⟩;refine dY (fun w=> ?_) (fun w=> ?_)
   ·refine ⟨_,rfl,_,rfl,_,rfl,_,_,rfl,eV.of (vV _ _ hx2),uX _ rfl,fun p2 hp2=> ?_⟩
    have c1:lD (nV x) none (some 2)=[.int x.1,.int x.2.1]:=Cp ..;rw [c1];have Td:=aJ (o:=HO.tup [V.int x.1,V.int x.2.1]) hp2;refine ⟨d,p2,ds,_,_,rfl,.inl (bK.of (Td _ _ (vV _ _ hd2))),au,h0,by omega,_,rfl, ?_⟩;have s12:=vV.trans Td
    by_cases w2:x.2.1<gI ds x.1
    ·rw [decide_eq_true w2]
     refine iM ?_;exact kG _ s12 (by simp [qG,w2])
    ·rw [decide_eq_false w2]
     refine ji ?_;exact ⟨_,rfl,kF _ _ s12 (by simp [qG,w2,of_decide_eq_true w])⟩
   ·have w':¬x.2.2.2<gI ds x.2.2.1:=fun z=>w (decide_eq_true z)
    exact kG _ vV (by simp [qG,w'])
  ·refine k D H2 hD ⟨_,e2, ?_⟩ s2
   exact Gy (qG ds) (bf.keep s2.tups _ (eO _ iV ns) dv)
def xO (CN CC:Addr) (K:PySem.W.Frag):Sp:=fun vs H Q E=>∃(t c a d:Addr) (cs ds:List Int) (ns:List Nt),vs=[.ref t,.ref d]/\RecAt H t c a cs ns/\oF cs/\ns.length<=200/\(eU cs ns->iz cs ns)/\H d=some (.lst (ds.map V.int)) /\
 (¬eU cs ns -> ∀H',Same H H'->E (.ref CN) none H')/\(iz cs ns -> ¬cR cs ds -> ∀H',Same H H'->E (.ref CC) none H')/\(iz cs ns->cR cs ds -> ∀H',Same H H'->Q (.bl (decide (brk ds ns=[]))) H')
theorem JX {f:Addr} {fd:FuncData} (F:qj K "is_cut" "is_cut" nY f fd) {ak aC:Addr} (dz:fM P w K mg base 4 "check_notes" ["record"] (iU ak K)) (oE:fM P w K mg base 3 "check_done" ["record","done"] (rA aC K)) (iB:FnAt P w K mg base 2 "broken_notes" ["record","done"] (uR K)) (Bt:tU mg):gn P w K mg base (vU P w) 5 f fd ["record","cut"] (xO ak aC K):=by
 refine F.Jl Mv (fun vs H Q E h=> ?_) (fun cdv A outer s H vs Q E hr h hR=> ?_)
 ·obtain ⟨t,c,a,d,cs,ds,ns,rfl,_⟩:=h
  rfl
 ·obtain ⟨t,c,a,d,cs,ds,ns,rfl,R,m5,nl,vo,hd,k1,k2,k3⟩:=h
  have gO:=hr.units
  refine ⟨_,(aF (eZ (gQ dz rfl hR (hr.mono (by decide)) (by rfl) (aj (pv 0) aA)))
   (aF (eZ (gQ oE rfl hR (hr.mono (by decide)) (by rfl) (aj (pv 0) (aj (pv 1) aA))))
   (aK (bF (TV (K:=K) rfl (bG iB (hr.mono (by decide)) (by rfl) (aj (pv 0) (aj (pv 1) aA)))))))), ?_⟩
  refine ⟨_,rfl,t,c,a,cs,ns,rfl,R,m5,nl,fun al H1 s1=> ?_,k1⟩;have ok:=vo al;refine ⟨_,rfl,_,rfl,t,c,a,d,cs,ds,ns,rfl,R.same s1,ok.1,s1 _ _ hd,fun yF H2 s2=> ?_,fun nd H2 s2=>k2 ok nd H2 (s1.trans s2)⟩;have s12:=s1.trans s2;refine ⟨_,rfl,_,rfl,t,c,a,d,cs,ds,ns,rfl,R.same s12,ok,s12 _ _ hd,yF.1,fun p H3 hp N s3=> ?_⟩;obtain ⟨vs,ha,dv⟩:=id N;have vl:vs.length=(brk ds ns).length:=by rw [dv.length,List.length_map]
  refine ⟨!vs.isEmpty,.inl ⟨vs,bK.of ha,rfl⟩, ?_⟩
  have e:(!!vs.isEmpty)=decide (brk ds ns=[]):=by
   rw [Bool.not_not];cases vs with
   | nil=>
     have:brk ds ns=[]:=List.length_eq_zero_iff.mp vl.symm;simp [this]
   | cons v vs=>
     have:brk ds ns≠[]:=fun z=>by rw [z] at vl;cases vl
     simp [this]
  rw [e];exact k3 ok yF H3 (s12.trans s3)
def cf (ds:List Int) (x:Nt):Nt:=(x.1,x.2.1 - gI ds x.1,x.2.2.1,x.2.2.2 - gI ds x.2.2.1)
def JC (K:PySem.W.Frag):Sp:=fun vs H Q _=>∃(d t:Addr) (ds:List Int) (x:Nt),vs=[.ref d,.ref t]/\H d=some (.lst (ds.map V.int))/\H t=some (.tup (nV x))/\(0<=x.1/\x.1<ds.length)/\(0<=x.2.2.1/\x.2.2.1<ds.length) /\ ∀p,H p=none->Q (.ref p) (upd H p (.tup (nV (cf ds x))))
theorem Uc {f:Addr} {fd:FuncData} (F:qj K "counted_from" "counted_from" fW f fd):gn P w K mg base tV 1 f fd ["cut","note"] (JC K):=by
 refine F.ok zJ (fun vs H Q E h=> ?_) (fun cdv A outer s H vs Q E hr h=> ?_)
 ·obtain ⟨d,t,ds,x,rfl,_⟩:=h
  rfl
 ·obtain ⟨d,t,ds,x,rfl,hd,ht,⟨h0,h1⟩,⟨o0,o1⟩,k⟩:=h
  refine ⟨_,(aK (bF (jg (aj (aU (aY (K:=K) rfl) (pv 1) aB (fun _ _=>rfl)) (aj (bM mX (aU (aY (K:=K) rfl) (pv 1) aB (fun _ _=>rfl)) (aU (bh (K:=K) rfl) (pv 0) (aU (aY (K:=K) rfl) (pv 1) aB (fun _ _=>rfl)) (fun _ _=>rfl))) (aj (aU (aY (K:=K) rfl) (pv 1) aB (fun _ _=>rfl)) (aj (bM mX (aU (aY (K:=K) rfl) (pv 1) aB (fun _ _=>rfl)) (aU (bh (K:=K) rfl) (pv 0) (aU (aY (K:=K) rfl) (pv 1) aB (fun _ _=>rfl)) (fun _ _=>rfl))) aA))))))), ?_⟩;refine ⟨_,rfl,_,_,_,_,rfl,rfl,eV.of ht,rfl, ?_⟩;refine ⟨_,rfl,_,_,_,_,rfl,rfl,eV.of ht,rfl,_,rfl,_,rfl,_,_,_,_,rfl,rfl,eV.of ht,rfl,_,_,_,_,rfl,rfl,bK.of hd,gZ h0 h1,_,_,rfl,rfl, ?_⟩;refine ⟨_,rfl,_,_,_,_,rfl,rfl,eV.of ht,rfl, ?_⟩;refine ⟨_,rfl,_,_,_,_,rfl,rfl,eV.of ht,rfl,_,rfl,_,rfl,_,_,_,_,rfl,rfl,eV.of ht,rfl,_,_,_,_,rfl,rfl,bK.of hd,gZ o0 o1,_,_,rfl,rfl, ?_⟩;exact ⟨(by show 4<=sizeLine;decide),fun p hp=>k p hp⟩
def isIn (ds:List Int) (x:Nt):Bool:=decide (x.2.2.2<gI ds x.2.2.1)
def Lr (ds:List Int) (x:Nt):Bool:= !decide (x.2.1<gI ds x.1)
def lft (cs ds:List Int):List Int:=(List.range cs.length).map fun i:Nat=>gI cs i - gI ds i
def CutAt (H:Hp) (u t1 t2 l i f o:Addr) (cs ds:List Int) (ns:List Nt):Prop:=H u=some (.tup [.ref t1,.ref t2])/\RecAt H t1 l i ds (ns.filter (isIn ds))/\RecAt H t2 f o (lft cs ds) ((ns.filter (Lr ds)).map (cf ds))
def Gd (CN CC:Addr) (K:PySem.W.Frag):Sp:=fun vs H Q E=>∃(t c a d:Addr) (cs ds:List Int) (ns:List Nt),vs=[.ref t,.ref d]/\RecAt H t c a cs ns/\oF cs/\ns.length<=200/\(eU cs ns->iz cs ns)/\H d=some (.lst (ds.map V.int)) /\
 (¬eU cs ns -> ∀H',Same H H'->E (.ref CN) none H')/\(iz cs ns -> ¬(cR cs ds/\brk ds ns=[]) -> ∀H',Same H H'->E (.ref CC) none H') /\
 (iz cs ns->cR cs ds->brk ds ns=[] -> ∀(u t1 t2 l i f o:Addr) (H':Hp),Same H H'->CutAt H' u t1 t2 l i f o cs ds ns->H l=none->H i=none->H f=none->H o=none->l≠i->l≠f->l≠o->i≠f->i≠o->f≠o->Q (.ref u) H')
theorem Iw {H:Hp} (p:Nt->Bool) (g:Nt->Nt):∀{ns:List Nt},(List.range ns.length).filterMap (fun i=>(ns[i]?).bind fun x=>if p x then some (nD (g x)) else none)=((ns.filter p).map g).map nD
 | []=>rfl
 | n::ns=>by
   have ih:=Iw (H:=H) p g (ns:=ns);rw [List.length_cons,List.range_succ_eq_map,List.filterMap_cons,List.filterMap_map,List.filter_cons];cases q:p n
   ·simp [q];rw [List.map_map] at ih;exact ih
   ·simp [q];rw [List.map_map] at ih;exact ih
theorem Ug {f:Addr} {fd:FuncData} (F:qj K "cut_record" "cut_record" iu f fd) {ak aC aq ao aQ bV bA bx aV aP aW bw bU aO:Addr} (dW:Xr K mg ak "NoNote") (dZ:Xr K mg aC "NoCut") (cU:Xr K mg aq "NoOrder") (cT:Xr K mg ao "TooMany") (d9:Xo K mg ak aQ "NoteError" true) (jm:Xo K mg ak bV "Held" false) (gk:Xo K mg ak bA "NoForm" false) (gb:Xo K mg ak bx "NoHand" false) (fj:Xo K mg ak aV "NoneYet" false) (eN:Xo K mg ak aP "NoNumber" false) (fu:Xo K mg ak aW "NoPlace" false) (fZ:Xo K mg ak bw "NoText" false) (jl:Xo K mg ak bU "Over" false) (eG:Xo K mg ak aO "RowError" false) (dH:aG K ak aC false) (cO:aG K ak aq false) (cN:aG K ak ao false) (dJ:aG K aC ak false) (dh:aG K aC aq false) (cY:aG K aC ao false) (cB:aG K aC aQ true) (eF:aG K aC bV false) (dN:aG K aC bA false) (dM:aG K aC bx false) (cZ:aG K aC aV false) (cQ:aG K aC aP false) (dg:aG K aC aW false) (dI:aG K aC bw false) (eE:aG K aC bU false) (cP:aG K aC aO false) (cJ:aG K aq ak false) (cX:aG K aq aC false) (cj:aG K aq ao false) (bJ:aG K aq aQ true) (dG:aG K aq bV false) (cM:aG K aq bA false) (cL:aG K aq bx false) (cu:aG K aq aV false) (bR:aG K aq aP false) (cA:aG K aq aW false) (cI:aG K aq bw false) (dF:aG K aq bU false) (bQ:aG K aq aO false) (cF:aG K ao ak false) (cW:aG K ao aC false) (cg:aG K ao aq false) (bI:aG K ao aQ true) (dD:aG K ao bV false) (cH:aG K ao bA false) (cG:aG K ao bx false) (bZ:aG K ao aV false) (bO:aG K ao aP false) (b_:aG K ao aW false) (cD:aG K ao bw false) (dB:aG K ao bU false) (bN:aG K ao aO false) (CW:fM P w K mg base 5 "is_cut" ["record","cut"] (xO ak aC K)) (CZ:FnAt P w K mg base 1 "has" ["done","touch"] (G_ K)) (Dd:FnAt P w K mg base 1 "counted_from" ["cut","note"] (JC K)) (Bt:tU mg):gn P w K mg base (vU P w) 6 f fd ["record","cut"] (Gd ak aC K):=by
 refine F.Jl pB (fun vs H Q E h=> ?_) (fun cdv A outer s H vs Q E hr h hR=> ?_)
 ·obtain ⟨t,c,a,d,cs,ds,ns,rfl,_⟩:=h
  rfl
 ·obtain ⟨t,c,a,d,cs,ds,ns,rfl,R,m5,nl,vo,hd,k1,k2,k3⟩:=h
  have gO:=hr.units
  refine ⟨_,(aF (dU (lB (iR (gQ CW rfl hR (hr.mono (by decide)) (by rfl) (aj (pv 0) (aj (pv 1) aA))))) (aK (qF PySem.F.excBase_ValueError dZ.ex dZ.bd (by rfl) rfl rfl hR (aj wU aA))) bD)
   (aF (pC (i:=2) rfl pB.nd rfl (Or.inl rfl) (N:=["note","cut"]) (own:=["note"]) (caps:=[1]) (bH.of (by kernel_rfl)) (fP (K:=K) rfl (aU (aY (K:=K) rfl) (pv 0) aB (fun _ _=>rfl))) (fun _ _ _ _=>(bY (i:=0) (show List.Nodup (["note","cut"]:List Str) by decide +kernel) rfl (Or.inl rfl))) (fun _ _ _ _=>(qN (iR (bG CZ (hr.mono (by decide)) (by rfl) (aj (pv 1) (aj (fB (g8 (K:=K) rfl) (pv 0) (gC aB) gD) aA)))))) (fun _ _ _ _=>(pv 0)))
   (aF (pC (i:=3) rfl pB.nd rfl (Or.inl rfl) (N:=["note","cut"]) (own:=["note"]) (caps:=[1]) (bH.of (by kernel_rfl)) (fP (K:=K) rfl (aU (aY (K:=K) rfl) (pv 0) aB (fun _ _=>rfl))) (fun _ _ _ _=>(bY (i:=0) (show List.Nodup (["note","cut"]:List Str) by decide +kernel) rfl (Or.inl rfl))) (fun _ _ _ _=>(qN (lB (iR (bG CZ (hr.mono (by decide)) (by rfl) (aj (pv 1) (aj (fB (g8 (K:=K) rfl) (pv 0) gD (gC aB)) aA))))))) (fun _ _ _ _=>(bG Dd (hr.mono (by decide)) (by rfl) (aj (pv 1) (aj (pv 0) aA)))))
   (aF (pC (i:=4) rfl pB.nd rfl (Or.inl rfl) (N:=["count","done"]) (own:=["count","done"]) (caps:=[]) (bH.of (by kernel_rfl)) (Gf (K:=K) rfl (by rfl) Bt.RJ (aj (aU (aY (K:=K) rfl) (pv 0) aB (fun _ _=>rfl)) (aj (pv 1) aA))) (fun _ _ _ _=>(z_ (K:=K) (n:=2) rfl rfl (lC (bY (i:=0) (show List.Nodup (["count","done"]:List Str) by decide +kernel) rfl (Or.inl rfl)) (lC (bY (i:=1) (show List.Nodup (["count","done"]:List Str) by decide +kernel) rfl (Or.inl rfl)) z9)))) (fun _ _ _ _=>iD) (fun _ _ _ _=>(bM mX (pv 0) (pv 1))))
   (aK (bF (jg (aj (jg (aj (gW (fQ (K:=K) rfl) (by rfl) Bt.pQ lH (aj (pv 1) aA)) (aj (pv 2) aA))) (aj (jg (aj (pv 4) (aj (pv 3) aA))) aA))))))))), ?_⟩
  refine ⟨_,rfl,_,rfl,t,c,a,d,cs,ds,ns,rfl,R,m5,nl,vo,hd,k1,fun ok nd H1 s1=>k2 ok (fun z=>nd z.1) H1 s1,fun ok yF H1 s1=>⟨_,rfl, ?_⟩⟩
  by_cases eb:brk ds ns=[]
  rotate_left
  ·rw [decide_eq_false eb]
   refine ji ?_;exact ⟨(by show 1<=sizeLine;decide),k2 ok (fun z=>eb z.2) H1 s1⟩
  rw [decide_eq_true eb];refine iM ?_;have R1:=R.same s1;obtain ⟨ht1,hc1,vs,ha1,V6⟩:=id R1;have hd1:=s1 _ _ hd;have vl:vs.length=ns.length:=by rw [V6.length,List.length_map]
  have c8:=m5.1;refine ⟨_,rfl,_,_,_,_,rfl,rfl,eV.of ht1,rfl,a,rfl,⟨_,bK.of ha1⟩,fun I hI=> ?_⟩;refine oA (K:=K) (fun i=>(ns[i]?).bind fun x=>if isIn ds x then vs[i]? else none) hI (bK.of ha1) (by omega) (fun i v H2 G F hi s2 kG kF=> ?_) (fun H2 s2 e2=> ?_)
  ·obtain ⟨x,q,ex,rfl,hx⟩:=jz V6 hi
   obtain ⟨⟨h0,h1⟩,⟨k0,k1⟩,⟨o0,o1⟩,⟨m0,m1⟩,hne⟩:=ok.2.2 x (List.mem_of_getElem? ex);have hx2:=s2 _ _ hx;simp only [ex,Option.bind_some,hi] at kG kF;refine ⟨_,rfl,_,rfl,_,rfl,_,_,rfl,eV.of hx2,wX _ rfl,fun p1 hp1=> ?_⟩;have c2:lD (nV x) (some 2) none=[.int x.2.2.1,.int x.2.2.2]:=Fd ..;rw [c2];have vV:=aJ (o:=HO.tup [V.int x.2.2.1,V.int x.2.2.2]) hp1;refine ⟨d,p1,ds,_,_,rfl,.inl (bK.of (vV _ _ (s2 _ _ hd1))),au,o0,by rw [yF.1];exact o1,_,rfl, ?_⟩;refine dY (fun w=> ?_) (fun w=> ?_)
   ·exact ⟨_,rfl,kF _ _ vV (by simp [isIn,of_decide_eq_true w])⟩
   ·have w':¬x.2.2.2<gI ds x.2.2.1:=fun z=>w (decide_eq_true z)
    exact kG _ vV (by simp [isIn,w'])
  have d2:=Gy (isIn ds) (bf.keep s2.tups _ (eO _ iV ns) V6);have dv2:=bf.keep s2.tups _ (eO _ iV ns) V6;have RZ:=s2 _ _ ht1;have ha2:=s2 _ _ ha1;have hd2:=s2 _ _ hd1;refine ⟨_,rfl,_,_,_,_,rfl,rfl,eV.of RZ,rfl,a,rfl,⟨_,bK.of ha2⟩,fun O hO=> ?_⟩;refine Fg (K:=K) (fun i=>(ns[i]?).bind fun x=>if Lr ds x then some (nD (cf ds x)) else none) (fun i dd e=> ?_) hO (bK.of ha2) (by omega) (fun i v H3 G F hi s3 kG kF=> ?_) (fun H3 ws s3 e3 d3=> ?_)
  ·cases ex:ns[i]? with
   | none=>rw [ex] at e;cases e
   | some x=>
     rw [ex,Option.bind_some] at e;split at e
     ·cases e;rfl
     ·cases e
  ·obtain ⟨x,q,ex,rfl,hx⟩:=jz dv2 hi
   obtain ⟨⟨h0,h1⟩,⟨k0,k1⟩,⟨o0,o1⟩,⟨m0,m1⟩,hne⟩:=ok.2.2 x (List.mem_of_getElem? ex);have X6:=s3 _ _ hx;simp only [ex,Option.bind_some] at kG kF;refine ⟨_,rfl,_,rfl,_,rfl,_,_,rfl,eV.of X6,uX _ rfl,fun p1 hp1=> ?_⟩;have c2:lD (nV x) none (some 2)=[.int x.1,.int x.2.1]:=Cp ..;rw [c2];have vV:=aJ (o:=HO.tup [V.int x.1,V.int x.2.1]) hp1;refine ⟨d,p1,ds,_,_,rfl,.inl (bK.of (vV _ _ (s3 _ _ hd2))),au,h0,by rw [yF.1];exact h1,_,rfl, ?_⟩
   by_cases w:x.2.1<gI ds x.1
   ·rw [decide_eq_true w]
    refine iM ?_;exact kG _ vV (by simp [Lr,w])
   ·rw [decide_eq_false w]
    refine ji ?_;refine ⟨_,rfl,_,rfl,d,q,ds,x,rfl,vV _ _ (s3 _ _ hd2),vV _ _ X6,⟨h0,by rw [yF.1];exact h1⟩,⟨o0,by rw [yF.1];exact o1⟩,fun p hp=> ?_⟩;exact kF _ (nD (cf ds x)) _ (vV.trans (aJ hp)) (by simp [Lr,w]) (tD au)
  rw [vl,Iw (H:=H3)] at d3;have Ef:=s2.trans s3;have hc3:=Ef _ _ hc1;have hd3:=Ef _ _ hd1;refine ⟨_,rfl,_,_,_,_,rfl,rfl,eV.of (s3 _ _ RZ),rfl,_,rfl,c,d,_,_,rfl,bK.of hc3,bK.of hd3,fun L hL=> ?_⟩;refine zp (K:=K) (n:=cs.length) (by rw [List.length_map]) (by rw [List.length_map,yF.1]) (fun i=>some (.int (gI cs (i:Int) - gI ds (i:Int)))) hL (bK.of hc3) (bK.of hd3) (by omega) (fun i x y H4 G F hi hj s4 kG kF=> ?_) (fun H4 s4 e4=> ?_)
  ·rw [List.getElem?_map] at hi hj
   cases ei:cs[i]? with
   | none=>rw [ei] at hi;cases hi
   | some u=>
     cases ej:ds[i]? with
     | none=>rw [ej] at hj;cases hj
     | some v=>
       rw [ei] at hi;rw [ej] at hj;cases hi;cases hj;exact ⟨_,rfl,_,rfl,_,_,rfl,rfl,kF _ H4 (Same.refl _) (by rw [oh ei,oh ej])⟩
  rw [List.filterMap_eq_map' (f:=fun i:Nat=>V.int (gI cs (i:Int) - gI ds (i:Int)))] at e4;have e4':H4 L=some (.lst ((lft cs ds).map V.int)):=by rw [e4,lft,List.map_map];rfl
  have hd4:=s4 _ _ hd3;refine ⟨_,rfl,d,_,rfl,.inl (bK.of hd4),fun l hl=> ?_⟩;have s5:=aJ (o:=HO.lst (ds.map V.int)) hl;refine ⟨_,rfl,(by show 2<=sizeLine;decide),fun t1 ahH=> ?_⟩;have s6:=aJ (o:=HO.tup [V.ref l,V.ref I]) ahH;refine ⟨_,rfl,_,rfl,(by show 2<=sizeLine;decide),fun t2 ahG=> ?_⟩;have s7:=aJ (o:=HO.tup [V.ref L,V.ref O]) ahG;refine ⟨(by show 2<=sizeLine;decide),fun u hu=> ?_⟩;have s8:=aJ (o:=HO.tup [V.ref t1,V.ref t2]) hu;have s58:=((s5.trans s6).trans s7).trans s8;have s48:=s4.trans s58;have s38:=s3.trans s48;have hI4:=(s3.trans s4) _ _ e2;have hO4:=s4 _ _ e3;refine k3 ok yF eb u t1 t2 l I L O _ ((s1.trans s2).trans s38) ⟨au,⟨s8 _ _ (s7 _ _ au),((s6.trans s7).trans s8) _ _ au,⟨_,s38 _ _ e2,bf.keep s38.tups _ (eO _ iV _) d2⟩⟩,⟨s8 _ _ au,s58 _ _ e4',⟨_,s48 _ _ e3,bf.keep s48.tups _ (eO _ iV _) d3⟩⟩⟩ (s1.free ((Ef.trans s4).free hl)) (s1.free hI) (s1.free (Ef.free hL)) (s1.free (s2.free hO)) (aL hI4 hl).symm (aL e4 hl).symm (aL hO4 hl).symm (aL (s3 _ _ e2) hL) (aL e2 hO) (aL e3 hL).symm
def closed (ns:List Nt) (ds:List Int):Prop:=∀x∈ns,x.2.2.2<gI ds x.2.2.1->x.2.1<gI ds x.1
theorem Mf {ns:List Nt} {ds:List Int}:brk ds ns=[]↔closed ns ds:=by
 unfold brk closed;rw [List.filter_eq_nil_iff];constructor
 ·intro h x hx hm
  have:=h x hx;simp only [qG,Bool.and_eq_true,decide_eq_true_eq,Bool.not_eq_true',decide_eq_false_iff_not,not_and,Decidable.not_not] at this;exact this hm
 ·intro h x hx
  simp only [qG,Bool.and_eq_true,decide_eq_true_eq,Bool.not_eq_true',decide_eq_false_iff_not,not_and,Decidable.not_not];exact h x hx
def Vq (cs:List Int) (ns:List Nt) (ds L:List Int):Prop:=cR cs L/\xH cs.length ds L/\closed ns L /\ ∀M:List Int,M.length=cs.length->xH cs.length ds M->closed ns M->xH cs.length L M
def Ku (cs:List Int) (ns:List Nt) (ds L:List Int):Prop:=cR cs L/\xH cs.length L ds/\closed ns L /\ ∀M:List Int,M.length=cs.length->xH cs.length M ds->closed ns M->xH cs.length M L
theorem Lh {ds:List Int} {ns:List Nt} {x:Nt} (h:x∈brk ds ns):x∈ns/\x.2.2.2<gI ds x.2.2.1/\gI ds x.1<=x.2.1:=by
 obtain ⟨a,b⟩:=List.mem_filter.mp h;simp only [qG,Bool.and_eq_true,decide_eq_true_eq,Bool.not_eq_true',decide_eq_false_iff_not] at b;exact ⟨a,b.1,by omega⟩
def Bb (CN CC:Addr) (K:PySem.W.Frag):Sp:=fun vs H Q E=>∃(t c a d:Addr) (cs ds:List Int) (ns:List Nt),vs=[.ref t,.ref d]/\RecAt H t c a cs ns/\oF cs/\ns.length<=200/\(eU cs ns->iz cs ns)/\H d=some (.lst (ds.map V.int))/\(¬eU cs ns -> ∀H',Same H H'->E (.ref CN) none H')/\(eU cs ns -> ¬cR cs ds -> ∀H',Same H H'->E (.ref CC) none H')/\(eU cs ns->cR cs ds -> ∀(p:Addr) (L:List Int) (H':Hp),H p=none->H' p=some (.lst (L.map V.int))->Vq cs ns ds L->Same H H'->Q (.ref p) H')
theorem Nf {f:Addr} {fd:FuncData} (F:qj K "least_cut" "least_cut" iH f fd) {ak aC:Addr} (dz:fM P w K mg base 4 "check_notes" ["record"] (iU ak K)) (oE:fM P w K mg base 3 "check_done" ["record","done"] (rA aC K)) (iB:FnAt P w K mg base 2 "broken_notes" ["record","done"] (uR K)) (Bt:tU mg):gn P w K mg base (vU P w) 5 f fd ["record","some"] (Bb ak aC K):=by
 refine F.Jl nW (fun vs H Q E h=> ?_) (fun cdv A outer s H vs Q E hr h hR=> ?_)
 ·obtain ⟨t,c,a,d,cs,ds,ns,rfl,_⟩:=h
  rfl
 ·obtain ⟨t,c,a,d,cs,ds,ns,rfl,R,m5,J0,vo,hd,k1,k2,k⟩:=h
  have gO:=hr.units
  refine ⟨_,(aF (eZ (gQ dz rfl hR (hr.mono (by decide)) (by rfl) (aj (pv 0) aA)))
   (aF (eZ (gQ oE rfl hR (hr.mono (by decide)) (by rfl) (aj (pv 0) (aj (pv 1) aA))))
   (aF (bC (i:=2) nW.nd rfl (Or.inl rfl) (gW (fQ (K:=K) rfl) (by rfl) Bt.pQ lH (aj (pv 1) aA)))
   (aF (bC (i:=3) nW.nd rfl (Or.inl rfl) (bG iB (hr.mono (by decide)) (by rfl) (aj (pv 0) (aj (pv 2) aA))))
   (aF (xW PassesOwn.leaving (vp (K:=K) rfl (pv 3)) (aF (mV PassesOwn.leaving rfl (fP (K:=K) rfl (pv 3)) (bY (i:=4) nW.nd rfl (Or.inl rfl))
   (aK (qW (aX (rG rfl) (by rfl) Bt.Je Cy (aj (aU (bh (K:=K) rfl) (pv 2) (aU (aY (K:=K) rfl) (pv 4) aB (fun _ _=>rfl)) (fun _ _=>rfl)) (aj (bM fD (aU (aY (K:=K) rfl) (pv 4) aB (fun _ _=>rfl)) aB) aA))) (qX (pv 2) (aU (aY (K:=K) rfl) (pv 4) aB (fun _ _=>rfl)) set_list))))
   (aK (bC (i:=3) nW.nd rfl (Or.inl rfl) (bG iB (hr.mono (by decide)) (by rfl) (aj (pv 0) (aj (pv 2) aA)))))))
   (aK (bF (pv 2)))))))), ?_⟩
  refine ⟨_,rfl,t,c,a,cs,ns,rfl,R,m5,J0,fun al H1 s1=> ?_,k1⟩;have ok:=vo al;refine ⟨_,rfl,_,rfl,t,c,a,d,cs,ds,ns,rfl,R.same s1,ok.1,s1 _ _ hd,fun yF H2 s2=> ?_,fun nd H2 s2=>k2 al nd H2 (s1.trans s2)⟩;have s12:=s1.trans s2;refine ⟨_,rfl,d,_,rfl,.inl (bK.of (s12 _ _ hd)),fun p hp=> ?_⟩;have s3:=aJ (o:=HO.lst (ds.map V.int)) hp;have zB:=s12.trans s3;have hp0:H p=none:=s12.free hp;refine ⟨_,rfl,_,rfl,t,c,a,p,cs,ds,ns,rfl,R.same zB,ok,au,yF.1,fun q H4 hq N4 s4=> ?_⟩;have Qc:=zB.trans s4;have nl:=ok.2.1
  refine ⟨fun m σ H5=>∃(es:List Int) (q:Addr) (x:Option V),σ=[some (.ref t),some (.ref d),some (.ref p),some (.ref q),x]/\H5 p=some (.lst (es.map V.int))/\p≠q/\gA H5 q (brk es ns)/\cR cs es/\xH cs.length ds es/\(∀M:List Int,M.length=cs.length->xH cs.length ds M->closed ns M->xH cs.length es M)/\Same H H5/\m=(cs.sum - es.sum).toNat,
   ⟨_,ds,q,none,rfl,s4 _ _ au,aL au hq,N4,yF,xH.refl _ _,fun M _ h _=>h,Qc,rfl⟩, ?_⟩
  rintro m σ H5 ⟨es,q,x,rfl,NT,npq,N5,Zg,ge,up,s5,rfl⟩;obtain ⟨vs,Gu,dv⟩:=id N5;have vl:vs.length=(brk es ns).length:=by rw [dv.length,List.length_map]
  refine ⟨_,rfl, !vs.isEmpty,.inl ⟨vs,bK.of Gu,rfl⟩, ?_⟩
  by_cases e0:brk es ns=[]
  ·have:vs=[]:=List.length_eq_zero_iff.mp (by rw [vl,e0];rfl)
   subst this;refine iM ?_;exact ⟨_,rfl,k al yF p es H5 hp0 NT ⟨Zg,ge,Mf.mp e0,up⟩ s5⟩
  have hv:(!vs.isEmpty)=true:=by
   cases vs with
   | nil=>exact absurd (List.length_eq_zero_iff.mp vl.symm) e0
   | cons _ _=>rfl
  rw [hv];refine ji ?_;refine ⟨fun σ' H'=>∃m',m'<(cs.sum - es.sum).toNat /\ ∃(es':List Int) (q:Addr) (x:Option V),σ'=[some (.ref t),some (.ref d),some (.ref p),some (.ref q),x]/\H' p=some (.lst (es'.map V.int))/\p≠q/\gA H' q (brk es' ns)/\cR cs es'/\xH cs.length ds es'/\(∀M:List Int,M.length=cs.length->xH cs.length ds M->closed ns M->xH cs.length es' M)/\Same H H'/\m'=(cs.sum - es'.sum).toNat,fun _ _ h=>h, ?_⟩;refine ⟨_,rfl,q,rfl,⟨_,bK.of Gu⟩, ?_⟩
  refine pF (K:=K) (a:=q) (xs:=vs) (fun j σ H6=>∃(fs:List Int) (x:Option V),σ=[some (.ref t),some (.ref d),some (.ref p),some (.ref q),x]/\H6 p=some (.lst (fs.map V.int))/\Kp p H5 H6/\cR cs fs/\xH cs.length es fs/\(∀M:List Int,M.length=cs.length->xH cs.length ds M->closed ns M->xH cs.length fs M)/\es.sum<=fs.sum/\(j=0->fs=es)/\(0<j->es.sum<fs.sum))
   ⟨es,x,rfl,NT,Kp.refl _ _,Zg,xH.refl _ _,up,Int.le_refl _,fun _=>rfl,fun z=>absurd z (Nat.lt_irrefl _)⟩ (fun j σ H6 _ ⟨_,_,_,_,kp,_⟩=>bK.of (kp _ _ Gu npq.symm)) ?_ ?_
  ·rintro j v σ H6 hj ⟨fs,x,rfl,Ey,Ut,Ca,UJ,Wn,sle,sz,spos⟩
   obtain ⟨y,u,ey,rfl,hy⟩:=jz dv hj;obtain ⟨ym,y2,y3⟩:=Lh (List.mem_of_getElem? ey);obtain ⟨⟨h0,h1⟩,⟨k0,k1⟩,⟨o0,o1⟩,⟨m0,m1⟩,hne⟩:=ok.2.2 y ym;have X5:=Ut.tups NT _ _ hy;refine ⟨_,rfl,_,rfl,_,_,_,_,rfl,rfl,eV.of X5,rfl,_,_,_,_,rfl,rfl,bK.of Ey,gZ h0 (by rw [Ca.1];exact h1),_,rfl,_,_,_,_,rfl,rfl,eV.of X5,rfl,_,_,rfl,rfl,_,_,rfl,_,rfl,_,rfl,_,_,_,_,rfl,rfl,eV.of X5,rfl,_,_,_,_,rfl,rfl,Ey,qP h0 (by rw [List.length_map,Ca.1];exact h1), ?_⟩;have qf:=Ca.2 y.1 h0 h1;have gq:=UJ y.1 h0 h1;generalize hw:(if y.2.1+1>gI fs y.1 then y.2.1+1 else gI fs y.1)=w;have w1:gI fs y.1<=w:=by rw [←hw];split<;>omega
   have w2:w<=gI cs y.1:=by rw [←hw];split<;>omega
   have w3:y.2.1+1<=w:=by rw [←hw];split<;>omega
   have w4:w=gI fs y.1\/w=y.2.1+1:=by rw [←hw];split<;>omega
   have sm:=Rb (ds:=fs) (h:=y.1) (v:=w) h0 (by rw [Ca.1];exact h1);refine ⟨fs.set y.1.toNat w,_,rfl, ?_,Ut.trans Kp.set,Ca.set h0 h1 (by omega) w2,fun i i0 i1=> ?_,fun M ml ge' cl=> ?_,by omega,fun z=>absurd z (by omega),fun _=> ?_⟩
   ·show (upd H6 p (.lst ((fs.map V.int).set y.1.toNat (V.int w)))) p=_
    rw [au,List.map_set]
   ·rw [wZ h0 (by rw [Ca.1];exact h1) i0]
    have:=UJ i i0 i1
    by_cases e:i=y.1
    ·subst e;rw [if_pos rfl];omega
    ·rw [if_neg e];exact this
   ·intro i i0 i1
    rw [wZ h0 (by rw [Ca.1];exact h1) i0];have q0:=Wn M ml ge' cl i i0 i1
    by_cases e:i=y.1
    ·subst e
     rw [if_pos rfl];have qe:=up M ml ge' cl y.2.2.1 o0 o1;have:=cl y ym (by omega);omega
    ·rw [if_neg e];exact q0
   ·by_cases j0:j=0
    ·have:=sz j0
     subst this;omega
    ·have:=spos (by omega)
     omega
  ·rintro σ H6 ⟨fs,x,rfl,Ey,Ut,Ca,UJ,Wn,sle,sz,spos⟩
   have Wk:0<vs.length:=by
    cases vs with
    | nil=>cases hv
    | cons _ _=>simp
   have slt:=spos Wk;have s6:Same H H6:=fun b o e=>Ut _ _ (s5 _ _ e) (aL e hp0);refine ⟨_,rfl,_,rfl,t,c,a,p,cs,fs,ns,rfl,R.same s6,ok,Ey,Ca.1,fun q' H7 hq' N7 s7=> ?_⟩;have b:=Ca.sum;have be:=Zg.sum;exact ⟨_,by omega,fs,q',_,rfl,s7 _ _ Ey,aL Ey hq',N7,Ca,fun i i0 i1=>Int.le_trans (ge i i0 i1) (UJ i i0 i1),Wn,s6.trans s7,rfl⟩
def uP (CN CC:Addr) (K:PySem.W.Frag):Sp:=fun vs H Q E=>∃(t c a d:Addr) (cs ds:List Int) (ns:List Nt),vs=[.ref t,.ref d]/\RecAt H t c a cs ns/\oF cs/\ns.length<=200/\(eU cs ns->iz cs ns)/\H d=some (.lst (ds.map V.int))/\(¬eU cs ns -> ∀H',Same H H'->E (.ref CN) none H')/\(eU cs ns -> ¬cR cs ds -> ∀H',Same H H'->E (.ref CC) none H')/\(eU cs ns->cR cs ds -> ∀(p:Addr) (L:List Int) (H':Hp),H p=none->H' p=some (.lst (L.map V.int))->Ku cs ns ds L->Same H H'->Q (.ref p) H')
theorem Gj {f:Addr} {fd:FuncData} (F:qj K "greatest_cut" "greatest_cut" fV f fd) {ak aC:Addr} (dz:fM P w K mg base 4 "check_notes" ["record"] (iU ak K)) (oE:fM P w K mg base 3 "check_done" ["record","done"] (rA aC K)) (iB:FnAt P w K mg base 2 "broken_notes" ["record","done"] (uR K)) (Bt:tU mg):gn P w K mg base (vU P w) 5 f fd ["record","some"] (uP ak aC K):=by
 refine F.Jl jr (fun vs H Q E h=> ?_) (fun cdv A outer s H vs Q E hr h hR=> ?_)
 ·obtain ⟨t,c,a,d,cs,ds,ns,rfl,_⟩:=h
  rfl
 ·obtain ⟨t,c,a,d,cs,ds,ns,rfl,R,m5,J0,vo,hd,k1,k2,k⟩:=h
  have gO:=hr.units
  refine ⟨_,(aF (eZ (gQ dz rfl hR (hr.mono (by decide)) (by rfl) (aj (pv 0) aA)))
   (aF (eZ (gQ oE rfl hR (hr.mono (by decide)) (by rfl) (aj (pv 0) (aj (pv 1) aA))))
   (aF (bC (i:=2) jr.nd rfl (Or.inl rfl) (gW (fQ (K:=K) rfl) (by rfl) Bt.pQ lH (aj (pv 1) aA)))
   (aF (bC (i:=3) jr.nd rfl (Or.inl rfl) (bG iB (hr.mono (by decide)) (by rfl) (aj (pv 0) (aj (pv 2) aA))))
   (aF (xW PassesOwn.leaving (vp (K:=K) rfl (pv 3)) (aF (mV PassesOwn.leaving rfl (fP (K:=K) rfl (pv 3)) (bY (i:=4) jr.nd rfl (Or.inl rfl))
   (aK (qW (aX (Oq rfl) (by rfl) Bt.V_ Ru (aj (aU (bh (K:=K) rfl) (pv 2) (aU (aY (K:=K) rfl) (pv 4) aB (fun _ _=>rfl)) (fun _ _=>rfl)) (aj (aU (aY (K:=K) rfl) (pv 4) aB (fun _ _=>rfl)) aA))) (qX (pv 2) (aU (aY (K:=K) rfl) (pv 4) aB (fun _ _=>rfl)) set_list))))
   (aK (bC (i:=3) jr.nd rfl (Or.inl rfl) (bG iB (hr.mono (by decide)) (by rfl) (aj (pv 0) (aj (pv 2) aA)))))))
   (aK (bF (pv 2)))))))), ?_⟩
  refine ⟨_,rfl,t,c,a,cs,ns,rfl,R,m5,J0,fun al H1 s1=> ?_,k1⟩;have ok:=vo al;refine ⟨_,rfl,_,rfl,t,c,a,d,cs,ds,ns,rfl,R.same s1,ok.1,s1 _ _ hd,fun yF H2 s2=> ?_,fun nd H2 s2=>k2 al nd H2 (s1.trans s2)⟩;have s12:=s1.trans s2;refine ⟨_,rfl,d,_,rfl,.inl (bK.of (s12 _ _ hd)),fun p hp=> ?_⟩;have s3:=aJ (o:=HO.lst (ds.map V.int)) hp;have zB:=s12.trans s3;have hp0:H p=none:=s12.free hp;refine ⟨_,rfl,_,rfl,t,c,a,p,cs,ds,ns,rfl,R.same zB,ok,au,yF.1,fun q H4 hq N4 s4=> ?_⟩;have Qc:=zB.trans s4;have nl:=ok.2.1
  refine ⟨fun m σ H5=>∃(es:List Int) (q:Addr) (x:Option V),σ=[some (.ref t),some (.ref d),some (.ref p),some (.ref q),x]/\H5 p=some (.lst (es.map V.int))/\p≠q/\gA H5 q (brk es ns)/\cR cs es/\xH cs.length es ds/\(∀M:List Int,M.length=cs.length->xH cs.length M ds->closed ns M->xH cs.length M es)/\Same H H5/\m=es.sum.toNat,
   ⟨_,ds,q,none,rfl,s4 _ _ au,aL au hq,N4,yF,xH.refl _ _,fun M _ h _=>h,Qc,rfl⟩, ?_⟩
  rintro m σ H5 ⟨es,q,x,rfl,NT,npq,N5,Zg,ge,up,s5,rfl⟩;obtain ⟨vs,Gu,dv⟩:=id N5;have vl:vs.length=(brk es ns).length:=by rw [dv.length,List.length_map]
  refine ⟨_,rfl, !vs.isEmpty,.inl ⟨vs,bK.of Gu,rfl⟩, ?_⟩
  by_cases e0:brk es ns=[]
  ·have:vs=[]:=List.length_eq_zero_iff.mp (by rw [vl,e0];rfl)
   subst this;refine iM ?_;exact ⟨_,rfl,k al yF p es H5 hp0 NT ⟨Zg,ge,Mf.mp e0,up⟩ s5⟩
  have hv:(!vs.isEmpty)=true:=by
   cases vs with
   | nil=>exact absurd (List.length_eq_zero_iff.mp vl.symm) e0
   | cons _ _=>rfl
  rw [hv];refine ji ?_;refine ⟨fun σ' H'=>∃m',m'<es.sum.toNat /\ ∃(es':List Int) (q:Addr) (x:Option V),σ'=[some (.ref t),some (.ref d),some (.ref p),some (.ref q),x]/\H' p=some (.lst (es'.map V.int))/\p≠q/\gA H' q (brk es' ns)/\cR cs es'/\xH cs.length es' ds/\(∀M:List Int,M.length=cs.length->xH cs.length M ds->closed ns M->xH cs.length M es')/\Same H H'/\m'=es'.sum.toNat,fun _ _ h=>h, ?_⟩;refine ⟨_,rfl,q,rfl,⟨_,bK.of Gu⟩, ?_⟩
  refine pF (K:=K) (a:=q) (xs:=vs) (fun j σ H6=>∃(fs:List Int) (x:Option V),σ=[some (.ref t),some (.ref d),some (.ref p),some (.ref q),x]/\H6 p=some (.lst (fs.map V.int))/\Kp p H5 H6/\cR cs fs/\xH cs.length fs es/\(∀M:List Int,M.length=cs.length->xH cs.length M ds->closed ns M->xH cs.length M fs)/\fs.sum<=es.sum/\(j=0->fs=es)/\(0<j->fs.sum<es.sum))
   ⟨es,x,rfl,NT,Kp.refl _ _,Zg,xH.refl _ _,up,Int.le_refl _,fun _=>rfl,fun z=>absurd z (Nat.lt_irrefl _)⟩ (fun j σ H6 _ ⟨_,_,_,_,kp,_⟩=>bK.of (kp _ _ Gu npq.symm)) ?_ ?_
  ·rintro j v σ H6 hj ⟨fs,x,rfl,Ey,Ut,Ca,UJ,Wn,sle,sz,spos⟩
   obtain ⟨y,u,ey,rfl,hy⟩:=jz dv hj;obtain ⟨ym,y2,y3⟩:=Lh (List.mem_of_getElem? ey);obtain ⟨⟨h0,h1⟩,⟨k0,k1⟩,⟨o0,o1⟩,⟨m0,m1⟩,hne⟩:=ok.2.2 y ym;have X5:=Ut.tups NT _ _ hy;refine ⟨_,rfl,_,rfl,_,_,_,_,rfl,rfl,eV.of X5,rfl,_,_,_,_,rfl,rfl,bK.of Ey,gZ o0 (by rw [Ca.1];exact o1),_,rfl,_,_,_,_,rfl,rfl,eV.of X5,rfl,_,_,rfl,_,rfl,_,rfl,_,_,_,_,rfl,rfl,eV.of X5,rfl,_,_,_,_,rfl,rfl,Ey,qP o0 (by rw [List.length_map,Ca.1];exact o1), ?_⟩;have qf:=Ca.2 y.2.2.1 o0 o1;have gq:=UJ y.2.2.1 o0 o1;generalize hw:(if y.2.2.2<gI fs y.2.2.1 then y.2.2.2 else gI fs y.2.2.1)=w;have w1:w<=gI fs y.2.2.1:=by rw [←hw];split<;>omega
   have w2:0<=w:=by rw [←hw];split<;>omega
   have w3:w<=y.2.2.2:=by rw [←hw];split<;>omega
   have w4:w=gI fs y.2.2.1\/w=y.2.2.2:=by rw [←hw];split<;>omega
   have sm:=Rb (ds:=fs) (h:=y.2.2.1) (v:=w) o0 (by rw [Ca.1];exact o1);refine ⟨fs.set y.2.2.1.toNat w,_,rfl, ?_,Ut.trans Kp.set,Ca.set o0 o1 w2 (by omega),fun i i0 i1=> ?_,fun M ml ge' cl=> ?_,by omega,fun z=>absurd z (by omega),fun _=> ?_⟩
   ·show (upd H6 p (.lst ((fs.map V.int).set y.2.2.1.toNat (V.int w)))) p=_
    rw [au,List.map_set]
   ·rw [wZ o0 (by rw [Ca.1];exact o1) i0]
    have:=UJ i i0 i1
    by_cases e:i=y.2.2.1
    ·subst e;rw [if_pos rfl];omega
    ·rw [if_neg e];exact this
   ·intro i i0 i1
    rw [wZ o0 (by rw [Ca.1];exact o1) i0];have q0:=Wn M ml ge' cl i i0 i1
    by_cases e:i=y.2.2.1
    ·subst e
     rw [if_pos rfl];have qe:=up M ml ge' cl y.1 h0 h1
     have:¬y.2.2.2<gI M y.2.2.1:=fun z=>by
      have:=cl y ym z;omega
     omega
    ·rw [if_neg e];exact q0
   ·by_cases j0:j=0
    ·have:=sz j0
     subst this;omega
    ·have:=spos (by omega)
     omega
  ·rintro σ H6 ⟨fs,x,rfl,Ey,Ut,Ca,UJ,Wn,sle,sz,spos⟩
   have Wk:0<vs.length:=by
    cases vs with
    | nil=>cases hv
    | cons _ _=>simp
   have slt:=spos Wk;have s6:Same H H6:=fun b o e=>Ut _ _ (s5 _ _ e) (aL e hp0);refine ⟨_,rfl,_,rfl,t,c,a,p,cs,fs,ns,rfl,R.same s6,ok,Ey,Ca.1,fun q' H7 hq' N7 s7=> ?_⟩;have b:=Ca.sum;exact ⟨_,by omega,fs,q',_,rfl,s7 _ _ Ey,aL Ey hq',N7,Ca,fun i i0 i1=>Int.le_trans (UJ i i0 i1) (ge i i0 i1),Wn,s6.trans s7,rfl⟩
def jB (cs os:List Int):Prop:=inR cs os /\ ∀h:Int,0<=h->h<cs.length->(os.count h:Int)=gI cs h
def yX (C:Addr) (K:PySem.W.Frag):Sp:=fun vs H Q E=>∃(t c a o:Addr) (cs os:List Int) (ns:List Nt),vs=[.ref t,.ref o]/\RecAt H t c a cs ns/\oF cs/\H o=some (.lst (os.map V.int))/\os.length<=2500/\(jB cs os -> ∀H',Same H H'->Q .non H')/\(¬jB cs os -> ∀H',Same H H'->E (.ref C) none H')
theorem zL {f:Addr} {fd:FuncData} (F:qj K "check_order" "check_order" gK f fd) (jQ:FnAt P w K mg base 2 "is_below" ["value","count"] (xP K)) (Bt:tU mg) {ak aC aq ao aQ bV bA bx aV aP aW bw bU aO:Addr} (dW:Xr K mg ak "NoNote") (dZ:Xr K mg aC "NoCut") (cU:Xr K mg aq "NoOrder") (cT:Xr K mg ao "TooMany") (d9:Xo K mg ak aQ "NoteError" true) (jm:Xo K mg ak bV "Held" false) (gk:Xo K mg ak bA "NoForm" false) (gb:Xo K mg ak bx "NoHand" false) (fj:Xo K mg ak aV "NoneYet" false) (eN:Xo K mg ak aP "NoNumber" false) (fu:Xo K mg ak aW "NoPlace" false) (fZ:Xo K mg ak bw "NoText" false) (jl:Xo K mg ak bU "Over" false) (eG:Xo K mg ak aO "RowError" false) (dH:aG K ak aC false) (cO:aG K ak aq false) (cN:aG K ak ao false) (dJ:aG K aC ak false) (dh:aG K aC aq false) (cY:aG K aC ao false) (cB:aG K aC aQ true) (eF:aG K aC bV false) (dN:aG K aC bA false) (dM:aG K aC bx false) (cZ:aG K aC aV false) (cQ:aG K aC aP false) (dg:aG K aC aW false) (dI:aG K aC bw false) (eE:aG K aC bU false) (cP:aG K aC aO false) (cJ:aG K aq ak false) (cX:aG K aq aC false) (cj:aG K aq ao false) (bJ:aG K aq aQ true) (dG:aG K aq bV false) (cM:aG K aq bA false) (cL:aG K aq bx false) (cu:aG K aq aV false) (bR:aG K aq aP false) (cA:aG K aq aW false) (cI:aG K aq bw false) (dF:aG K aq bU false) (bQ:aG K aq aO false) (cF:aG K ao ak false) (cW:aG K ao aC false) (cg:aG K ao aq false) (bI:aG K ao aQ true) (dD:aG K ao bV false) (cH:aG K ao bA false) (cG:aG K ao bx false) (bZ:aG K ao aV false) (bO:aG K ao aP false) (b_:aG K ao aW false) (cD:aG K ao bw false) (dB:aG K ao bU false) (bN:aG K ao aO false):gn P w K mg base (vU P w) 3 f fd ["record","order"] (yX aq K):=by
 refine F.Jl uU (fun vs H Q E h=> ?_) (fun cdv A outer s H vs Q E hr h hR=> ?_)
 ·obtain ⟨t,c,a,o,cs,os,ns,rfl,_⟩:=h
  rfl
 ·obtain ⟨t,c,a,o,cs,os,ns,rfl,⟨ht,hc,hN⟩,ok,ho,ol,k1,k2⟩:=h
  have gO:=hr.units;have c8:=ok.1
  refine ⟨_,(aF (bC (i:=2) uU.nd rfl (Or.inr rfl) (aX (aR (K:=K) rfl) (by rfl) Bt.fL d8 (aj (aU (aY (K:=K) rfl) (pv 0) aB (fun _ _=>rfl)) aA)))
   (aF (dU (PW.pt (qM (lB (iR (aX (rH (K:=K) (cv:= .ty "list") (c:= .type "list") rfl rfl) (by rfl) Bt.fK eY (aj (pv 1) (aj (vq (v:= .ty "list") (by rfl) Bt.pQ lH rfl) aA))))) (pA (lB (iR (aX (gY (K:=K) rfl rfl) (by rfl) Bt.CK w6 (aj (iT rfl (N:=["hand","hands"]) (own:=["hand"]) (caps:=[2]) (bH.of (by kernel_rfl)) (fP (K:=K) rfl (pv 1)) (fun _ _ _ _=>(bY (i:=0) (show List.Nodup (["hand","hands"]:List Str) by decide +kernel) rfl (Or.inl rfl))) (fun _ _ _ _=>iD) (fun _ _ _ _=>(bG jQ (hr.mono (by decide)) (by rfl) (aj (pv 0) (aj (pv 1) aA))))) aA))))))) (aK (qF PySem.F.excBase_ValueError cU.ex cU.bd (by rfl) rfl rfl hR (aj wU aA))) bD)
   (aK (dU (aZ (jh (K:=K) rfl gO) (iT rfl (N:=["hand","order"]) (own:=["hand"]) (caps:=[1]) (bH.of (by kernel_rfl)) (gH (by rfl) Bt.jk (aj (pv 2) aA)) (fun _ _ _ _=>(bY (i:=0) (show List.Nodup (["hand","order"]:List Str) by decide +kernel) rfl (Or.inl rfl))) (fun _ _ _ _=>iD) (fun _ _ _ _=>(pO (K:=K) rfl PySem.F.plainAttrs_list PySem.F.slot_list_count PySem.F.type_list_count (Em (K:=K) rfl) (pv 1) (aj (pv 0) aA)))) (aU (aY (K:=K) rfl) (pv 0) aB (fun _ _=>rfl)) (bB _)) (aK (qF PySem.F.excBase_ValueError cU.ex cU.bd (by rfl) rfl rfl hR (aj wU aA))) bD)))), ?_⟩
  refine ⟨_,rfl,_,_,_,_,rfl,rfl,eV.of ht,rfl,c,_,rfl,.inl (bK.of hc), ?_⟩;refine ⟨_,rfl,_,_,true,rfl,.lst ho,vW K,true,rfl, ?_⟩;refine iM ?_;refine ⟨_,rfl,o,rfl,⟨_,bK.of ho⟩,fun D hD=> ?_⟩;refine oA (K:=K) (fun i=>(os[i]?).map fun h=>V.bl (decide (G6 h cs.length))) hD (bK.of ho) (by rw [List.length_map];omega) (fun i v H2 G F hi s2 kG kF=> ?_) (fun H2 s2 e2=> ?_)
  ·rw [List.getElem?_map] at hi
   cases ei:os[i]? with
   | none=>rw [ei] at hi;cases hi
   | some h=>
     rw [ei] at hi;cases hi;refine ⟨_,rfl,_,rfl,h,(cs.map V.int).length,rfl, ?_⟩;rw [List.length_map];exact kF _ H2 (Same.refl _) (by rw [ei];rfl)
  rw [List.length_map,yq] at e2;refine ⟨D,os.map (fun h=>decide (G6 h cs.length)),rfl,bK.of (by rw [e2,List.map_map];rfl),_,rfl, ?_⟩
  by_cases ir:inR cs os
  ·have ea:(os.map (fun h=>decide (G6 h cs.length))).all id=true:=by
    rw [List.all_map,List.all_eq_true];intro h hh;exact decide_eq_true (show G6 h cs.length from ir h hh)
   rw [ea];refine iM ?_;refine ⟨_,rfl,_,rfl,by rw [List.length_map];omega,by rw [List.length_map];omega,fun D2 hD2=> ?_⟩;have Ia:(((cs.map V.int).length:Nat):Int).toNat=cs.length:=by simp
   rw [Ia];refine mY (fun (i:Nat)=>some (V.int (os.count (0+(i:Int)):Nat))) hD2 (by omega) (fun j H3 G F hj s3 kG kF=> ?_) (fun H3 s3 e3=> ?_)
   ·refine ⟨_,rfl,.inl ⟨rfl,_,bK.of (s3 _ _ (s2 _ _ ho))⟩,_,rfl,o,os,0+(j:Int),rfl,rfl,bK.of (s3 _ _ (s2 _ _ ho)),kF _ H3 (Same.refl _) rfl⟩
   have e3':H3 D2=some (.lst (((List.range cs.length).map fun i:Nat=>((os.count (i:Int):Nat):Int)).map V.int)):=by
    rw [e3,List.map_map];congr 2;rw [←List.filterMap_eq_map];refine pG _ trivial fun i _=> ?_;simp
   have Ef:=s2.trans s3;refine ⟨_,rfl,_,_,_,_,rfl,rfl,eV.of (Ef _ _ ht),rfl,_,_,eX e3',eX (Ef _ _ hc),shaped_ints _,shaped_ints _,_,rfl, ?_⟩;rw [if_pos rfl,gG PyData.int jZ]
   have eqc:((List.range cs.length).map fun i:Nat=>((os.count (i:Int):Nat):Int))=cs ↔ ∀h:Int,0<=h->h<cs.length->(os.count h:Int)=gI cs h:=by
    constructor
    ·intro e h h0 h1
     obtain ⟨m,rfl⟩:=Int.eq_ofNat_of_zero_le h0;have hm:m<cs.length:=by omega
     have q:((List.range cs.length).map fun i:Nat=>((os.count (i:Int):Nat):Int))[m]? = some ((os.count (m:Int):Nat):Int):=by simp [hm]
     rw [e] at q;exact (oh q).symm
    ·intro e
     refine List.ext_getElem (by simp) fun i h1 h2=> ?_;rw [List.getElem_map,List.getElem_range,e (i:Int) (by omega) (by omega),oh (c:=cs[i]) (by simp [h2])]
   by_cases ec:∀h:Int,0<=h->h<cs.length->(os.count h:Int)=gI cs h
   ·rw [decide_eq_true (eqc.mpr ec)]
    refine iM ?_;exact k1 ⟨ir,ec⟩ H3 Ef
   ·rw [decide_eq_false fun z=>ec (eqc.mp z)]
    refine ji ?_;exact ⟨(by show 1<=sizeLine;decide),k2 (fun z=>ec z.2) H3 Ef⟩
  ·have ea:(os.map (fun h=>decide (G6 h cs.length))).all id=false:=by
    rw [List.all_map,←Bool.not_eq_true,List.all_eq_true];intro z;exact ir fun h hh=>of_decide_eq_true (p:=G6 h cs.length) (z h hh)
   rw [ea];refine ji ?_;exact ⟨(by show 1<=sizeLine;decide),k2 (fun z=>ir z.1) H2 s2⟩
def Bc (CN C:Addr) (K:PySem.W.Frag):Sp:=fun vs H Q E=>∃(t c a o:Addr) (cs os:List Int) (ns:List Nt),vs=[.ref t,.ref o]/\RecAt H t c a cs ns/\oF cs/\ns.length<=200/\(eU cs ns->iz cs ns)/\(¬eU cs ns -> ∀H',Same H H'->E (.ref CN) none H')/\H o=some (.lst (os.map V.int))/\os.length<=2500/\(eU cs ns->jB cs os -> ∀H',Same H H'->Q (.bl (runK cs ns os (zs cs))) H')/\(eU cs ns -> ¬jB cs os -> ∀H',Same H H'->E (.ref C) none H')
theorem Ng {f:Addr} {fd:FuncData} (F:qj K "keeps" "keeps" pX f fd) {ak aC aq ao aQ bV bA bx aV aP aW bw bU aO:Addr} (dW:Xr K mg ak "NoNote") (dZ:Xr K mg aC "NoCut") (cU:Xr K mg aq "NoOrder") (cT:Xr K mg ao "TooMany") (d9:Xo K mg ak aQ "NoteError" true) (jm:Xo K mg ak bV "Held" false) (gk:Xo K mg ak bA "NoForm" false) (gb:Xo K mg ak bx "NoHand" false) (fj:Xo K mg ak aV "NoneYet" false) (eN:Xo K mg ak aP "NoNumber" false) (fu:Xo K mg ak aW "NoPlace" false) (fZ:Xo K mg ak bw "NoText" false) (jl:Xo K mg ak bU "Over" false) (eG:Xo K mg ak aO "RowError" false) (dH:aG K ak aC false) (cO:aG K ak aq false) (cN:aG K ak ao false) (dJ:aG K aC ak false) (dh:aG K aC aq false) (cY:aG K aC ao false) (cB:aG K aC aQ true) (eF:aG K aC bV false) (dN:aG K aC bA false) (dM:aG K aC bx false) (cZ:aG K aC aV false) (cQ:aG K aC aP false) (dg:aG K aC aW false) (dI:aG K aC bw false) (eE:aG K aC bU false) (cP:aG K aC aO false) (cJ:aG K aq ak false) (cX:aG K aq aC false) (cj:aG K aq ao false) (bJ:aG K aq aQ true) (dG:aG K aq bV false) (cM:aG K aq bA false) (cL:aG K aq bx false) (cu:aG K aq aV false) (bR:aG K aq aP false) (cA:aG K aq aW false) (cI:aG K aq bw false) (dF:aG K aq bU false) (bQ:aG K aq aO false) (cF:aG K ao ak false) (cW:aG K ao aC false) (cg:aG K ao aq false) (bI:aG K ao aQ true) (dD:aG K ao bV false) (cH:aG K ao bA false) (cG:aG K ao bx false) (bZ:aG K ao aV false) (bO:aG K ao aP false) (b_:aG K ao aW false) (cD:aG K ao bw false) (dB:aG K ao bU false) (bN:aG K ao aO false) (dz:fM P w K mg base 4 "check_notes" ["record"] (iU ak K)) (DY:fM P w K mg base 3 "check_order" ["record","order"] (yX aq K)) (pI:FnAt P w K mg base 1 "firsts_of" ["record"] (uQ K)) (zA:FnAt P w K mg base 2 "is_free" ["counts","firsts","done","hand"] (Gb K)) (Bt:tU mg):gn P w K mg base (vU P w) 5 f fd ["record","order"] (Bc ak aq K):=by
 refine F.Jl xR (fun vs H Q E h=> ?_) (fun cdv A outer s H vs Q E hr h hR=> ?_)
 ·obtain ⟨t,c,a,o,cs,os,ns,rfl,_⟩:=h
  rfl
 ·obtain ⟨t,c,a,o,cs,os,ns,rfl,R,m5,J0,vo,kX,ho,ol,k1,k2⟩:=h
  have gO:=hr.units;have c8:=m5.1
  refine ⟨_,(aF (eZ (gQ dz rfl hR (hr.mono (by decide)) (by rfl) (aj (pv 0) aA)))
   (aF (eZ (gQ DY rfl hR (hr.mono (by decide)) (by rfl) (aj (pv 0) (aj (pv 1) aA))))
   (aF (bC (i:=2) xR.nd rfl (Or.inl rfl) (bG pI (hr.mono (by decide)) (by rfl) (aj (pv 0) aA)))
   (aF (pC (i:=3) rfl xR.nd rfl (Or.inl rfl) (N:=["count"]) (own:=["count"]) (caps:=[]) (bH.of (by kernel_rfl)) (fP (K:=K) rfl (aU (aY (K:=K) rfl) (pv 0) aB (fun _ _=>rfl))) (fun _ _ _ _=>(bY (i:=0) (show List.Nodup (["count"]:List Str) by decide +kernel) rfl (Or.inl rfl))) (fun _ _ _ _=>iD) (fun _ _ _ _=>aB))
   (aF (mV PassesOwn.leaving rfl (fP (K:=K) rfl (pv 1)) (bY (i:=4) xR.nd rfl (Or.inl rfl))
   (aF (dU (lB (iR (bG zA (hr.mono (by decide)) (by rfl) (aj (aU (aY (K:=K) rfl) (pv 0) aB (fun _ _=>rfl)) (aj (pv 2) (aj (pv 3) (aj (pv 4) aA))))))) (aK (bF qO)) bD)
   (aK (K4 (pv 3) (pv 4) (Bu (K:=K) rfl) aB QV set_list))))
   (aK (bF qO))))))), ?_⟩
  refine ⟨_,rfl,t,c,a,cs,ns,rfl,R,m5,J0,fun al H1 s1=> ?_,kX⟩;have ok:=vo al;refine ⟨_,rfl,_,rfl,t,c,a,o,cs,os,ns,rfl,R.same s1,ok.1,s1 _ _ ho,ol,fun oo H2 s2=> ?_,fun no H2 s2=>k2 al no H2 (s1.trans s2)⟩;have s12:=s1.trans s2;have k:=k1 al oo;refine ⟨_,rfl,t,c,a,cs,ns,rfl,R.same s12,ok,fun f H3 hf FA s3=> ?_⟩;have zB:=s12.trans s3;have R3:=R.same zB;refine ⟨_,rfl,_,_,_,_,rfl,rfl,eV.of R3.1,rfl,c,rfl,⟨_,bK.of R3.2.1⟩,fun p hp=> ?_⟩;refine oA (K:=K) (fun i=>some (.int 0)) hp (bK.of R3.2.1) (by rw [List.length_map];omega) (fun i v H4 G F hi s4 kG kF=>kF _ H4 (Same.refl _) rfl) (fun H4 s4 e4=> ?_);rw [List.length_map,Jp] at e4;have ho4:=s4 _ _ (zB _ _ ho);refine ⟨_,rfl,o,rfl,⟨_,bK.of ho4⟩, ?_⟩
  refine pF (K:=K) (a:=o) (xs:=os.map V.int) (fun i σ H5=>∃(ds:List Int) (x:Option V),σ=[some (.ref t),some (.ref o),some (.ref f),some (.ref p),x]/\H5 p=some (.lst (ds.map V.int))/\ds.length=cs.length/\Same H3 H5/\runK cs ns os (zs cs)=runK cs ns (os.drop i) ds)
   ⟨zs cs,none,rfl,e4,by simp [zs],s4,rfl⟩ (fun i σ H5 _ ⟨_,_,_,_,_,sm,_⟩=>bK.of (sm _ _ (zB _ _ ho))) ?_ ?_
  ·rintro i v σ H5 hi ⟨ds,x,rfl,NT,dl,s5,run⟩
   rw [List.getElem?_map] at hi;cases ei:os[i]? with
   | none=>rw [ei] at hi;cases hi
   | some h=>
     rw [ei] at hi;cases hi;have il:=(List.getElem?_eq_some_iff.mp ei).1;have q:=oo.1 h (List.mem_of_getElem? ei)
     have dr:os.drop i=h::os.drop (i+1):=by
      rw [List.drop_eq_getElem_cons il];congr 1;exact (List.getElem?_eq_some_iff.mp ei).2
     have R5:=R3.same s5;refine ⟨_,rfl,_,_,_,_,rfl,rfl,eV.of R5.1,rfl,_,rfl,_,rfl,_,rfl,c,f,p,cs,ds,ns,h,rfl,R5.2.1,FA.same s5,.inl (bK.of NT),ok,dl,q.1,q.2,fun H6 s6=>⟨_,rfl, ?_⟩⟩;have Ey:=s6 _ _ NT;rw [dr] at run;simp only [runK] at run
     by_cases fr:isFree cs ns ds h=true
     ·rw [fr]
      refine iM ?_;rw [if_pos fr] at run;have gl:h.toNat<ds.length:=by omega
      refine ⟨_,rfl,_,rfl,_,_,_,_,rfl,rfl,bK.of Ey,q.1,(by rw [List.getElem?_map];simp [gl];rfl),_,_,rfl,rfl,_,_,_,_,rfl,rfl,Ey,qP q.1 (by rw [List.length_map];omega), ?_⟩;have eg:ds[h.toNat]=gI ds h:=by simp [gI,gl]
      refine ⟨stp ds h,_,rfl, ?_,by simp [stp,dl],fun b u e=>Kp.set _ _ ((s5.trans s6) _ _ e) (aL e hp),run⟩;show (upd H6 p (.lst ((ds.map V.int).set h.toNat (V.int (ds[h.toNat]+1))))) p=_;rw [au,eg,stp,List.map_set]
     ·have fr':isFree cs ns ds h=false:=by simpa using fr
      rw [fr'];refine ji ?_;rw [fr'] at run;have run':runK cs ns os (zs cs)=false:=by simpa using run
      rw [←run'];exact k H6 ((zB.trans s5).trans s6)
  ·rintro σ H5 ⟨ds,x,rfl,NT,dl,s5,run⟩
   have:runK cs ns os (zs cs)=true:=by rw [run,List.length_map,List.drop_length];rfl
   rw [←this];exact k H5 (zB.trans s5)
def Bg (CN:Addr) (K:PySem.W.Frag):Sp:=fun vs H Q E=>∃(t c a:Addr) (cs:List Int) (ns:List Nt),vs=[.ref t]/\RecAt H t c a cs ns/\oF cs/\ns.length<=200/\(eU cs ns->iz cs ns)/\(¬eU cs ns -> ∀H',Same H H'->E (.ref CN) none H') /\
 (∀H',eU cs ns->Stuck cs ns->Same H H'->Q .non H') /\ ∀(p:Addr) (os:List Int) (H':Hp),eU cs ns->H p=none->H' p=some (.lst (os.map V.int))->UW cs ns os (zs cs)->inR cs os->os.length<=2400->Same H H'->Q (.ref p) H'
theorem Ni {f:Addr} {fd:FuncData} (F:qj K "first_order" "first_order" gJ f fd) {ak:Addr} (dz:fM P w K mg base 4 "check_notes" ["record"] (iU ak K)) (pI:FnAt P w K mg base 1 "firsts_of" ["record"] (uQ K)) (tG:FnAt P w K mg base 3 "free_hands" ["counts","firsts","done"] (zY K)) (Bt:tU mg):gn P w K mg base (vU P w) 5 f fd ["record"] (Bg ak K):=by
 refine F.Jl jN (fun vs H Q E h=> ?_) (fun cdv A outer s H vs Q E hr h hR=> ?_)
 ·obtain ⟨t,c,a,cs,ns,rfl,_⟩:=h
  rfl
 ·obtain ⟨t,c,a,cs,ns,rfl,R,m5,J0,vo,kX,kN,k⟩:=h
  have gO:=hr.units;have c8:=m5.1;have hsum:=FN m5.2
  refine ⟨_,(aF (eZ (gQ dz rfl hR (hr.mono (by decide)) (by rfl) (aj (pv 0) aA)))
   (aF (bC (i:=1) jN.nd rfl (Or.inl rfl) (bG pI (hr.mono (by decide)) (by rfl) (aj (pv 0) aA)))
   (aF (pC (i:=2) rfl jN.nd rfl (Or.inl rfl) (N:=["count"]) (own:=["count"]) (caps:=[]) (bH.of (by kernel_rfl)) (fP (K:=K) rfl (aU (aY (K:=K) rfl) (pv 0) aB (fun _ _=>rfl))) (fun _ _ _ _=>(bY (i:=0) (show List.Nodup (["count"]:List Str) by decide +kernel) rfl (Or.inl rfl))) (fun _ _ _ _=>iD) (fun _ _ _ _=>aB))
   (aF (bC (i:=3) jN.nd rfl (Or.inl rfl) (fO aA))
   (aF (xW PassesOwn.leaving (aZ (jh (K:=K) rfl gO) (pv 2) (aU (aY (K:=K) rfl) (pv 0) aB (fun _ _=>rfl)) (bB _)) (aF (bC (i:=4) jN.nd rfl (Or.inl rfl) (bG tG (hr.mono (by decide)) (by rfl) (aj (aU (aY (K:=K) rfl) (pv 0) aB (fun _ _=>rfl)) (aj (pv 1) (aj (pv 2) aA)))))
   (aF (dU (lB (vp (K:=K) rfl (pv 4))) (aK (bF mW)) bD)
   (aF (eZ (wV (K:=K) rfl (pv 3) (aj (aU (bh (K:=K) rfl) (pv 4) aB (fun _ _=>rfl)) aA)))
   (aK (K4 (pv 2) (aU (bh (K:=K) rfl) (pv 4) aB (fun _ _=>rfl)) (Bu (K:=K) rfl) aB QV set_list))))))
   (aK (bF (pv 3)))))))), ?_⟩
  refine ⟨_,rfl,t,c,a,cs,ns,rfl,R,m5,J0,fun al H1 s1=> ?_,kX⟩;have ok:=vo al;refine ⟨_,rfl,t,c,a,cs,ns,rfl,R.same s1,ok,fun f H3 hf FA s3=> ?_⟩;have zB:=s1.trans s3;have R3:=R.same zB;refine ⟨_,rfl,_,_,_,_,rfl,rfl,eV.of R3.1,rfl,c,rfl,⟨_,bK.of R3.2.1⟩,fun p hp=> ?_⟩;refine oA (K:=K) (fun i=>some (.int 0)) hp (bK.of R3.2.1) (by rw [List.length_map];omega) (fun i v H4 G F hi s4 kG kF=>kF _ H4 (Same.refl _) rfl) (fun H4 s4 e4=> ?_);rw [List.length_map,Jp] at e4;refine ⟨(by show 0<=sizeLine;decide),fun o ho=> ?_⟩;have s5:=aJ (o:=HO.lst []) ho;have npo:p≠o:=aL e4 ho;have ho3:H3 o=none:=s4.free ho
  refine ⟨fun m σ H6=>∃(ds os:List Int) (x:Option V),σ=[some (.ref t),some (.ref f),some (.ref p),some (.ref o),x]/\H6 p=some (.lst (ds.map V.int))/\H6 o=some (.lst (os.map V.int))/\cR cs ds/\inR cs os/\Same H3 H6/\os.foldl stp (zs cs)=ds/\(∀i h,os[i]? = some h->(jP cs ns ((os.take i).foldl stp (zs cs))).head?=some h)/\(os.length:Int)=ds.sum/\m=(cs.sum - ds.sum).toNat,
   ⟨_,zs cs,[],none,rfl,s5 _ _ e4,au,O8 ok.1,fun h hh=>(by cases hh),s4.trans s5,rfl,fun i h e=>(by cases e), ?_,rfl⟩, ?_⟩
  ·have:(zs cs).sum=0:=by
    unfold zs;generalize cs.length=n
    induction n with
    | zero=>rfl
    | succ n ih=>rw [List.replicate_succ,List.sum_cons,ih];rfl
   rw [this];rfl
  rintro m σ H6 ⟨ds,os,x,rfl,Ey,ho6,yF,ir,s6,fold,heads,amr,rfl⟩;have R6:=R3.same s6;refine ⟨_,rfl,_,rfl,_,_,_,_,rfl,rfl,eV.of R6.1,rfl,_,_,eX Ey,eX R6.2.1,shaped_ints _,shaped_ints _,_,rfl, ?_⟩;rw [if_pos rfl,gG PyData.int jZ];have aaR:=yF.sum
  by_cases e0:ds=cs
  ·rw [decide_eq_true e0]
   refine iM ?_;refine ⟨_,rfl,k o os H6 al (zB.free ho3) ho6 ?_ ir (by omega) (zB.trans s6)⟩;have:=zE (os2:=[]) heads (by rw [fold];exact e0);simpa using this
  rw [decide_eq_false e0];refine ji ?_;refine ⟨fun σ' H'=>∃m',m'<(cs.sum - ds.sum).toNat /\ ∃(ds os:List Int) (x:Option V),σ'=[some (.ref t),some (.ref f),some (.ref p),some (.ref o),x]/\H' p=some (.lst (ds.map V.int))/\H' o=some (.lst (os.map V.int))/\cR cs ds/\inR cs os/\Same H3 H'/\os.foldl stp (zs cs)=ds/\(∀i h,os[i]? = some h->(jP cs ns ((os.take i).foldl stp (zs cs))).head?=some h)/\(os.length:Int)=ds.sum/\m'=(cs.sum - ds.sum).toNat,fun _ _ h=>h, ?_⟩;refine ⟨_,rfl,_,_,_,_,rfl,rfl,eV.of R6.1,rfl,_,rfl,_,rfl,c,f,p,cs,ds,ns,rfl,R6.2.1,FA.same s6,.inl (bK.of Ey),ok,yF.1,fun q H7 hq Zd s7=> ?_⟩;have s67:=s6.trans s7;refine ⟨_,rfl,_,.inl ⟨_,bK.of Zd,rfl⟩, ?_⟩;cases fr:jP cs ns ds with
  | nil=>
    refine ji ?_;exact kN H7 al ⟨ds,yF,e0,fr⟩ (zB.trans s67)
  | cons h fr'=>
    refine iM ?_;rw [fr] at Zd;have hm:h∈jP cs ns ds:=by rw [fr];simp
    obtain ⟨h0,h1,hfree⟩:=Eo.mp hm;have ho7:=s7 _ _ ho6;have hp7:=s7 _ _ Ey;have lt:=Ew yF h0 h1 hfree;refine ⟨_,rfl,.inl ⟨rfl,_,bK.of ho7⟩,_,rfl,_,_,_,_,rfl,rfl,bK.of Zd,qg (j:=0) (v:=V.int h) rfl,o,_,_,rfl,rfl,ho7,by rw [List.length_map,sizeLine_eq];omega, ?_⟩;have k8:Kp o H7 (upd H7 o (.lst (os.map V.int++[V.int h]))):=Kp.set;have nqo:q≠o:=fun z=>by rw [←z] at ho6;rw [ho6] at hq;cases hq
    have hp8:=k8 _ _ hp7 npo;have hq8:=k8 _ _ Zd nqo;have gl:h.toNat<ds.length:=by rw [yF.1];omega
    have eg:ds[h.toNat]=gI ds h:=by simp [gI,gl]
    refine ⟨_,rfl,_,rfl,_,_,_,_,rfl,rfl,bK.of hq8,qg (j:=0) (v:=V.int h) rfl,_,_,_,_,rfl,rfl,bK.of hp8,h0,(by rw [List.getElem?_map];simp [gl];rfl),_,_,rfl,rfl,_,_,_,_,rfl,rfl,hp8,qP h0 (by rw [List.length_map];omega), ?_⟩;have k9:Kp p (upd H7 o (.lst (os.map V.int++[V.int h]))) (upd (upd H7 o (.lst (os.map V.int++[V.int h]))) p (.lst ((ds.map V.int).set h.toNat (V.int (ds[h.toNat]+1))))):=Kp.set;have ss:=KR yF h0 h1;have ok':=P0 yF h0 h1 hfree;have aln:=ok'.sum;refine ⟨_, ?_,stp ds h,os++[h],_,rfl, ?_, ?_,ok',fun z hz=> ?_,fun b u e=>k9 _ _ (k8 _ _ (s67 _ _ e) (aL e ho3)) (aL e hp),by rw [List.foldl_append,fold];rfl,fun i z e=> ?_,by rw [List.length_append,ss];simp;omega,rfl⟩
    ·omega
    ·show (upd (upd H7 o (.lst (os.map V.int++[V.int h]))) p (.lst ((ds.map V.int).set h.toNat (V.int (ds[h.toNat]+1))))) p=_
     rw [au,eg,stp,List.map_set]
    ·refine (k9 _ _ au npo.symm).trans ?_
     simp
    ·rcases List.mem_append.mp hz with hz|hz
     ·exact ir z hz
     ·have:z=h:=by simpa using hz
      subst this;exact ⟨h0,h1⟩
    ·by_cases hi:i<os.length
     ·rw [List.getElem?_append_left hi] at e
      rw [List.take_append_of_le_length (by omega)];exact heads i z e
     ·have hi2:i=os.length:=by
       have:=(List.getElem?_eq_some_iff.mp e).1;simp at this;omega
      subst hi2;rw [List.take_append_of_le_length (Nat.le_refl _),List.take_length,fold,fr];simpa using e
def RW (x y:Nt):Bool:=decide (x.2.2.1=y.1)&&decide (x.2.2.2<=y.2.1)
def VR (ns:List Nt) (x:Nt):Bool:= !decide (x.1=x.2.2.1)&&decide (x∈ns)
def Qd (ms:List Nt):List Nt:=ms.drop 1++ms.take 1
def Wc (ns ms:List Nt):Prop:=ms≠[] /\ ∀j x y,ms[j]? = some x->ms[(j+1) % ms.length]? = some y->x∈ns/\RW x y=true
theorem K1 (ms:List Nt) (j:Nat) (hj:j<ms.length):(Qd ms)[j]? = ms[(j+1) % ms.length]? :=by
 unfold Qd
 by_cases h:j+1<ms.length
 ·rw [Nat.mod_eq_of_lt h,List.getElem?_append_left (by rw [List.length_drop];omega),List.getElem?_drop,Nat.add_comm]
 ·have e:j+1=ms.length:=by omega
  rw [e,Nat.mod_self,List.getElem?_append_right (by rw [List.length_drop];omega),List.length_drop];have:j - (ms.length - 1)=0:=by omega
  rw [this,List.getElem?_take_of_lt (by omega)]
theorem KZ (ms:List Nt):(Qd ms).length=ms.length:=by
 unfold Qd;rw [List.length_append,List.length_drop,List.length_take];omega
theorem YG (ns:List Nt) (x:Nt):((ns.map nD).any fun e=>PyData.eqv e (nD x))=decide (x∈ns):=by
 rw [Bool.eq_iff_iff,List.any_eq_true,decide_eq_true_iff];constructor
 ·rintro ⟨e,he,q⟩
  obtain ⟨y,hy,rfl⟩:=List.mem_map.mp he;rw [Cd,decide_eq_true_iff] at q;exact q▸hy
 ·intro h
  exact ⟨nD x,List.mem_map.mpr ⟨x,h,rfl⟩,by rw [Cd,decide_eq_true_iff]⟩
theorem Ed (x:Nt):SeqAt.shaped (nD x)=true:=rfl
theorem Rh {α β γ:Type} (g:α->β->γ):∀(xs:List α) (ys:List β),xs.length=ys.length->(List.range xs.length).filterMap (fun i=>(xs[i]?).bind fun x=>(ys[i]?).map fun y=>g x y)=List.zipWith g xs ys
 | [],[],_=>rfl
 | [],_::_,h=>by simp at h
 | _::_,[],h=>by simp at h
 | x::xs,y::ys,h=>by
   have ih:=Rh g xs ys (by simpa using h);rw [List.length_cons,List.range_succ_eq_map,List.filterMap_cons,List.filterMap_map];simp only [List.getElem?_cons_zero,Option.bind_some,Option.map_some,List.zipWith_cons_cons];rw [←ih];rfl
def Ga (K:PySem.W.Frag):Sp:=fun vs H Q _=>∃(t u:Addr) (x y:Nt),vs=[.ref t,.ref u]/\H t=some (.tup (nV x))/\H u=some (.tup (nV y))/\Q (.bl (RW x y)) H
theorem Qu {f:Addr} {fd:FuncData} (F:qj K "leads_to" "leads_to" iZ f fd):gn P w K mg base tV 1 f fd ["note","following"] (Ga K):=by
 refine F.ok Hh (fun vs H Q E h=> ?_) (fun cdv A outer s H vs Q E hr h=> ?_)
 ·obtain ⟨t,u,x,y,rfl,_⟩:=h
  rfl
 ·obtain ⟨t,u,x,y,rfl,ht,hu,q⟩:=h
  refine ⟨_,(aK (bF (wW (lF gF (aU (aY (K:=K) rfl) (pv 0) aB (fun _ _=>rfl)) (aU (aY (K:=K) rfl) (pv 1) aB (fun _ _=>rfl)) (bB _)) (uW (lF Lb (aU (aY (K:=K) rfl) (pv 0) aB (fun _ _=>rfl)) (aU (aY (K:=K) rfl) (pv 1) aB (fun _ _=>rfl)) (bB _)))))), ?_⟩;refine ⟨_,rfl,_,_,_,_,rfl,rfl,eV.of ht,rfl,_,rfl,_,_,_,_,rfl,rfl,eV.of hu,rfl,rfl,_,rfl, ?_⟩
  by_cases e:x.2.2.1=y.1
  ·refine dY (fun _=> ?_) (fun z=>absurd (decide_eq_true (by rw [e])) z)
   refine ⟨_,rfl,_,_,_,_,rfl,rfl,eV.of ht,rfl,_,rfl,_,_,_,_,rfl,rfl,eV.of hu,rfl,_,_,rfl,rfl, ?_⟩;have:RW x y=decide (x.2.2.2<=y.2.1):=by simp [RW,e]
   rw [this] at q;exact q
  ·refine dY (fun z=>absurd (of_decide_eq_true z) (fun w=>e (by injection w))) (fun _=> ?_)
   have:RW x y=false:=by simp [RW,e]
   rw [this] at q;exact q
def FT (CN:Addr) (K:PySem.W.Frag):Sp:=fun vs H Q E=>∃(t c a p:Addr) (cs:List Int) (ns ms:List Nt),vs=[.ref t,.ref p]/\RecAt H t c a cs ns/\oF cs/\ns.length<=200/\(eU cs ns->iz cs ns)/\(¬eU cs ns -> ∀H',Same H H'->E (.ref CN) none H')/\gA H p ms/\ms.length<=200 /\ ∀(bl:Bool) (H':Hp),eU cs ns->(bl=true↔Wc ns ms)->Same H H'->Q (.bl bl) H'
theorem Mx {cs:List Int} {ns ms:List Nt} (ok:iz cs ns) (ne:ms≠[]) (al:(ms.map (VR ns)).all id=true):(List.zipWith RW ms (Qd ms)).all id=true↔Wc ns ms:=by
 have al':∀x∈ms,x∈ns:=fun x hx=>by
  rw [List.all_map,List.all_eq_true] at al;have:=al x hx;simp only [Function.comp,id,VR,Bool.and_eq_true,decide_eq_true_eq] at this;exact this.2
 rw [List.all_eq_true];constructor
 ·intro h
  refine ⟨ne,fun j x y ex ey=>⟨al' x (List.mem_of_getElem? ex), ?_⟩⟩;have hj:=(List.getElem?_eq_some_iff.mp ex).1;rw [←K1 ms j hj] at ey;refine h _ (List.mem_of_getElem? (i:=j) ?_);rw [List.getElem?_zipWith,ex,ey];rfl
 ·intro h b hb
  obtain ⟨j,hj⟩:=List.getElem?_of_mem hb;rw [List.getElem?_zipWith] at hj;cases ex:ms[j]? with
  | none=>rw [ex] at hj;simp at hj
  | some x=>
    cases ey:(Qd ms)[j]? with
    | none=>rw [ex,ey] at hj;simp at hj
    | some y=>
      rw [ex,ey] at hj;simp at hj;have hjl:=(List.getElem?_eq_some_iff.mp ex).1;rw [K1 ms j hjl] at ey;rw [←hj];exact (h.2 j x y ex ey).2
theorem M9 {f:Addr} {fd:FuncData} (F:qj K "ring_shows" "ring_shows" g_ f fd) {ak:Addr} (dz:fM P w K mg base 4 "check_notes" ["record"] (iU ak K)) (zy:FnAt P w K mg base 2 "is_note" ["value"] (xM K)) (Kw:FnAt P w K mg base 1 "leads_to" ["note","following"] (Ga K)) (Bt:tU mg):gn P w K mg base (vU P w) 5 f fd ["record","some"] (FT ak K):=by
 refine F.Jl Dn (fun vs H Q E h=> ?_) (fun cdv A outer s H vs Q E hr h hR=> ?_)
 ·obtain ⟨t,c,a,p,cs,ns,ms,rfl,_⟩:=h
  rfl
 ·obtain ⟨t,c,a,p,cs,ns,ms,rfl,R,m5,J0,vo,kX,N,ml,k⟩:=h
  refine ⟨_,(aF (eZ (gQ dz rfl hR (hr.mono (by decide)) (by rfl) (aj (pv 0) aA)))
   (aF (dU (PW.pt (qM (lB (vp (K:=K) rfl (pv 1))) (pA (lB (iR (aX (gY (K:=K) rfl rfl) (by rfl) Bt.CK w6 (aj (iT rfl (N:=["note","record"]) (own:=["note"]) (caps:=[0]) (bH.of (by kernel_rfl)) (fP (K:=K) rfl (pv 1)) (fun _ _ _ _=>(bY (i:=0) (show List.Nodup (["note","record"]:List Str) by decide +kernel) rfl (Or.inl rfl))) (fun _ _ _ _=>iD) (fun _ _ _ _=>(wW (bG zy (hr.mono (by decide)) (by rfl) (aj (pv 0) aA)) (uW (lF (T6 (K:=K) rfl hr.Pu) (pv 0) (aU (aY (K:=K) rfl) (pv 1) aB (fun _ _=>rfl)) (by with_unfolding_all rfl)))))) aA))))))) (aK (bF qO)) bD)
   (aK (bF (aX (gY (K:=K) rfl rfl) (by rfl) Bt.CK w6 (aj (iT rfl (N:=["note","following"]) (own:=["note","following"]) (caps:=[]) (bH.of (by kernel_rfl)) (Gf (K:=K) rfl (by rfl) Bt.RJ (aj (pv 1) (aj (bM Gi (fB (Bk (K:=K) rfl) (pv 1) (gC aB) gD) (fB (Bk (K:=K) rfl) (pv 1) gD (gC aB))) aA))) (fun _ _ _ _=>(z_ (K:=K) (n:=2) rfl rfl (lC (bY (i:=0) (show List.Nodup (["note","following"]:List Str) by decide +kernel) rfl (Or.inl rfl)) (lC (bY (i:=1) (show List.Nodup (["note","following"]:List Str) by decide +kernel) rfl (Or.inl rfl)) z9)))) (fun _ _ _ _=>iD) (fun _ _ _ _=>(bG Kw (hr.mono (by decide)) (by rfl) (aj (pv 0) (aj (pv 1) aA))))) aA)))))), ?_⟩
  refine ⟨_,rfl,t,c,a,cs,ns,rfl,R,m5,J0,fun al0 H1 s1=> ?_,kX⟩;have ok:=vo al0;obtain ⟨ht1,hc1,us,ha1,du1⟩:=id (R.same s1);obtain ⟨vs,hp1,V6⟩:=id (N.same s1);have vl:vs.length=ms.length:=by rw [V6.length,List.length_map]
  refine ⟨_,rfl, !vs.isEmpty,.inl ⟨vs,bK.of hp1,rfl⟩, ?_⟩
  by_cases e0:ms=[]
  ·have:vs=[]:=List.length_eq_zero_iff.mp (by rw [vl,e0];rfl)
   rw [this];refine ji ?_;exact k false H1 al0 ⟨fun z=>(by cases z),fun z=>absurd e0 z.1⟩ s1
  have:vs.isEmpty=false:=by
   cases vs with
   | nil=>exact absurd (List.length_eq_zero_iff.mp vl.symm) e0
   | cons _ _=>rfl
  rw [this];refine iM ?_;refine ⟨_,rfl,p,rfl,⟨_,bK.of hp1⟩,fun D hD=> ?_⟩;refine oA (K:=K) (fun i=>(ms[i]?).map fun x=>V.bl (VR ns x)) hD (bK.of hp1) (by omega) (fun i v H2 G F hi s2 kG kF=> ?_) (fun H2 s2 e2=> ?_)
  ·obtain ⟨x,q,ex,rfl,hx⟩:=jz V6 hi
   refine ⟨_,rfl,q,x,rfl,s2 _ _ hx,fun H3 s3=>⟨_,rfl, ?_⟩⟩
   by_cases w:x.1=x.2.2.1
   ·rw [show (!decide (x.1=x.2.2.1))=false by simp [w]]
    refine iM ?_;exact kF _ H3 s3 (by rw [ex];simp [VR,w])
   ·rw [show (!decide (x.1=x.2.2.1))=true by simp [w]]
    refine ji ?_;have zB:=s2.trans s3;refine ⟨_,rfl,_,rfl,_,_,_,_,rfl,rfl,eV.of (zB _ _ ht1),rfl,a,us,nD x,ns.map nD,rfl,bK.of (zB _ _ ha1),bf.keep zB.tups _ (eO _ iV _) du1,tD (s3 _ _ (s2 _ _ hx)),Ed x,fun e he=> ?_, ?_⟩
    ·obtain ⟨y,_,rfl⟩:=List.mem_map.mp he
     exact Ed y
    ·rw [if_neg (by decide),YG]
     exact kF _ H3 s3 (by rw [ex];simp [VR,w])
  rw [vl,yq] at e2;refine ⟨D,ms.map (VR ns),rfl,bK.of (by rw [e2,List.map_map];rfl),_,rfl, ?_⟩
  by_cases al:(ms.map (VR ns)).all id=true
  rotate_left
  ·rw [Bool.eq_false_iff.mpr al]
   refine ji ?_;refine k false H2 al0 ⟨fun z=>(by cases z),fun z=>absurd ?_ al⟩ (s1.trans s2);rw [List.all_map,List.all_eq_true];intro x hx;obtain ⟨j,hj⟩:=List.getElem?_of_mem hx;have hjl:=(List.getElem?_eq_some_iff.mp hj).1;have hl2:(j+1) % ms.length<ms.length:=Nat.mod_lt _ (by omega);have hm:=(z.2 j x ms[(j+1) % ms.length] hj (by simp [hl2])).1;have:=(ok.2.2 x hm).2.2.2.2;simp [VR,this,hm]
  rw [al];refine iM ?_;have hp2:=s2 _ _ hp1;refine ⟨_,rfl,_,rfl,_,rfl,p,vs,rfl,bK.of hp2,fun p1 hq1=> ?_⟩;rw [show lD vs (some 1) none=vs.drop 1 from Cm vs 1];have u1:=aJ (o:=HO.lst (vs.drop 1)) hq1;refine ⟨_,rfl,_,rfl,p,vs,rfl,bK.of (u1 _ _ hp2),fun p2 hq2=> ?_⟩;rw [show lD vs none (some 1)=vs.take 1 from yt vs 1];have u2:=aJ (o:=HO.lst (vs.take 1)) hq2;refine ⟨p1,p2,_,_,rfl,rfl,u2 _ _ au,au,by rw [sizeLine_eq,List.length_drop,List.length_take];omega,fun p3 Uy=> ?_⟩;have u3:=aJ (o:=HO.lst (vs.drop 1++vs.take 1)) Uy;have RT:=(u1.trans u2).trans u3;have Ef:=s2.trans RT;have dv3:=bf.keep Ef.tups _ (eO _ iV _) V6
  have dr3:bf (upd (upd (upd H2 p1 (HO.lst (vs.drop 1))) p2 (HO.lst (vs.take 1))) p3 (HO.lst (vs.drop 1++vs.take 1))) (vs.drop 1++vs.take 1) ((Qd ms).map nD):=by
   unfold Qd;rw [List.map_append,List.map_drop,List.map_take];exact bf.append (dv3.drop 1) (dv3.take 1)
  have rl:(vs.drop 1++vs.take 1).length=ms.length:=by rw [dr3.length,List.length_map,KZ]
  refine ⟨p,p3,_,_,rfl,bK.of (RT _ _ hp2),bK.of au,fun D2 hD2=> ?_⟩;refine zp (K:=K) (n:=ms.length) vl rl (fun i=>(ms[i]?).bind fun x=>((Qd ms)[i]?).map fun y=>V.bl (RW x y)) hD2 (bK.of (RT _ _ hp2)) (bK.of au) (by omega) (fun i v w H4 G F hi hj s4 kG kF=> ?_) (fun H4 s4 e4=> ?_)
  ·obtain ⟨x,q,ex,rfl,hx⟩:=jz dv3 hi
   obtain ⟨y,q',ey,rfl,hy⟩:=jz dr3 hj;exact ⟨_,rfl,_,rfl,q,q',x,y,rfl,s4 _ _ hx,s4 _ _ hy,kF _ H4 (Same.refl _) (by rw [ex,ey];rfl)⟩
  rw [Rh (fun x y=>V.bl (RW x y)) ms (Qd ms) (KZ ms).symm] at e4;refine ⟨D2,List.zipWith RW ms (Qd ms),rfl,bK.of (by rw [e4,List.map_zipWith]), ?_⟩;exact k _ H4 al0 (Mx ok e0 al) ((s1.trans Ef).trans s4)
theorem Li:∀(cs ds:List Int),ds.length=cs.length->(∀(i:Nat) (c d:Int),cs[i]? = some c->ds[i]? = some d->d<=c)->cs.sum<=ds.sum->ds=cs
 | [],[],_,_,_=>rfl
 | [],_::_,h,_,_=>by simp at h
 | _::_,[],h,_,_=>by simp at h
 | c::cs,d::ds,hl,hp,hs=>by
   have h0:d<=c:=hp 0 c d rfl rfl;have tl:∀(i:Nat) (c d:Int),cs[i]? = some c->ds[i]? = some d->d<=c:=fun i c d e1 e2=>hp (i+1) c d (by simpa using e1) (by simpa using e2)
   have le:∀(cs ds:List Int),ds.length=cs.length->(∀(i:Nat) (c d:Int),cs[i]? = some c->ds[i]? = some d->d<=c)->ds.sum<=cs.sum:=fun cs=>by
    induction cs with
    | nil=>intro ds h _;rw [List.eq_nil_of_length_eq_zero h];exact Int.le_refl _
    | cons c cs ih=>
      intro ds h p
      match ds,h with
      | d::ds,h=>
        have:=ih ds (by simpa using h) fun i c d e1 e2=>p (i+1) c d (by simpa using e1) (by simpa using e2);have:=p 0 c d rfl rfl;rw [List.sum_cons,List.sum_cons];omega
   have l1:=le cs ds (by simpa using hl) tl;rw [List.sum_cons,List.sum_cons] at hs;have e:d=c:=by omega
   rw [e,Li cs ds (by simpa using hl) tl (by omega)]
theorem Ag {l:List Int} {i:Nat} {c:Int} (h:l[i]? = some c):gI l (i:Int)=c:=by unfold gI;rw [Int.toNat_natCast,h];rfl
theorem Oi {cs ds:List Int} (d:cR cs ds) (h:cs.sum<=ds.sum):ds=cs:=Li cs ds d.1 (fun i c e h1 h2=>by
 have il:=(List.getElem?_eq_some_iff.mp h1).1;have:=(d.2 (i:Int) (by omega) (by omega)).2;rw [Ag h1,Ag h2] at this;exact this) h
theorem Wj (cs:List Int):(zs cs).sum=0:=by
 unfold zs;generalize cs.length=n
 induction n with
 | zero=>rfl
 | succ n ih=>rw [List.replicate_succ,List.sum_cons,ih];rfl
def yu (cs:List Int) (ns:List Nt):Nat->List Int->Nat
 | 0,ds=>if ds=cs then 1 else 0
 | n+1,ds=>((jP cs ns ds).map fun h=>yu cs ns n (stp ds h)).sum
def Eb (x:Nt):Nt:=(x.2.2.1,x.2.2.2,x.1,x.2.1)
def iy (ds:List Int):List Key:=ds.map Sum.inl
def encK (l:List (List Int×Nat)):List (List Key×V):=l.map fun p=>(iy p.1,V.int (p.2:Nat))
theorem u9 {a b:List Int} (h:iy a=iy b):a=b:=by
 induction a generalizing b with
 | nil=>cases b with
   | nil=>rfl
   | cons x b=>cases h
 | cons x a ih=>cases b with
   | nil=>cases h
   | cons y b=>
     have h:Sum.inl x::iy a=(Sum.inl y:Key)::iy b:=h;injection h with h1 h2
     rw [Sum.inl.inj h1,ih h2]
theorem yr (ds:List Int):(iy ds).map kV=ds.map V.int:=by unfold iy;rw [List.map_map];rfl
def vK:List (List Int×Nat)->List Int->Nat
 | [],_=>0
 | p::l,k=>if p.1=k then p.2 else vK l k
def tE:List (List Int×Nat)->List Int->Nat->List (List Int×Nat)
 | [],k,v=>[(k,v)]
 | p::l,k,v=>if p.1=k then (p.1,p.2+v)::l else p::tE l k v
theorem FJ (k:List Int):∀l:List (List Int×Nat),(gR (encK l) (iy k)).getD (.int 0) = .int (vK l k:Nat)
 | []=>rfl
 | p::l=>by
   have ih:=FJ k l;unfold gR encK at ih ⊢;rw [List.map_cons,List.find?_cons]
   by_cases e:p.1=k
   ·rw [decide_eq_true (show iy p.1=iy k by rw [e])]
    show V.int (p.2:Nat)=V.int ((if p.1=k then p.2 else vK l k:Nat):Int);rw [if_pos e]
   ·rw [decide_eq_false (show ¬iy p.1=iy k from fun z=>e (u9 z))]
    show _=V.int ((if p.1=k then p.2 else vK l k:Nat):Int);rw [if_neg e];exact ih
theorem Wm {l:List (List Int×Nat)} (nd:(l.map (·.1)).Nodup) {i:Nat} {k:List Int} {v:Nat} (h:l[i]? = some (k,v)):gR (encK l) (iy k)=some (.int (v:Nat)):=by
 induction l generalizing i with
 | nil=>simp at h
 | cons p l ih=>
   rw [List.map_cons,List.nodup_cons] at nd;unfold gR encK;rw [List.map_cons,List.find?_cons];cases i with
   | zero=>
     cases h;rw [decide_eq_true rfl];rfl
   | succ i=>
     have h:l[i]? = some (k,v):=by simpa using h
     have ne:¬p.1=k:=fun z=>nd.1 (by rw [z];exact List.mem_map.mpr ⟨(k,v),List.mem_of_getElem? h,rfl⟩);rw [decide_eq_false (show ¬iy p.1=iy k from fun z=>ne (u9 z))];exact ih nd.2 h
theorem UG {l:List (List Int×Nat)} {k:List Int} (h:k∉l.map (·.1)):vK l k=0:=by
 induction l with
 | nil=>rfl
 | cons p l ih=>
   rw [List.map_cons,List.mem_cons,not_or] at h;show (if p.1=k then p.2 else vK l k)=0;rw [if_neg fun z=>h.1 z.symm];exact ih h.2
theorem Tr {l:List (List Int×Nat)} (nd:(l.map (·.1)).Nodup) (k:List Int) (v:Nat):putK (encK l) (iy k) (.int ((vK l k:Nat)+(v:Nat)))=encK (tE l k v):=by
 induction l with
 | nil=>
   show [(iy k,V.int (((0:Nat):Int)+(v:Nat)))]=[(iy k,V.int (v:Nat))];simp
 | cons p l ih=>
   rw [List.map_cons,List.nodup_cons] at nd;have ih:=ih nd.2
   by_cases e:p.1=k
   ·have e1:tE (p::l) k v=(p.1,p.2+v)::l:=if_pos e
    have e2:vK (p::l) k=p.2:=if_pos e;rw [e1,e2];unfold putK
    rw [if_pos (by
     unfold encK;rw [List.map_cons,List.any_cons,decide_eq_true (show iy p.1=iy k by rw [e])];rfl)]
    unfold encK;rw [List.map_cons,List.map_cons,List.map_cons]
    have a1:(if iy p.1=iy k then (iy p.1,V.int ((p.2:Nat)+(v:Nat))) else (iy p.1,V.int (p.2:Nat)))=(iy p.1,V.int ((p.2+v:Nat):Int)):=by
     rw [if_pos (by rw [e])];congr 2
    have a2:(l.map fun p:List Int×Nat=>(iy p.1,V.int (p.2:Nat))).map (fun kv=>if kv.1=iy k then (kv.1,V.int ((p.2:Nat)+(v:Nat))) else kv)=l.map fun p:List Int×Nat=>(iy p.1,V.int (p.2:Nat)):=by
     rw [List.map_map];refine List.map_congr_left fun q hq=> ?_;show (if iy q.1=iy k then _ else _)=_;rw [if_neg fun z=>nd.1 (by rw [e,←u9 z];exact List.mem_map.mpr ⟨q,hq,rfl⟩)]
    rw [a2];exact congrArg (· :: _) a1
   ·have e1:tE (p::l) k v=p::tE l k v:=if_neg e
    have e2:vK (p::l) k=vK l k:=if_neg e;have ne:¬iy p.1=iy k:=fun z=>e (u9 z);rw [e1,e2];have:encK (p::tE l k v)=(iy p.1,V.int (p.2:Nat))::encK (tE l k v):=rfl;rw [this,←ih];have:encK (p::l)=(iy p.1,V.int (p.2:Nat))::encK l:=rfl;rw [this];unfold putK;rw [List.any_cons,decide_eq_false ne,Bool.false_or]
    by_cases q:(encK l).any (fun kv=>decide (kv.1=iy k))=true
    ·rw [if_pos q,if_pos q,List.map_cons,if_neg ne]
    ·rw [if_neg q,if_neg q];rfl
def wsum (l:List (List Int×Nat)) (f:List Int->Nat):Nat:=(l.map fun p=>p.2*f p.1).sum
theorem G7 (f:List Int->Nat) (k:List Int) (v:Nat):∀l:List (List Int×Nat),wsum (tE l k v) f=wsum l f+v*f k
 | []=>by show (([(k,v)]:List (List Int×Nat)).map fun p=>p.2*f p.1).sum=_;simp [wsum]
 | p::l=>by
   have c:∀(q:List Int×Nat) (m:List (List Int×Nat)),wsum (q::m) f=q.2*f q.1+wsum m f:=fun q m=>by unfold wsum;rw [List.map_cons,List.sum_cons]
   by_cases e:p.1=k
   ·have e1:tE (p::l) k v=(p.1,p.2+v)::l:=if_pos e
    rw [e1,c,c,←e];show (p.2+v)*f p.1+wsum l f=_;rw [Nat.add_mul];omega
   ·have e1:tE (p::l) k v=p::tE l k v:=if_neg e
    rw [e1,c,c,G7 f k v l];omega
theorem CQ (k:List Int) (v:Nat):∀l:List (List Int×Nat),(tE l k v).map (·.1)=if k∈l.map (·.1) then l.map (·.1) else l.map (·.1)++[k]
 | []=>rfl
 | p::l=>by
   by_cases e:p.1=k
   ·have e1:tE (p::l) k v=(p.1,p.2+v)::l:=if_pos e
    rw [e1,if_pos (by rw [List.map_cons,e];simp)];rfl
   ·have e1:tE (p::l) k v=p::tE l k v:=if_neg e
    rw [e1,List.map_cons,CQ k v l,List.map_cons]
    by_cases q:k∈l.map (·.1)
    ·rw [if_pos q,if_pos (by simp [q])]
    ·rw [if_neg q,if_neg (by rw [List.mem_cons,not_or];exact ⟨fun z=>e z.symm,q⟩)];rfl
theorem Oz {l:List (List Int×Nat)} (nd:(l.map (·.1)).Nodup) (k:List Int) (v:Nat):((tE l k v).map (·.1)).Nodup:=by
 rw [CQ];split
 ·exact nd
 ·rename_i q
  refine List.nodup_append.mpr ⟨nd,by simp,fun a ha b hb e=> ?_⟩;have:b=k:=by simpa using hb
  subst this;subst e;exact q ha
theorem Vh {l:List (List Int×Nat)} {k:List Int} {v:Nat} {ds:List Int} (h:ds∈(tE l k v).map (·.1)):ds=k\/ds∈l.map (·.1):=by
 rw [CQ] at h;split at h
 ·exact .inr h
 ·rcases List.mem_append.mp h with h|h
  ·exact .inr h
  ·exact .inl (by simpa using h)
theorem yd:∀(n:Nat) (l:List Nat),l.Nodup->(∀x∈l,x<n)->l.length<=n
 | 0,l,_,h=>by
   cases l with
   | nil=>exact Nat.le_refl _
   | cons x l=>exact absurd (h x (by simp)) (Nat.not_lt_zero _)
 | n+1,l,nd,h=>by
   by_cases m:n∈l
   ·have:=yd n (l.erase n) (nd.erase n) fun x hx=>by
     have:=(nd.mem_erase_iff).mp hx;have:=h x this.2;omega
    rw [List.length_erase_of_mem m] at this;omega
   ·have:=yd n l nd fun x hx=>by
     have:=h x hx;have:x≠n:=fun z=>m (z▸hx);omega
    omega
def iW:List Int->Nat
 | []=>1
 | c::cs=>(c.toNat+1)*iW cs
def zm:List Int->List Int->Nat
 | c::cs,d::ds=>d.toNat+(c.toNat+1)*zm cs ds
 | _,_=>0
theorem Ly:∀(cs ds:List Int),ds.length=cs.length->(∀(i:Nat) (c d:Int),cs[i]? = some c->ds[i]? = some d->0<=d/\d<=c)->zm cs ds<iW cs
 | [],[],_,_=>by show 0<1;decide
 | [],_::_,h,_=>by simp at h
 | _::_,[],h,_=>by simp at h
 | c::cs,d::ds,hl,hp=>by
   have h0:=hp 0 c d rfl rfl;have ih:=Ly cs ds (by simpa using hl) fun i c d e1 e2=>hp (i+1) c d (by simpa using e1) (by simpa using e2);show d.toNat+(c.toNat+1)*zm cs ds<(c.toNat+1)*iW cs;have:(c.toNat+1)*(zm cs ds+1)<=(c.toNat+1)*iW cs:=Nat.mul_le_mul_left _ ih;rw [Nat.mul_add] at this;omega
theorem Im:∀(cs a b:List Int),a.length=cs.length->b.length=cs.length->(∀(i:Nat) (c d:Int),cs[i]? = some c->a[i]? = some d->0<=d/\d<=c)->(∀(i:Nat) (c d:Int),cs[i]? = some c->b[i]? = some d->0<=d/\d<=c)->zm cs a=zm cs b->a=b
 | [],[],[],_,_,_,_,_=>rfl
 | [],_::_,_,h,_,_,_,_=>by simp at h
 | [],[],_::_,_,h,_,_,_=>by simp at h
 | _::_,[],_,h,_,_,_,_=>by simp at h
 | _::_,_::_,[],_,h,_,_,_=>by simp at h
 | c::cs,x::a,y::b,ha,hb,pa,pb,e=>by
   have a0:=pa 0 c x rfl rfl;have b0:=pb 0 c y rfl rfl;have e:x.toNat+(c.toNat+1)*zm cs a=y.toNat+(c.toNat+1)*zm cs b:=e;have m:(x.toNat+(c.toNat+1)*zm cs a) % (c.toNat+1)=(y.toNat+(c.toNat+1)*zm cs b) % (c.toNat+1):=by rw [e]
   rw [Nat.add_mul_mod_self_left,Nat.add_mul_mod_self_left,Nat.mod_eq_of_lt (by omega),Nat.mod_eq_of_lt (by omega)] at m;have xy:x=y:=by omega
   have:zm cs a=zm cs b:=Nat.eq_of_mul_eq_mul_left (show 0<c.toNat+1 by omega) (by omega);rw [xy,Im cs a b (by simpa using ha) (by simpa using hb) (fun i c d e1 e2=>pa (i+1) c d (by simpa using e1) (by simpa using e2)) (fun i c d e1 e2=>pb (i+1) c d (by simpa using e1) (by simpa using e2)) this]
theorem Gx {cs ds:List Int} (d:cR cs ds):∀(i:Nat) (c e:Int),cs[i]? = some c->ds[i]? = some e->0<=e/\e<=c:=fun i c e h1 h2=>by
 have il:=(List.getElem?_eq_some_iff.mp h1).1;have:=d.2 (i:Int) (by omega) (by omega);rw [Ag h1,Ag h2] at this;exact this
theorem Ij {cs:List Int} {l:List (List Int)} (nd:l.Nodup) (h:∀ds∈l,cR cs ds):l.length<=iW cs:=by
 have:=yd (iW cs) (l.map (zm cs)) (by
  refine List.pairwise_map.mpr (List.Pairwise.imp_of_mem ?_ nd);intro a b ha hb ne e
  exact ne (Im cs a b (h a ha).1 (h b hb).1 (Gx (h a ha)) (Gx (h b hb)) e)) fun x hx=>by
   obtain ⟨ds,hd,rfl⟩:=List.mem_map.mp hx;exact Ly cs ds (h ds hd).1 (Gx (h ds hd))
 rwa [List.length_map] at this
theorem K5:∀{cs:List Int} {n:Nat},cs.length<=n->(∀c∈cs,c<=6)->iW cs<=7 ^ n
 | [],n,_,_=>Nat.one_le_pow _ _ (by decide)
 | c::cs,n,l,h=>by
   rw [List.length_cons] at l;obtain ⟨m,rfl⟩:∃m,n=m+1:=⟨n - 1,by omega⟩;have:=K5 (cs:=cs) (n:=m) (by omega) fun x hx=>h x (by simp [hx]);have:=h c (by simp);show (c.toNat+1)*iW cs<=7 ^ (m+1);rw [Nat.pow_succ,Nat.mul_comm (7 ^ m) 7];exact Nat.mul_le_mul (by omega) ‹iW cs<=7 ^ m›
theorem take_set {ds:List Int} {h:Nat} (hl:h<ds.length) (v:Int):ds.take h++[v]++ds.drop (h+1)=ds.set h v:=by
 rw [List.set_eq_take_append_cons_drop,if_pos hl];simp
theorem T4 {n h:Nat} (l:h<n):¬(HT.jX n 0 none=0/\HT.jX n n (some (h:Int))=n):=fun z=>by
 have:=z.2;rw [HT.z6] at this;omega
theorem M6 {n h:Nat} (l:h<n):¬(HT.jX n 0 (some ((h+1:Nat):Int))=0/\HT.jX n n none=n):=fun z=>by
 have:=z.1;rw [HT.z6] at this;omega
structure Ks (cs:List Int) (ns:List Nt) (n:Nat) (lat ws:List (List Int×Nat)):Prop where
 nl:(lat.map (·.1)).Nodup
 ld:∀ds∈lat.map (·.1),cR cs ds/\ds.sum=n
 lw:(n:Int)<=cs.sum->wsum lat (yu cs ns (cs.sum.toNat - n))=yu cs ns cs.sum.toNat (zs cs)
 nw:(ws.map (·.1)).Nodup
 wd:∀ds∈ws.map (·.1),cR cs ds/\ds.sum<n
 en:(n:Int)=cs.sum+1->vK ws cs=yu cs ns cs.sum.toNat (zs cs)
 le:(n:Int)<=cs.sum+1
 st:ws=[] -> ∃y,lat=[y]
theorem lay0 {cs:List Int} {ns:List Nt} (ok:oF cs):Ks cs ns 0 [(zs cs,1)] []:=by
 have s0:(zs cs).sum=0:=Wj cs;have s1:=(O8 ok).sum;refine ⟨by simp,fun ds hd=> ?_,fun _=> ?_,by simp,fun ds hd=>(by cases hd),fun z=>by omega,by omega,fun _=>⟨_,rfl⟩⟩
 ·have:ds=zs cs:=by simpa using hd
  subst this;exact ⟨O8 ok,by rw [s0];rfl⟩
 ·show ([(zs cs,1)].map fun p:List Int×Nat=>p.2*_).sum=_
  simp
theorem Ib {cs:List Int} {ns:List Nt} {n:Nat} {lat ws:List (List Int×Nat)} (L:Ks cs ns n lat ws):((ws++lat).map (·.1)).Nodup /\ ∀ds∈(ws++lat).map (·.1),cR cs ds:=by
 rw [List.map_append];refine ⟨List.nodup_append.mpr ⟨L.nw,L.nl,fun a ha b hb e=> ?_⟩,fun ds hd=> ?_⟩
 ·subst e
  have:=(L.wd a ha).2;have:=(L.ld a hb).2;omega
 ·rcases List.mem_append.mp hd with hd|hd
  ·exact (L.wd ds hd).1
  ·exact (L.ld ds hd).1
theorem Lx {k:List Int}:∀{l m:List (List Int×Nat)},k∉l.map (·.1)->vK (l++m) k=vK m k
 | [],m,_=>rfl
 | p::l,m,h=>by
   rw [List.map_cons,List.mem_cons,not_or] at h;show (if p.1=k then p.2 else vK (l++m) k)=_;rw [if_neg fun z=>h.1 z.symm];exact Lx h.2
theorem lay_next {cs:List Int} {ns:List Nt} {n:Nat} {lat ws fl:List (List Int×Nat)} (L:Ks cs ns n lat ws) (ne:lat≠[]) (nf:(fl.map (·.1)).Nodup) (fd:∀ds∈fl.map (·.1),cR cs ds/\ds.sum=(n+1:Nat))
 (fw:wsum fl (yu cs ns (cs.sum.toNat - n - 1))=wsum lat fun ds=>((jP cs ns ds).map fun h=>yu cs ns (cs.sum.toNat - n - 1) (stp ds h)).sum):Ks cs ns (n+1) fl (ws++lat)/\(n:Int)<=cs.sum:=by
 obtain ⟨p,hp⟩:∃p,p∈lat:=by
  cases lat with
  | nil=>exact absurd rfl ne
  | cons p l=>exact ⟨p,by simp⟩
 obtain ⟨pd,ps⟩:=L.ld p.1 (List.mem_map.mpr ⟨p,hp,rfl⟩);have nle:(n:Int)<=cs.sum:=by rw [←ps];exact pd.sum.2
 obtain ⟨k1,k2⟩:=Ib L;refine ⟨⟨nf,fd,fun l1=> ?_,k1,fun ds hd=>⟨k2 ds hd, ?_⟩,fun e=> ?_,by omega,fun z=> ?_⟩,nle⟩
 ·rw [show cs.sum.toNat - (n+1)=cs.sum.toNat - n - 1 by omega,fw,←L.lw nle]
  obtain ⟨m,hm⟩:∃m,cs.sum.toNat - n=m+1:=⟨cs.sum.toNat - n - 1,by omega⟩;rw [hm];rfl
 ·rw [List.map_append] at hd
  rcases List.mem_append.mp hd with hd|hd
  ·have:=(L.wd ds hd).2;omega
  ·have:=(L.ld ds hd).2;omega
 ·have en:(n:Int)=cs.sum:=by omega
  have nin:cs∉ws.map (·.1):=fun z=>by have:=(L.wd cs z).2;omega
  rw [Lx nin,←L.lw (by omega),show cs.sum.toNat - n=0 by omega];have all:∀ds∈lat.map (·.1),ds=cs:=fun ds hd=>Oi (L.ld ds hd).1 (by rw [(L.ld ds hd).2];omega)
  match lat,ne,L.nl,all with
  | [],ne,_,_=>exact absurd rfl ne
  | [q],_,_,all=>
    have e1:q.1=cs:=all q.1 (by simp);show (if q.1=cs then q.2 else 0)=([q].map fun p:List Int×Nat=>p.2*if p.1=cs then 1 else 0).sum;simp [e1]
  | q::q'::l,_,nd,all=>
    have e1:=all q.1 (by simp);have e2:=all q'.1 (by simp);rw [List.map_cons,List.nodup_cons,List.map_cons] at nd;exact absurd (by rw [e1,e2];simp) nd.1
 ·have h1:(ws++lat).length=0:=by rw [z];rfl
  rw [List.length_append] at h1;have:0<lat.length:=List.length_pos_of_mem hp;omega
theorem Ur {cs:List Int} {ns:List Nt} {n:Nat} {ws:List (List Int×Nat)} (L:Ks cs ns n [] ws):vK ws cs=yu cs ns cs.sum.toNat (zs cs):=by
 by_cases e:(n:Int)=cs.sum+1
 ·exact L.en e
 ·have le:=L.le
  have nin:cs∉ws.map (·.1):=fun z=>by have:=(L.wd cs z).2;omega
  rw [UG nin,←L.lw (by omega)];rfl
def zW (CT:Addr) (K:PySem.W.Frag):Sp:=fun vs H Q E=>∃(t c a:Addr) (cs:List Int) (ns:List Nt) (most:Int),vs=[.ref t,.int most]/\RecAt H t c a cs ns/\iz cs ns/\((most=0 /\ ∀H',Same H H'->E (.ref CT) none H')\/((iW cs:Int)<=most/\iW cs<=5000 /\ ∀(w:Addr) (l:List (List Int×Nat)) (H':Hp),H' w=some (.dT (encK l))->vK l cs=yu cs ns cs.sum.toNat (zs cs)->Same H H'->Q (.ref w) H'))
theorem Qo {f:Addr} {fd:FuncData} (F:qj K "ways_to_cuts" "ways_to_cuts" fU f fd) (pI:FnAt P w K mg base 1 "firsts_of" ["record"] (uQ K)) (tG:FnAt P w K mg base 3 "free_hands" ["counts","firsts","done"] (zY K)) (Bt:tU mg) {ao:Addr} (cT:Xr K mg ao "TooMany"):gn P w K mg base (vU P w) 4 f fd ["record","most"] (zW ao K):=by
 refine F.Jl fH (fun vs H Q E h=> ?_) (fun cdv A outer s H vs Q E hr h hR=> ?_)
 ·obtain ⟨t,c,a,cs,ns,most,rfl,_⟩:=h
  rfl
 ·obtain ⟨t,c,a,cs,ns,most,rfl,R,ok,kk⟩:=h
  have hu:=yj hr;have gO:=hr.units;have c8:=ok.1.1
  refine ⟨_,(aF (bC (i:=2) fH.nd rfl (Or.inl rfl) (bG pI (hr.mono (by decide)) (by rfl) (aj (pv 0) aA)))
   (aF (bC (i:=3) fH.nd rfl (Or.inl rfl) xX)
   (aF (bC (i:=4) fH.nd rfl (Or.inl rfl) (Ql (Nat.lt_of_succ_lt hu) (gW vY (by rfl) Bt.GQ Cw (aj (iT rfl (N:=["count"]) (own:=["count"]) (caps:=[]) (bH.of (by kernel_rfl)) (fP (K:=K) rfl (aU (aY (K:=K) rfl) (pv 0) aB (fun _ _=>rfl))) (fun _ _ _ _=>(bY (i:=0) (show List.Nodup (["count"]:List Str) by decide +kernel) rfl (Or.inl rfl))) (fun _ _ _ _=>iD) (fun _ _ _ _=>aB)) aA)) aB))
   (aF (xW PassesOwn.leaving (Tv (pv 4)) (aF (eZ (pO (K:=K) rfl PySem.F.plainAttrs_dict PySem.F.slot_dict_update PySem.F.type_dict_update (Um hu) (pv 3) (aj (pv 4) aA)))
   (aF (dU (aZ yc (aX Fj (by rfl) Bt.fL d8 (aj (pv 3) aA)) (pv 1) (bB _)) (aK (qF PySem.F.excBase_ValueError cT.ex cT.bd (by rfl) rfl rfl hR (aj wU aA))) bD)
   (aF (bC (i:=5) fH.nd rfl (Or.inl rfl) xX)
   (aF (Hr (mV PassesOwn.leaving rfl (Ht (pv 4)) (bY (i:=6) fH.nd rfl (Or.inl rfl))
   (aK (mV PassesOwn.leaving rfl (fP (K:=K) rfl (bG tG (hr.mono (by decide)) (by rfl) (aj (aU (aY (K:=K) rfl) (pv 0) aB (fun _ _=>rfl)) (aj (pv 2) (aj (pv 6) aA))))) (bY (i:=7) fH.nd rfl (Or.inl rfl))
   (aF (bC (i:=8) fH.nd rfl (Or.inl rfl) (bM (Le (K:=K) rfl) (bM (Le (K:=K) rfl) (fB (g8 (K:=K) rfl) (pv 6) gD (gC (pv 7))) (jg (aj (bM fD (aU (aY (K:=K) rfl) (pv 6) (pv 7) (fun _ _=>rfl)) aB) aA))) (fB (g8 (K:=K) rfl) (pv 6) (gC (bM fD (pv 7) aB)) gD)))
   (aK (z7 hu (pv 5) (pv 8) (bM fD (xY hu (pv 5) (pv 8) aB ⟨rfl,rfl,rfl,rfl⟩) (xZ hu (pv 4) (pv 6) (fun _ _=>rfl))) rfl)))))))
   (aK (bC (i:=4) fH.nd rfl (Or.inl rfl) (pv 5))))))))
   (aK (bF (pv 3))))))), ?_⟩
  refine ⟨_,rfl,t,c,a,cs,ns,rfl,R,ok,fun f H1 hf FA s1=> ?_⟩;intro w hw;have s2:=aJ (o:=HO.dT []) hw;intro l hl;have s3:=aJ (o:=HO.dT []) hl;have S3:=(s1.trans s2).trans s3;have R3:=R.same S3;have Y5:w≠l:=aL au hl;have hl2:(upd (upd H1 w (.dT [])) l (.dT [])) l=some (.dT []):=au;have hw2:=s3 _ _ (au (H:=H1) (a:=w) (o:=HO.dT []));have hl1:H1 l=none:=s2.free hl;refine ⟨_,rfl,_,_,_,_,rfl,rfl,eV.of R3.1,rfl,c,rfl,⟨_,bK.of R3.2.1⟩,fun p hp=> ?_⟩;refine oA (K:=K) (fun i=>some (.int 0)) hp (bK.of R3.2.1) (by rw [List.length_map];omega) (fun i v H4 G F hi s4 kG kF=>kF _ H4 (Same.refl _) rfl) (fun H4 s4 e4=> ?_);rw [List.length_map,Jp] at e4;refine ⟨p,_,rfl,.inl ⟨bK.of e4,fun q hq=> ?_⟩⟩;have s5:=aJ (o:=HO.tup ((List.replicate cs.length (0:Int)).map V.int)) hq;have s45:=s4.trans s5;refine ⟨q,iy (zs cs),rfl,by rw [au,yr];rfl,s45 _ _ hl2, ?_⟩
  have base:∀(H6:Hp) (o:HO),Same (upd (upd H1 w (.dT [])) l (.dT [])) H6->Same H1 (upd H6 l o):=fun H6 o s b u e=>by
   rw [cC (aL e hl1)];exact s _ _ ((s2.trans s3) _ _ e)
  have S6:=base _ (.dT [(iy (zs cs),V.int 1)]) s45;have hw6:(upd (upd H4 q (.tup ((List.replicate cs.length (0:Int)).map V.int))) l (.dT [(iy (zs cs),V.int 1)])) w=some (.dT (encK [])):=by rw [cC Y5];exact s45 _ _ hw2
  have hl6:(upd (upd H4 q (.tup ((List.replicate cs.length (0:Int)).map V.int))) l (.dT [(iy (zs cs),V.int 1)])) l=some (.dT (encK [(zs cs,1)])):=au;generalize (upd (upd H4 q (.tup ((List.replicate cs.length (0:Int)).map V.int))) l (.dT [(iy (zs cs),V.int 1)]))=H6 at S6 hw6 hl6 ⊢;clear s45 s5 s4 hq e4 hp base hl2 hw2 s3 S3 R3 hl;have hw1:H1 w=none:=hw;have c1:=s1 _ _ R.2.1;have R1:=R.same s1;rcases kk with ⟨rfl,kE⟩|⟨pm,p5,k⟩
  ·refine ⟨fun m σ H7=>σ=[some (.ref t),some (.int 0),some (.ref f),some (.ref w),some (.ref l),none,none,none,none]/\H7=H6,⟨0,rfl,rfl⟩, ?_⟩
   rintro m σ H7 ⟨rfl,rfl⟩;refine ⟨_,rfl,l,_,rfl,hl6, ?_⟩;refine ji ?_;refine ⟨fun _ _=>False,fun _ _ z=>z.elim, ?_⟩;refine ⟨_,rfl,.inr (.inr (.inl ⟨rfl,.inr ⟨_,hw6⟩⟩)),_,rfl,w,l,encK [],encK [(zs cs,1)],rfl,rfl,hw6,hl6, ?_, ?_, ?_, ?_⟩
   ·exact List.pairwise_singleton _ _
   ·exact fun _=>⟨_,rfl⟩
   ·show 1<=sizeLine;decide
   have kw:Kp w H7 (upd H7 w (.dT (encK []++encK [(zs cs,1)]))):=Kp.set;refine ⟨_,rfl,w,_,rfl,au,_,rfl,_,_,rfl,rfl,_,rfl, ?_⟩;refine ji ?_;refine ⟨(by show 1<=sizeLine;decide),kE _ fun b u e=>kw _ _ (S6 _ _ (s1 _ _ e)) (aL (s1 _ _ e) hw1)⟩
  refine ⟨fun m σ H7=>∃(n:Nat) (lat ws:List (List Int×Nat)) (l:Addr) (x1 x2 x3 x4:Option V),σ=[some (.ref t),some (.int most),some (.ref f),some (.ref w),some (.ref l),x1,x2,x3,x4]/\H7 w=some (.dT (encK ws))/\H7 l=some (.dT (encK lat))/\w≠l/\H1 l=none/\Same H1 H7/\Ks cs ns n lat ws/\m=(cs.sum+1 - n).toNat,
   ⟨_,0,[(zs cs,1)],[],l,none,none,none,none,rfl,hw6,hl6,Y5,hl1,S6,lay0 ok.1,rfl⟩, ?_⟩
  rintro m σ H7 ⟨n,lat,ws,l,x1,x2,x3,x4,rfl,hw7,hl7,Y5,hl1,S7,LA,rfl⟩;refine ⟨_,rfl,l,_,rfl,hl7, ?_⟩
  by_cases en:lat=[]
  ·subst en
   refine iM ?_;exact ⟨_,rfl,k w ws H7 hw7 (Ur LA) (s1.trans S7)⟩
  have ee:(!(encK lat).isEmpty)=true:=by cases lat with |nil=>exact absurd rfl en|cons p q=>rfl
  rw [ee];refine ji ?_;refine ⟨fun σ' H'=>∃m',m'<(cs.sum+1 - n).toNat /\ ∃(n:Nat) (lat ws:List (List Int×Nat)) (l:Addr) (x1 x2 x3 x4:Option V),σ'=[some (.ref t),some (.int most),some (.ref f),some (.ref w),some (.ref l),x1,x2,x3,x4]/\H' w=some (.dT (encK ws))/\H' l=some (.dT (encK lat))/\w≠l/\H1 l=none/\Same H1 H'/\Ks cs ns n lat ws/\m'=(cs.sum+1 - n).toNat,fun σ' H' h=>h, ?_⟩;obtain ⟨kn,kd⟩:=Ib LA;have am3:(ws++lat).length<=iW cs:=by have:=Ij kn kd;rwa [List.length_map] at this
  have Yp:encK ws++encK lat=encK (ws++lat):=by unfold encK;rw [List.map_append]
  have aaQ:(encK ws++encK lat).map (·.1)=((ws++lat).map (·.1)).map iy:=by rw [Yp];unfold encK;rw [List.map_map,List.map_map];rfl
  refine ⟨_,rfl,.inr (.inr (.inl ⟨rfl,.inr ⟨_,hw7⟩⟩)),_,rfl,w,l,encK ws,encK lat,rfl,rfl,hw7,hl7, ?_, ?_, ?_, ?_⟩
  ·rw [aaQ]
   exact List.pairwise_map.mpr (List.Pairwise.imp (fun {a b} ne e=>ne (u9 e)) kn)
  ·intro z
   have:ws=[]:=by cases ws with |nil=>rfl|cons p q=>cases z
   obtain ⟨y,rfl⟩:=LA.st this;exact ⟨_,rfl⟩
  ·rw [←List.length_append,Yp]
   unfold encK;rw [List.length_map,sizeLine_eq];omega
  rw [Yp];have kw:Kp w H7 (upd H7 w (.dT (encK (ws++lat)))):=Kp.set;have S8:Same H1 (upd H7 w (.dT (encK (ws++lat)))):=fun b u e=>kw _ _ (S7 _ _ e) (aL e hw1);have hl8:=kw _ _ hl7 Y5.symm;have hw8:(upd H7 w (.dT (encK (ws++lat)))) w=some (.dT (encK (ws++lat))):=au;generalize upd H7 w (.dT (encK (ws++lat)))=H8 at S8 hl8 hw8 ⊢;refine ⟨_,rfl,w,_,rfl,hw8,_,rfl,_,_,rfl,rfl,_,rfl, ?_⟩;rw [decide_eq_false (show ¬(((encK (ws++lat)).length:Nat):Int)>most by unfold encK;rw [List.length_map];omega)];refine iM ?_;dsimp only [PJ];intro g hg;have s9:=aJ (o:=HO.dT []) hg;have S9:=S8.trans s9;have hl9:=s9 _ _ hl8;have hw9:=s9 _ _ hw8;have hg9:(upd H8 g (.dT [])) g=some (.dT (encK [])):=au;have hg1:H1 g=none:=S8.free hg;have ngl:g≠l:=(aL hl8 hg).symm;have ngw:g≠w:=(aL hw8 hg).symm;generalize upd H8 g (.dT [])=H9 at S9 hl9 hw9 hg9 ⊢;refine ⟨_,rfl,l,_,rfl,hl9,fun ob=> ?_⟩;have kl:Kp l H9 (upd H9 l (.rM ob (.dT (encK lat)))):=Kp.set;have kfz:∀b u,H1 b=some u->(upd H9 l (.rM ob (.dT (encK lat)))) b=some u:=fun b u e=>kl _ _ (S9 _ _ e) (aL e hl1)
  refine Rf (fun i σ vR=>∃(fl:List (List Int×Nat)) (x2 x3 x4:Option V),σ=[some (.ref t),some (.int most),some (.ref f),some (.ref w),some (.ref l),some (.ref g),x2,x3,x4]/\Same H1 vR/\vR w=some (.dT (encK (ws++lat)))/\vR g=some (.dT (encK fl))/\vR l=some (.rM ob (.dT (encK lat)))/\(fl.map (·.1)).Nodup/\(∀ds∈fl.map (·.1),cR cs ds/\ds.sum=(n+1:Nat)) /\
   wsum fl (yu cs ns (cs.sum.toNat - n - 1))=wsum (lat.take i) fun ds=>((jP cs ns ds).map fun h=>yu cs ns (cs.sum.toNat - n - 1) (stp ds h)).sum)
   ⟨[],_,_,_,rfl,kfz,kl _ _ hw9 Y5,kl _ _ hg9 ngl,au,by simp,(fun ds hd=>by cases hd),rfl⟩ (fun i σ H _ ⟨_,_,_,_,_,_,_,_,e,_⟩=>e) ?_ ?_
  ·rintro i kk vv b σ vR hi hb ⟨fl,x2,x3,x4,rfl,S10,Dy,Yg,Yd,nf,fd,fw⟩
   obtain ⟨ds,v,ei,rfl,rfl⟩:∃(ds:List Int) (v:Nat),lat[i]? = some (ds,v)/\kk=iy ds/\vv=V.int (v:Nat):=by
    unfold encK at hi;rw [List.getElem?_map] at hi;cases e:lat[i]? with
    | none=>rw [e] at hi;cases hi
    | some p=>rw [e] at hi;cases hi;exact ⟨p.1,p.2,rfl,rfl,rfl⟩
   rw [yr] at hb;obtain ⟨dd,aaR⟩:=LA.ld ds (List.mem_map.mpr ⟨(ds,v),List.mem_of_getElem? ei,rfl⟩);have dl:=dd.1;have tk:lat.take (i+1)=lat.take i++[(ds,v)]:=by rw [List.take_add_one,ei];rfl
   have Vk:=R1.same S10;refine ⟨_,rfl,_,_,_,_,rfl,rfl,eV.of Vk.1,rfl,_,rfl,_,rfl,c,f,b,cs,ds,ns,rfl,Vk.2.1,FA.same S10,.inr (eV.of hb),ok,dl,fun q Kv hq aaA ZV=> ?_⟩;have fl8:=Oc cs ns ds;refine ⟨q,rfl,⟨_,bK.of aaA⟩, ?_⟩
   refine pF (K:=K) (a:=q) (xs:=(jP cs ns ds).map V.int) (fun j σ vJ=>∃(fl:List (List Int×Nat)) (x3 x4:Option V),σ=[some (.ref t),some (.int most),some (.ref f),some (.ref w),some (.ref l),some (.ref g),some (.ref b),x3,x4]/\Same H1 vJ/\vJ w=some (.dT (encK (ws++lat)))/\vJ g=some (.dT (encK fl))/\vJ l=some (.rM ob (.dT (encK lat)))/\vJ q=some (.lst ((jP cs ns ds).map V.int))/\vJ b=some (.tup (ds.map V.int))/\(fl.map (·.1)).Nodup/\(∀ds∈fl.map (·.1),cR cs ds/\ds.sum=(n+1:Nat)) /\
    wsum fl (yu cs ns (cs.sum.toNat - n - 1))=(wsum (lat.take i) fun ds=>((jP cs ns ds).map fun h=>yu cs ns (cs.sum.toNat - n - 1) (stp ds h)).sum)+v*(((jP cs ns ds).take j).map fun h=>yu cs ns (cs.sum.toNat - n - 1) (stp ds h)).sum)
    ⟨fl,x3,x4,rfl,S10.trans ZV,ZV _ _ Dy,ZV _ _ Yg,ZV _ _ Yd,aaA,ZV _ _ hb,nf,fd,by rw [fw];simp⟩ (fun j σ vJ _ ⟨_,_,_,_,_,_,_,_,e,_⟩=>bK.of e) ?_ ?_
   ·rintro j vv σ vJ hj ⟨fl,x3,x4,rfl,S12,BZ,Ye,Yc,X8,Q7,nf,fd,fw⟩
    rw [List.getElem?_map] at hj;cases ej:(jP cs ns ds)[j]? with
    | none=>rw [ej] at hj;cases hj
    | some h=>
      rw [ej] at hj;cases hj;obtain ⟨h0,h1,fr⟩:=Eo.mp (List.mem_of_getElem? ej);obtain ⟨hn,rfl⟩:=Int.eq_ofNat_of_zero_le h0;have hnl:hn<ds.length:=by omega
      have tkj:(jP cs ns ds).take (j+1)=(jP cs ns ds).take j++[(hn:Int)]:=by rw [List.take_add_one,ej];rfl
      refine ⟨_,rfl,_,rfl,_,rfl,_,_,rfl,eV.of Q7,by rw [List.length_map];exact T4 hnl,fun p1 hp1=> ?_⟩;rw [yt];have u1:=aJ (o:=HO.tup ((ds.map V.int).take hn)) hp1;refine ⟨_,rfl,_,rfl,_,_,_,_,rfl,rfl,eV.of (u1 _ _ Q7),gZ (by omega) (by omega),_,_,rfl,rfl,(by show 1<=sizeLine;decide),fun p2 hp2=> ?_⟩;have u2:=aJ (o:=HO.tup [V.int (gI ds (hn:Int)+1)]) hp2;have ts:ds.take hn++[gI ds (hn:Int)+1]++ds.drop (hn+1)=stp ds (hn:Int):=by rw [take_set hnl];rfl
      have fin:∀(z:Addr) (H':Hp),H' z=some (.tup ((ds.take hn++[gI ds (hn:Int)+1]).map V.int))->Same vJ H' -> ∀(p3:Addr),H' p3=none -> ∀(Q':VK),(∀(y:Addr) (Wh:Hp),Wh y=some (.tup ((stp ds (hn:Int)).map V.int))->Same vJ Wh->Q' (.ref y) Wh)->Qf K (.ref z) (.ref p3) (upd H' p3 (.tup ((ds.map V.int).drop (hn+1)))) Q':=fun z H' ez sm p3 hp3 Q' kQ=>by
       have u3:=aJ (o:=HO.tup ((ds.map V.int).drop (hn+1))) hp3;refine ⟨z,p3,_,_,rfl,rfl,eV.of (u3 _ _ ez),eV.of au,by rw [List.length_map,List.length_append,List.length_take,List.length_singleton,List.length_drop,List.length_map,sizeLine_eq];omega,fun e=> ?_,fun _ e=> ?_,fun _ _ p4 hp4=> ?_⟩
       ·have:((ds.take hn++[gI ds (hn:Int)+1]).map V.int).length=0:=by rw [e];rfl
        rw [List.length_map,List.length_append,List.length_singleton] at this;omega
       ·refine kQ z _ ?_ (sm.trans u3)
        rw [u3 _ _ ez,←ts]
        have:ds.drop (hn+1)=[]:=by
         have:=congrArg List.length e;rw [List.length_drop,List.length_map,List.length_nil] at this;exact List.drop_eq_nil_of_le (by omega)
        rw [this,List.append_nil]
       ·have u4:=aJ (o:=HO.tup ((ds.take hn++[gI ds (hn:Int)+1]).map V.int++(ds.map V.int).drop (hn+1))) hp4
        refine kQ p4 _ ?_ ((sm.trans u3).trans u4);rw [au,←ts,List.map_append (l₁:=ds.take hn++[gI ds (hn:Int)+1]),List.map_drop]
      have Zm:=u1.trans u2
      have two:∀(Q':VK),(∀(z:Addr) (H':Hp),H' z=some (.tup ((ds.take hn++[gI ds (hn:Int)+1]).map V.int))->Same vJ H'->Q' (.ref z) H')->Qf K (.ref p1) (.ref p2) (upd (upd vJ p1 (.tup ((ds.map V.int).take hn))) p2 (.tup [V.int (gI ds (hn:Int)+1)])) Q':=fun Q' kQ=>by
       refine ⟨p1,p2,_,_,rfl,rfl,eV.of (u2 _ _ au),eV.of au,by rw [List.length_take,List.length_map,List.length_singleton,sizeLine_eq];omega,fun e=> ?_,fun _ e=>(by cases e),fun _ _ p3 hp3=> ?_⟩
       ·have h00:hn=0:=by
         have:=congrArg List.length e;rw [List.length_take,List.length_map,List.length_nil] at this;omega
        refine kQ p2 _ ?_ Zm;rw [au,h00];rfl
       ·have u3:=aJ (o:=HO.tup ((ds.map V.int).take hn++[V.int (gI ds (hn:Int)+1)])) hp3
        refine kQ p3 _ ?_ (Zm.trans u3);rw [au,List.map_append,List.map_take];rfl
      refine two _ fun z Wg ez zB=> ?_;refine ⟨_,rfl,_,rfl,_,_,rfl,rfl,_,rfl,b,_,rfl,eV.of (zB _ _ Q7),by rw [List.length_map,show ((hn:Nat):Int)+1=((hn+1:Nat):Int) by omega];exact M6 hnl,fun p3 hp3=> ?_⟩;rw [show ((hn:Nat):Int)+1=((hn+1:Nat):Int) by omega,Cm];refine fin z Wg ez zB p3 hp3 _ fun y Zk ey Qc=> ?_;have Q5:=Qc _ _ Ye;have aaD:=Qc _ _ Yc;have Yj:=Qc _ _ Q7;have ey':Zk y=some (.tup ((iy (stp ds (hn:Int))).map kV)):=by rw [yr];exact ey
      have hb':Zk b=some (.tup ((iy ds).map kV)):=by rw [yr];exact Yj
      refine ⟨_,rfl,g,rfl,.inr ⟨_,.inl Q5⟩,_,rfl,_,qI.t (k:=iy (stp ds (hn:Int))) Q5 ey', ?_⟩;rw [FJ];refine ⟨_,rfl,_,rfl,l,_,rfl,.inr ⟨_,iy ds,b,.inr ⟨ob,aaD⟩,rfl,hb',(Wm LA.nl ei).symm⟩,_,_,rfl,rfl,_,rfl,_,rfl,g,_,rfl,D_.t (k:=iy (stp ds (hn:Int))) Q5 ey' ?_, ?_⟩
      ·have:(fl.map (·.1)).length<=iW cs:=Ij nf fun ds hd=>(fd ds hd).1
       rw [List.length_map] at this;unfold encK;rw [List.length_map,sizeLine_eq];omega
      rw [Tr nf];have kg:Kp g Zk (upd Zk g (.dT (encK (tE fl (stp ds (hn:Int)) v)))):=Kp.set;refine ⟨tE fl (stp ds (hn:Int)) v,_,_,rfl,fun x u e=>kg _ _ ((S12.trans Qc) _ _ e) (aL e hg1),kg _ _ (Qc _ _ BZ) ngw.symm,au,kg _ _ aaD ngl.symm,kg _ _ (Qc _ _ X8) ?_,kg _ _ Yj (tK Yj Q5 (fun z=>nomatch z)),Oz nf _ _,fun ds' hd'=> ?_, ?_⟩
      ·exact tK (Qc _ _ X8) Q5 (fun z=>nomatch z)
      ·rcases Vh hd' with rfl|hd'
       ·exact ⟨P0 dd h0 h1 fr,by rw [KR dd h0 h1,aaR];omega⟩
       ·exact fd ds' hd'
      ·rw [G7,fw,tkj,List.map_append,List.sum_append,Nat.mul_add]
       simp only [List.map_cons,List.map_nil,List.sum_cons,List.sum_nil,Nat.add_zero];omega
   ·rintro σ vJ ⟨fl,x3,x4,rfl,S12,BZ,Ye,Yc,X8,Q7,nf,fd,fw⟩
    refine ⟨fl,_,_,_,rfl,S12,BZ,Ye,Yc,nf,fd, ?_⟩;rw [List.length_map,List.take_length] at fw;rw [fw,tk];unfold wsum;rw [List.map_append,List.sum_append];simp
  ·rintro σ vR ⟨fl,x2,x3,x4,rfl,S10,Dy,Yg,Yd,nf,fd,fw⟩
   have ah_:(encK lat).length=lat.length:=by unfold encK;rw [List.length_map]
   rw [ah_,List.take_length] at fw;obtain ⟨LB,nle⟩:=lay_next LA en nf fd fw;refine ⟨_,⟨l,_,ob,_,hl9,Yd,rfl⟩, ?_⟩;have kl2:Kp l vR (upd vR l (.dT (encK lat))):=Kp.set;refine ⟨_,rfl, ?_⟩;exact ⟨_,by omega,n+1,fl,ws++lat,g,_,_,_,_,rfl,kl2 _ _ Dy Y5,kl2 _ _ Yg ngl,ngw.symm,hg1,fun x u e=>kl2 _ _ (S10 _ _ e) (aL e hl1),LB,rfl⟩
def Bd (CN CT:Addr) (K:PySem.W.Frag):Sp:=fun vs H Q E=>∃(t c a:Addr) (cs:List Int) (ns:List Nt) (most:Int),vs=[.ref t,.int most]/\RecAt H t c a cs ns/\oF cs/\ns.length<=200/\(eU cs ns->iz cs ns)/\(¬eU cs ns -> ∀H',Same H H'->E (.ref CN) none H')/\((most=0/\(eU cs ns -> ∀H',Same H H'->E (.ref CT) none H'))\/((iW cs:Int)<=most/\iW cs<=5000/\(eU cs ns -> ∀H',Same H H'->Q (.int (yu cs ns cs.sum.toNat (zs cs):Nat)) H')))
theorem Ua {tk:Tok} {f:Addr} {fd:FuncData} (F:OD K "how_many_orders" "how_many_orders" bW [.int 2000 tk] f fd) {ak aC aq ao aQ bV bA bx aV aP aW bw bU aO:Addr} (dW:Xr K mg ak "NoNote") (dZ:Xr K mg aC "NoCut") (cU:Xr K mg aq "NoOrder") (cT:Xr K mg ao "TooMany") (d9:Xo K mg ak aQ "NoteError" true) (jm:Xo K mg ak bV "Held" false) (gk:Xo K mg ak bA "NoForm" false) (gb:Xo K mg ak bx "NoHand" false) (fj:Xo K mg ak aV "NoneYet" false) (eN:Xo K mg ak aP "NoNumber" false) (fu:Xo K mg ak aW "NoPlace" false) (fZ:Xo K mg ak bw "NoText" false) (jl:Xo K mg ak bU "Over" false) (eG:Xo K mg ak aO "RowError" false) (dH:aG K ak aC false) (cO:aG K ak aq false) (cN:aG K ak ao false) (dJ:aG K aC ak false) (dh:aG K aC aq false) (cY:aG K aC ao false) (cB:aG K aC aQ true) (eF:aG K aC bV false) (dN:aG K aC bA false) (dM:aG K aC bx false) (cZ:aG K aC aV false) (cQ:aG K aC aP false) (dg:aG K aC aW false) (dI:aG K aC bw false) (eE:aG K aC bU false) (cP:aG K aC aO false) (cJ:aG K aq ak false) (cX:aG K aq aC false) (cj:aG K aq ao false) (bJ:aG K aq aQ true) (dG:aG K aq bV false) (cM:aG K aq bA false) (cL:aG K aq bx false) (cu:aG K aq aV false) (bR:aG K aq aP false) (cA:aG K aq aW false) (cI:aG K aq bw false) (dF:aG K aq bU false) (bQ:aG K aq aO false) (cF:aG K ao ak false) (cW:aG K ao aC false) (cg:aG K ao aq false) (bI:aG K ao aQ true) (dD:aG K ao bV false) (cH:aG K ao bA false) (cG:aG K ao bx false) (bZ:aG K ao aV false) (bO:aG K ao aP false) (b_:aG K ao aW false) (cD:aG K ao bw false) (dB:aG K ao bU false) (bN:aG K ao aO false) (dz:fM P w K mg base 4 "check_notes" ["record"] (iU ak K)) (qH:fM P w K mg base 4 "ways_to_cuts" ["record","most"] (zW ao K)) (Bt:tU mg):gn P w K mg base (vU P w) 5 f fd ["record","most"] (Bd ak ao K):=by
 refine F.Jl wR (fun vs H Q E h=> ?_) (fun cdv A outer s H vs Q E hr h hR=> ?_)
 ·obtain ⟨t,c,a,cs,ns,most,rfl,_⟩:=h
  rfl
 ·obtain ⟨t,c,a,cs,ns,most,rfl,R,m5,J0,vo,kX,kk⟩:=h
  have hu:=yj hr
  refine ⟨_,(aF (eZ (gQ dz rfl hR (hr.mono (by decide)) (by rfl) (aj (pv 0) aA)))
   (aK (bF (xY hu (gQ qH rfl hR (hr.mono (by decide)) (by rfl) (aj (pv 0) (aj (pv 1) aA))) (gW vY (by rfl) Bt.GQ Cw (aj (aU (aY (K:=K) rfl) (pv 0) aB (fun _ _=>rfl)) aA)) aB ⟨rfl,rfl,rfl,rfl⟩)))), ?_⟩
  refine ⟨_,rfl,t,c,a,cs,ns,rfl,R,m5,J0,fun al H1 s1=> ?_,kX⟩;have ok:=vo al;rcases kk with ⟨rfl,kT⟩|⟨pm,p5,k⟩
  ·exact ⟨_,rfl,_,rfl,t,c,a,cs,ns,0,rfl,R.same s1,ok,.inl ⟨rfl,fun H2 s2=>kT al H2 (s1.trans s2)⟩⟩
  refine ⟨_,rfl,_,rfl,t,c,a,cs,ns,most,rfl,R.same s1,ok,.inr ⟨pm,p5,fun w l H2 ew eg s2=> ?_⟩⟩;have R2:=(R.same s1).same s2;refine ⟨w,rfl,.inr ⟨_,.inl ew⟩,_,rfl,_,_,_,_,rfl,rfl,eV.of R2.1,rfl,c,_,rfl,.inl ⟨bK.of R2.2.1,fun q hq=> ?_⟩⟩;have sq:=aJ (o:=HO.tup (cs.map V.int)) hq;refine ⟨_,qI.t (k:=iy cs) (sq _ _ ew) (by rw [au,yr]), ?_⟩;rw [FJ,eg];exact k al _ ((s1.trans s2).trans sq)
def Bf (CN CT:Addr) (K:PySem.W.Frag):Sp:=fun vs H Q E=>∃(t c a:Addr) (cs:List Int) (ns:List Nt) (most:Int),vs=[.ref t,.int most]/\RecAt H t c a cs ns/\oF cs/\ns.length<=200/\(eU cs ns->iz cs ns)/\(¬eU cs ns -> ∀H',Same H H'->E (.ref CN) none H')/\((most=0/\(eU cs ns -> ∀H',Same H H'->E (.ref CT) none H'))\/((iW cs:Int)<=most/\iW cs<=5000/\(eU cs ns -> ∀(n:Nat) H',Same H H'->Q (.int (n:Nat)) H')))
theorem Ub {tk:Tok} {f:Addr} {fd:FuncData} (F:OD K "how_many_cuts" "how_many_cuts" cV [.int 2000 tk] f fd) {ak aC aq ao aQ bV bA bx aV aP aW bw bU aO:Addr} (dW:Xr K mg ak "NoNote") (dZ:Xr K mg aC "NoCut") (cU:Xr K mg aq "NoOrder") (cT:Xr K mg ao "TooMany") (d9:Xo K mg ak aQ "NoteError" true) (jm:Xo K mg ak bV "Held" false) (gk:Xo K mg ak bA "NoForm" false) (gb:Xo K mg ak bx "NoHand" false) (fj:Xo K mg ak aV "NoneYet" false) (eN:Xo K mg ak aP "NoNumber" false) (fu:Xo K mg ak aW "NoPlace" false) (fZ:Xo K mg ak bw "NoText" false) (jl:Xo K mg ak bU "Over" false) (eG:Xo K mg ak aO "RowError" false) (dH:aG K ak aC false) (cO:aG K ak aq false) (cN:aG K ak ao false) (dJ:aG K aC ak false) (dh:aG K aC aq false) (cY:aG K aC ao false) (cB:aG K aC aQ true) (eF:aG K aC bV false) (dN:aG K aC bA false) (dM:aG K aC bx false) (cZ:aG K aC aV false) (cQ:aG K aC aP false) (dg:aG K aC aW false) (dI:aG K aC bw false) (eE:aG K aC bU false) (cP:aG K aC aO false) (cJ:aG K aq ak false) (cX:aG K aq aC false) (cj:aG K aq ao false) (bJ:aG K aq aQ true) (dG:aG K aq bV false) (cM:aG K aq bA false) (cL:aG K aq bx false) (cu:aG K aq aV false) (bR:aG K aq aP false) (cA:aG K aq aW false) (cI:aG K aq bw false) (dF:aG K aq bU false) (bQ:aG K aq aO false) (cF:aG K ao ak false) (cW:aG K ao aC false) (cg:aG K ao aq false) (bI:aG K ao aQ true) (dD:aG K ao bV false) (cH:aG K ao bA false) (cG:aG K ao bx false) (bZ:aG K ao aV false) (bO:aG K ao aP false) (b_:aG K ao aW false) (cD:aG K ao bw false) (dB:aG K ao bU false) (bN:aG K ao aO false) (dz:fM P w K mg base 4 "check_notes" ["record"] (iU ak K)) (qH:fM P w K mg base 4 "ways_to_cuts" ["record","most"] (zW ao K)) (Bt:tU mg):gn P w K mg base (vU P w) 5 f fd ["record","most"] (Bf ak ao K):=by
 refine F.Jl za (fun vs H Q E h=> ?_) (fun cdv A outer s H vs Q E hr h hR=> ?_)
 ·obtain ⟨t,c,a,cs,ns,most,rfl,_⟩:=h
  rfl
 ·obtain ⟨t,c,a,cs,ns,most,rfl,R,m5,J0,vo,kX,kk⟩:=h
  refine ⟨_,(aF (eZ (gQ dz rfl hR (hr.mono (by decide)) (by rfl) (aj (pv 0) aA)))
   (aK (bF (aX Fj (by rfl) Bt.fL d8 (aj (gQ qH rfl hR (hr.mono (by decide)) (by rfl) (aj (pv 0) (aj (pv 1) aA))) aA))))), ?_⟩
  refine ⟨_,rfl,t,c,a,cs,ns,rfl,R,m5,J0,fun al H1 s1=> ?_,kX⟩;have ok:=vo al;rcases kk with ⟨rfl,kT⟩|⟨pm,p5,k⟩
  ·exact ⟨_,rfl,_,rfl,t,c,a,cs,ns,0,rfl,R.same s1,ok,.inl ⟨rfl,fun H2 s2=>kT al H2 (s1.trans s2)⟩⟩
  refine ⟨_,rfl,_,rfl,t,c,a,cs,ns,most,rfl,R.same s1,ok,.inr ⟨pm,p5,fun w l H2 ew eg s2=> ?_⟩⟩;exact ⟨w,_,rfl,ew,k al _ _ (s1.trans s2)⟩
def lds (x y:Nt):Prop:=x.2.2.1=y.1/\x.2.2.2<=y.2.1
inductive Mj (ns:List Nt) (h k:Int):List Nt->Int->Int->Prop
 | nil:Mj ns h k [] h k
 | snoc {c:List Nt} {g m:Int} {x:Nt}:Mj ns h k c g m->x∈ns->x.1=g->m<=x.2.1->Mj ns h k (c++[x]) x.2.2.1 x.2.2.2
structure Best (ns:List Nt) (h k:Int) (n:Nat) (D:List (Int×Int×List Nt)):Prop where
 nd:(D.map (·.1)).Nodup
 ch:∀e∈D,Mj ns h k e.2.2 e.1 e.2.1/\e.2.2.length=n
 le:∀c g m,Mj ns h k c g m->c.length=n -> ∃e∈D,e.1=g/\e.2.1<=m
def jA (D:List (Int×Int×List Nt)) (g:Int):Option (Int×List Nt):=(D.find? fun e=>decide (e.1=g)).map (·.2)
theorem rC {D:List (Int×Int×List Nt)} {g:Int} {r:Int×List Nt} (h:jA D g=some r):(g,r)∈D:=by
 unfold jA at h;cases e:D.find? (fun e=>decide (e.1=g)) with
 | none=>rw [e] at h;cases h
 | some q=>
   rw [e] at h;cases h;have h1:=List.find?_some e;have h2:=List.mem_of_find?_eq_some e;have:q.1=g:=of_decide_eq_true h1;rw [←this];exact h2
theorem wY {D:List (Int×Int×List Nt)} {g:Int} (h:jA D g=none):∀e∈D,e.1≠g:=by
 unfold jA at h;cases e:D.find? (fun e=>decide (e.1=g)) with
 | some q=>rw [e] at h;cases h
 | none=>
   intro q hq z;have:=List.find?_eq_none.mp e q hq;exact this (decide_eq_true z)
theorem BL {D:List (Int×Int×List Nt)} (nd:(D.map (·.1)).Nodup) {e:Int×Int×List Nt} (h:e∈D):jA D e.1=some e.2:=by
 induction D with
 | nil=>cases h
 | cons q D ih=>
   rw [List.map_cons,List.nodup_cons] at nd;unfold jA;rw [List.find?_cons];rcases List.mem_cons.mp h with rfl|h
   ·simp
   ·have:¬q.1=e.1:=fun z=>nd.1 (by rw [z];exact List.mem_map.mpr ⟨e,h,rfl⟩)
    simp only [this,decide_false];exact ih nd.2 h
def put3 (D:List (Int×Int×List Nt)) (g:Int) (r:Int×List Nt):List (Int×Int×List Nt):=if (jA D g).isSome then D.map fun e=>if e.1=g then (g,r) else e else D++[(g,r)]
theorem MN (D:List (Int×Int×List Nt)) (g:Int) (r:Int×List Nt):(put3 D g r).map (·.1)=if (jA D g).isSome then D.map (·.1) else D.map (·.1)++[g]:=by
 unfold put3;split
 ·rw [List.map_map]
  refine List.map_congr_left fun e _=> ?_;show (if e.1=g then (g,r) else e).1=e.1;split
  ·rename_i z;exact z.symm
  ·rfl
 ·rw [List.map_append];rfl
theorem Tt {D:List (Int×Int×List Nt)} (nd:(D.map (·.1)).Nodup) (g:Int) (r:Int×List Nt):((put3 D g r).map (·.1)).Nodup:=by
 rw [MN];cases e:jA D g with
 | some q=>exact nd
 | none=>
   simp only [Option.isSome_none,Bool.false_eq_true,if_false];refine List.nodup_append.mpr ⟨nd,by simp,fun a ha b hb=> ?_⟩;have:b=g:=by simpa using hb
   subst this;obtain ⟨q,hq,rfl⟩:=List.mem_map.mp ha;exact wY e q hq
theorem Qg {D:List (Int×Int×List Nt)} {g:Int} {r:Int×List Nt} {e:Int×Int×List Nt} (h:e∈put3 D g r):e=(g,r)\/(e∈D/\e.1≠g):=by
 unfold put3 at h;cases q:jA D g with
 | some z=>
   rw [q] at h;simp only [Option.isSome_some,if_true] at h;obtain ⟨y,hy,rfl⟩:=List.mem_map.mp h
   by_cases w:y.1=g
   ·left;rw [if_pos w]
   ·right;rw [if_neg w];exact ⟨hy,w⟩
 | none=>
   rw [q] at h;simp only [Option.isSome_none,Bool.false_eq_true,if_false] at h;rcases List.mem_append.mp h with h|h
   ·exact .inr ⟨h,wY q e h⟩
   ·left;simpa using h
theorem MK (D:List (Int×Int×List Nt)) (g:Int) (r:Int×List Nt):(g,r)∈put3 D g r:=by
 unfold put3;cases q:jA D g with
 | some z=>
   simp only [Option.isSome_some,if_true];exact List.mem_map.mpr ⟨_,rC q,by simp⟩
 | none=>simp
theorem JM {D:List (Int×Int×List Nt)} {g:Int} {r:Int×List Nt} {e:Int×Int×List Nt} (h:e∈D) (ne:e.1≠g):e∈put3 D g r:=by
 unfold put3;cases q:jA D g with
 | some z=>
   simp only [Option.isSome_some,if_true];exact List.mem_map.mpr ⟨e,h,by rw [if_neg ne]⟩
 | none=>simp [h]
def pU (C:List (Int×Int×List Nt)) (L:List (Int×Int×List Nt)) (x:Nt):List (Int×Int×List Nt):=
 match jA C x.1 with
 | none=>L
 | some r=>if r.1<=x.2.1 then (match jA L x.2.2.1 with
    | none=>put3 L x.2.2.1 (x.2.2.2,r.2++[x])
    | some q=>if x.2.2.2<q.1 then put3 L x.2.2.1 (x.2.2.2,r.2++[x]) else L) else L
def H_ (ns:List Nt) (C:List (Int×Int×List Nt)):List (Int×Int×List Nt):=ns.foldl (pU C) []
structure Half (ns ms:List Nt) (h k:Int) (n:Nat) (L:List (Int×Int×List Nt)):Prop where
 nd:(L.map (·.1)).Nodup
 ch:∀e∈L,Mj ns h k e.2.2 e.1 e.2.1/\e.2.2.length=n+1
 le:∀c g m x,Mj ns h k c g m->c.length=n->x∈ms->x.1=g->m<=x.2.1 -> ∃e∈L,e.1=x.2.2.1/\e.2.1<=x.2.2.2
theorem N6 {ns ms:List Nt} {h k:Int} {n:Nat} {C L:List (Int×Int×List Nt)} (B:Best ns h k n C) (A:Half ns ms h k n L) {x:Nt} (hx:x∈ns):Half ns (ms++[x]) h k n (pU C L x):=by
 unfold pU;cases e:jA C x.1 with
 | none=>
   refine ⟨A.nd,A.ch,fun c g m y hc hl hy e1 e2=> ?_⟩;rcases List.mem_append.mp hy with hy|hy
   ·exact A.le c g m y hc hl hy e1 e2
   ·have:y=x:=by simpa using hy
    subst this;obtain ⟨q,hq,q1,q2⟩:=B.le c g m hc hl;exact absurd (q1.trans e1.symm) (wY e q hq)
 | some r=>
   have hr:=rC e;obtain ⟨rc,rl⟩:=B.ch _ hr;dsimp only
   by_cases w:r.1<=x.2.1
   rotate_left
   ·rw [if_neg w]
    refine ⟨A.nd,A.ch,fun c g m y hc hl hy e1 e2=> ?_⟩;rcases List.mem_append.mp hy with hy|hy
    ·exact A.le c g m y hc hl hy e1 e2
    ·have:y=x:=by simpa using hy
     subst this;obtain ⟨q,hq,q1,q2⟩:=B.le c g m hc hl;have:=BL B.nd hq;rw [q1,←e1,e] at this;cases this;exact absurd (Int.le_trans q2 e2) w
   rw [if_pos w];have new:Mj ns h k (r.2++[x]) x.2.2.1 x.2.2.2:= .snoc rc hx rfl w
   have put:((∀q,jA L x.2.2.1=some q->x.2.2.2<=q.1))->Half ns (ms++[x]) h k n (put3 L x.2.2.1 (x.2.2.2,r.2++[x])):=fun ge=>by
    refine ⟨Tt A.nd _ _,fun y hy=> ?_,fun c g m y hc hl hy e1 e2=> ?_⟩
    ·rcases Qg hy with rfl|⟨hy,_⟩
     ·exact ⟨new,by rw [List.length_append,rl];rfl⟩
     ·exact A.ch y hy
    ·by_cases z:y.2.2.1=x.2.2.1
     ·refine ⟨_,MK L x.2.2.1 (x.2.2.2,r.2++[x]),z.symm, ?_⟩
      rcases List.mem_append.mp hy with hy|hy
      ·obtain ⟨q,hq,q1,q2⟩:=A.le c g m y hc hl hy e1 e2
       have:=BL A.nd hq;rw [q1,z] at this;have:=ge _ this;show x.2.2.2<=y.2.2.2;omega
      ·have:y=x:=by simpa using hy
       subst this;exact Int.le_refl _
     ·rcases List.mem_append.mp hy with hy|hy
      ·obtain ⟨q,hq,q1,q2⟩:=A.le c g m y hc hl hy e1 e2
       exact ⟨q,JM hq (fun v=>z (q1.symm.trans v)),q1,q2⟩
      ·have:y=x:=by simpa using hy
       subst this;exact absurd rfl z
   cases f:jA L x.2.2.1 with
   | none=>exact put fun q z=>by rw [f] at z;cases z
   | some q=>
     dsimp only
     by_cases v:x.2.2.2<q.1
     ·rw [if_pos v]
      exact put fun q' z=>by rw [f] at z;cases z;omega
     ·rw [if_neg v]
      refine ⟨A.nd,A.ch,fun c g m y hc hl hy e1 e2=> ?_⟩;rcases List.mem_append.mp hy with hy|hy
      ·exact A.le c g m y hc hl hy e1 e2
      ·have:y=x:=by simpa using hy
       subst this;exact ⟨_,rC f,rfl,by show q.1<=_;omega⟩
theorem U8 {ns:List Nt} {h k:Int} {n:Nat} {c:List Nt} {g m:Int} (hc:Mj ns h k c g m) (hl:c.length=n+1):∃c' x m',c=c'++[x]/\Mj ns h k c' x.1 m'/\c'.length=n/\x∈ns/\m'<=x.2.1/\g=x.2.2.1/\m=x.2.2.2:=by
 cases hc with
 | nil=>cases hl
 | @snoc c' g' m' x hc' hx e1 e2=>
   subst e1;exact ⟨c',x,m',rfl,hc',by simpa using hl,hx,e2,rfl,rfl⟩
theorem N_ {ns:List Nt} {h k:Int} {n:Nat} {L:List (Int×Int×List Nt)} (A:Half ns ns h k n L):Best ns h k (n+1) L:=by
 refine ⟨A.nd,A.ch,fun c g m hc hl=> ?_⟩;obtain ⟨c',x,m',rfl,hc',hl',hx,e2,rfl,rfl⟩:=U8 hc hl;exact A.le c' x.1 m' x hc' hl' hx rfl e2
theorem aaG (ns:List Nt) (h k:Int) (n:Nat):Half ns [] h k n []:=⟨by simp,fun e he=>(by cases he),fun c g m x _ _ hx=>(by cases hx)⟩
theorem abx (ns:List Nt) (h k:Int):Best ns h k 0 [(h,k,[])]:=by
 refine ⟨by simp,fun e he=> ?_,fun c g m hc hl=> ?_⟩
 ·have:e=(h,k,[]):=by simpa using he
  subst this;exact ⟨.nil,rfl⟩
 ·cases hc with
  | nil=>exact ⟨_,List.mem_singleton.mpr rfl,rfl,Int.le_refl _⟩
  | snoc _ _ _ _=>simp at hl
def rJ (ns:List Nt) (h k:Int) (c:List Nt):Prop:=c≠[] /\ ∃m,Mj ns h k c h m/\m<=k
abbrev Jk:=List (Int×Int×List Nt)
def Di (B H:Hp) (p:Key×V) (e:Int×Int×List Nt):Prop:=p.1=Sum.inl e.1 /\ ∃t l,p.2 = .ref t/\H t=some (.tup [.int e.2.1,.ref l])/\gA H l e.2.2/\B l=none
def xJ (B H:Hp):List (Key×V)->Jk->Prop
 | [],[]=>True
 | p::ps,e::es=>Di B H p e/\xJ B H ps es
 | _,_=>False
def RQ (B H:Hp) (d:Addr) (D:Jk):Prop:=∃kvs,H d=some (.dK kvs)/\xJ B H kvs D
theorem xJ.imp {B H H':Hp} (f:∀p e,Di B H p e->Di B H' p e):∀{kvs:List (Key×V)} {D:Jk},xJ B H kvs D->xJ B H' kvs D
 | [],[],_=>True.intro
 | _::_,_::_,h=>⟨f _ _ h.1,xJ.imp f h.2⟩
 | [],_::_,h=>h.elim
 | _::_,[],h=>h.elim
theorem Di.same {B H H':Hp} (s:Same H H') {p:Key×V} {e:Int×Int×List Nt} (h:Di B H p e):Di B H' p e:=by
 obtain ⟨e1,t,l,e2,e3,e4,e5⟩:=h;exact ⟨e1,t,l,e2,s _ _ e3,e4.same s,e5⟩
theorem Di.kp {B H H':Hp} {d:Addr} {ks:List (Key×V)} (hd:H d=some (.dK ks)) (k:Kp d H H') {p:Key×V} {e:Int×Int×List Nt} (h:Di B H p e):Di B H' p e:=by
 obtain ⟨e1,t,l,e2,e3,e4,e5⟩:=h;have tp:=k.tups' hd;obtain ⟨vs,q1,_⟩:=id e4;exact ⟨e1,t,l,e2,tp _ _ e3,e4.kp tp k (tK q1 hd (fun z=>nomatch z)),e5⟩
theorem xJ.length {B H:Hp}:∀{kvs:List (Key×V)} {D:Jk},xJ B H kvs D->kvs.length=D.length
 | [],[],_=>rfl
 | _::_,_::_,h=>by rw [List.length_cons,List.length_cons,xJ.length h.2]
 | [],_::_,h=>h.elim
 | _::_,[],h=>h.elim
theorem xJ.val {B H:Hp} (g:Int):∀{kvs:List (Key×V)} {D:Jk},xJ B H kvs D->(gR kvs (Sum.inl g)=none/\jA D g=none) \/ ∃r t l,gR kvs (Sum.inl g)=some (.ref t)/\jA D g=some r/\H t=some (.tup [.int r.1,.ref l])/\gA H l r.2/\B l=none
 | [],[],_=> .inl ⟨rfl,rfl⟩
 | [],_::_,h=>h.elim
 | _::_,[],h=>h.elim
 | p::ps,e::es,h=>by
   obtain ⟨⟨e1,t,l,e2,e3,e4,e5⟩,h2⟩:=h
   by_cases q:e.1=g
   ·refine .inr ⟨e.2,t,l, ?_, ?_,e3,e4,e5⟩
    ·rw [jo (by rw [e1,q]),e2]
    ·unfold jA;rw [List.find?_cons];simp [q]
   ·have ih:=xJ.val g h2
    rw [jq (by rw [e1];intro z;exact q (Sum.inl.inj z))];have:jA (e::es) g=jA es g:=by unfold jA;rw [List.find?_cons];simp [q]
    rw [this];exact ih
theorem xJ.repl {B H:Hp} {g m:Int} {c:List Nt} {t l:Addr} (ht:H t=some (.tup [.int m,.ref l])) (hl:gA H l c) (bl:B l=none):∀{kvs:List (Key×V)} {D:Jk},xJ B H kvs D->xJ B H (kvs.map fun kv=>if kv.1=Sum.inl g then (kv.1,V.ref t) else kv) (D.map fun e=>if e.1=g then (g,(m,c)) else e)
 | [],[],_=>True.intro
 | [],_::_,h=>h.elim
 | _::_,[],h=>h.elim
 | p::ps,e::es,h=>by
   obtain ⟨h1,h2⟩:=h;refine ⟨?_,xJ.repl ht hl bl h2⟩;have e1:=h1.1;dsimp only
   by_cases q:e.1=g
   ·rw [if_pos (show p.1=Sum.inl g by rw [e1,q]),if_pos q]
    exact ⟨by rw [←q];exact e1,t,l,rfl,ht,hl,bl⟩
   ·rw [if_neg (show ¬p.1=Sum.inl g by rw [e1];intro z;exact q (Sum.inl.inj z)),if_neg q]
    exact h1
theorem xJ.snoc {B H:Hp} {p:Key×V} {e:Int×Int×List Nt} (h:Di B H p e):∀{kvs:List (Key×V)} {D:Jk},xJ B H kvs D->xJ B H (kvs++[p]) (D++[e])
 | [],[],_=>⟨h,True.intro⟩
 | [],_::_,h=>h.elim
 | _::_,[],h=>h.elim
 | _::_,_::_,h'=>⟨h'.1,xJ.snoc h h'.2⟩
theorem xJ.put {B H:Hp} {g m:Int} {c:List Nt} {t l:Addr} (ht:H t=some (.tup [.int m,.ref l])) (hl:gA H l c) (bl:B l=none) {kvs:List (Key×V)} {D:Jk} (h:xJ B H kvs D):xJ B H (putK kvs (Sum.inl g) (.ref t)) (put3 D g (m,c)):=by
 unfold putK put3;rw [uN];rcases h.val g with ⟨e1,e2⟩|⟨r,t',l',e1,e2,_⟩
 ·rw [e1,e2]
  exact xJ.snoc ⟨rfl,t,l,rfl,ht,hl,bl⟩ h
 ·rw [e1,e2]
  exact xJ.repl ht hl bl h
theorem Ms (C L:Jk) (x:Nt):(pU C L x).length<=L.length+1:=by
 have p:∀g r,(put3 L g r).length<=L.length+1:=fun g r=>by
  unfold put3;split
  ·rw [List.length_map];omega
  ·rw [List.length_append];exact Nat.le_refl _
 unfold pU;split
 ·omega
 ·split
  ·split
   ·exact p _ _
   ·split
    ·exact p _ _
    ·omega
  ·omega
theorem La {c A B:Prop} [Decidable c] (P:Prop) (hA:P->A) (hc:c->P) (hB:¬c->(P->A)->B):if c then A else B:=by
 by_cases h:c
 ·rw [if_pos h];exact hA (hc h)
 ·rw [if_neg h];exact hB h hA
def Ba (K:PySem.W.Frag):Sp:=fun vs H Q _=>∃(t c a d:Addr) (cs:List Int) (ns:List Nt) (C:Jk) (B:Hp),vs=[.ref t,.ref d]/\Same B H/\RecAt H t c a cs ns/\ns.length<=200/\RQ B H d C/\(∀e∈C,e.2.2.length<=100) /\ ∀(d':Addr) (H':Hp),H d'=none->RQ B H' d' (H_ ns C)->Same H H'->Q (.ref d') H'
theorem Nb {f:Addr} {fd:FuncData} (F:qj K "longer_chains" "longer_chains" fJ f fd):gn P w K mg base tV 1 f fd ["record","chains"] (Ba K):=by
 refine F.ok jR (fun vs H Q E h=> ?_) (fun cdv A outer s H vs Q E hr h=> ?_)
 ·obtain ⟨t,c,a,d,cs,ns,C,B,rfl,_⟩:=h
  rfl
 ·obtain ⟨t,c,a,d,cs,ns,C,B,rfl,sB,R,nl,⟨kc,hd,cr⟩,cl,k⟩:=h
  have hu:=yj hr;obtain ⟨ht,hc,V0,ha,dn⟩:=id R;have Y6:V0.length=ns.length:=by rw [dn.length,List.length_map]
  refine ⟨_,(aF (bC (i:=2) jR.nd rfl (Or.inl rfl) Hv)
   (aF (mV PassesOwn.never rfl (fP (K:=K) rfl (aU (aY (K:=K) rfl) (pv 0) aB (fun _ _=>rfl))) (bY (i:=3) jR.nd rfl (Or.inl rfl))
   (aF (bC (i:=4) jR.nd rfl (Or.inl rfl) (Hw hu (pv 1) (aU (aY (K:=K) rfl) (pv 3) aB (fun _ _=>rfl)) ⟨rfl,rfl,rfl,rfl⟩))
   (aK (dU (PW.pt (jf (aZ vA (pv 4) mW (bB _)) (iC (aZ Lb (aU (aY (K:=K) rfl) (pv 4) aB (fun _ _=>rfl)) (aU (aY (K:=K) rfl) (pv 3) aB (fun _ _=>rfl)) (bB _))))) (aK (dU (PW.pt (qM (W9 (M5 hu (aU (aY (K:=K) rfl) (pv 3) aB (fun _ _=>rfl)) (pv 2))) (pA (aZ uY (aU (aY (K:=K) rfl) (pv 3) aB (fun _ _=>rfl)) (aU (Ae (K:=K) rfl) (xZ hu (pv 2) (aU (aY (K:=K) rfl) (pv 3) aB (fun _ _=>rfl)) (fun _ _=>rfl)) aB (fun _ _=>rfl)) (bB _))))) (aK (z7 hu (pv 2) (aU (aY (K:=K) rfl) (pv 3) aB (fun _ _=>rfl)) (jg (aj (aU (aY (K:=K) rfl) (pv 3) aB (fun _ _=>rfl)) (aj (bM Gi (aU (aY (K:=K) rfl) (pv 4) aB (fun _ _=>rfl)) (fO (aj (pv 3) aA))) aA))) rfl)) bD)) bD))))
   (aK (bF (pv 2))))), ?_⟩
  intro f hf;have s1:=aJ (o:=HO.dK []) hf;refine ⟨_,rfl,_,_,_,_,rfl,rfl,eV.of (s1 _ _ ht),rfl,a,rfl,⟨_,bK.of (s1 _ _ ha)⟩, ?_⟩
  refine pF (K:=K) (a:=a) (xs:=V0) (fun i σ H2=>∃(x1 x2:Option V) (kvs:List (Key×V)) (L:Jk),σ=[some (.ref t),some (.ref d),some (.ref f),x1,x2]/\Same H H2/\H2 f=some (.dK kvs)/\xJ B H2 kvs L/\L.length<=i/\H_ ns C=(ns.drop i).foldl (pU C) L)
   ⟨none,none,[],[],rfl,s1,au,True.intro,Nat.zero_le _,rfl⟩ (fun i σ H2 _ ⟨_,_,_,_,_,sm,_⟩=>bK.of (sm _ _ ha)) ?_ ?_
  ·rintro i v σ H2 hi ⟨x1,x2,kvs,L,rfl,sm,hF,rel,ll,fold⟩
   obtain ⟨x,w,ex,rfl,hx⟩:=jz dn hi;have il:i<ns.length:=(List.getElem?_eq_some_iff.mp ex).1;have hx2:=sm _ _ hx;have hd2:=sm _ _ hd;have cr2:xJ B H2 kc C:=cr.imp fun _ _ h=>h.same sm
   have dr:ns.drop i=x::ns.drop (i+1):=by
    rw [List.drop_eq_getElem_cons il];congr 1;exact (List.getElem?_eq_some_iff.mp ex).2
   rw [dr,List.foldl_cons] at fold;have kl:=rel.length;refine ⟨_,rfl,d,rfl,.inl ⟨_,.inl hd2⟩,_,rfl,_,_,_,_,rfl,rfl,eV.of hx2,rfl,_,qI.k (k:=Sum.inl x.1) hd2, ?_⟩;have st0:pU C L x=L -> ∃(y1 y2:Option V) (kvs':List (Key×V)) (L':Jk),[some (V.ref t),some (.ref d),some (.ref f),some (.ref w),some ((gR kc (Sum.inl x.1)).getD .non)]=[some (.ref t),some (.ref d),some (.ref f),y1,y2]/\Same H H2/\H2 f=some (.dK kvs')/\xJ B H2 kvs' L'/\L'.length<=i+1/\H_ ns C=(ns.drop (i+1)).foldl (pU C) L':=fun es=>⟨_,_,kvs,L,rfl,sm,hF,rel,by omega,by rw [fold,es]⟩;refine ⟨_,rfl,rfl,_,rfl, ?_⟩;rcases cr2.val x.1 with ⟨e1,e2⟩|⟨r,tc,lc,e1,e2,htc,hlc,_⟩
   ·rw [e1] at st0 ⊢
    refine dY (fun q=>absurd q (by simp)) (fun _=> ?_);exact st0 (by unfold pU;rw [e2])
   rw [e1] at st0 ⊢;refine dY (fun _=> ?_) (fun q=>absurd (by simp) q);refine ⟨_,rfl,_,_,_,_,rfl,rfl,eV.of htc,rfl,_,rfl,_,_,_,_,rfl,rfl,eV.of hx2,rfl,_,_,rfl,rfl,_,rfl, ?_⟩
   by_cases w1:r.1<=x.2.1
   rotate_left
   ·rw [decide_eq_false w1]
    refine iM ?_;exact st0 (by unfold pU;rw [e2];dsimp only;rw [if_neg w1])
   rw [decide_eq_true w1];refine ji ?_;refine ⟨_,rfl,_,_,_,_,rfl,rfl,eV.of hx2,rfl,_,rfl,f,_,rfl,qI.k (k:=Sum.inl x.2.2.1) hF,_,rfl, ?_⟩;refine La (pU C L x=put3 L x.2.2.1 (x.2.2.2,r.2++[x])) (fun es=> ?_) (fun z=> ?_) (fun z body=> ?_)
   ·obtain ⟨wl,hl2,dl2⟩:=id hlc
    have wll:wl.length=r.2.length:=by rw [dl2.length,List.length_map]
    have rl:r.2.length<=100:=cl _ (rC e2);refine ⟨_,rfl,_,_,_,_,rfl,rfl,eV.of hx2,rfl,_,rfl,_,_,_,_,rfl,rfl,eV.of htc,rfl,_,rfl,(by show 1<=sizeLine;decide),fun p1 hp1=> ?_⟩;have u1:=aJ (o:=HO.lst [V.ref w]) hp1;refine ⟨lc,p1,_,_,rfl,rfl,u1 _ _ hl2,au,by rw [sizeLine_eq,List.length_singleton];omega,fun p2 hp2=> ?_⟩;have u2:=aJ (o:=HO.lst (wl++[V.ref w])) hp2;refine ⟨(by show 2<=sizeLine;decide),fun p3 hp3=> ?_⟩;have u3:=aJ (o:=HO.tup [V.int x.2.2.2,V.ref p2]) hp3;have RT:=(u1.trans u2).trans u3
    have N3:gA (upd (upd (upd H2 p1 (.lst [V.ref w])) p2 (.lst (wl++[V.ref w]))) p3 (.tup [V.int x.2.2.2,V.ref p2])) p2 (r.2++[x]):=⟨_,u3 _ _ au,by
     rw [List.map_append];exact E_ (bf.keep RT.tups _ (eO _ iV _) dl2) (tD (RT _ _ hx2))⟩
    have T3:(upd (upd (upd H2 p1 (.lst [V.ref w])) p2 (.lst (wl++[V.ref w]))) p3 (.tup [V.int x.2.2.2,V.ref p2])) p3=some (.tup [.int x.2.2.2,.ref p2]):=au;have hF3:=RT _ _ hF;have bl3:B p2=none:=(sB.trans sm).free (u1.free hp2);have S3:=sm.trans RT;have Z1:xJ B _ kvs L:=rel.imp fun _ _ h=>h.same RT;have X6:=RT _ _ hx2;generalize (upd (upd (upd H2 p1 (.lst [V.ref w])) p2 (.lst (wl++[V.ref w]))) p3 (.tup [V.int x.2.2.2,V.ref p2]))=H3 at N3 T3 hF3 S3 Z1 X6 ⊢;refine ⟨_,rfl,_,rfl,_,_,_,_,rfl,rfl,eV.of X6,rfl,f,_,rfl,D_.k (k:=Sum.inl x.2.2.1) hF3 (by rw [sizeLine_eq];omega), ?_⟩;have kf:Kp f H3 (upd H3 f (.dK (putK kvs (Sum.inl x.2.2.1) (.ref p3)))):=Kp.set;refine ⟨_,_,_,put3 L x.2.2.1 (x.2.2.2,r.2++[x]),rfl,fun b u e=>kf _ _ (S3 _ _ e) (aL e hf),au,(xJ.put T3 N3 bl3 Z1).imp fun _ _ h=>h.kp hF3 kf, ?_,by rw [fold,es]⟩;rw [←es];have:=Ms C L x;omega
   ·rcases rel.val x.2.2.1 with ⟨f1,f2⟩|⟨q,tq,lq,f1,f2,htq,hlq,_⟩
    ·unfold pU;rw [e2];dsimp only;rw [if_pos w1,f2]
    ·rw [f1] at z;exact absurd z (by simp)
   ·rcases rel.val x.2.2.1 with ⟨f1,f2⟩|⟨q,tq,lq,f1,f2,htq,hlq,_⟩
    ·rw [f1] at z;exact absurd (by simp) z
    refine ⟨_,rfl,_,_,_,_,rfl,rfl,eV.of hx2,rfl,_,rfl,_,rfl,_,_,_,_,rfl,rfl,eV.of hx2,rfl,f,_,rfl,.inl ⟨_,Sum.inl x.2.2.1,.inl hF,rfl,f1.symm⟩,.inr (.inl ⟨tq,_,0,_,rfl,rfl,eV.of htq,rfl,_,_,rfl,rfl,_,rfl, ?_⟩)⟩
    by_cases w2:x.2.2.2<q.1
    ·rw [decide_eq_true w2]
     exact body (by unfold pU;rw [e2];dsimp only;rw [if_pos w1,f2];dsimp only;rw [if_pos w2])
    ·rw [decide_eq_false w2]
     refine iM ?_;exact st0 (by unfold pU;rw [e2];dsimp only;rw [if_pos w1,f2];dsimp only;rw [if_neg w2])
  ·rintro σ H2 ⟨x1,x2,kvs,L,rfl,sm,hF,rel,ll,fold⟩
   refine ⟨_,rfl,k f H2 hf ⟨kvs,hF, ?_⟩ sm⟩;rw [Y6,List.drop_length,List.foldl_nil] at fold;rw [fold];exact rel
def Lk:List Nt->Prop
 | []=>True
 | [_]=>True
 | x::y::r=>lds x y/\Lk (y::r)
theorem zf {x:Nt} {r:List Nt}:∀(l:List Nt),Lk (l++x::r)↔Lk (l++[x])/\Lk (x::r)
 | []=>⟨fun h=>⟨True.intro,h⟩,fun h=>h.2⟩
 | [y]=>⟨fun h=>⟨⟨h.1,True.intro⟩,h.2⟩,fun h=>⟨h.1.1,h.2⟩⟩
 | y::z::l=>by
   have ih:=zf (x:=x) (r:=r) (z::l);constructor
   ·intro h
    have h2:Lk ((z::l)++x::r):=h.2;exact ⟨⟨h.1,(ih.mp h2).1⟩,(ih.mp h2).2⟩
   ·intro h
    exact ⟨h.1.1,ih.mpr ⟨h.1.2,h.2⟩⟩
theorem Ab {y z:Nt} (e:y.1=z.1) (le:y.2.1<=z.2.1):∀(l:List Nt),Lk (l++[y])->Lk (l++[z])
 | [],_=>True.intro
 | [w],h=>⟨⟨h.1.1.trans e,Int.le_trans h.1.2 le⟩,True.intro⟩
 | w::v::l,h=>⟨h.1,Ab e le (v::l) h.2⟩
def Sd (ns c:List Nt):Prop:=∃x r,c=x::r/\(∀y∈c,y∈ns)/\Lk (x::r++[x])
theorem EY {α:Type} (f:α->Int):∀(c:List α),¬(c.map f).Nodup -> ∃a y b z d,c=a++y::b++z::d/\f y=f z
 | [],h=>absurd List.nodup_nil h
 | x::r,h=>by
   rw [List.map_cons,List.nodup_cons] at h
   by_cases m:f x∈r.map f
   ·obtain ⟨z,hz,e⟩:=List.mem_map.mp m
    obtain ⟨b,d,rfl⟩:=List.append_of_mem hz;exact ⟨[],x,b,z,d,rfl,e.symm⟩
   ·obtain ⟨a,y,b,z,d,rfl,e⟩:=EY f r fun nd=>h ⟨m,nd⟩
    exact ⟨x::a,y,b,z,d,rfl,e⟩
theorem QF {n:Nat} {l:List Int} (h:∀x∈l,0<=x/\x<n) (lt:n<l.length):¬l.Nodup:=fun nd=>by
 have h2:(l.map Int.toNat).Nodup:=by
  refine List.pairwise_map.mpr (List.Pairwise.imp_of_mem (fun {a b} ha hb ne z=>ne ?_) nd);have:=h a ha;have:=h b hb;omega
 have:=yd n _ h2 fun x hx=>by
  obtain ⟨y,hy,rfl⟩:=List.mem_map.mp hx;have:=h y hy;omega
 rw [List.length_map] at this;omega
theorem Mw {cs:List Int} {ns:List Nt} (ok:iz cs ns) {c:List Nt} (R:Sd ns c) (lt:cs.length<c.length):∃c',Sd ns c'/\c'.length<c.length:=by
 obtain ⟨x,r,rfl,mem,lk⟩:=R
 obtain ⟨a,y,b,z,d,ec,e⟩:=EY (fun t:Nt=>t.1) (x::r) (QF (n:=cs.length) (fun v hv=>by
  obtain ⟨t,ht,rfl⟩:=List.mem_map.mp hv;exact (ok.2.2 t (mem t ht)).1) (by rw [List.length_map];exact lt))
 rw [ec] at lk mem lt ⊢;have lk1:Lk (a++y::(b++z::(d++[x]))):=by simpa using lk
 obtain ⟨l1,l2⟩:=(zf a).mp lk1;have l3:Lk ((y::b)++z::(d++[x])):=l2;obtain ⟨l4,l5⟩:=(zf (y::b)).mp l3;rcases Int.le_total z.2.1 y.2.1 with w|w
 ·refine ⟨y::b,⟨y,b,rfl,fun v hv=>mem v ?_,Ab e.symm w _ l4⟩,by simp;omega⟩
  exact List.mem_append.mpr (.inl (List.mem_append.mpr (.inr hv)))
 ·have l6:=Ab e w _ l1
  cases a with
  | nil=>
    have ex:x=y:=by simpa using (List.cons.inj ec).1
    subst ex;refine ⟨z::d,⟨z,d,rfl,fun v hv=>mem v ?_,Ab e w (z::d) l5⟩,by simp;omega⟩;simp only [List.nil_append,List.mem_append];exact .inr hv
  | cons x' a=>
    have ex:x=x':=by simpa using (List.cons.inj ec).1
    subst ex;refine ⟨x::(a++z::d),⟨x,_,rfl,fun v hv=>mem v ?_, ?_⟩,by simp;omega⟩
    ·simp only [List.cons_append,List.mem_cons,List.mem_append] at hv ⊢
     rcases hv with hv|hv|hv
     ·exact .inl hv
     ·exact .inr (.inl (.inl hv))
     ·exact .inr (.inr hv)
    ·have:Lk ((x::a)++z::(d++[x])):=(zf (x::a)).mpr ⟨l6,l5⟩
     simpa using this
theorem Bq {cs:List Int} {ns:List Nt} (ok:iz cs ns):∀(n:Nat) (c:List Nt),c.length<=n->Sd ns c -> ∃c',Sd ns c'/\c'.length<=cs.length/\c'.length<=c.length
 | 0,c,l,R=>by
   obtain ⟨x,r,rfl,_⟩:=R;simp at l
 | n+1,c,l,R=>by
   by_cases h:c.length<=cs.length
   ·exact ⟨c,R,h,Nat.le_refl _⟩
   ·obtain ⟨c1,R1,l1⟩:=Mw ok R (by omega)
    obtain ⟨c2,R2,l2,l3⟩:=Bq ok n c1 (by omega) R1;exact ⟨c2,R2,l2,by omega⟩
theorem Yx {ns:List Nt} {h k:Int} {c:List Nt} {g m:Int} (hc:Mj ns h k c g m):(∀y∈c,y∈ns)/\(∀x r,c=x::r->x.1=h/\k<=x.2.1)/\(c=[]->g=h/\m=k) /\ ∀y:Nt,g=y.1->m<=y.2.1->Lk (c++[y]):=by
 induction hc with
 | nil=>exact ⟨fun y hy=>(by cases hy),fun x r e=>(by cases e),fun _=>⟨rfl,rfl⟩,fun y _ _=>True.intro⟩
 | @snoc c g m x hc hx e1 e2 ih=>
   obtain ⟨i1,i2,i3,i4⟩:=ih;refine ⟨fun y hy=> ?_,fun z r e=> ?_,fun e=>(by simp at e),fun y f1 f2=> ?_⟩
   ·rcases List.mem_append.mp hy with hy|hy
    ·exact i1 y hy
    ·have:y=x:=by simpa using hy
     exact this▸hx
   ·cases c with
    | nil=>
      obtain ⟨j1,j2⟩:=i3 rfl;have:x=z:=by simpa using (List.cons.inj e).1
      subst this;exact ⟨e1.trans j1,by omega⟩
    | cons z' c=>
      have:z'=z:=by simpa using (List.cons.inj e).1
      subst this;exact i2 z' c rfl
   ·have:=i4 x e1.symm e2
    rw [List.append_assoc];exact (zf c).mpr ⟨this,⟨⟨f1,f2⟩,True.intro⟩⟩
theorem Mz {ns:List Nt} {h k:Int} {c:List Nt} (R:rJ ns h k c):Sd ns c:=by
 obtain ⟨ne,m,hc,le⟩:=R;obtain ⟨i1,i2,_,i4⟩:=Yx hc;cases c with
 | nil=>exact absurd rfl ne
 | cons x r=>
   obtain ⟨j1,j2⟩:=i2 x r rfl;exact ⟨x,r,rfl,i1,i4 x j1.symm (by omega)⟩
theorem QH {ns:List Nt}:∀(n:Nat) (l:List Nt) (x y:Nt) (r:List Nt),l.length=n->l=x::r->(∀z∈l,z∈ns)->Lk (l++[y]) -> ∃m,Mj ns x.1 x.2.1 l y.1 m/\m<=y.2.1
 | 0,l,x,y,r,hl,e,_,_=>by subst e;simp at hl
 | n+1,l,x,y,r,hl,e,mem,lk=>by
   rcases List.eq_nil_or_concat l with rfl|⟨l',w,rfl⟩
   ·cases e
   have hw:w∈ns:=mem w (by simp);cases l' with
   | nil=>
     have:w=x:=by simpa using (List.cons.inj e).1
     subst this;have h:lds w y:=lk.1;refine ⟨w.2.2.2, ?_,h.2⟩;rw [←h.1];exact Mj.snoc (c:=[]) .nil hw rfl (Int.le_refl _)
   | cons x' r'=>
     have:x'=x:=by simpa using (List.cons.inj e).1
     subst this;have lk2:Lk ((x'::r')++w::[y]):=by simpa using lk
     obtain ⟨l1,l2⟩:=(zf (x'::r')).mp lk2;obtain ⟨m,hc,hm⟩:=QH n (x'::r') x' w r' (by simpa using hl) rfl (fun z hz=>mem z (by simp only [List.concat_eq_append,List.mem_append];exact .inl hz)) l1;have h:lds w y:=l2.1;refine ⟨w.2.2.2, ?_,h.2⟩;rw [←h.1,List.concat_eq_append];exact .snoc hc hw rfl hm
theorem Eh {ns:List Nt} {x:Nt} {r:List Nt} (R:Sd ns (x::r)):rJ ns x.1 x.2.1 (x::r):=by
 obtain ⟨x',r',e,mem,lk⟩:=R;cases e;obtain ⟨m,hc,hm⟩:=QH _ (x::r) x x r rfl rfl mem lk;exact ⟨by simp,m,hc,hm⟩
theorem Ez {ns:List Nt} {h k:Int} {n:Nat} {C:Jk} (B:Best ns h k n C):∀(ys ms:List Nt) (L:Jk),(∀y∈ys,y∈ns)->Half ns ms h k n L->Half ns (ms++ys) h k n (ys.foldl (pU C) L)
 | [],ms,L,_,A=>by rw [List.append_nil];exact A
 | y::ys,ms,L,hy,A=>by
   have:=Ez B ys (ms++[y]) (pU C L y) (fun z hz=>hy z (by simp [hz])) (N6 B A (hy y (by simp)));rw [List.append_assoc] at this;exact this
theorem Nv {ns:List Nt} {h k:Int} {n:Nat} {C:Jk} (B:Best ns h k n C):Best ns h k (n+1) (H_ ns C):=N_ (Ez B ns [] [] (fun _ h=>h) (aaG ns h k n))
def wO (K:PySem.W.Frag):Sp:=fun vs H Q _=>∃(t c a st:Addr) (cs:List Int) (ns:List Nt) (h k:Int),vs=[.ref t,.ref st]/\RecAt H t c a cs ns/\iz cs ns/\H st=some (.tup [.int h,.int k]) /\
 (∀H',Same H H'->(∀c',rJ ns h k c'->cs.length<c'.length)->Q .non H') /\ ∀(p:Addr) (c':List Nt) (H':Hp),Same H H'->H p=none->gA H' p c'->rJ ns h k c'->c'.length<=cs.length->(∀c2,rJ ns h k c2->c'.length<=c2.length)->Q (.ref p) H'
theorem HF {f:Addr} {fd:FuncData} (F:qj K "ring_from" "ring_from" iG f fd) (zU:FnAt P w K mg base 1 "longer_chains" ["record","chains"] (Ba K)) (Bt:tU mg):gn P w K mg base tV 2 f fd ["record","start"] (wO K):=by
 refine F.ok nU (fun vs H Q E h=> ?_) (fun cdv A outer s H vs Q E hr h=> ?_)
 ·obtain ⟨t,c,a,st,cs,ns,h,k,rfl,_⟩:=h
  rfl
 ·obtain ⟨t,c,a,st,cs,ns,h,k,rfl,R,ok,hst,kN,kR⟩:=h
  have hu:=yj hr;have c8:=ok.1.1;have nl:=ok.2.1
  refine ⟨_,(aF (bC (i:=2) nU.nd rfl (Or.inl rfl) (Qk (aU (aY (K:=K) rfl) (pv 1) aB (fun _ _=>rfl)) (jg (aj (aU (aY (K:=K) rfl) (pv 1) aB (fun _ _=>rfl)) (aj (fO aA) aA)))))
   (aF (mV PassesOwn.never rfl (gH (by rfl) Bt.jk (aj (aX (aR (K:=K) rfl) (by rfl) Bt.fL d8 (aj (aU (aY (K:=K) rfl) (pv 0) aB (fun _ _=>rfl)) aA)) aA)) (bY (i:=3) nU.nd rfl (Or.inl rfl))
   (aF (bC (i:=2) nU.nd rfl (Or.inl rfl) (bG zU (hr.mono (by decide)) (by rfl) (aj (pv 0) (aj (pv 2) aA))))
   (aF (bC (i:=4) nU.nd rfl (Or.inl rfl) (Hw hu (pv 2) (aU (aY (K:=K) rfl) (pv 1) aB (fun _ _=>rfl)) ⟨rfl,rfl,rfl,rfl⟩))
   (aK (dU (PW.pt (jf (aZ vA (pv 4) mW (bB _)) (iC (aZ Lb (aU (aY (K:=K) rfl) (pv 4) aB (fun _ _=>rfl)) (aU (aY (K:=K) rfl) (pv 1) aB (fun _ _=>rfl)) (bB _))))) (aK (bF (aU (aY (K:=K) rfl) (pv 4) aB (fun _ _=>rfl)))) bD)))))
   (aK (bF mW)))), ?_⟩
  intro d hd;have s1:=aJ (o:=HO.dK []) hd;refine ⟨_,rfl,_,_,_,_,rfl,rfl,eV.of (s1 _ _ hst),rfl, ?_⟩;refine ⟨_,rfl,_,_,_,_,rfl,rfl,eV.of (s1 _ _ hst),rfl,(by show 0<=sizeLine;decide),fun l hl=> ?_⟩;have s2:=aJ (o:=HO.lst []) hl;refine ⟨(by show 2<=sizeLine;decide),fun p hp=> ?_⟩;have s3:=aJ (o:=HO.tup [V.int k,V.ref l]) hp;have Ef:=s2.trans s3;have hd0:(upd (upd (upd H d (.dK [])) l (.lst [])) p (.tup [V.int k,V.ref l])) d=some (.dK []):=Ef _ _ au;refine ⟨Sum.inl h,rfl,hd0, ?_⟩;have kd:Kp d (upd (upd (upd H d (.dK [])) l (.lst [])) p (.tup [V.int k,V.ref l])) (upd (upd (upd (upd H d (.dK [])) l (.lst [])) p (.tup [V.int k,V.ref l])) d (.dK [(Sum.inl h,V.ref p)])):=Kp.set;have S4:Same H (upd (upd (upd (upd H d (.dK [])) l (.lst [])) p (.tup [V.int k,V.ref l])) d (.dK [(Sum.inl h,V.ref p)])):=fun b u e=>kd _ _ (Ef _ _ (s1 _ _ e)) (aL e hd);have N4:gA (upd (upd (upd H d (.dK [])) l (.lst [])) p (.tup [V.int k,V.ref l])) l []:=⟨[],s3 _ _ au,by simp [bf]⟩;have E4:Di H (upd (upd (upd H d (.dK [])) l (.lst [])) p (.tup [V.int k,V.ref l])) (Sum.inl h,V.ref p) (h,k,[]):=⟨rfl,p,l,rfl,au,N4,s1.free hl⟩;have CA4:RQ H (upd (upd (upd (upd H d (.dK [])) l (.lst [])) p (.tup [V.int k,V.ref l])) d (.dK [(Sum.inl h,V.ref p)])) d [(h,k,[])]:=⟨_,au,E4.kp hd0 kd,True.intro⟩;generalize (upd (upd (upd (upd H d (.dK [])) l (.lst [])) p (.tup [V.int k,V.ref l])) d (.dK [(Sum.inl h,V.ref p)]))=H4 at S4 CA4 ⊢;have R4:=R.same S4;clear kd hd0 s1 s2 s3 Ef N4 E4 hl hp hd;refine ⟨_,rfl,_,_,_,_,rfl,rfl,eV.of R4.1,rfl,c,_,rfl,.inl (bK.of R4.2.1),_,rfl,by rw [List.length_map];omega,by rw [List.length_map];omega, ?_⟩;have Ia:(((cs.map V.int).length:Nat):Int).toNat=cs.length:=by simp
  rw [Ia]
  refine rE (lo:=0) (n:=cs.length) (fun i σ H5=>∃(d:Addr) (C:Jk) (x1 x2:Option V),σ=[some (.ref t),some (.ref st),some (.ref d),x1,x2]/\Same H H5/\RQ H H5 d C/\Best ns h k i C /\ ∀c',rJ ns h k c'->i<c'.length)
   ⟨d,_,none,none,rfl,S4,CA4,abx ns h k,fun c' r=>List.length_pos_iff.mpr r.1⟩ ?_ ?_
  ·rintro i σ H5 hi ⟨d,C,x1,x2,rfl,S5,CA5,B5,no⟩
   refine ⟨_,rfl,_,rfl,t,c,a,d,cs,ns,C,H,rfl,S5,R.same S5,by omega,CA5,fun e he=>by rw [(B5.ch e he).2];omega,fun d' H6 hd' CA6 s6=> ?_⟩;have S6:=S5.trans s6;have aay:=S6 _ _ hst;obtain ⟨kvs,hd6,cr6⟩:=id CA6;have B6:=Nv B5;refine ⟨_,rfl,d',rfl,.inl ⟨_,.inl hd6⟩,_,rfl,_,_,_,_,rfl,rfl,eV.of aay,rfl,_,qI.k (k:=Sum.inl h) hd6, ?_⟩
   have go:(∀r,jA (H_ ns C) h=some r -> ¬r.1<=k) -> ∃(d:Addr) (C:Jk) (x1 x2:Option V),[some (V.ref t),some (.ref st),some (.ref d'),some (.int (0+(i:Int))),some ((gR kvs (Sum.inl h)).getD .non)]=[some (.ref t),some (.ref st),some (.ref d),x1,x2]/\Same H H6/\RQ H H6 d C/\Best ns h k (i+1) C /\ ∀c',rJ ns h k c'->i+1<c'.length:=fun nr=>by
    refine ⟨d',_,_,_,rfl,S6,CA6,B6,fun c' r=> ?_⟩;have l1:=no c' r
    by_cases e:c'.length=i+1
    ·obtain ⟨ne,m,hc,le⟩:=r
     obtain ⟨q,hq,q1,q2⟩:=B6.le c' h m hc e;have:=BL B6.nd hq;rw [q1] at this;exact absurd (Int.le_trans q2 le) (nr _ this)
    ·omega
   refine ⟨_,rfl,rfl,_,rfl, ?_⟩;rcases cr6.val h with ⟨e1,e2⟩|⟨r,tc,lc,e1,e2,htc,hlc,fl⟩
   ·rw [e1] at go ⊢
    refine dY (fun q=>absurd q (by simp)) (fun _=> ?_);exact go fun r z=>by rw [e2] at z;cases z
   rw [e1] at go ⊢;refine dY (fun _=> ?_) (fun q=>absurd (by simp) q);refine ⟨_,rfl,_,_,_,_,rfl,rfl,eV.of htc,rfl,_,rfl,_,_,_,_,rfl,rfl,eV.of aay,rfl,_,_,rfl,rfl,_,rfl, ?_⟩
   by_cases w:r.1<=k
   ·rw [decide_eq_true w]
    refine ji ?_;obtain ⟨rc,rl⟩:=B6.ch _ (rC e2);refine ⟨_,rfl,_,_,_,_,rfl,rfl,eV.of htc,rfl, ?_⟩;refine kR lc r.2 H6 S6 fl hlc ⟨fun z=> ?_,r.1,rc,w⟩ (by rw [show r.2.length=i+1 from rl];omega) fun c2 r2=>by rw [show r.2.length=i+1 from rl];exact no c2 r2
    have rl2:r.2.length=i+1:=rl;rw [z] at rl2;cases rl2
   ·rw [decide_eq_false w]
    refine iM ?_;exact go fun r' z=>by rw [e2] at z;cases z;exact w
  ·rintro σ H5 ⟨d,C,x1,x2,rfl,S5,CA5,B5,no⟩
   exact kN H5 S5 no
def qD (x:Nt):PyData:= .tuple [.tuple [.int x.1,.int x.2.1],.bool true]
def QM (x:Nt):List Key:=[Sum.inl x.1,Sum.inl x.2.1]
def VN (x:Nt):List Key×V:=(QM x,V.bl true)
theorem aaW {H:Hp} {t u:Addr} {x:Nt} (h:H t=some (.tup [.ref u,.bl true])) (hu:H u=some (.tup [.int x.1,.int x.2.1])):Dat H (.ref t) (qD x):=by
 simp only [qD,Dat];exact ⟨t,_,rfl,h,by simp only [bf,Dat,and_true];exact ⟨u,_,rfl,hu,by simp only [bf,Dat,and_self]⟩⟩
theorem Oj {H:Hp} {v:V} {x:Nt} (h:Dat H v (qD x)):∃t u,v = .ref t/\H t=some (.tup [.ref u,.bl true])/\H u=some (.tup [.int x.1,.int x.2.1]):=by
 simp only [qD,Dat] at h;obtain ⟨t,vs,e,q,d⟩:=h
 match vs,d with
 | [a,b],d=>
   simp only [bf,Dat,and_true] at d;obtain ⟨⟨u,ws,rfl,hu,dw⟩,rfl⟩:=d
   match ws,dw with
   | [a',b'],dw=>
     simp only [bf,Dat,and_true] at dw;obtain ⟨rfl,rfl⟩:=dw;exact ⟨t,u,e,q,hu⟩
   | [],dw=>simp only [bf] at dw
   | [_],dw=>simp only [bf,and_false] at dw
   | _::_::_::_,dw=>simp only [bf,and_false] at dw
 | [],d=>simp only [bf] at d
 | [_],d=>simp only [bf,and_false] at d
 | _::_::_::_,d=>simp only [bf,and_false] at d
theorem Iv {H:Hp}:∀{vs:List V} {ds:List PyData} {i:Nat} {v:V} {d:PyData},bf H vs ds->vs[i]? = some v->ds[i]? = some d->Dat H v d
 | [],[],_,_,_,_,h,_=>by simp at h
 | _::_,_::_,0,_,_,h,h1,h2=>by simp at h1 h2;subst h1;subst h2;simp only [bf] at h;exact h.1
 | _::_,_::_,i+1,_,_,h,h1,h2=>by simp only [bf] at h;exact Iv (i:=i) h.2 (by simpa using h1) (by simpa using h2)
 | [],_::_,_,_,_,h,_,_=>by simp only [bf] at h
 | _::_,[],_,_,_,h,_,_=>by simp only [bf] at h
theorem pairs_at {H:Hp}:∀{ws:List V} {ns:List Nt},bf H ws (ns.map qD)->Ah H ws (ns.map VN):=fun {ws ns} d=>by
 refine ⟨by rw [d.length,List.length_map,List.length_map],fun i v p hv hp=> ?_⟩;rw [List.getElem?_map] at hp;cases e:ns[i]? with
 | none=>rw [e] at hp;cases hp
 | some x=>
   rw [e] at hp;cases hp;have:=Iv d hv (show (ns.map qD)[i]? = some (qD x) by rw [List.getElem?_map,e];rfl);obtain ⟨t,u,e1,e2,e3⟩:=Oj this;exact ⟨t,u,e1,e2,e3⟩
theorem MJ (l:List (List Key×V)) (k:List Key) (v:V) (z:List Key):z∈(putK l k v).map (·.1)↔z=k\/z∈l.map (·.1):=by
 unfold putK;split
 ·rename_i h
  obtain ⟨q,hq,e⟩:=List.any_eq_true.mp h;have e:=of_decide_eq_true e
  have em:(l.map fun kv=>if kv.1=k then (kv.1,v) else kv).map (·.1)=l.map (·.1):=by
   rw [List.map_map];refine List.map_congr_left fun y _=> ?_;show (if y.1=k then (y.1,v) else y).1=y.1;split<;>rfl
  rw [em];constructor
  ·exact .inr
  ·rintro (rfl|h)
   ·exact List.mem_map.mpr ⟨q,hq,e⟩
   ·exact h
 ·rw [List.map_append,List.mem_append]
  simp only [List.map_cons,List.map_nil,List.mem_singleton];exact ⟨fun h=>h.symm,fun h=>h.symm⟩
theorem Ei (z:List Key):∀(ps l:List (List Key×V)),z∈(sX l ps).map (·.1)↔z∈l.map (·.1)\/z∈ps.map (·.1)
 | [],l=>by simp [sX]
 | p::ps,l=>by
   show z∈(sX (putK l p.1 p.2) ps).map (·.1)↔_;rw [Ei z ps (putK l p.1 p.2),MJ,List.map_cons,List.mem_cons];constructor
   ·rintro ((h|h)|h)
    ·exact .inr (.inl h)
    ·exact .inl h
    ·exact .inr (.inr h)
   ·rintro (h|h|h)
    ·exact .inl (.inr h)
    ·exact .inl (.inl h)
    ·exact .inr h
theorem Jy {ns:List Nt} {z:List Key}:z∈(sX [] (ns.map VN)).map (·.1) ↔ ∃x∈ns,z=QM x:=by
 rw [Ei,List.map_map];simp only [List.map_nil,List.not_mem_nil,false_or,List.mem_map,Function.comp];exact ⟨fun ⟨x,hx,e⟩=>⟨x,hx,e.symm⟩,fun ⟨x,hx,e⟩=>⟨x,hx,e.symm⟩⟩
def CV (B H:Hp) (cs:List Int) (ns:List Nt) (ks:List (List Key)) (sv:V):Prop:=
 (sv = .non /\ ∀h k,[Sum.inl h,Sum.inl k]∈ks -> ∀c',rJ ns h k c'->cs.length<c'.length) \/
 ∃p cc,sv = .ref p/\B p=none/\gA H p cc/\Sd ns cc/\cc.length<=cs.length /\ ∀h k,[Sum.inl h,Sum.inl k]∈ks -> ∀c',rJ ns h k c'->cc.length<=c'.length
def FW (CN:Addr) (K:PySem.W.Frag):Sp:=fun vs H Q E=>∃(t c a:Addr) (cs:List Int) (ns:List Nt),vs=[.ref t]/\RecAt H t c a cs ns/\oF cs/\ns.length<=200/\(eU cs ns->iz cs ns)/\(¬eU cs ns -> ∀H',Same H H'->E (.ref CN) none H') /\
 (eU cs ns->(∀ms,¬Sd ns ms) -> ∀H',Same H H'->Q .non H') /\
 (eU cs ns -> ∀(p:Addr) (cc:List Nt) (H':Hp),Same H H'->H p=none->gA H' p cc->Sd ns cc->cc.length<=cs.length->(∀ms,Sd ns ms->cc.length<=ms.length)->Q (.ref p) H')
theorem Qq {f:Addr} {fd:FuncData} (F:qj K "ring" "ring" sO f fd) {ak:Addr} (dz:fM P w K mg base 4 "check_notes" ["record"] (iU ak K)) (Ji:FnAt P w K mg base 2 "ring_from" ["record","start"] (wO K)) (Bt:tU mg):gn P w K mg base (vU P w) 5 f fd ["record"] (FW ak K):=by
 refine F.Jl vh (fun vs H Q E h=> ?_) (fun cdv A outer s H vs Q E hr h hR=> ?_)
 ·obtain ⟨t,c,a,cs,ns,rfl,_⟩:=h
  rfl
 ·obtain ⟨t,c,a,cs,ns,rfl,R,m5,J0,vo,kX,kN,kR⟩:=h
  have hu:=yj hr;have gO:=hr.units
  refine ⟨_,(aF (eZ (gQ dz rfl hR (hr.mono (by decide)) (by rfl) (aj (pv 0) aA)))
   (aF (bC (i:=1) vh.nd rfl (Or.inl rfl) mW)
   (aF (bC (i:=2) vh.nd rfl (Or.inl rfl) (gW (IW (K:=K) rfl rfl hr.Pu) (by rfl) Bt.YD U9 (aj (iT rfl (N:=["note"]) (own:=["note"]) (caps:=[]) (bH.of (by kernel_rfl)) (fP (K:=K) rfl (aU (aY (K:=K) rfl) (pv 0) aB (fun _ _=>rfl))) (fun _ _ _ _=>(bY (i:=0) (show List.Nodup (["note"]:List Str) by decide +kernel) rfl (Or.inl rfl))) (fun _ _ _ _=>iD) (fun _ _ _ _=>(jg (aj (fB (g8 (K:=K) rfl) (pv 0) gD (gC aB)) (aj qO aA))))) aA)))
   (aF (Hr (mV PassesOwn.leaving rfl (Ht (pv 2)) (bY (i:=3) vh.nd rfl (Or.inl rfl))
   (aF (bC (i:=4) vh.nd rfl (Or.inl rfl) (bG Ji (hr.mono (by decide)) (by rfl) (aj (pv 0) (aj (pv 3) aA))))
   (aK (dU (PW.pt (jf (aZ vA (pv 4) mW (bB _)) (iC (PW.pt (qM (aZ Gg (pv 1) mW (bB _)) (pA (aZ uY (aX (aR (K:=K) rfl) (by rfl) Bt.fL d8 (aj (pv 4) aA)) (aX (aR (K:=K) rfl) (by rfl) Bt.fL d8 (aj (pv 1) aA)) (bB _)))))))) (aK (bC (i:=1) vh.nd rfl (Or.inl rfl) (pv 4))) bD)))))
   (aK (bF (pv 1))))))), ?_⟩
  refine ⟨_,rfl,t,c,a,cs,ns,rfl,R,m5,J0,fun al H1 s1=> ?_,kX⟩;have ok:=vo al;have R1:=R.same s1;obtain ⟨ht1,hc1,V0,ha1,dn⟩:=id R1;have Y6:V0.length=ns.length:=by rw [dn.length,List.length_map]
  refine ⟨_,rfl,_,_,_,_,rfl,rfl,eV.of ht1,rfl,a,rfl,⟨_,bK.of ha1⟩,fun D hD=> ?_⟩;refine Fg (K:=K) (fun i=>(ns[i]?).map qD) (fun i d e=> ?_) hD (bK.of ha1) (by omega) (fun i v H2 G F hi s2 kG kF=> ?_) (fun H2 ws s2 e2 d2=> ?_)
  ·cases ex:ns[i]? with
   | none=>rw [ex] at e;cases e
   | some x=>rw [ex] at e;cases e;rfl
  ·obtain ⟨x,q,ex,rfl,hx⟩:=jz dn hi
   have hx2:=s2 _ _ hx;refine ⟨_,rfl,_,rfl,_,_,rfl,eV.of hx2,uX _ rfl,fun p1 hp1=> ?_⟩;have c1:lD (nV x) none (some 2)=[.int x.1,.int x.2.1]:=Cp ..;rw [c1];have u1:=aJ (o:=HO.tup [V.int x.1,V.int x.2.1]) hp1;refine ⟨(by show 2<=sizeLine;decide),fun p2 hp2=> ?_⟩;have u2:=aJ (o:=HO.tup [V.ref p1,V.bl true]) hp2;exact kF _ (qD x) _ (u1.trans u2) (by rw [ex];rfl) (aaW au (u2 _ _ au))
  rw [Y6,yq] at d2;have S2:=s1.trans s2;refine ⟨D,ws,ns.map VN,rfl,bK.of e2,pairs_at d2,fun q hq=> ?_⟩;have uq:(upd H2 q (.dT (sX [] (ns.map VN)))) q=some (.dT (sX [] (ns.map VN))):=au;have s3:=aJ (o:=HO.dT (sX [] (ns.map VN))) hq;have hq0:H q=none:=S2.free hq;have hkeys:∀z,z∈(sX [] (ns.map VN)).map (·.1) ↔ ∃x∈ns,z=QM x:=fun z=>Jy;generalize sX [] (ns.map VN)=kvs at uq s3 hkeys ⊢;refine ⟨_,rfl,q,_,rfl,uq,fun ob=> ?_⟩;have kq:Kp q (upd H2 q (.dT kvs)) (upd (upd H2 q (.dT kvs)) q (.rM ob (.dT kvs))):=Kp.set;have kfz:Same H2 (upd (upd H2 q (.dT kvs)) q (.rM ob (.dT kvs))):=fun b u e=>kq _ _ (s3 _ _ e) (aL e hq)
  refine Rf (fun i σ H5=>∃(sv:V) (x1 x2:Option V),σ=[some (.ref t),some sv,some (.ref q),x1,x2]/\Same H2 H5/\H5 q=some (.rM ob (.dT kvs))/\CV H H5 cs ns ((kvs.take i).map (·.1)) sv)
   ⟨.non,none,none,rfl,kfz,au,.inl ⟨rfl,fun h k z=>(by cases z)⟩⟩ (fun i σ H5 _ ⟨_,_,_,_,_,e,_⟩=>e) ?_ ?_
  ·rintro i kk vv b σ H5 hi hb ⟨sv,x1,x2,rfl,s5,Gu,sh⟩
   have tk:(kvs.take (i+1)).map (·.1)=(kvs.take i).map (·.1)++[kk]:=by rw [List.take_add_one,hi,List.map_append];rfl
   obtain ⟨x,hx,rfl⟩:=(hkeys kk).mp (List.mem_map.mpr ⟨(kk,vv),List.mem_of_getElem? hi,rfl⟩);have S5:=S2.trans s5
   have key:∀{h k:Int},[Sum.inl h,Sum.inl k]∈(kvs.take (i+1)).map (·.1)->[Sum.inl h,Sum.inl k]∈(kvs.take i).map (·.1)\/(h=x.1/\k=x.2.1):=fun {h k} z=>by
    rw [tk] at z;rcases List.mem_append.mp z with z|z
    ·exact .inl z
    ·have:([Sum.inl h,Sum.inl k]:List Key)=QM x:=by simpa using z
     unfold QM at this;injection this with z1 z2
     injection z2 with z2 _
     exact .inr ⟨Sum.inl.inj z1,Sum.inl.inj z2⟩
   dsimp only;refine gB (fun σ H6=>∃fv:V,σ=[some (.ref t),some sv,some (.ref q),some (.ref b),some fv]/\Same H5 H6/\((fv = .non /\ ∀c',rJ ns x.1 x.2.1 c'->cs.length<c'.length) \/ ∃p cc,fv = .ref p/\H p=none/\gA H6 p cc/\rJ ns x.1 x.2.1 cc/\cc.length<=cs.length /\ ∀c2,rJ ns x.1 x.2.1 c2->cc.length<=c2.length)) (fun D' hD' _=> ?_) ?_
   ·exact ⟨_,rfl,_,rfl,t,c,a,b,cs,ns,x.1,x.2.1,rfl,R.same S5,ok,hb,fun H6 s6 no=>hD' _ _ ⟨_,rfl,s6,.inl ⟨rfl,no⟩⟩,fun p cc H6 s6 fp N r1 r2 r3=>hD' _ _ ⟨_,rfl,s6,.inr ⟨p,cc,rfl,S5.free fp,N,r1,r2,r3⟩⟩⟩
   rintro σ H6 ⟨fv,rfl,s6,hfv⟩
   have sh6:CV H H6 cs ns ((kvs.take i).map (·.1)) sv:=by
    rcases sh with h|⟨p,cc,e1,e2,e3,e4⟩
    ·exact .inl h
    ·exact .inr ⟨p,cc,e1,e2,e3.same s6,e4⟩
   have fin:∀sv':V,CV H H6 cs ns ((kvs.take (i+1)).map (·.1)) sv' -> ∃(sv:V) (x1 x2:Option V),[some (V.ref t),some sv',some (.ref q),some (.ref b),some fv]=[some (.ref t),some sv,some (.ref q),x1,x2]/\Same H2 H6/\H6 q=some (.rM ob (.dT kvs))/\CV H H6 cs ns ((kvs.take (i+1)).map (·.1)) sv:=fun sv' h=>⟨sv',_,_,rfl,s5.trans s6,s6 _ _ Gu,h⟩;refine ⟨_,rfl,rfl,_,rfl, ?_⟩;rcases hfv with ⟨rfl,no⟩|⟨p,cc,rfl,fp,N,r1,r2,r3⟩
   ·refine dY (fun z=>absurd z (by simp)) (fun _=> ?_)
    refine fin sv ?_;rcases sh6 with ⟨e1,e2⟩|⟨p,cc,e1,e2,e3,e4,e5,e6⟩
    ·refine .inl ⟨e1,fun h k z=> ?_⟩
     rcases key z with z|⟨rfl,rfl⟩
     ·exact e2 h k z
     ·exact no
    ·refine .inr ⟨p,cc,e1,e2,e3,e4,e5,fun h k z=> ?_⟩
     rcases key z with z|⟨rfl,rfl⟩
     ·exact e6 h k z
     ·intro c' rc
      have:=no c' rc;omega
   refine dY (fun _=> ?_) (fun z=>absurd (by simp) z)
   have new:(∀h k,[Sum.inl h,Sum.inl k]∈(kvs.take i).map (·.1) -> ∀c',rJ ns h k c'->cc.length<=c'.length)->CV H H6 cs ns ((kvs.take (i+1)).map (·.1)) (.ref p):=fun old=>by
    refine .inr ⟨p,cc,rfl,fp,N,Mz r1,r2,fun h k z=> ?_⟩;rcases key z with z|⟨rfl,rfl⟩
    ·exact old h k z
    ·exact r3
   refine ⟨_,rfl,rfl,_,rfl, ?_⟩;rcases sh6 with ⟨rfl,e2⟩|⟨p0,cc0,rfl,e2,e3,e4,e5,e6⟩
   ·refine dY (fun _=> ?_) (fun z=>absurd (by simp) z)
    exact ⟨_,rfl,fin _ (new fun h k z c' rc=>by have:=e2 h k z c' rc;omega)⟩
   refine dY (fun z=>absurd z (by simp)) (fun _=> ?_);obtain ⟨v1,hp1,dp1⟩:=id N;obtain ⟨v2,hp2,dp2⟩:=id e3;have l1:v1.length=cc.length:=by rw [dp1.length,List.length_map]
   have l2:v2.length=cc0.length:=by rw [dp2.length,List.length_map]
   refine ⟨_,rfl,p,_,rfl,.inl (bK.of hp1),_,rfl,p0,_,rfl,.inl (bK.of hp2),_,_,rfl,rfl,_,rfl, ?_⟩
   by_cases w:cc.length<cc0.length
   ·rw [decide_eq_true (show ((v1.length:Nat):Int)<(v2.length:Nat) by omega)]
    refine ji ?_;exact ⟨_,rfl,fin _ (new fun h k z c' rc=>by have:=e6 h k z c' rc;omega)⟩
   ·rw [decide_eq_false (show ¬((v1.length:Nat):Int)<(v2.length:Nat) by omega)]
    refine iM ?_;refine fin _ (.inr ⟨p0,cc0,rfl,e2,e3,e4,e5,fun h k z=> ?_⟩);rcases key z with z|⟨rfl,rfl⟩
    ·exact e6 h k z
    ·intro c' rc
     have:=r3 c' rc;omega
  ·rintro σ H5 ⟨sv,x1,x2,rfl,s5,Gu,sh⟩
   refine ⟨_,⟨q,_,ob,_,uq,Gu,rfl⟩, ?_⟩;have kq2:Kp q H5 (upd H5 q (.dT kvs)):=Kp.set;have S6:Same H (upd H5 q (.dT kvs)):=fun b u e=>kq2 _ _ (s5 _ _ (S2 _ _ e)) (aL e hq0);rw [List.take_length] at sh;rcases sh with ⟨rfl,no⟩|⟨p,cc,rfl,e2,e3,e4,e5,e6⟩
   ·refine ⟨_,rfl,kN al (fun ms r=> ?_) _ S6⟩
    obtain ⟨c',r1,l1,_⟩:=Bq ok ms.length ms (Nat.le_refl _) r;obtain ⟨x,r',rfl,mem,_⟩:=id r1;have:=no x.1 x.2.1 ((hkeys _).mpr ⟨x,mem x (by simp),rfl⟩) _ (Eh r1);omega
   ·have np:p≠q:=fun z=>by
     obtain ⟨vs,h1,_⟩:=e3;rw [z,Gu] at h1;cases h1
    refine ⟨_,rfl,kR al p cc _ S6 e2 (e3.kp (fun a xs h=>kq2 _ _ h (tK h Gu (fun z=>nomatch z))) kq2 np) e4 e5 fun ms r=> ?_⟩;obtain ⟨x,r',rfl,mem,_⟩:=id r;exact e6 x.1 x.2.1 ((hkeys _).mpr ⟨x,mem x (by simp),rfl⟩) _ (Eh r)
def Hf (K:PySem.W.Frag):Sp:=fun vs H Q _=>∃(r b:Addr) (n:Nat),vs=[.ref r]/\dR H r b n/\n<549755813888 /\ ∀(z:Int) (H':Hp),0<=z->dR H' r b (n+3)->Kp r H H'->Q (.int z) H'
theorem aaq {u v:Int} (u0:0<=u) (v0:0<=v) (n:Int) (h0:0<=n) (h1:n<5):∃z:Int,CP [V.int 0,V.int 0,V.int 1,V.int u,V.int v] n=some (V.int z)/\0<=z:=by
 have:n=0\/n=1\/n=2\/n=3\/n=4:=by omega
 rcases this with rfl|rfl|rfl|rfl|rfl
 ·exact ⟨0,rfl,by decide⟩
 ·exact ⟨0,rfl,by decide⟩
 ·exact ⟨1,rfl,by decide⟩
 ·exact ⟨u,rfl,u0⟩
 ·exact ⟨v,rfl,v0⟩
theorem Xj {f:Addr} {fd:FuncData} (F:qj K "_law_far" "_law_far" sS f fd) (bL:FnAt P w K mg base 2 "_law_draw" ["bag","many"] (qz K)):gn P w K mg base tV 3 f fd ["bag"] (Hf K):=by
 refine F.ok Tf (fun vs H Q E h=> ?_) (fun cdv A outer s H vs Q E hr h=> ?_)
 ·obtain ⟨r,b,n,rfl,_⟩:=h
  rfl
 ·obtain ⟨r,b,n,rfl,B0,hn,k⟩:=h
  refine ⟨_,(aK (bF (aU (bh (K:=K) rfl) (fO (aj aB (aj aB (aj aB (aj (bG bL (hr.mono (by decide)) (by rfl) (aj (pv 0) (aj aB aA))) (aj (bG bL (hr.mono (by decide)) (by rfl) (aj (pv 0) (aj (bM JR aB aB) aA))) aA)))))) (bG bL (hr.mono (by decide)) (by rfl) (aj (pv 0) (aj aB aA))) (fun _ _=>rfl)))), ?_⟩;refine ⟨_,rfl,r,b,9,n,rfl,B0,by omega,by decide,by decide,fun u H1 u0 u1 B1 k1=> ?_⟩;refine ⟨_,rfl,_,_,rfl,rfl,(by show Vv 10 29;exact ⟨by decide,by decide,by decide⟩),r,b,_,_,rfl,B1,by omega,by decide,by decide,fun v H2 v0 v1 B2 k2=> ?_⟩;refine ⟨(by show 5<=sizeLine;decide),fun p hp=> ?_⟩;have s3:=aJ (o:=HO.lst [V.int 0,V.int 0,V.int 1,V.int u,V.int v]) hp;obtain ⟨npr,npb⟩:=B2.ne hp;refine ⟨_,rfl,r,b,5,_,rfl,B2.keep s3,by omega,by decide,by decide,fun i H4 i0 i1 B4 k4=> ?_⟩;obtain ⟨z,ez,z0⟩:=aaq u0 v0 i i0 i1;exact ⟨_,_,_,_,rfl,rfl,bK.of (k4 _ _ au npr),ez,k z H4 z0 B4 (((k1.trans k2).trans (.of_same s3)).trans k4)⟩
theorem Xf {c A B:Prop} [Decidable c] (hA:A) (hB:¬c->A->B):if c then A else B:=by
 by_cases h:c
 ·rw [if_pos h];exact hA
 ·rw [if_neg h];exact hB h hA
def O9 (ls:List Int):List Int:=(List.range ls.length).filterMap fun (i:Nat)=>if gI ls (i:Int)=0 then some (i:Int) else none
theorem Uo {ls:List Int} {h:Int} (m:h∈O9 ls):0<=h/\h<ls.length/\gI ls h=0:=by
 unfold O9 at m;rw [List.mem_filterMap] at m;obtain ⟨i,hi,e⟩:=m;have hi':i<ls.length:=by simpa using hi
 by_cases q:gI ls i=0
 ·rw [if_pos q] at e
  cases e;exact ⟨by omega,by omega,q⟩
 ·rw [if_neg q] at e
  cases e
theorem Ss (ls:List Int):(O9 ls).length<=ls.length:=uZ _ _
theorem Sq (ls:List Int):(List.range ls.length).filterMap (fun (i:Nat)=>if gI ls (i:Int)=0 then some (V.int (0+(i:Int))) else none)=(O9 ls).map V.int:=by
 unfold O9;rw [List.map_filterMap];refine pG _ trivial fun i _=> ?_;split<;>simp
def putN (x:Nt) (part v:Int):Nt:=if part=0 then (v,x.2.1,x.2.2.1,x.2.2.2) else if part=1 then (x.1,v,x.2.2.1,x.2.2.2) else if part=2 then (x.1,x.2.1,v,x.2.2.2) else (x.1,x.2.1,x.2.2.1,v)
theorem W8 (x:Nt) {part v:Int} (p0:0<=part) (p1:part<4):(lD (nV x) none (some part)++[V.int v])++lD (nV x) (some (part+1)) none=nV (putN x part v):=by
 have:part=0\/part=1\/part=2\/part=3:=by omega
 rcases this with rfl|rfl|rfl|rfl<;>rfl
theorem aae (x:Nt) {part:Int} (p0:0<=part) (p1:part<4):¬(HT.jX (nV x).length 0 none=0/\HT.jX (nV x).length (nV x).length (some part)=(nV x).length):=by
 have:part=0\/part=1\/part=2\/part=3:=by omega
 show ¬(HT.jX 4 0 none=0/\HT.jX 4 4 (some part)=4);rcases this with rfl|rfl|rfl|rfl<;>decide
theorem aad (x:Nt) {part:Int} (p0:0<=part) (p1:part<4):¬(HT.jX (nV x).length 0 (some (part+1))=0/\HT.jX (nV x).length (nV x).length none=(nV x).length):=by
 have:part=0\/part=1\/part=2\/part=3:=by omega
 show ¬(HT.jX 4 0 (some (part+1))=0/\HT.jX 4 4 none=4);rcases this with rfl|rfl|rfl|rfl<;>decide
def A_ (K:PySem.W.Frag):Sp:=fun vs H Q _=>∃(r b:Addr) (n:Nat) (a:Addr) (cs:List Int),vs=[.ref r,.ref a]/\dR H r b n/\n<274877906944/\H a=some (.lst (cs.map V.int))/\a≠r/\oF cs /\
 ∀(t:Addr) (x:Nt) (H':Hp),H' t=some (.tup (nV x)) -> ¬qZ cs x->dR H' r b (n+20)->Kp r H H'->Q (.ref t) H'
theorem M_ {f:Addr} {fd:FuncData} (F:qj K "_law_no_note" "_law_no_note" je f fd) (bL:FnAt P w K mg base 2 "_law_draw" ["bag","many"] (qz K)) (Dh:FnAt P w K mg base 3 "_law_far" ["bag"] (Hf K)) (yE:FnAt P w K mg base 3 "_law_note" ["bag","counts"] (Az K)) (Bt:tU mg):gn P w K mg base tV 4 f fd ["bag","counts"] (A_ K):=by
 refine F.ok gP (fun vs H Q E h=> ?_) (fun cdv A outer s H vs Q E hr h=> ?_)
 ·obtain ⟨r,b,n,a,cs,rfl,_⟩:=h
  rfl
 ·obtain ⟨r,b,n,a,cs,rfl,B0,hn,ha,Jo,ok,k⟩:=h
  have gO:=hr.units
  refine ⟨_,(aF (bC (i:=2) gP.nd rfl (Or.inl rfl) (bG bL (hr.mono (by decide)) (by rfl) (aj (pv 0) (aj aB aA))))
   (aF (bC (i:=3) gP.nd rfl (Or.inl rfl) (bG bL (hr.mono (by decide)) (by rfl) (aj (pv 0) (aj aB aA))))
   (aF (bC (i:=4) gP.nd rfl (Or.inl rfl) (bG Dh (hr.mono (by decide)) (by rfl) (aj (pv 0) aA)))
   (aF (pC (i:=5) rfl gP.nd rfl (Or.inl rfl) (N:=["hand","counts"]) (own:=["hand"]) (caps:=[1]) (bH.of (by kernel_rfl)) (gH (by rfl) Bt.jk (aj (aX (aR (K:=K) rfl) (by rfl) Bt.fL d8 (aj (pv 1) aA)) aA)) (fun _ _ _ _=>(bY (i:=0) (show List.Nodup (["hand","counts"]:List Str) by decide +kernel) rfl (Or.inl rfl))) (fun _ _ _ _=>(qN (aZ gF (aU (bh (K:=K) rfl) (pv 1) (pv 0) (fun _ _=>rfl)) aB (bB _)))) (fun _ _ _ _=>(pv 0)))
   (aF (bC (i:=6) gP.nd rfl (Or.inl rfl) (bG yE (hr.mono (by decide)) (by rfl) (aj (pv 0) (aj (pv 1) aA))))
   (aF (dU (PW.pt (jf (aZ (jh (K:=K) rfl gO) (pv 5) (fO aA) (bB _)) (jf (aZ yc (aX (aR (K:=K) rfl) (by rfl) Bt.fL d8 (aj (pv 1) aA)) aB (bB _)) (iC (PW.pt (qM (aZ gF (pv 2) aB (bB _)) (pA (aZ Gg (pv 6) mW (bB _))))))))) (aF (bC (i:=7) gP.nd rfl (Or.inl rfl) (aU (bh (K:=K) rfl) (pv 5) (bG bL (hr.mono (by decide)) (by rfl) (aj (pv 0) (aj (aX (aR (K:=K) rfl) (by rfl) Bt.fL d8 (aj (pv 5) aA)) aA))) (fun _ _=>rfl)))
   (aF (bC (i:=8) gP.nd rfl (Or.inl rfl) (bM pP (bM fD (bM fD (pv 7) aB) (bG bL (hr.mono (by decide)) (by rfl) (aj (pv 0) (aj (bM mX (aX (aR (K:=K) rfl) (by rfl) Bt.fL d8 (aj (pv 1) aA)) aB) aA)))) (aX (aR (K:=K) rfl) (by rfl) Bt.fL d8 (aj (pv 1) aA))))
   (aF (bC (i:=9) gP.nd rfl (Or.inl rfl) (jg (aj (pv 7) (aj (pv 4) (aj (pv 8) (aj (bG bL (hr.mono (by decide)) (by rfl) (aj (pv 0) (aj (aX (rG rfl) (by rfl) Bt.Je Cy (aj aB (aj (aU (bh (K:=K) rfl) (pv 1) (pv 8) (fun _ _=>rfl)) aA))) aA))) aA))))))
   (aK (bF (aU (bh (K:=K) rfl) (fO (aj (pv 9) (aj (bM (Bw (K:=K) rfl) (fB (g8 (K:=K) rfl) (pv 9) (gC aB) gD) (fB (g8 (K:=K) rfl) (pv 9) gD (gC aB))) aA))) (pv 3) (fun _ _=>rfl))))))) bD)
   (aF (dU (aZ Gg (pv 6) mW (bB _)) (aK (bF (jg (aj (bG bL (hr.mono (by decide)) (by rfl) (aj (pv 0) (aj aB aA))) (aj (bG bL (hr.mono (by decide)) (by rfl) (aj (pv 0) (aj aB aA))) (aj (bM fD aB (pv 4)) (aj (bG bL (hr.mono (by decide)) (by rfl) (aj (pv 0) (aj aB aA))) aA))))))) bD)
   (aF (dU (aZ yc (pv 2) aB (bB _)) (aK (bF (jg (aj (aU (aY (K:=K) rfl) (pv 6) aB (fun _ _=>rfl)) (aj (aU (aY (K:=K) rfl) (pv 6) aB (fun _ _=>rfl)) (aj (aU (aY (K:=K) rfl) (pv 6) aB (fun _ _=>rfl)) (aj (bG bL (hr.mono (by decide)) (by rfl) (aj (pv 0) (aj (aU (bh (K:=K) rfl) (pv 1) (aU (aY (K:=K) rfl) (pv 6) aB (fun _ _=>rfl)) (fun _ _=>rfl)) aA))) aA))))))) bD)
   (aF (bC (i:=10) gP.nd rfl (Or.inl rfl) (aX (aR (K:=K) rfl) (by rfl) Bt.fL d8 (aj (pv 1) aA)))
   (aF (dU (aZ gF (bM pP (pv 2) aB) aB (bB _)) (aK (bC (i:=10) gP.nd rfl (Or.inl rfl) (aU (bh (K:=K) rfl) (pv 1) (aU (aY (K:=K) rfl) (pv 6) (bM mX (pv 2) aB) (fun _ _=>rfl)) (fun _ _=>rfl)))) bD)
   (aK (bF (bM HD (bM HD (fB (g8 (K:=K) rfl) (pv 6) gD (gC (pv 2))) (jg (aj (aU (bh (K:=K) rfl) (fO (aj (bM fD (pv 10) (pv 4)) (aj (bM mX (Hu Av aB) (pv 4)) aA))) (pv 3) (fun _ _=>rfl)) aA))) (fB (g8 (K:=K) rfl) (pv 6) (gC (bM fD (pv 2) aB)) gD)))))))))))))), ?_⟩
  have c8:=ok.1;refine ⟨_,rfl,r,b,6,n,rfl,B0,by omega,by decide,by decide,fun part H1 p0 p1 B1 k1=> ?_⟩;refine ⟨_,rfl,r,b,2,n+1,rfl,B1,by omega,by decide,by decide,fun below H2 l0 l1 B2 k2=> ?_⟩;refine ⟨_,rfl,r,b,n+2,rfl,B2,by omega,fun far H3 f0 B3 k3=> ?_⟩;have Zc:=(k1.trans k2).trans k3;have ha3:=Zc _ _ ha Jo;refine ⟨_,rfl,a,_,rfl,.inl (bK.of ha3),_,rfl,by rw [List.length_map];omega,by rw [List.length_map];omega,fun D hD=> ?_⟩;have Ia:(((cs.map V.int).length:Nat):Int).toNat=cs.length:=by simp
  rw [Ia];refine mY (fun (i:Nat)=>if gI cs (i:Int)=0 then some (V.int (0+(i:Int))) else none) hD (by omega) (fun j H4 G F hj s4 kG kF=> ?_) (fun H4 s4 e4=> ?_)
  ·refine ⟨_,rfl,_,rfl,_,_,_,_,rfl,rfl,bK.of (s4 _ _ ha3),(gZ (h:=0+(j:Int)) (by omega) (by omega)),rfl,_,rfl, ?_⟩
   have ej:(0+(j:Int))=(j:Int):=by omega
   rw [ej];refine dY (fun q=> ?_) (fun q=> ?_)
   ·have q:gI cs (j:Int)=0:=by injection (of_decide_eq_true q)
    refine ⟨_,rfl,kF _ H4 (Same.refl _) ?_⟩;rw [if_pos q,ej]
   ·have q:¬gI cs (j:Int)=0:=fun z=>q (decide_eq_true (by rw [z]))
    exact kG H4 (Same.refl _) (if_neg q)
  rw [Sq] at e4;have B4:=B3.keep s4;have V2:D≠r:=(B3.ne hD).1;have z8:=Ss cs;have Zb:Kp r H H4:=Zc.trans (.of_same s4);have ha4:=s4 _ _ ha3;dsimp only;refine gB (fun σ H5=>∃(nv:V),σ=[some (.ref r),some (.ref a),some (.int part),some (.int below),some (.int far),some (.ref D),some nv,none,none,none,none]/\(nv = .non \/ ∃t x,nv = .ref t/\H5 t=some (.tup (nV x))/\qZ cs x)/\dR H5 r b (n+9)/\Kp r H4 H5) (fun D' hD' _=> ?_) ?_
  ·exact ⟨_,rfl,_,rfl,r,b,_,a,cs,rfl,B4,by omega,ha4,Jo,ok,fun H5 _ B5 k5=>hD' _ _ ⟨_,rfl,.inl rfl,B5.mono (by omega),k5⟩,fun t x H5 ht0 ht nx B5 k5=>hD' _ _ ⟨_,rfl,.inr ⟨t,x,rfl,ht,nx⟩,B5.mono (by omega),k5⟩⟩
  rintro σ H5 ⟨nv,rfl,hnv,B5,k5⟩;have Za:=Zb.trans k5;have e5:=k5 _ _ e4 V2;have ha5:=k5 _ _ ha4 Jo;refine gB (fun σ H6=>σ=[some (.ref r),some (.ref a),some (.int part),some (.int below),some (.int far),some (.ref D),some nv,none,none,none,none]/\Same H5 H6) (fun D' hD' O2=> ?_) ?_
  ·refine ⟨_,rfl,(by show 0<=sizeLine;decide),fun q hq=> ?_⟩
   have sq:=aJ (o:=HO.lst []) hq;have e6:=sq _ _ e5;have Q8:=sq _ _ ha5;have B6:=B5.keep sq;have XQ:Kp r H (upd H5 q (HO.lst [])):=Za.trans (.of_same sq);refine ⟨_,_,eX e6,eX (ns:=[]) au,shaped_ints _,shaped_ints _,_,rfl, ?_⟩;rw [if_pos rfl,gG PyData.int jZ];have stay:=hD' _ _ ⟨rfl,sq⟩;refine dY (fun w0=> ?_) (fun _=>stay);have w0:O9 cs≠[]:=by simpa using w0
   have alR:0<(O9 cs).length:=List.length_pos_iff.mpr w0;refine ⟨_,rfl,a,_,rfl,.inl (bK.of Q8),_,_,rfl,rfl,_,rfl, ?_⟩;refine dY (fun w1=> ?_) (fun _=>stay);have w1:(((cs.map V.int).length:Nat):Int)>1:=of_decide_eq_true w1;rw [List.length_map] at w1;refine ⟨_,rfl,rfl,_,rfl, ?_⟩;refine Xf ?_ (fun _ body=>⟨_,rfl,rfl,_,rfl,dY (fun _=>body) (fun _=>stay)⟩);refine ⟨_,rfl,_,rfl,_,rfl,D,_,rfl,.inl (bK.of e6),r,b,_,_,rfl,B6,by omega,by rw [List.length_map];omega,by rw [List.length_map];omega,fun z H7 z0 z1 B7 k7=> ?_⟩;rw [List.length_map] at z1;obtain ⟨h,eh⟩:∃h,(O9 cs)[z.toNat]? = some h:=⟨(O9 cs)[z.toNat]'(by omega),by simp⟩;obtain ⟨h0,h1,hz⟩:=Uo (List.mem_of_getElem? eh)
   have ez:CP ((O9 cs).map V.int) z=some (.int h):=by
    obtain ⟨m,rfl⟩:=Int.eq_ofNat_of_zero_le z0;refine qg ?_;have eh':(O9 cs)[m]? = some h:=eh;rw [List.getElem?_map,eh'];rfl
   have ha7:=k7 _ _ Q8 Jo;refine ⟨_,_,_,_,rfl,rfl,bK.of (k7 _ _ e6 V2),ez, ?_⟩;refine ⟨_,rfl,_,_,rfl,rfl,_,rfl,_,rfl,a,_,rfl,.inl (bK.of ha7),_,_,rfl,rfl,r,b,_,_,rfl,B7,by omega,by show (0:Int)<((cs.map V.int).length:Int) - 1;rw [List.length_map];omega,by show ((cs.map V.int).length:Int) - 1<_;rw [List.length_map];omega,fun y H8 y0 y1 B8 k8=> ?_⟩;have y1':y<(cs.length:Int) - 1:=by rw [←List.length_map (f:=V.int)];exact y1
   have ha8:=k8 _ _ ha7 Jo;refine ⟨_,_,rfl,rfl,_,rfl,a,_,rfl,.inl (bK.of ha8),_,_,rfl,rfl,by rw [List.length_map];omega, ?_⟩;have j0:0<=(h+1+y) % (cs.length:Int):=Int.emod_nonneg _ (by omega);have j1:(h+1+y) % (cs.length:Int)<cs.length:=Int.emod_lt_of_pos _ (by omega);have ej:(fun (i:Int) (j:Int)=>V.int (i % j)) (h+1+y) ((cs.map V.int).length:Int)=V.int ((h+1+y) % (cs.length:Int)):=by show V.int _=_;rw [List.length_map]
   generalize (h+1+y) % (cs.length:Int)=j at j0 j1 ej;rw [ej];have gj:=ok.gI j;refine ⟨_,rfl,_,rfl,_,rfl,_,rfl,_,rfl,_,rfl,_,_,_,_,rfl,rfl,bK.of ha8,gZ j0 j1,_,_,rfl,r,b,_,_,rfl,B8,by omega,by split<;>omega,by split<;>omega,fun v H9 v0 v1 B9 k9=> ?_⟩;refine ⟨(by show 4<=sizeLine;decide),fun p hp=> ?_⟩;have sp:=aJ (o:=HO.tup [V.int h,V.int far,V.int j,V.int v]) hp;have hF:(upd H9 p (HO.tup [V.int h,V.int far,V.int j,V.int v])) p=some (.tup (nV (h,far,j,v))):=au;have kF9:=(((XQ.trans k7).trans k8).trans k9).trans (.of_same sp);refine ⟨_,rfl,_,rfl,_,rfl,_,_,rfl,eV.of hF,wX _ rfl,fun q3 Uy=> ?_⟩;have c2:lD (nV (h,far,j,v)) (some 2) none=[.int j,.int v]:=Fd ..;rw [c2];have Tc:=aJ (o:=HO.tup [V.int j,V.int v]) Uy;refine ⟨_,rfl,_,rfl,_,_,rfl,eV.of (Tc _ _ hF),uX _ rfl,fun q4 hq4=> ?_⟩;have c1:lD (nV (h,far,j,v)) none (some 2)=[.int h,.int far]:=Cp ..;rw [c1];have S_:=aJ (o:=HO.tup [V.int h,V.int far]) hq4;refine ⟨_,_,_,_,rfl,rfl,eV.of (S_ _ _ au),eV.of au,by simp,(by show 4<=sizeLine;decide),fun z=>by simp at z,fun _ q5 Gu=> ?_⟩;have sp5:=aJ (o:=HO.tup ([V.int j,V.int v]++[V.int h,V.int far])) Gu;refine ⟨(by show 2<=sizeLine;decide),fun u hu=> ?_⟩;have ZM:=aJ (o:=HO.lst [V.ref p,V.ref q5]) hu;have s56:=sp5.trans ZM;have WX:=(Tc.trans S_).trans s56;have B9':=(B9.keep sp).keep WX;have kE:=kF9.trans (.of_same WX);rcases QD (u:=V.ref p) (v:=V.ref q5) below l0 l1 with ⟨_,e⟩|⟨_,e⟩
   ·refine ⟨_,rfl,_,_,_,_,rfl,rfl,bK.of au,e, ?_⟩
    rw [O2];exact k p (h,far,j,v) _ (WX _ _ hF) (fun z=>by have z2:far<gI cs h:=z.2.1.2;rw [hz] at z2;omega) (B9'.mono (by omega)) kE
   ·refine ⟨_,rfl,_,_,_,_,rfl,rfl,bK.of au,e, ?_⟩
    rw [O2];exact k q5 (j,v,h,far) _ (ZM _ _ au) (fun z=>by have z2:far<gI cs h:=z.2.2.2.1.2;rw [hz] at z2;omega) (B9'.mono (by omega)) kE
  rintro σ H6 ⟨rfl,s6⟩;have B6:=B5.keep s6;have XQ:Kp r H H6:=Za.trans (.of_same s6);have Q8:=s6 _ _ ha5;refine ⟨_,rfl,rfl,_,rfl, ?_⟩;rcases hnv with rfl|⟨t,x,rfl,ht,nx⟩
  ·refine dY (fun _=> ?_) (fun q=>absurd (by simp) q)
   refine ⟨_,rfl,r,b,9,_,rfl,B6,by omega,by decide,by decide,fun v1 H7 v10 v11 B7 k7=> ?_⟩;refine ⟨_,rfl,r,b,9,_,rfl,B7,by omega,by decide,by decide,fun v2 H8 v20 v21 B8 k8=> ?_⟩;refine ⟨_,rfl,_,_,rfl,rfl, ?_⟩;refine ⟨_,rfl,r,b,9,_,rfl,B8,by omega,by decide,by decide,fun v3 H9 v30 v31 B9 k9=> ?_⟩;refine ⟨(by show 4<=sizeLine;decide),fun p hp=> ?_⟩;have sp:=aJ (o:=HO.tup [V.int v1,V.int v2,V.int (8+far),V.int v3]) hp;exact k p (v1,v2,8+far,v3) _ au (fun z=>by have z2:8+far<cs.length:=z.2.2.1.2;omega) ((B9.keep sp).mono (by omega)) ((((XQ.trans k7).trans k8).trans k9).trans (.of_same sp))
  refine dY (fun q=>absurd q (by simp)) (fun _=> ?_);have QX:=s6 _ _ ht;obtain ⟨⟨h0,h1⟩,⟨g0,g1⟩,⟨o0,o1⟩,⟨m0,m1⟩,hne⟩:=id nx;refine ⟨_,rfl,_,_,rfl,rfl,_,rfl, ?_⟩;refine dY (fun w3=> ?_) (fun w3=> ?_)
  ·have gg:=ok.gI x.1
   refine ⟨_,rfl,_,_,_,_,rfl,rfl,eV.of QX,rfl,_,rfl,_,_,_,_,rfl,rfl,eV.of QX,rfl,_,rfl,_,_,_,_,rfl,rfl,eV.of QX,rfl, ?_⟩;refine ⟨_,rfl,_,rfl,_,rfl,_,_,_,_,rfl,rfl,eV.of QX,rfl,_,_,_,_,rfl,rfl,bK.of Q8,gZ h0 h1,r,b,_,_,rfl,B6,by omega,by omega,by omega,fun v H7 v0 v1 B7 k7=> ?_⟩;refine ⟨(by show 4<=sizeLine;decide),fun p hp=> ?_⟩;have sp:=aJ (o:=HO.tup [V.int x.1,V.int x.2.1,V.int x.1,V.int v]) hp;exact k p (x.1,x.2.1,x.1,v) _ au (fun z=>z.2.2.2.2 rfl) ((B7.keep sp).mono (by omega)) ((XQ.trans k7).trans (.of_same sp))
  have p3:part<4:=by
   have:¬part>3:=fun z=>w3 (decide_eq_true z);omega
  refine ⟨_,rfl,a,_,rfl,.inl (bK.of Q8), ?_⟩;rw [List.length_map];dsimp only;refine gB (fun σ H7=>∃top:Int,σ=[some (.ref r),some (.ref a),some (.int part),some (.int below),some (.int far),some (.ref D),some (.ref t),none,none,none,some (.int top)]/\H7=H6/\(part=0->top=cs.length)/\(part=1->top=gI cs x.1)/\(part=2->top=cs.length)/\(part=3->top=gI cs x.2.2.1)) (fun D' hD' O2=> ?_) ?_
  ·refine ⟨_,rfl,_,_,rfl,rfl,(by show (0:Int)<2;decide),rfl,_,rfl, ?_⟩
   have:part=0\/part=1\/part=2\/part=3:=by omega
   rcases this with rfl|rfl|rfl|rfl
   ·refine iM (hD' _ _ ⟨_,rfl,rfl,fun _=>rfl,fun z=>by omega,fun z=>by omega,fun z=>by omega⟩)
   ·refine ji ?_
    exact ⟨_,rfl,_,rfl,_,rfl,_,_,rfl,rfl,_,_,_,_,rfl,rfl,eV.of QX,rfl,_,_,_,_,rfl,rfl,bK.of Q8,gZ h0 h1,hD' _ _ ⟨_,rfl,rfl,fun z=>by omega,fun _=>rfl,fun z=>by omega,fun z=>by omega⟩⟩
   ·refine iM (hD' _ _ ⟨_,rfl,rfl,fun z=>by omega,fun z=>by omega,fun _=>rfl,fun z=>by omega⟩)
   ·refine ji ?_
    exact ⟨_,rfl,_,rfl,_,rfl,_,_,rfl,rfl,_,_,_,_,rfl,rfl,eV.of QX,rfl,_,_,_,_,rfl,rfl,bK.of Q8,gZ o0 o1,hD' _ _ ⟨_,rfl,rfl,fun z=>by omega,fun z=>by omega,fun z=>by omega,fun _=>rfl⟩⟩
  rintro σ H7 ⟨top,rfl,rfl,t0,t1,t2,t3⟩;refine ⟨_,rfl,_,rfl,_,rfl,_,_,rfl,eV.of QX,aae x p0 p3,fun q1 hq1=> ?_⟩;have s1:=aJ (o:=HO.tup (lD (nV x) none (some part))) hq1;refine ⟨_,rfl,_,rfl,_,_,rfl,rfl,_,rfl,_,rfl,_,_,rfl,rfl,(by show 2<=sizeLine;decide),fun q2 hq2=> ?_⟩;have s2:=aJ (o:=HO.lst [V.int (top+far),V.int (-1 - far)]) hq2
  obtain ⟨v,ev,hv⟩:∃v:Int,CP [V.int (top+far),V.int (-1 - far)] below=some (.int v)/\(v=top+far\/v = -1 - far):=by
   rcases QD (u:=V.int (top+far)) (v:=V.int (-1 - far)) below l0 l1 with ⟨_,e⟩|⟨_,e⟩
   ·exact ⟨_,e,.inl rfl⟩
   ·exact ⟨_,e,.inr rfl⟩
  refine ⟨_,rfl,_,_,_,_,rfl,rfl,bK.of au,ev,(by show 1<=sizeLine;decide),fun q3 Uy=> ?_⟩;have s3:=aJ (o:=HO.tup [V.int v]) Uy;have l1':=qQ (nV x) none (some part);have l2':=qQ (nV x) (some (part+1)) none;have l4:(nV x).length=4:=rfl;refine ⟨_,_,_,_,rfl,rfl,(s2.trans s3) _ _ au,au,by rw [sizeLine_eq];simp only [List.length_singleton];omega,fun q4 H8 e8 s4=> ?_⟩;have ZW:=((s1.trans s2).trans s3).trans s4;refine ⟨_,rfl,_,rfl,_,_,rfl,rfl,_,rfl,_,_,rfl,eV.of (ZW _ _ QX),aad x p0 p3,fun q5 Gu=> ?_⟩;have s5:=aJ (o:=HO.tup (lD (nV x) (some (part+1)) none)) Gu;refine ⟨_,_,_,_,rfl,rfl,s5 _ _ e8,au,by rw [sizeLine_eq];simp only [List.length_append,List.length_singleton];omega,fun q6 H9 e9 s6=> ?_⟩;rw [W8 x p0 p3] at e9;have s09:=(ZW.trans s5).trans s6;refine k q6 (putN x part v) H9 e9 (fun z=> ?_) ((B6.keep s09).mono (by omega)) (XQ.trans (.of_same s09));have:part=0\/part=1\/part=2\/part=3:=by omega
  rcases this with rfl|rfl|rfl|rfl
  ·have z1:0<=v/\v<cs.length:=z.1
   have:=t0 rfl;omega
  ·have z1:0<=v/\v<gI cs x.1:=z.2.1
   have:=t1 rfl;omega
  ·have z1:0<=v/\v<cs.length:=z.2.2.1
   have:=t2 rfl;omega
  ·have z1:0<=v/\v<gI cs x.2.2.1:=z.2.2.2.1
   have:=t3 rfl;omega
theorem zc {α β:Type} (f:α->β):∀(l:List α) (m:Nat),(l.map f).eraseIdx m=(l.eraseIdx m).map f
 | [],_=>rfl
 | _::_,0=>rfl
 | x::l,m+1=>by simp only [List.map_cons,List.eraseIdx_cons_succ,zc f l m]
def FZ (K:PySem.W.Frag):Sp:=fun vs H Q _=>∃(r b:Addr) (n:Nat) (c:Addr) (cs:List Int),vs=[.ref r,.ref c]/\dR H r b n/\n<274877906944/\H c=some (.lst (cs.map V.int))/\c≠r/\oF cs /\ ∀(p:Addr) (es:List Int) (H':Hp),H p=none->H' p=some (.lst (es.map V.int))->es.length<=9->dR H' r b (n+15)->Kp r H H'->Q (.ref p) H'
theorem Qt {f:Addr} {fd:FuncData} (F:qj K "_law_list" "_law_list" p7 f fd) (bL:FnAt P w K mg base 2 "_law_draw" ["bag","many"] (qz K)) (Dh:FnAt P w K mg base 3 "_law_far" ["bag"] (Hf K)) (Bt:tU mg):gn P w K mg base tV 4 f fd ["bag","counts"] (FZ K):=by
 refine F.ok uV (fun vs H Q E h=> ?_) (fun cdv A outer s H vs Q E hr h=> ?_)
 ·obtain ⟨r,b,n,c,cs,rfl,_⟩:=h
  rfl
 ·obtain ⟨r,b,n,c,cs,rfl,B0,hn,hc,Jm,m5,k⟩:=h
  have gO:=hr.units
  refine ⟨_,(aF (bC (i:=2) uV.nd rfl (Or.inl rfl) (bG bL (hr.mono (by decide)) (by rfl) (aj (pv 0) (aj aB aA))))
   (aF (bC (i:=3) uV.nd rfl (Or.inl rfl) (bG Dh (hr.mono (by decide)) (by rfl) (aj (pv 0) aA)))
   (aF (pC (i:=4) rfl uV.nd rfl (Or.inl rfl) (N:=["count","bag"]) (own:=["count"]) (caps:=[0]) (bH.of (by kernel_rfl)) (fP (K:=K) rfl (pv 1)) (fun _ _ _ _=>(bY (i:=0) (show List.Nodup (["count","bag"]:List Str) by decide +kernel) rfl (Or.inl rfl))) (fun _ _ _ _=>iD) (fun _ _ _ _=>(bG bL (hr.mono (by decide)) (by rfl) (aj (pv 1) (aj (bM fD (pv 0) aB) aA)))))
   (aF (bC (i:=5) uV.nd rfl (Or.inl rfl) (bG bL (hr.mono (by decide)) (by rfl) (aj (pv 0) (aj (aX (rG rfl) (by rfl) Bt.Je Cy (aj aB (aj (aX (aR (K:=K) rfl) (by rfl) Bt.fL d8 (aj (pv 4) aA)) aA))) aA))))
   (aF (dU (PW.pt (jf (aZ gF (pv 2) aB (bB _)) (iC (aZ (jh (K:=K) rfl gO) (pv 4) (fO aA) (bB _))))) (aK (qW (bM mX (Hu Av aB) (pv 3)) (qX (pv 4) (pv 5) set_list))) bD)
   (aF (dU (PW.pt (jf (aZ gF (pv 2) aB (bB _)) (iC (aZ (jh (K:=K) rfl gO) (pv 4) (fO aA) (bB _))))) (aK (qW (bM fD (bM fD (aU (bh (K:=K) rfl) (pv 1) (pv 5) (fun _ _=>rfl)) aB) (pv 3)) (qX (pv 4) (pv 5) set_list))) bD)
   (aF (dU (aZ gF (pv 2) aB (bB _)) (aK (eZ (pO (K:=K) rfl PySem.F.plainAttrs_list PySem.F.slot_list_insert PySem.F.type_list_insert qp (pv 4) (aj (pv 5) (aj aB aA))))) bD)
   (aF (dU (PW.pt (jf (aZ gF (pv 2) aB (bB _)) (iC (aZ (jh (K:=K) rfl gO) (pv 4) (fO aA) (bB _))))) (aK (eZ (pO (K:=K) rfl PySem.F.plainAttrs_list PySem.F.slot_list_pop PySem.F.type_list_pop HS (pv 4) (aj (pv 5) aA)))) bD)
   (aK (bF (pv 4))))))))))), ?_⟩
  have c8:=m5.1;refine ⟨_,rfl,r,b,5,n,rfl,B0,by omega,by decide,by decide,fun kind H1 d0 d1 B1 k1=> ?_⟩;refine ⟨_,rfl,r,b,_,rfl,B1,by omega,fun far H3 f0 B3 k3=> ?_⟩;have Zc:=k1.trans k3;have hc3:=Zc _ _ hc Jm;refine ⟨_,rfl,c,rfl,⟨_,bK.of hc3⟩,fun D hD=> ?_⟩;refine Ka (K:=K) (f:=0) (fun i z=>True) hD B3 (by rw [List.length_map];omega) hc3 Jm (fun i x H4 F hi k4 B4 kF=> ?_) (fun H4 zs zl hz e4 k4 B4=> ?_)
  ·rw [List.getElem?_map] at hi
   cases ei:cs[i]? with
   | none=>rw [ei] at hi;cases hi
   | some v=>
     rw [ei] at hi;cases hi;have g:=m5.gI (i:Int);rw [oh ei] at g;have il:=(List.getElem?_eq_some_iff.mp ei).1;exact ⟨_,rfl,_,rfl,_,_,rfl,rfl,r,b,v+1,_,rfl,B4,by omega,by omega,by omega,fun z H5 z0 z1 B5 k5=>kF z H5 True.intro k5 B5⟩
  rw [List.length_map] at zl B4;have Zb:=Zc.trans k4;have V5:H D=none:=Kp.new Zc hD B3.at;obtain ⟨V2,nDb⟩:=B0.ne V5;have hc4:=k4 _ _ hc3 Jm;refine ⟨_,rfl,_,rfl,D,_,rfl,.inl (bK.of e4),_,_,rfl,r,b,_,_,rfl,B4,by omega, ?_, ?_,fun at_ H5 a0 a1 B5 k5=> ?_⟩
  ·split<;>omega
  ·rw [List.length_map];split<;>omega
  rw [List.length_map,zl] at a1;have e5:=k5 _ _ e4 V2;have Za:=Zb.trans k5;have hc5:=k5 _ _ hc4 Jm;have ncD:c≠D:=aL hc V5
  have at1:0<cs.length->at_<cs.length:=fun h0=>by
   have:(if ((cs.length:Nat):Int)>1 then ((cs.length:Nat):Int) else 1)=cs.length:=by split<;>omega
   omega
  have ajT:at_<=cs.length:=by
   have:(if ((cs.length:Nat):Int)>1 then ((cs.length:Nat):Int) else 1)<=cs.length+1:=by split<;>omega
   omega
  dsimp only;refine gB (fun σ H6=>∃fs:List Int,σ=[some (.ref r),some (.ref c),some (.int kind),some (.int far),some (.ref D),some (.int at_)]/\H6 D=some (.lst (fs.map V.int))/\Kp D H5 H6/\fs.length=cs.length) (fun D' hD' _=> ?_) ?_
  ·refine ⟨_,rfl,rfl,_,rfl, ?_⟩
   refine dY (fun w1=> ?_) (fun w1=>hD' _ _ ⟨zs,rfl,e5,Kp.refl _ _,zl⟩);refine ⟨_,rfl,(by show 0<=sizeLine;decide),fun q hq=> ?_⟩;have sq:=aJ (o:=HO.lst []) hq;refine ⟨_,_,eX (sq _ _ e5),eX (ns:=[]) au,shaped_ints _,shaped_ints _,_,rfl, ?_⟩;rw [if_pos rfl,gG PyData.int jZ]
   by_cases e0:zs=[]
   ·rw [e0]
    refine dY (fun z=>absurd z (by simp)) (fun _=> ?_);exact hD' _ _ ⟨zs,rfl,sq _ _ e5,.of_same sq,zl⟩
   refine dY (fun _=> ?_) (fun z=>absurd (by simp [e0]) z);have a1':=at1 (by rw [←zl];exact List.length_pos_iff.mpr e0);have e6:=sq _ _ e5;refine ⟨_,rfl,_,rfl,_,_,rfl,rfl,_,rfl,_,rfl,_,_,_,_,rfl,rfl,e6,qP a0 (by rw [List.length_map];omega), ?_⟩;refine hD' _ _ ⟨zs.set at_.toNat (-1 - far),rfl, ?_,(Kp.of_same sq).trans Kp.set,by rw [List.length_set];exact zl⟩;show (upd (upd H5 q (HO.lst [])) D (.lst ((zs.map V.int).set at_.toNat (V.int (-1 - far))))) D=_;rw [au,List.map_set]
  rintro σ H6 ⟨fs,rfl,e6,k6,fl⟩;refine gB (fun σ H7=>∃gs:List Int,σ=[some (.ref r),some (.ref c),some (.int kind),some (.int far),some (.ref D),some (.int at_)]/\H7 D=some (.lst (gs.map V.int))/\Kp D H5 H7/\gs.length=cs.length) (fun D' hD' _=> ?_) ?_
  ·refine ⟨_,rfl,rfl,_,rfl, ?_⟩
   refine dY (fun w1=> ?_) (fun w1=>hD' _ _ ⟨fs,rfl,e6,k6,fl⟩);refine ⟨_,rfl,(by show 0<=sizeLine;decide),fun q hq=> ?_⟩;have sq:=aJ (o:=HO.lst []) hq;refine ⟨_,_,eX (sq _ _ e6),eX (ns:=[]) au,shaped_ints _,shaped_ints _,_,rfl, ?_⟩;rw [if_pos rfl,gG PyData.int jZ]
   by_cases e0:fs=[]
   ·rw [e0]
    refine dY (fun z=>absurd z (by simp)) (fun _=> ?_);exact hD' _ _ ⟨fs,rfl,sq _ _ e6,k6.trans (.of_same sq),fl⟩
   refine dY (fun _=> ?_) (fun z=>absurd (by simp [e0]) z);have a1':=at1 (by rw [←fl];exact List.length_pos_iff.mpr e0);have e7:=sq _ _ e6;have hc7:=sq _ _ (k6 _ _ hc5 ncD);refine ⟨_,rfl,_,rfl,_,_,_,_,rfl,rfl,bK.of hc7,gZ a0 a1',_,_,rfl,rfl,_,rfl,_,_,rfl,rfl,_,rfl,_,rfl,_,_,_,_,rfl,rfl,e7,qP a0 (by rw [List.length_map];omega), ?_⟩;refine hD' _ _ ⟨fs.set at_.toNat (gI cs at_+1+far),rfl, ?_,(k6.trans (.of_same sq)).trans Kp.set,by rw [List.length_set];exact fl⟩;show (upd (upd H6 q (HO.lst [])) D (.lst ((fs.map V.int).set at_.toNat (V.int (gI cs at_+1+far))))) D=_;rw [au,List.map_set]
  rintro σ H7 ⟨gs,rfl,e7,k7,gl⟩;refine gB (fun σ H8=>∃hs:List Int,σ=[some (.ref r),some (.ref c),some (.int kind),some (.int far),some (.ref D),some (.int at_)]/\H8 D=some (.lst (hs.map V.int))/\Kp D H5 H8/\hs.length<=9/\(kind≠3->hs.length=cs.length)) (fun D' hD' _=> ?_) ?_
  ·refine ⟨_,rfl,rfl,_,rfl, ?_⟩
   refine dY (fun w1=> ?_) (fun w1=>hD' _ _ ⟨gs,rfl,e7,k7,by omega,fun _=>gl⟩);have w1:kind=3:=by injection (of_decide_eq_true w1)
   refine ⟨_,rfl,.inl ⟨rfl,_,bK.of e7⟩,_,rfl,D,_,at_,_,rfl,rfl,e7,a0,by rw [List.length_map];omega,by rw [List.length_map,sizeLine_eq];omega, ?_⟩;refine hD' _ _ ⟨gs.take at_.toNat++0::gs.drop at_.toNat,rfl, ?_,k7.trans Kp.set, ?_,fun z=>absurd w1 z⟩
   ·show (upd H7 D (.lst ((gs.map V.int).take at_.toNat++V.int 0::(gs.map V.int).drop at_.toNat))) D=_
    rw [au,List.map_append,List.map_cons,List.map_take,List.map_drop]
   ·simp only [List.length_append,List.length_cons,List.length_take,List.length_drop]
    omega
  rintro σ H8 ⟨hs,rfl,e8,k8,hl,hl3⟩;have XD:∀{H9:Hp},Kp D H5 H9->dR H9 r b (n+15)/\Kp r H H9:=fun k9=>⟨(B5.kp k9 V2.symm nDb.symm).mono (by omega),fun q o e nq=>k9 _ _ (Za _ _ e nq) (aL e V5)⟩;refine gB (fun σ H9=>∃is:List Int,σ=[some (.ref r),some (.ref c),some (.int kind),some (.int far),some (.ref D),some (.int at_)]/\H9 D=some (.lst (is.map V.int))/\Kp D H5 H9/\is.length<=9) (fun D' hD' _=> ?_) ?_
  ·refine ⟨_,rfl,rfl,_,rfl, ?_⟩
   refine dY (fun w1=> ?_) (fun w1=>hD' _ _ ⟨hs,rfl,e8,k8,hl⟩);have w1:kind=4:=by injection (of_decide_eq_true w1)
   have hl4:=hl3 (by omega);refine ⟨_,rfl,(by show 0<=sizeLine;decide),fun q hq=> ?_⟩;have sq:=aJ (o:=HO.lst []) hq;refine ⟨_,_,eX (sq _ _ e8),eX (ns:=[]) au,shaped_ints _,shaped_ints _,_,rfl, ?_⟩;rw [if_pos rfl,gG PyData.int jZ]
   by_cases e0:hs=[]
   ·rw [e0]
    refine dY (fun z=>absurd z (by simp)) (fun _=> ?_);exact hD' _ _ ⟨hs,rfl,sq _ _ e8,k8.trans (.of_same sq),hl⟩
   refine dY (fun _=> ?_) (fun z=>absurd (by simp [e0]) z);have a1':=at1 (by rw [←hl4];exact List.length_pos_iff.mpr e0);have e9:=sq _ _ e8;obtain ⟨m,rfl⟩:=Int.eq_ofNat_of_zero_le a0;have hm:m<hs.length:=by omega
   have si:seqIndex? (m:Int) (hs.map V.int).length=some m:=by rw [List.length_map,seqIndex_of (by omega) (by omega),Int.toNat_natCast]
   refine ⟨_,rfl,.inl ⟨rfl,_,bK.of e9⟩,_,rfl,D,_,(m:Int),m,_,rfl,rfl,e9,by omega,by omega,si,by rw [List.getElem?_map,List.getElem?_eq_getElem hm];rfl, ?_⟩;refine hD' _ _ ⟨hs.eraseIdx m,rfl, ?_,(k8.trans (.of_same sq)).trans Kp.set, ?_⟩
   ·show (upd (upd H8 q (HO.lst [])) D (.lst ((hs.map V.int).eraseIdx m))) D=_
    rw [au,zc]
   ·rw [List.length_eraseIdx];split<;>omega
  rintro σ H9 ⟨is,rfl,e9,k9,il⟩;obtain ⟨B9,k09⟩:=XD k9;exact ⟨_,rfl,k D is H9 V5 e9 il B9 k09⟩
theorem Xw (u v w:Int) (n:Int) (h0:0<=n) (h1:n<3):∃z:Int,CP [V.int u,V.int v,V.int w] n=some (V.int z):=by
 have:n=0\/n=1\/n=2:=by omega
 rcases this with rfl|rfl|rfl
 ·exact ⟨u,rfl⟩
 ·exact ⟨v,rfl⟩
 ·exact ⟨w,rfl⟩
def Ay (K:PySem.W.Frag):Sp:=fun vs H Q _=>∃(r b:Addr) (n:Nat) (c:Addr) (cs:List Int),vs=[.ref r,.ref c]/\dR H r b n/\n<137438953472/\H c=some (.lst (cs.map V.int))/\c≠r/\oF cs /\ ∀(p:Addr) (os:List Int) (H':Hp),H p=none->H' p=some (.lst (os.map V.int))->os.length<=2401->dR H' r b (n+2410)->Kp r H H'->Q (.ref p) H'
theorem M8 {f:Addr} {fd:FuncData} (F:qj K "_law_turns" "_law_turns" nZ f fd) (bL:FnAt P w K mg base 2 "_law_draw" ["bag","many"] (qz K)) (Dh:FnAt P w K mg base 3 "_law_far" ["bag"] (Hf K)) (Df:FnAt P w K mg base 3 "_law_order" ["bag","counts"] (zX K)) (Bt:tU mg):gn P w K mg base tV 4 f fd ["bag","counts"] (Ay K):=by
 refine F.ok ql (fun vs H Q E h=> ?_) (fun cdv A outer s H vs Q E hr h=> ?_)
 ·obtain ⟨r,b,n,c,cs,rfl,_⟩:=h
  rfl
 ·obtain ⟨r,b,n,c,cs,rfl,B0,hn,hc,Jm,m5,k⟩:=h
  have gO:=hr.units
  refine ⟨_,(aF (bC (i:=2) ql.nd rfl (Or.inl rfl) (bG bL (hr.mono (by decide)) (by rfl) (aj (pv 0) (aj aB aA))))
   (aF (bC (i:=3) ql.nd rfl (Or.inl rfl) (bG Dh (hr.mono (by decide)) (by rfl) (aj (pv 0) aA)))
   (aF (bC (i:=4) ql.nd rfl (Or.inl rfl) (aU (bh (K:=K) rfl) (fO (aj (bM mX (bG bL (hr.mono (by decide)) (by rfl) (aj (pv 0) (aj (bM fD (aX (aR (K:=K) rfl) (by rfl) Bt.fL d8 (aj (pv 1) aA)) aB) aA))) aB) (aj (bM fD (aX (aR (K:=K) rfl) (by rfl) Bt.fL d8 (aj (pv 1) aA)) (pv 3)) (aj (bM mX (Hu Av aB) (pv 3)) aA)))) (bG bL (hr.mono (by decide)) (by rfl) (aj (pv 0) (aj aB aA))) (fun _ _=>rfl)))
   (aF (bC (i:=5) ql.nd rfl (Or.inl rfl) (bG Df (hr.mono (by decide)) (by rfl) (aj (pv 0) (aj (pv 1) aA))))
   (aF (bC (i:=6) ql.nd rfl (Or.inl rfl) (bG bL (hr.mono (by decide)) (by rfl) (aj (pv 0) (aj (aX (rG rfl) (by rfl) Bt.Je Cy (aj aB (aj (aX (aR (K:=K) rfl) (by rfl) Bt.fL d8 (aj (pv 5) aA)) aA))) aA))))
   (aF (dU (PW.pt (jf (aZ gF (pv 2) aB (bB _)) (iC (aZ (jh (K:=K) rfl gO) (pv 5) (fO aA) (bB _))))) (aK (qW (pv 4) (qX (pv 5) (pv 6) set_list))) bD)
   (aF (dU (aZ gF (pv 2) aB (bB _)) (aK (eZ (pO (K:=K) rfl PySem.F.plainAttrs_list PySem.F.slot_list_insert PySem.F.type_list_insert qp (pv 5) (aj (pv 6) (aj (pv 4) aA))))) bD)
   (aF (dU (PW.pt (jf (aZ gF (pv 2) aB (bB _)) (iC (aZ (jh (K:=K) rfl gO) (pv 5) (fO aA) (bB _))))) (aK (eZ (pO (K:=K) rfl PySem.F.plainAttrs_list PySem.F.slot_list_pop PySem.F.type_list_pop HS (pv 5) (aj (pv 6) aA)))) bD)
   (aK (bF (pv 5))))))))))), ?_⟩
  have c8:=m5.1;refine ⟨_,rfl,r,b,5,n,rfl,B0,by omega,by decide,by decide,fun kind H1 d0 d1 B1 k1=> ?_⟩;refine ⟨_,rfl,r,b,_,rfl,B1,by omega,fun far H2 f0 B2 k2=> ?_⟩;have hc2:=(k1.trans k2) _ _ hc Jm;refine ⟨_,rfl,_,rfl,c,_,rfl,.inl (bK.of hc2),_,_,rfl,rfl,r,b,_,_,rfl,B2,by omega,by rw [List.length_map];omega,by rw [List.length_map];omega,fun w H3 w0 w1 B3 k3=> ?_⟩;have hc3:=k3 _ _ hc2 Jm;refine ⟨_,_,rfl,rfl, ?_⟩;refine ⟨_,rfl,c,_,rfl,.inl (bK.of hc3),_,rfl,_,_,rfl,rfl, ?_⟩;refine ⟨_,rfl,_,rfl,_,_,rfl,rfl, ?_⟩;refine ⟨(by show 3<=sizeLine;decide),fun q hq=> ?_⟩;have sq:=aJ (o:=HO.lst [V.int (w - 1),V.int (((cs.map V.int).length:Nat)+far),V.int (-1 - far)]) hq;have nq:=(B3.ne hq);refine ⟨_,rfl,r,b,3,_,rfl,B3.keep sq,by omega,by decide,by decide,fun y H4 y0 y1 B4 k4=> ?_⟩;obtain ⟨hand,eh⟩:=Xw (w - 1) (((cs.map V.int).length:Nat)+far) (-1 - far) y y0 y1;refine ⟨_,_,_,_,rfl,rfl,bK.of (k4 _ _ au nq.1),eh, ?_⟩;have Zb:=(((k1.trans k2).trans k3).trans (.of_same sq)).trans k4;have hc4:=k4 _ _ (sq _ _ hc3) Jm;refine ⟨_,rfl,_,rfl,r,b,_,c,cs,rfl,B4,by omega,hc4,Jm,m5,fun D zs H5 hD e5 oo inr B5 k5=> ?_⟩;have zl:=oo.1;have Za:=Zb.trans k5;have V5:H D=none:=Kp.new Zb hD B4.at;obtain ⟨V2,nDb⟩:=B0.ne V5;refine ⟨_,rfl,_,rfl,D,_,rfl,.inl (bK.of e5),_,_,rfl,r,b,_,_,rfl,B5,by omega, ?_, ?_,fun at_ H6 a0 a1 B6 k6=> ?_⟩
  ·split<;>omega
  ·rw [List.length_map];split<;>omega
  rw [List.length_map] at a1;have e6:=k6 _ _ e5 V2;have XQ:=Za.trans k6
  have at1:0<zs.length->at_<zs.length:=fun h0=>by
   have:(if ((zs.length:Nat):Int)>1 then ((zs.length:Nat):Int) else 1)=zs.length:=by split<;>omega
   omega
  have ajT:at_<=zs.length:=by
   have:(if ((zs.length:Nat):Int)>1 then ((zs.length:Nat):Int) else 1)<=zs.length+1:=by split<;>omega
   omega
  dsimp only;refine gB (fun σ H7=>∃fs:List Int,σ=[some (.ref r),some (.ref c),some (.int kind),some (.int far),some (.int hand),some (.ref D),some (.int at_)]/\H7 D=some (.lst (fs.map V.int))/\Kp D H6 H7/\fs.length=zs.length) (fun D' hD' _=> ?_) ?_
  ·refine ⟨_,rfl,rfl,_,rfl, ?_⟩
   refine dY (fun w1=> ?_) (fun w1=>hD' _ _ ⟨zs,rfl,e6,Kp.refl _ _,rfl⟩);refine ⟨_,rfl,(by show 0<=sizeLine;decide),fun q hq=> ?_⟩;have sq:=aJ (o:=HO.lst []) hq;refine ⟨_,_,eX (sq _ _ e6),eX (ns:=[]) au,shaped_ints _,shaped_ints _,_,rfl, ?_⟩;rw [if_pos rfl,gG PyData.int jZ]
   by_cases e0:zs=[]
   ·rw [e0]
    refine dY (fun z=>absurd z (by simp)) (fun _=> ?_);exact hD' _ _ ⟨zs,rfl,sq _ _ e6,.of_same sq,rfl⟩
   refine dY (fun _=> ?_) (fun z=>absurd (by simp [e0]) z);have a1':=at1 (List.length_pos_iff.mpr e0);have e7:=sq _ _ e6;refine ⟨_,rfl,_,rfl,_,rfl,_,_,_,_,rfl,rfl,e7,qP a0 (by rw [List.length_map];omega), ?_⟩;refine hD' _ _ ⟨zs.set at_.toNat hand,rfl, ?_,(Kp.of_same sq).trans Kp.set,by rw [List.length_set]⟩;show (upd (upd H6 q (HO.lst [])) D (.lst ((zs.map V.int).set at_.toNat (V.int hand)))) D=_;rw [au,List.map_set]
  rintro σ H7 ⟨gs,rfl,e7,k7,gl⟩;refine gB (fun σ H8=>∃hs:List Int,σ=[some (.ref r),some (.ref c),some (.int kind),some (.int far),some (.int hand),some (.ref D),some (.int at_)]/\H8 D=some (.lst (hs.map V.int))/\Kp D H6 H8/\hs.length<=2401/\(kind≠2->hs.length=zs.length)) (fun D' hD' _=> ?_) ?_
  ·refine ⟨_,rfl,rfl,_,rfl, ?_⟩
   refine dY (fun w1=> ?_) (fun w1=>hD' _ _ ⟨gs,rfl,e7,k7,by omega,fun _=>gl⟩);have w1:kind=2:=by injection (of_decide_eq_true w1)
   refine ⟨_,rfl,.inl ⟨rfl,_,bK.of e7⟩,_,rfl,_,rfl,D,_,at_,_,rfl,rfl,e7,a0,by rw [List.length_map];omega,by rw [List.length_map,sizeLine_eq];omega, ?_⟩;refine hD' _ _ ⟨gs.take at_.toNat++hand::gs.drop at_.toNat,rfl, ?_,k7.trans Kp.set, ?_,fun z=>absurd w1 z⟩
   ·show (upd H7 D (.lst ((gs.map V.int).take at_.toNat++V.int hand::(gs.map V.int).drop at_.toNat))) D=_
    rw [au,List.map_append,List.map_cons,List.map_take,List.map_drop]
   ·simp only [List.length_append,List.length_cons,List.length_take,List.length_drop]
    omega
  rintro σ H8 ⟨hs,rfl,e8,k8,hl,hl3⟩;have XD:∀{H9:Hp},Kp D H6 H9->dR H9 r b (n+2410)/\Kp r H H9:=fun k9=>⟨(B6.kp k9 V2.symm nDb.symm).mono (by omega),fun q o e nq=>k9 _ _ (XQ _ _ e nq) (aL e V5)⟩;refine gB (fun σ H9=>∃is:List Int,σ=[some (.ref r),some (.ref c),some (.int kind),some (.int far),some (.int hand),some (.ref D),some (.int at_)]/\H9 D=some (.lst (is.map V.int))/\Kp D H6 H9/\is.length<=2401) (fun D' hD' _=> ?_) ?_
  ·refine ⟨_,rfl,rfl,_,rfl, ?_⟩
   refine dY (fun w1=> ?_) (fun w1=>hD' _ _ ⟨hs,rfl,e8,k8,hl⟩);have w1:kind=3:=by injection (of_decide_eq_true w1)
   have hl4:=hl3 (by omega);refine ⟨_,rfl,(by show 0<=sizeLine;decide),fun q hq=> ?_⟩;have sq:=aJ (o:=HO.lst []) hq;refine ⟨_,_,eX (sq _ _ e8),eX (ns:=[]) au,shaped_ints _,shaped_ints _,_,rfl, ?_⟩;rw [if_pos rfl,gG PyData.int jZ]
   by_cases e0:hs=[]
   ·rw [e0]
    refine dY (fun z=>absurd z (by simp)) (fun _=> ?_);exact hD' _ _ ⟨hs,rfl,sq _ _ e8,k8.trans (.of_same sq),hl⟩
   refine dY (fun _=> ?_) (fun z=>absurd (by simp [e0]) z);have a1':=at1 (by rw [←hl4];exact List.length_pos_iff.mpr e0);have e9:=sq _ _ e8;obtain ⟨m,rfl⟩:=Int.eq_ofNat_of_zero_le a0;have hm:m<hs.length:=by omega
   have si:seqIndex? (m:Int) (hs.map V.int).length=some m:=by rw [List.length_map,seqIndex_of (by omega) (by omega),Int.toNat_natCast]
   refine ⟨_,rfl,.inl ⟨rfl,_,bK.of e9⟩,_,rfl,D,_,(m:Int),m,_,rfl,rfl,e9,by omega,by omega,si,by rw [List.getElem?_map,List.getElem?_eq_getElem hm];rfl, ?_⟩;refine hD' _ _ ⟨hs.eraseIdx m,rfl, ?_,(k8.trans (.of_same sq)).trans Kp.set, ?_⟩
   ·show (upd (upd H8 q (HO.lst [])) D (.lst ((hs.map V.int).eraseIdx m))) D=_
    rw [au,zc]
   ·rw [List.length_eraseIdx];split<;>omega
  rintro σ H9 ⟨is,rfl,e9,k9,il⟩;obtain ⟨B9,k09⟩:=XD k9;exact ⟨_,rfl,k D is H9 V5 e9 il B9 k09⟩
theorem Fe:∀(os:List Int) (n:Nat),(((List.range n).map fun i:Nat=>((os.count (i:Int):Nat):Int)).sum)=(((os.filter fun h=>decide (0<=h/\h<(n:Int))).length:Nat):Int)
 | os,0=>by
   have:os.filter (fun h=>decide (0<=h/\h<((0:Nat):Int)))=[]:=by
    rw [List.filter_eq_nil_iff];intro h _ z;have:=of_decide_eq_true z;omega
   rw [this];rfl
 | os,n+1=>by
   rw [List.range_succ,List.map_append,List.sum_append,Fe os n];simp only [List.map_cons,List.map_nil,List.sum_cons,List.sum_nil]
   have:∀os:List Int,((os.filter fun h=>decide (0<=h/\h<((n+1:Nat):Int))).length)=(os.filter fun h=>decide (0<=h/\h<(n:Int))).length+os.count (n:Int):=by
    intro os
    induction os with
    | nil=>rfl
    | cons x os ih=>
      rw [List.filter_cons,List.filter_cons,List.count_cons]
      by_cases e:x=(n:Int)
      ·rw [if_pos (decide_eq_true (by omega)),if_neg (fun z=>by have:=of_decide_eq_true z;omega),if_pos (by simp [e]),List.length_cons,ih]
       omega
      ·have e':¬(x==(n:Int))=true:=by simpa using e
       rw [if_neg e']
       by_cases l:0<=x/\x<(n:Int)
       ·rw [if_pos (decide_eq_true (by omega)),if_pos (decide_eq_true l),List.length_cons,List.length_cons,ih]
        omega
       ·rw [if_neg (fun z=>by have:=of_decide_eq_true z;omega),if_neg (fun z=>l (of_decide_eq_true z)),ih]
        rfl
   rw [this];omega
theorem B_ {cs os:List Int}:jB cs os↔(((List.range cs.length).map fun i:Nat=>((os.count (i:Int):Nat):Int))=cs/\(os.length:Int)=cs.sum):=by
 have eqc:((List.range cs.length).map fun i:Nat=>((os.count (i:Int):Nat):Int))=cs ↔ ∀h:Int,0<=h->h<cs.length->(os.count h:Int)=gI cs h:=by
  constructor
  ·intro e h h0 h1
   obtain ⟨m,rfl⟩:=Int.eq_ofNat_of_zero_le h0;have hm:m<cs.length:=by omega
   have q:((List.range cs.length).map fun i:Nat=>((os.count (i:Int):Nat):Int))[m]? = some ((os.count (m:Int):Nat):Int):=by simp [hm]
   rw [e] at q;exact (oh q).symm
  ·intro e
   refine List.ext_getElem (by simp) fun i h1 h2=> ?_;rw [List.getElem_map,List.getElem_range,e (i:Int) (by omega) (by omega),oh (c:=cs[i]) (by simp [h2])]
 have cs':=Fe os cs.length;constructor
 ·rintro ⟨ir,c⟩
  have e:=eqc.mpr c;refine ⟨e, ?_⟩;rw [e] at cs'
  have:os.filter (fun h=>decide (0<=h/\h<(cs.length:Int)))=os:=List.filter_eq_self.mpr fun h hh=>by
   have:=ir h hh;simpa using this
  rw [this] at cs';exact cs'.symm
 ·rintro ⟨e,l⟩
  refine ⟨fun h hh=> ?_,eqc.mp e⟩;rw [e] at cs';have hl:(os.filter fun h=>decide (0<=h/\h<(cs.length:Int))).length=os.length:=by omega
  have:=List.filter_eq_self.mp (List.Sublist.eq_of_length (List.filter_sublist ..) hl) h hh;simpa using this
def Y0 (cs es:List Int):List Int:=(List.range cs.length).filterMap fun (i:Nat)=>if gI es (i:Int)>gI cs (i:Int) then some (i:Int) else none
theorem T5 (cs es:List Int):(List.range cs.length).filterMap (fun (i:Nat)=>if gI es (i:Int)>gI cs (i:Int) then some (V.int (0+(i:Int))) else none)=(Y0 cs es).map V.int:=by
 unfold Y0;rw [List.map_filterMap];refine pG _ trivial fun i _=> ?_;split<;>simp
theorem K_ {cs es:List Int}:Y0 cs es=[] ↔ ∀i:Int,0<=i->i<cs.length->gI es i<=gI cs i:=by
 unfold Y0;rw [List.filterMap_eq_nil_iff];constructor
 ·intro h i i0 i1
  obtain ⟨m,rfl⟩:=Int.eq_ofNat_of_zero_le i0;have:=h m (by simp;omega);split at this
  ·cases this
  ·omega
 ·intro h i hi
  have hi:i<cs.length:=by simpa using hi
  have:=h (i:Int) (by omega) (by omega);rw [if_neg (by omega)]
def Fv (cs:List Int) (ns:List Nt) (es os:List Int) (door limit:Int) (du:Option Nat):Prop:=
 (¬eU cs ns->du=some 0)/\(eU cs ns ->
   ((door<3\/door=9) -> ¬cR cs es->du=some 1)/\(door=9->cR cs es->brk es ns≠[]->du=some 1)/\(door=3 -> ¬jB cs os->du=some 2)/\((door=7\/door=8)->limit=0->du=some 3) /\
   (((door<3\/door=9)->cR cs es)->(door=9->brk es ns=[])->(door=3->jB cs os)->((door=7\/door=8)->limit≠0)->du=none))
def dV:Option Nat->V
 | none=> .non
 | some k=> .int (k:Nat)
def JD (K:PySem.W.Frag):Sp:=fun vs H Q _=>∃(door limit:Int) (bd:Bool) (t c a p o:Addr) (cs es os:List Int) (ns:List Nt),vs=[.int door,.bl bd,.ref t,.ref p,.ref o,.int limit]/\RecAt H t c a cs ns/\oF cs/\(bd=true -> ¬eU cs ns)/\(bd=false->iz cs ns)/\H p=some (.lst (es.map V.int))/\es.length<=9/\H o=some (.lst (os.map V.int))/\os.length<=2401 /\
 ∀(du:Option Nat) (H':Hp),Fv cs ns es os door limit du->Same H H'->Q (dV du) H'
theorem Ud {f:Addr} {fd:FuncData} (F:qj K "_law_due" "_law_due" sU f fd) (Bt:tU mg):gn P w K mg base tV 1 f fd ["door","bad","record","some","order","limit"] (JD K):=by
 refine F.ok sI (fun vs H Q E h=> ?_) (fun cdv A outer s H vs Q E hr h=> ?_)
 ·obtain ⟨door,limit,bd,t,c,a,p,o,cs,es,os,ns,rfl,_⟩:=h
  rfl
 ·obtain ⟨door,limit,bd,t,c,a,p,o,cs,es,os,ns,rfl,R,m5,b1,b2,hp,el,ho,ol,k⟩:=h
  have gO:=hr.units;obtain ⟨ht,hc,vs,ha,dv⟩:=id R;have vl:vs.length=ns.length:=by rw [dv.length,List.length_map]
  have c8:=m5.1;have hsum:=FN m5.2
  refine ⟨_,(aF (bC (i:=6) sI.nd rfl (Or.inr rfl) (aU (aY (K:=K) rfl) (pv 2) aB (fun _ _=>rfl)))
   (aF (dU (iR (pv 1)) (aK (bF aB)) bD)
   (aF (dU (PW.pt (qM (aZ uY (pv 0) aB (bB _)) (pA (aZ gF (pv 0) aB (bB _))))) (aF (dU (PW.pt (qM (aZ HB (aX (aR (K:=K) rfl) (by rfl) Bt.fL d8 (aj (pv 3) aA)) (aX (aR (K:=K) rfl) (by rfl) Bt.fL d8 (aj (pv 6) aA)) (bB _)) (pA (aZ uY (aX (Ke (K:=K) rfl rfl) (by rfl) Bt.V_ Ru (aj (bM Gi (fO (aj aB aA)) (pv 3)) aA)) aB (bB _))))) (aK (bF aB)) bD)
   (aK (dU (aZ (jh (K:=K) rfl gO) (iT rfl (N:=["k","some","counts"]) (own:=["k"]) (caps:=[3,6]) (bH.of (by kernel_rfl)) (gH (by rfl) Bt.jk (aj (aX (aR (K:=K) rfl) (by rfl) Bt.fL d8 (aj (pv 6) aA)) aA)) (fun _ _ _ _=>(bY (i:=0) (show List.Nodup (["k","some","counts"]:List Str) by decide +kernel) rfl (Or.inl rfl))) (fun _ _ _ _=>(qN (aZ yc (aU (bh (K:=K) rfl) (pv 1) (pv 0) (fun _ _=>rfl)) (aU (bh (K:=K) rfl) (pv 2) (pv 0) (fun _ _=>rfl)) (bB _)))) (fun _ _ _ _=>(pv 0))) (fO aA) (bB _)) (aK (bF aB)) bD))) bD)
   (aF (dU (aZ gF (pv 0) aB (bB _)) (aF (pC (i:=7) rfl sI.nd rfl (Or.inl rfl) (N:=["hand","order"]) (own:=["hand"]) (caps:=[4]) (bH.of (by kernel_rfl)) (gH (by rfl) Bt.jk (aj (aX (aR (K:=K) rfl) (by rfl) Bt.fL d8 (aj (pv 6) aA)) aA)) (fun _ _ _ _=>(bY (i:=0) (show List.Nodup (["hand","order"]:List Str) by decide +kernel) rfl (Or.inl rfl))) (fun _ _ _ _=>iD) (fun _ _ _ _=>(pO (K:=K) rfl PySem.F.plainAttrs_list PySem.F.slot_list_count PySem.F.type_list_count (Em (K:=K) rfl) (pv 1) (aj (pv 0) aA))))
   (aK (dU (PW.pt (qM (aZ (jh (K:=K) rfl gO) (pv 7) (pv 6) (bB _)) (pA (aZ HB (aX (aR (K:=K) rfl) (by rfl) Bt.fL d8 (aj (pv 4) aA)) (aX (Fi (K:=K) rfl rfl) (by rfl) Bt.V9 Rt (aj (pv 6) aA)) (bB _))))) (aK (bF aB)) bD))) bD)
   (aF (dU (aZ gF (pv 0) aB (bB _)) (aK (mV PassesOwn.never rfl (fP (K:=K) rfl (aU (aY (K:=K) rfl) (pv 2) aB (fun _ _=>rfl))) (z_ (K:=K) (n:=4) rfl rfl (lC (bY (i:=8) sI.nd rfl (Or.inl rfl)) (lC (bY (i:=9) sI.nd rfl (Or.inl rfl)) (lC (bY (i:=10) sI.nd rfl (Or.inl rfl)) (lC (bY (i:=11) sI.nd rfl (Or.inl rfl)) z9)))))
   (aK (dU (PW.pt (jf (aZ uY (pv 11) (aU (bh (K:=K) rfl) (pv 3) (pv 10) (fun _ _=>rfl)) (bB _)) (iC (aZ aai (pv 9) (aU (bh (K:=K) rfl) (pv 3) (pv 8) (fun _ _=>rfl)) (bB _))))) (aK (bF aB)) bD)))) bD)
   (aF (dU (PW.pt (jf (PW.pt (qM (aZ gF (pv 0) aB (bB _)) (pA (aZ gF (pv 0) aB (bB _))))) (iC (aZ gF (pv 5) aB (bB _))))) (aK (bF aB)) bD)
   (aK (bF mW)))))))), ?_⟩
  refine ⟨_,rfl,_,_,_,_,rfl,rfl,eV.of ht,rfl, ?_⟩;refine ⟨_,rfl,_,rfl, ?_⟩;cases bd with
  | true=>
    refine ji ?_;exact k (some 0) H ⟨fun _=>rfl,fun z=>absurd z (b1 rfl)⟩ (Same.refl _)
  | false=>
  refine iM ?_;have ok:=b2 rfl;have al:eU cs ns:=ok.2.2;have nl:=ok.2.1;have W0:(door<3\/door=9) -> ¬cR cs es -> ∀H',Same H H'->Q (.int 1) H':=fun hd nd H' s=>k (some 1) H' ⟨fun z=>absurd al z,fun _=>⟨fun _ _=>rfl,fun _ d=>absurd d nd,fun z=>by omega,fun z=>by omega,fun z=>absurd (z hd) nd⟩⟩ s;unfold PJ;dsimp only;refine gB (fun σ H2=>σ=[some (.int door),some (.bl false),some (.ref t),some (.ref p),some (.ref o),some (.int limit),some (.ref c),none,none,none,none,none]/\Same H H2/\((door<3\/door=9)->cR cs es)) (fun D' hD' O2=> ?_) ?_
  ·refine ⟨_,rfl,_,_,rfl,rfl,_,rfl, ?_⟩
   refine La (door<3\/door=9) (fun hdoor=> ?_) (fun z=> .inl (of_decide_eq_true z)) (fun z body=> ?_)
   rotate_left
   ·have z:¬door<3:=fun w=>z (decide_eq_true w)
    refine ⟨_,rfl,rfl,_,rfl, ?_⟩;refine dY (fun w=> ?_) (fun w=> ?_)
    ·exact body (.inr (by injection (of_decide_eq_true w)))
    ·exact hD' _ _ ⟨rfl,Same.refl _,fun q=>by rcases q with q|q;exact absurd q z;exact absurd (decide_eq_true (by rw [q])) w⟩
   refine ⟨_,rfl,p,_,rfl,.inl (bK.of hp),_,rfl,c,_,rfl,.inl (bK.of hc),rfl,_,rfl, ?_⟩
   by_cases dl:es.length=cs.length
   rotate_left
   ·refine dY (fun _=> ?_) (fun z=>absurd (by rw [List.length_map,List.length_map];simp;omega) z)
    show D'.rt _ _;rw [O2];exact W0 hdoor (fun z=>dl z.1) H (Same.refl _)
   refine Lq (by rw [List.length_map,List.length_map,dl]) ?_;refine ⟨(by show 1<=sizeLine;decide),fun q1 hq1=> ?_⟩;have s1:=aJ (o:=HO.lst [V.int 0]) hq1;refine ⟨_,rfl,q1,p,_,_,rfl,rfl,au,s1 _ _ hp,by rw [List.length_map,sizeLine_eq];simp only [List.length_singleton];omega,fun q2 hq2=> ?_⟩;have s2:=aJ (o:=HO.lst ([V.int 0]++es.map V.int)) hq2;have s12:=s1.trans s2;refine ⟨q2,0::es,rfl,bK.of au,by simp,fun m hm hle=> ?_⟩;refine ⟨_,_,rfl,rfl,_,rfl, ?_⟩;refine dY (fun w=> ?_) (fun w=> ?_)
   ·have w:m<0:=of_decide_eq_true w
    show D'.rt _ _;rw [O2];refine W0 hdoor (fun z=> ?_) _ s12;rcases List.mem_cons.mp hm with rfl|hm
    ·omega
    ·obtain ⟨i,hi⟩:=List.getElem?_of_mem hm
     have il:=(List.getElem?_eq_some_iff.mp hi).1;have:=(z.2 (i:Int) (by omega) (by omega)).1;rw [oh hi] at this;omega
   have w:¬m<0:=fun z=>w (decide_eq_true z)
   have aew:∀i:Int,0<=i->i<cs.length->0<=gI es i:=fun i i0 i1=>by
    obtain ⟨j,rfl⟩:=Int.eq_ofNat_of_zero_le i0;have hj:j<es.length:=by omega
    have:=hle es[j] (by simp);rw [oh (cs:=es) (i:=j) (c:=es[j]) (by simp [hj])];omega
   have hc2:=s12 _ _ hc;have hp2:=s12 _ _ hp;dsimp only;refine ⟨_,rfl,c,_,rfl,.inl (bK.of hc2),_,rfl,by rw [List.length_map];omega,by rw [List.length_map];omega,fun D hD=> ?_⟩;have Ia:(((cs.map V.int).length:Nat):Int).toNat=cs.length:=by simp
   rw [Ia];refine mY (fun (i:Nat)=>if gI es (i:Int)>gI cs (i:Int) then some (V.int (0+(i:Int))) else none) hD (by omega) (fun j H3 G F hj s3 kG kF=> ?_) (fun H3 s3 e3=> ?_)
   ·have ej:(0+(j:Int))=(j:Int):=by omega
    refine ⟨_,rfl,_,rfl,_,_,_,_,rfl,rfl,bK.of (s3 _ _ hp2),(gZ (h:=0+(j:Int)) (by omega) (by omega)),_,rfl,_,rfl,_,_,_,_,rfl,rfl,bK.of (s3 _ _ hc2),(gZ (h:=0+(j:Int)) (by omega) (by omega)),_,_,rfl,rfl,_,rfl, ?_⟩;rw [ej];refine dY (fun q=> ?_) (fun q=> ?_)
    ·have q:gI es (j:Int)>gI cs (j:Int):=of_decide_eq_true q
     exact ⟨_,rfl,kF _ H3 (Same.refl _) (by rw [if_pos q,ej])⟩
    ·have q:¬gI es (j:Int)>gI cs (j:Int):=fun z=>q (decide_eq_true z)
     exact kG H3 (Same.refl _) (if_neg q)
   rw [T5] at e3;refine ⟨(by show 0<=sizeLine;decide),fun q4 hq4=> ?_⟩;have s4:=aJ (o:=HO.lst []) hq4;have ZW:=(s12.trans s3).trans s4;refine ⟨_,_,eX (s4 _ _ e3),eX (ns:=[]) au,shaped_ints _,shaped_ints _,_,rfl, ?_⟩;rw [if_pos rfl,gG PyData.int jZ];refine dY (fun q=> ?_) (fun q=> ?_)
   ·have q:Y0 cs es≠[]:=by simpa using q
    show D'.rt _ _;rw [O2];exact W0 hdoor (fun z=>q (K_.mpr fun i i0 i1=>(z.2 i i0 i1).2)) _ ZW
   have q:Y0 cs es=[]:=by simpa using q
   exact hD' _ _ ⟨rfl,ZW,fun _=>⟨dl,fun i i0 i1=>⟨aew i i0 i1,K_.mp q i i0 i1⟩⟩⟩
  rintro σ H2 ⟨rfl,s2,yF⟩;refine gB (fun σ H3=>∃x1:Option V,σ=[some (.int door),some (.bl false),some (.ref t),some (.ref p),some (.ref o),some (.int limit),some (.ref c),x1,none,none,none,none]/\Same H H3/\(door=3->jB cs os)) (fun D' hD' O2=> ?_) ?_
  ·refine ⟨_,rfl,rfl,_,rfl, ?_⟩
   refine dY (fun w=> ?_) (fun w=>hD' _ _ ⟨none,rfl,s2,fun q=>absurd (decide_eq_true (by rw [q])) w⟩);have w:door=3:=by injection (of_decide_eq_true w)
   have ZX:¬jB cs os -> ∀H',Same H H'->Q (.int 2) H':=fun nd H' s=>k (some 2) H' ⟨fun z=>absurd al z,fun _=>⟨fun z=>by omega,fun z=>by omega,fun _ _=>rfl,fun z=>by omega,fun _ _ z=>absurd (z w) nd⟩⟩ s;have hc2:=s2 _ _ hc;have ho2:=s2 _ _ ho;refine ⟨_,rfl,c,_,rfl,.inl (bK.of hc2),_,rfl,by rw [List.length_map];omega,by rw [List.length_map];omega,fun D hD=> ?_⟩;have Ia:(((cs.map V.int).length:Nat):Int).toNat=cs.length:=by simp
   rw [Ia];refine mY (fun (i:Nat)=>some (V.int (os.count (0+(i:Int)):Nat))) hD (by omega) (fun j H3 G F hj s3 kG kF=> ?_) (fun H3 s3 e3=> ?_)
   ·refine ⟨_,rfl,.inl ⟨rfl,_,bK.of (s3 _ _ ho2)⟩,_,rfl,o,os,0+(j:Int),rfl,rfl,bK.of (s3 _ _ ho2),kF _ H3 (Same.refl _) rfl⟩
   have e3':H3 D=some (.lst (((List.range cs.length).map fun i:Nat=>((os.count (i:Int):Nat):Int)).map V.int)):=by
    rw [e3,List.map_map];congr 2;rw [←List.filterMap_eq_map];refine pG _ trivial fun i _=> ?_;simp
   have Ef:=s2.trans s3;refine ⟨_,rfl,_,rfl,_,_,eX e3',eX (s3 _ _ hc2),shaped_ints _,shaped_ints _,_,rfl, ?_⟩;rw [if_pos rfl,gG PyData.int jZ]
   by_cases ec:((List.range cs.length).map fun i:Nat=>((os.count (i:Int):Nat):Int))=cs
   rotate_left
   ·rw [decide_eq_false ec]
    refine ji ?_;show D'.rt _ _;rw [O2];exact ZX (fun z=>ec (B_.mp z).1) H3 Ef
   rw [decide_eq_true ec];refine iM ?_;refine ⟨_,rfl,o,_,rfl,.inl (bK.of (s3 _ _ ho2)),_,rfl,c,cs,rfl,bK.of (s3 _ _ hc2),rfl,_,rfl, ?_⟩
   by_cases ell:(os.length:Int)=cs.sum
   rotate_left
   ·refine dY (fun _=> ?_) (fun z=>absurd (by rw [List.length_map];simp;omega) z)
    show D'.rt _ _;rw [O2];exact ZX (fun z=>ell (B_.mp z).2) H3 Ef
   refine Lq (by rw [List.length_map,ell]) ?_;exact hD' _ _ ⟨_,rfl,Ef,fun _=>B_.mpr ⟨ec,ell⟩⟩
  rintro σ H3 ⟨x1,rfl,s3,aal⟩;refine gB (fun σ H4=>∃x2 x3 x4 x5:Option V,σ=[some (.int door),some (.bl false),some (.ref t),some (.ref p),some (.ref o),some (.int limit),some (.ref c),x1,x2,x3,x4,x5]/\Same H H4/\(door=9->brk es ns=[])) (fun D' hD' O2=> ?_) ?_
  ·refine ⟨_,rfl,rfl,_,rfl, ?_⟩
   refine dY (fun w=> ?_) (fun w=>hD' _ _ ⟨_,_,_,_,rfl,s3,fun q=>absurd (decide_eq_true (by rw [q])) w⟩);have w:door=9:=by injection (of_decide_eq_true w)
   have dk:=yF (.inr w);have ha3:=s3 _ _ ha;refine ⟨_,rfl,_,_,_,_,rfl,rfl,eV.of (s3 _ _ ht),rfl,a,rfl,⟨_,bK.of ha3⟩, ?_⟩
   refine pF (K:=K) (a:=a) (xs:=vs) (fun i σ H4=>∃x2 x3 x4 x5:Option V,σ=[some (.int door),some (.bl false),some (.ref t),some (.ref p),some (.ref o),some (.int limit),some (.ref c),x1,x2,x3,x4,x5]/\H4=H3 /\ ∀x∈ns.take i,qG es x=false)
    ⟨_,_,_,_,rfl,rfl,fun x hx=>(by cases hx)⟩ (fun i σ H4 _ ⟨_,_,_,_,_,e,_⟩=>by rw [e];exact bK.of ha3) ?_ ?_
   ·rintro i v σ H4 hi ⟨x2,x3,x4,x5,rfl,rfl,nb⟩
    obtain ⟨x,q,ex,rfl,hx⟩:=jz dv hi;obtain ⟨⟨h0,h1⟩,⟨g0,g1⟩,⟨o0,o1⟩,⟨m0,m1⟩,hne⟩:=ok.2.2 x (List.mem_of_getElem? ex);have X6:=s3 _ _ hx;have hp3:=s3 _ _ hp;have dl:=dk.1;have tk:ns.take (i+1)=ns.take i++[x]:=by rw [List.take_add_one,ex];rfl
    have stay:qG es x=false -> ∀y∈ns.take (i+1),qG es y=false:=fun hb y hy=>by
     rw [tk] at hy;rcases List.mem_append.mp hy with hy|hy
     ·exact nb y hy
     ·have:y=x:=by simpa using hy
      subst this;exact hb
    refine ⟨q,_,rfl,eV.of X6,rfl,_,_,rfl,_,_,rfl,_,_,rfl,_,_,rfl,rfl, ?_⟩;refine ⟨_,rfl,_,rfl,_,rfl,_,_,_,_,rfl,rfl,bK.of hp3,gZ o0 (by omega),_,_,rfl,rfl,_,rfl, ?_⟩;refine dY (fun w1=> ?_) (fun w1=> ?_)
    rotate_left
    ·exact ⟨_,_,_,_,rfl,rfl,stay (by unfold qG;rw [show decide (x.2.2.2<gI es x.2.2.1)=false from Bool.eq_false_iff.mpr w1];rfl)⟩
    refine ⟨_,rfl,_,rfl,_,rfl,_,_,_,_,rfl,rfl,bK.of hp3,gZ h0 (by omega),_,_,rfl,rfl,_,rfl, ?_⟩;refine dY (fun w2=> ?_) (fun w2=> ?_)
    ·have w2:x.2.1≥gI es x.1:=of_decide_eq_true w2
     show D'.rt _ _;rw [O2];refine k (some 1) _ ⟨fun z=>absurd al z,fun _=>⟨fun _ _=>rfl,fun _ _ _=>rfl,fun z=>by omega,fun z=>by omega,fun _ z=> ?_⟩⟩ s3;have:=z w;have hm:x∈brk es ns:=List.mem_filter.mpr ⟨List.mem_of_getElem? ex,by unfold qG;rw [w1,decide_eq_false (by omega)];rfl⟩;rw [this] at hm;cases hm
    ·have w2:¬x.2.1≥gI es x.1:=fun z=>w2 (decide_eq_true z)
     exact ⟨_,_,_,_,rfl,rfl,stay (by unfold qG;rw [decide_eq_true (show x.2.1<gI es x.1 by omega)];simp)⟩
   ·rintro σ H4 ⟨x2,x3,x4,x5,rfl,rfl,nb⟩
    refine hD' _ _ ⟨_,_,_,_,rfl,s3,fun _=> ?_⟩;rw [vl,List.take_length] at nb;exact List.filter_eq_nil_iff.mpr fun x hx=>by rw [nb x hx];exact Bool.false_ne_true
  rintro σ H4 ⟨x2,x3,x4,x5,rfl,s4,ah'⟩
  have Z0:((door=7\/door=8)->limit≠0)->Q .non H4:=fun hl=>by
   refine k none H4 ⟨fun z=>absurd al z,fun _=>⟨fun hd nd=>absurd (yF hd) nd,fun h9 _ nb=>absurd (ah' h9) nb,fun h3 ng=>absurd (aal h3) ng,fun h78 l0=>absurd l0 (hl h78),fun _ _ _ _=>rfl⟩⟩ s4
  have aen:(door=7\/door=8)->limit=0->Q (.int 3) H4:=fun hd hl=>k (some 3) H4 ⟨fun z=>absurd al z,fun _=>⟨fun z=>by omega,fun z=>by omega,fun z=>by omega,fun _ _=>rfl,fun _ _ _ z=>absurd hl (z hd)⟩⟩ s4
  have lim:(door=7\/door=8) -> ∀b:Bool,b=decide (V.int limit=V.int 0)->if b=true then Q (.int 3) H4 else Q .non H4:=fun hd b e=>by
   subst e;refine dY (fun w=>aen hd (by injection (of_decide_eq_true w))) (fun w=>Z0 fun _ z=>w (decide_eq_true (by rw [z])))
  refine ⟨_,rfl,rfl,_,rfl, ?_⟩;refine dY (fun w=> ?_) (fun w=> ?_)
  ·exact ⟨_,rfl,rfl,_,rfl,lim (.inl (by injection (of_decide_eq_true w))) _ rfl⟩
  ·have w:¬door=7:=fun z=>w (decide_eq_true (by rw [z]))
   refine ⟨_,rfl,rfl,_,rfl, ?_⟩;refine dY (fun w2=> ?_) (fun w2=> ?_)
   ·exact ⟨_,rfl,rfl,_,rfl,lim (.inr (by injection (of_decide_eq_true w2))) _ rfl⟩
   ·exact Z0 fun hd=>by
     rcases hd with hd|hd
     ·exact absurd hd w
     ·exact absurd (decide_eq_true (by rw [hd])) w2
def clsOf (CN CC CO CT:Addr):Nat->Addr
 | 0=>CN
 | 1=>CC
 | 2=>CO
 | _=>CT
theorem Hs:∀{cs:List Int},oF cs->0<iW cs:=fun {cs} ok=>by
 have:∀l:List Int,(∀c∈l,0<=c)->0<iW l:=fun l=>by
  induction l with
  | nil=>intro _;exact Nat.one_pos
  | cons c l ih=>
    intro h;have h1:=h c (by simp);have h2:=ih fun d hd=>h d (by simp [hd]);show 0<(c.toNat+1)*iW l;exact Nat.mul_pos (by omega) h2
 exact this cs fun c hc=>by
  obtain ⟨i,hi⟩:=List.getElem?_of_mem hc;have:=(ok.gI (i:Int)).1;rw [oh hi] at this;exact this
def JG (CN CC CO CT:Addr) (K:PySem.W.Frag):Sp:=fun vs H Q E=>∃(door limit:Int) (t c a l p o m:Addr) (cs es os:List Int) (ns ms:List Nt) (du:Option Nat),vs=[.int door,.ref t,.ref l,.int limit]/\0<=door/\door<10/\RecAt H t c a cs ns/\oF cs/\ns.length<=200/\(eU cs ns->iz cs ns)/\H l=some (.lst [.ref p,.ref o,.ref m])/\H p=some (.lst (es.map V.int))/\H o=some (.lst (os.map V.int))/\os.length<=2401/\gA H m ms/\ms.length<=200 /\
 (limit=0\/((iW cs:Int)<=limit/\iW cs<=5000))/\Fv cs ns es os door limit du/\(du=none -> ∀v H',Same H H'->Q v H')/\(∀k,du=some k -> ∀H',Same H H'->E (.ref (clsOf CN CC CO CT k)) none H')
theorem Ui {f:Addr} {fd:FuncData} (F:qj K "_law_ask" "_law_ask" sW f fd) {ak aC aq ao aQ bV bA bx aV aP aW bw bU aO:Addr} (dW:Xr K mg ak "NoNote") (dZ:Xr K mg aC "NoCut") (cU:Xr K mg aq "NoOrder") (cT:Xr K mg ao "TooMany") (d9:Xo K mg ak aQ "NoteError" true) (jm:Xo K mg ak bV "Held" false) (gk:Xo K mg ak bA "NoForm" false) (gb:Xo K mg ak bx "NoHand" false) (fj:Xo K mg ak aV "NoneYet" false) (eN:Xo K mg ak aP "NoNumber" false) (fu:Xo K mg ak aW "NoPlace" false) (fZ:Xo K mg ak bw "NoText" false) (jl:Xo K mg ak bU "Over" false) (eG:Xo K mg ak aO "RowError" false) (dH:aG K ak aC false) (cO:aG K ak aq false) (cN:aG K ak ao false) (dJ:aG K aC ak false) (dh:aG K aC aq false) (cY:aG K aC ao false) (cB:aG K aC aQ true) (eF:aG K aC bV false) (dN:aG K aC bA false) (dM:aG K aC bx false) (cZ:aG K aC aV false) (cQ:aG K aC aP false) (dg:aG K aC aW false) (dI:aG K aC bw false) (eE:aG K aC bU false) (cP:aG K aC aO false) (cJ:aG K aq ak false) (cX:aG K aq aC false) (cj:aG K aq ao false) (bJ:aG K aq aQ true) (dG:aG K aq bV false) (cM:aG K aq bA false) (cL:aG K aq bx false) (cu:aG K aq aV false) (bR:aG K aq aP false) (cA:aG K aq aW false) (cI:aG K aq bw false) (dF:aG K aq bU false) (bQ:aG K aq aO false) (cF:aG K ao ak false) (cW:aG K ao aC false) (cg:aG K ao aq false) (bI:aG K ao aQ true) (dD:aG K ao bV false) (cH:aG K ao bA false) (cG:aG K ao bx false) (bZ:aG K ao aV false) (bO:aG K ao aP false) (b_:aG K ao aW false) (cD:aG K ao bw false) (dB:aG K ao bU false) (bN:aG K ao aO false) (G5:fM P w K mg base 6 "cut_record" ["record","cut"] (Gd ak aC K)) (CW:fM P w K mg base 5 "is_cut" ["record","cut"] (xO ak aC K)) (Jj:fM P w K mg base 5 "least_cut" ["record","some"] (Bb ak aC K)) (C_:fM P w K mg base 5 "greatest_cut" ["record","some"] (uP ak aC K)) (Vr:fM P w K mg base 5 "keeps" ["record","order"] (Bc ak aq K)) (DX:fM P w K mg base 5 "first_order" ["record"] (Bg ak K)) (YL:fM P w K mg base 5 "ring" ["record"] (FW ak K)) (G3:fM P w K mg base 5 "ring_shows" ["record","some"] (FT ak K)) (zV:fM P w K mg base 5 "how_many_cuts" ["record","most"] (Bf ak ao K)) (xG:Mh P w K mg base 5 "how_many_orders" ["record","most"] "most" (Bd ak ao K)) (Bt:tU mg):gn P w K mg base (vU P w) 7 f fd ["door","record","lists","limit"] (JG ak aC aq ao K):=by
 refine F.Jl Tg (fun vs H Q E h=> ?_) (fun cdv A outer s H vs Q E hr h hR=> ?_)
 ·obtain ⟨door,limit,t,c,a,l,p,o,m,cs,es,os,ns,ms,du,rfl,_⟩:=h
  rfl
 ·obtain ⟨door,limit,t,c,a,l,p,o,m,cs,es,os,ns,ms,du,rfl,d0,d1,R,m5,nl,vo,hl,hp,ho,ol,N,ml,lim,due,kQ,kE⟩:=h
  refine ⟨_,(aF (dU (aZ gF (pv 0) aB (bB _)) (aK (bF (gQ G5 rfl hR (hr.mono (by decide)) (by rfl) (aj (pv 1) (aj (aU (bh (K:=K) rfl) (pv 2) aB (fun _ _=>rfl)) aA))))) bD)
   (aF (dU (aZ gF (pv 0) aB (bB _)) (aK (bF (gQ CW rfl hR (hr.mono (by decide)) (by rfl) (aj (pv 1) (aj (aU (bh (K:=K) rfl) (pv 2) aB (fun _ _=>rfl)) aA))))) bD)
   (aF (dU (aZ gF (pv 0) aB (bB _)) (aK (bF (gQ Jj rfl hR (hr.mono (by decide)) (by rfl) (aj (pv 1) (aj (aU (bh (K:=K) rfl) (pv 2) aB (fun _ _=>rfl)) aA))))) bD)
   (aF (dU (aZ gF (pv 0) aB (bB _)) (aK (bF (gQ C_ rfl hR (hr.mono (by decide)) (by rfl) (aj (pv 1) (aj (aU (bh (K:=K) rfl) (pv 2) aB (fun _ _=>rfl)) aA))))) bD)
   (aF (dU (aZ gF (pv 0) aB (bB _)) (aK (bF (gQ Vr rfl hR (hr.mono (by decide)) (by rfl) (aj (pv 1) (aj (aU (bh (K:=K) rfl) (pv 2) aB (fun _ _=>rfl)) aA))))) bD)
   (aF (dU (aZ gF (pv 0) aB (bB _)) (aK (bF (gQ DX rfl hR (hr.mono (by decide)) (by rfl) (aj (pv 1) aA)))) bD)
   (aF (dU (aZ gF (pv 0) aB (bB _)) (aK (bF (gQ YL rfl hR (hr.mono (by decide)) (by rfl) (aj (pv 1) aA)))) bD)
   (aF (dU (aZ gF (pv 0) aB (bB _)) (aK (bF (gQ G3 rfl hR (hr.mono (by decide)) (by rfl) (aj (pv 1) (aj (aU (bh (K:=K) rfl) (pv 2) aB (fun _ _=>rfl)) aA))))) bD)
   (aF (dU (aZ gF (pv 0) aB (bB _)) (aK (bF (gQ zV rfl hR (hr.mono (by decide)) (by rfl) (aj (pv 1) (aj (pv 3) aA))))) bD)
   (aK (bF (TX xG rfl hR (hr.mono (by decide)) (by rfl) (aj (pv 1) aA) (pv 3))))))))))))), ?_⟩
  have na:¬eU cs ns -> ∀H',Same H H'->E (.ref ak) none H':=fun z=>kE 0 (due.1 z);have fine:eU cs ns->((door<3\/door=9)->cR cs es)->(door=9->brk es ns=[])->(door=3->jB cs os)->((door=7\/door=8)->limit≠0) -> ∀v H',Same H H'->Q v H':=fun al h1 h2 h3 h4=>kQ ((due.2 al).2.2.2.2 h1 h2 h3 h4)
  have cut:eU cs ns->(door<3\/door=9)->(cR cs es->du=some 1) -> ∀H',Same H H'->E (.ref aC) none H':=fun al hd z=>by
   by_cases d:cR cs es
   ·exact kE 1 (z d)
   ·exact kE 1 ((due.2 al).1 hd d)
  refine ⟨_,rfl,rfl,_,rfl, ?_⟩
  by_cases e9:door=9
  ·refine dY (fun _=> ?_) (fun z=>absurd (decide_eq_true (by rw [e9])) z)
   refine ⟨_,rfl,_,rfl,_,_,_,_,rfl,rfl,bK.of hl,rfl,t,c,a,p,cs,es,ns,rfl,R,m5,nl,vo,hp,na,fun ok nd=>cut ok.2.2 (.inr e9) fun d=> ?_,fun ok d b u t1 t2 l2 i2 f2 o2 H' s' _ _ _ _ _ _ _ _ _ _ _=>fine ok.2.2 (fun _=>d) (fun _=>b) (fun z=>by omega) (fun z=>by omega) _ H' s'⟩;exact (due.2 ok.2.2).2.1 e9 d (fun b=>nd ⟨d,b⟩)
  refine dY (fun z=>absurd (by injection (of_decide_eq_true z)) e9) (fun _=> ?_);refine ⟨_,rfl,rfl,_,rfl, ?_⟩
  by_cases e0:door=0
  ·refine dY (fun _=> ?_) (fun z=>absurd (decide_eq_true (by rw [e0])) z)
   exact ⟨_,rfl,_,rfl,_,_,_,_,rfl,rfl,bK.of hl,rfl,t,c,a,p,cs,es,ns,rfl,R,m5,nl,vo,hp,na,fun ok nd=>cut ok.2.2 (.inl (by omega)) (fun d=>absurd d nd),fun ok d H' s'=>fine ok.2.2 (fun _=>d) (fun z=>by omega) (fun z=>by omega) (fun z=>by omega) _ H' s'⟩
  refine dY (fun z=>absurd (by injection (of_decide_eq_true z)) e0) (fun _=> ?_);refine ⟨_,rfl,rfl,_,rfl, ?_⟩
  by_cases e1:door=1
  ·refine dY (fun _=> ?_) (fun z=>absurd (decide_eq_true (by rw [e1])) z)
   exact ⟨_,rfl,_,rfl,_,_,_,_,rfl,rfl,bK.of hl,rfl,t,c,a,p,cs,es,ns,rfl,R,m5,nl,vo,hp,na,fun al nd=>cut al (.inl (by omega)) (fun d=>absurd d nd),fun al d q L H' _ _ _ s'=>fine al (fun _=>d) (fun z=>by omega) (fun z=>by omega) (fun z=>by omega) _ H' s'⟩
  refine dY (fun z=>absurd (by injection (of_decide_eq_true z)) e1) (fun _=> ?_);refine ⟨_,rfl,rfl,_,rfl, ?_⟩
  by_cases e2:door=2
  ·refine dY (fun _=> ?_) (fun z=>absurd (decide_eq_true (by rw [e2])) z)
   exact ⟨_,rfl,_,rfl,_,_,_,_,rfl,rfl,bK.of hl,rfl,t,c,a,p,cs,es,ns,rfl,R,m5,nl,vo,hp,na,fun al nd=>cut al (.inl (by omega)) (fun d=>absurd d nd),fun al d q L H' _ _ _ s'=>fine al (fun _=>d) (fun z=>by omega) (fun z=>by omega) (fun z=>by omega) _ H' s'⟩
  refine dY (fun z=>absurd (by injection (of_decide_eq_true z)) e2) (fun _=> ?_);refine ⟨_,rfl,rfl,_,rfl, ?_⟩
  by_cases e3:door=3
  ·refine dY (fun _=> ?_) (fun z=>absurd (decide_eq_true (by rw [e3])) z)
   exact ⟨_,rfl,_,rfl,_,_,_,_,rfl,rfl,bK.of hl,rfl,t,c,a,o,cs,os,ns,rfl,R,m5,nl,vo,na,ho,by omega,fun al d H' s'=>fine al (fun z=>by omega) (fun z=>by omega) (fun _=>d) (fun z=>by omega) _ H' s',fun al nd H' s'=>kE 2 ((due.2 al).2.2.1 e3 nd) H' s'⟩
  refine dY (fun z=>absurd (by injection (of_decide_eq_true z)) e3) (fun _=> ?_);refine ⟨_,rfl,rfl,_,rfl, ?_⟩
  by_cases e4:door=4
  ·refine dY (fun _=> ?_) (fun z=>absurd (decide_eq_true (by rw [e4])) z)
   exact ⟨_,rfl,t,c,a,cs,ns,rfl,R,m5,nl,vo,na,fun H' al _ s'=>fine al (fun z=>by omega) (fun z=>by omega) (fun z=>by omega) (fun z=>by omega) _ H' s',fun q os' H' al _ _ _ _ _ s'=>fine al (fun z=>by omega) (fun z=>by omega) (fun z=>by omega) (fun z=>by omega) _ H' s'⟩
  refine dY (fun z=>absurd (by injection (of_decide_eq_true z)) e4) (fun _=> ?_);refine ⟨_,rfl,rfl,_,rfl, ?_⟩
  by_cases e5:door=5
  ·refine dY (fun _=> ?_) (fun z=>absurd (decide_eq_true (by rw [e5])) z)
   exact ⟨_,rfl,t,c,a,cs,ns,rfl,R,m5,nl,vo,na,fun al _ H' s'=>fine al (fun z=>by omega) (fun z=>by omega) (fun z=>by omega) (fun z=>by omega) _ H' s',fun al q cc H' s' _ _ _ _ _=>fine al (fun z=>by omega) (fun z=>by omega) (fun z=>by omega) (fun z=>by omega) _ H' s'⟩
  refine dY (fun z=>absurd (by injection (of_decide_eq_true z)) e5) (fun _=> ?_);refine ⟨_,rfl,rfl,_,rfl, ?_⟩
  by_cases e6:door=6
  ·refine dY (fun _=> ?_) (fun z=>absurd (decide_eq_true (by rw [e6])) z)
   exact ⟨_,rfl,_,rfl,_,_,_,_,rfl,rfl,bK.of hl,rfl,t,c,a,m,cs,ns,ms,rfl,R,m5,nl,vo,na,N,ml,fun bl H' al _ s'=>fine al (fun z=>by omega) (fun z=>by omega) (fun z=>by omega) (fun z=>by omega) _ H' s'⟩
  refine dY (fun z=>absurd (by injection (of_decide_eq_true z)) e6) (fun _=> ?_);refine ⟨_,rfl,rfl,_,rfl, ?_⟩
  by_cases e7:door=7
  ·refine dY (fun _=> ?_) (fun z=>absurd (decide_eq_true (by rw [e7])) z)
   refine ⟨_,rfl,_,rfl,t,c,a,cs,ns,limit,rfl,R,m5,nl,vo,na, ?_⟩;rcases lim with l0|⟨l1,l2⟩
   ·exact .inl ⟨l0,fun al H' s'=>kE 3 ((due.2 al).2.2.2.1 (.inl e7) l0) H' s'⟩
   ·exact .inr ⟨l1,l2,fun al n H' s'=>fine al (fun z=>by omega) (fun z=>by omega) (fun z=>by omega) (fun _ z=>by have:=Hs m5;omega) _ H' s'⟩
  refine dY (fun z=>absurd (by injection (of_decide_eq_true z)) e7) (fun _=> ?_);have e8:door=8:=by omega
  refine ⟨_,rfl,_,rfl,_,rfl,t,c,a,cs,ns,limit,rfl,R,m5,nl,vo,na, ?_⟩;rcases lim with l0|⟨l1,l2⟩
  ·exact .inl ⟨l0,fun al H' s'=>kE 3 ((due.2 al).2.2.2.1 (.inr e8) l0) H' s'⟩
  ·exact .inr ⟨l1,l2,fun al H' s'=>fine al (fun z=>by omega) (fun z=>by omega) (fun z=>by omega) (fun _ z=>by have:=Hs m5;omega) _ H' s'⟩
def Va:Option Nat->List Bool
 | none=>[]
 | some k=>[k==0,k==1,k==2,k==3,true,false,false]
def JB (K:PySem.W.Frag):Sp:=fun vs H Q _=>∃(door limit:Int) (t c a l p o m:Addr) (cs es os:List Int) (ns ms:List Nt) (du:Option Nat),vs=[.int door,.ref t,.ref l,.int limit]/\0<=door/\door<10/\RecAt H t c a cs ns/\oF cs/\ns.length<=200/\(eU cs ns->iz cs ns)/\H l=some (.lst [.ref p,.ref o,.ref m])/\H p=some (.lst (es.map V.int))/\H o=some (.lst (os.map V.int))/\os.length<=2401/\gA H m ms/\ms.length<=200 /\
 (limit=0\/((iW cs:Int)<=limit/\iW cs<=5000))/\Fv cs ns es os door limit du/\(∀k,du=some k->k<4) /\ ∀(q:Addr) (H':Hp),H' q=some (.lst ((Va du).map V.bl))->Same H H'->Q (.ref q) H'
theorem T9 {f:Addr} {fd:FuncData} (F:qj K "_law_refusal" "_law_refusal" jd f fd) {ak aC aq ao aQ bV bA bx aV aP aW bw bU aO:Addr} (dW:Xr K mg ak "NoNote") (dZ:Xr K mg aC "NoCut") (cU:Xr K mg aq "NoOrder") (cT:Xr K mg ao "TooMany") (d9:Xo K mg ak aQ "NoteError" true) (jm:Xo K mg ak bV "Held" false) (gk:Xo K mg ak bA "NoForm" false) (gb:Xo K mg ak bx "NoHand" false) (fj:Xo K mg ak aV "NoneYet" false) (eN:Xo K mg ak aP "NoNumber" false) (fu:Xo K mg ak aW "NoPlace" false) (fZ:Xo K mg ak bw "NoText" false) (jl:Xo K mg ak bU "Over" false) (eG:Xo K mg ak aO "RowError" false) (dH:aG K ak aC false) (cO:aG K ak aq false) (cN:aG K ak ao false) (dJ:aG K aC ak false) (dh:aG K aC aq false) (cY:aG K aC ao false) (cB:aG K aC aQ true) (eF:aG K aC bV false) (dN:aG K aC bA false) (dM:aG K aC bx false) (cZ:aG K aC aV false) (cQ:aG K aC aP false) (dg:aG K aC aW false) (dI:aG K aC bw false) (eE:aG K aC bU false) (cP:aG K aC aO false) (cJ:aG K aq ak false) (cX:aG K aq aC false) (cj:aG K aq ao false) (bJ:aG K aq aQ true) (dG:aG K aq bV false) (cM:aG K aq bA false) (cL:aG K aq bx false) (cu:aG K aq aV false) (bR:aG K aq aP false) (cA:aG K aq aW false) (cI:aG K aq bw false) (dF:aG K aq bU false) (bQ:aG K aq aO false) (cF:aG K ao ak false) (cW:aG K ao aC false) (cg:aG K ao aq false) (bI:aG K ao aQ true) (dD:aG K ao bV false) (cH:aG K ao bA false) (cG:aG K ao bx false) (bZ:aG K ao aV false) (bO:aG K ao aP false) (b_:aG K ao aW false) (cD:aG K ao bw false) (dB:aG K ao bU false) (bN:aG K ao aO false) (YS:fM P w K mg base 7 "_law_ask" ["door","record","lists","limit"] (JG ak aC aq ao K)) (Bt:tU mg):gn P w K mg base tV 8 f fd ["door","record","lists","limit"] (JB K):=by
 refine F.ok qL (fun vs H Q E h=> ?_) (fun cdv A outer s H vs Q E hr h=> ?_)
 ·obtain ⟨door,limit,t,c,a,l,p,o,m,cs,es,os,ns,ms,du,rfl,_⟩:=h
  rfl
 ·obtain ⟨door,limit,t,c,a,l,p,o,m,cs,es,os,ns,ms,du,rfl,d0,d1,R,m5,nl,vo,hl,hp,ho,ol,N,ml,lim,due,dk,k⟩:=h
  refine ⟨_,(aF (bC (i:=4) qL.nd rfl (Or.inl rfl) (fO aA))
   (aF (W_ (i:=5) rfl rfl rfl rfl qL.nd rfl rfl (by rfl) d9.bd d9.hd (fun _ _ _ _ hR=>(aK (eZ (gQ YS rfl hR (hr.mono (by decide)) (by rfl) (aj (pv 0) (aj (pv 1) (aj (pv 2) (aj (pv 3) aA)))))))) (fun _=>(aK (bC (i:=4) qL.nd rfl (Or.inl rfl) (fO (aj (aX (vd (K:=K) (c:= .ref ak) (cv:= .ref ak) rfl (fun _ h=>h)) (by rfl) Bt.fK eY (aj (pv 5) (aj (jY (v:= .ref ak) (by rfl) dW.bd rfl) aA))) (aj (aX (vd (K:=K) (c:= .ref aC) (cv:= .ref aC) rfl (fun _ h=>h)) (by rfl) Bt.fK eY (aj (pv 5) (aj (jY (v:= .ref aC) (by rfl) dZ.bd rfl) aA))) (aj (aX (vd (K:=K) (c:= .ref aq) (cv:= .ref aq) rfl (fun _ h=>h)) (by rfl) Bt.fK eY (aj (pv 5) (aj (jY (v:= .ref aq) (by rfl) cU.bd rfl) aA))) (aj (aX (vd (K:=K) (c:= .ref ao) (cv:= .ref ao) rfl (fun _ h=>h)) (by rfl) Bt.fK eY (aj (pv 5) (aj (jY (v:= .ref ao) (by rfl) cT.bd rfl) aA))) (aj (aX (vd (K:=K) (c:= .type "ValueError") (cv:= .ty "ValueError") rfl (fun _ h=>h)) (by rfl) Bt.fK eY (aj (pv 5) (aj (vq (v:= .ty "ValueError") (by rfl) Bt.GR DK rfl) aA))) (aj (aX (Fl (K:=K) rfl) (by rfl) Bt.fK eY (aj (pv 5) (aj (jg (aj (jY (v:= .ref bV) (by rfl) jm.bd rfl) (aj (jY (v:= .ref bA) (by rfl) gk.bd rfl) (aj (jY (v:= .ref bx) (by rfl) gb.bd rfl) (aj (jY (v:= .ref aV) (by rfl) fj.bd rfl) (aj (jY (v:= .ref aP) (by rfl) eN.bd rfl) (aj (jY (v:= .ref aW) (by rfl) fu.bd rfl) aA))))))) aA))) (aj (aX (Fl (K:=K) rfl) (by rfl) Bt.fK eY (aj (pv 5) (aj (jg (aj (jY (v:= .ref bw) (by rfl) fZ.bd rfl) (aj (jY (v:= .ref bU) (by rfl) jl.bd rfl) (aj (jY (v:= .ref aO) (by rfl) eG.bd rfl) aA)))) aA))) aA))))))))))))
   (aK (bF (pv 4))))), ?_⟩
  refine ⟨(by show 0<=sizeLine;decide),fun f hf=> ?_⟩;have sf:=aJ (o:=HO.lst []) hf;refine ⟨_,rfl,_,rfl,_,rfl,_,rfl,door,limit,t,c,a,l,p,o,m,cs,es,os,ns,ms,du,rfl,d0,d1,R.same sf,m5,nl,vo,sf _ _ hl,sf _ _ hp,sf _ _ ho,ol,N.same sf,ml,lim,due,fun e v H1 s1=> ?_,fun n en H1 s1=> ?_⟩
  ·subst e
   exact ⟨_,rfl,k f _ (s1 _ _ au) (sf.trans s1)⟩
  ·subst en
   have n4:=dk n rfl
   match n,n4 with
   | 0,_=>
     refine ⟨_,rfl,d9.pr.sub,fun e he=> ?_⟩;have se:=aJ (o:=XO ak none e) he;refine ⟨_,rfl,e,_,true,rfl,au,dW.xc,yh, ?_⟩;refine ⟨_,rfl,e,_,false,rfl,au,dW.xc,dj dZ.hd dH, ?_⟩;refine ⟨_,rfl,e,_,false,rfl,au,dW.xc,dj cU.hd cO, ?_⟩;refine ⟨_,rfl,e,_,false,rfl,au,dW.xc,dj cT.hd cN, ?_⟩;refine ⟨_,rfl,e,_,true,rfl,au,dW.xc,vG dW.ve, ?_⟩;refine ⟨_,rfl,(by show 6<=sizeLine;decide),fun t1 ht1=> ?_⟩;have st1:=aJ (o:=HO.tup [V.ref bV,V.ref bA,V.ref bx,V.ref aV,V.ref aP,V.ref aW]) ht1;have Q6:=st1 _ _ (au (a:=e) (o:=XO ak none e))
     refine ⟨e,t1,_,[bV,bA,bx,aV,aP,aW],false,rfl,Q6,dW.xc,au,iJ (by
      intro D hD;simp only [List.mem_cons,List.not_mem_nil,or_false] at hD;rcases hD with rfl|rfl|rfl|rfl|rfl|rfl
      ·exact jm.kit
      ·exact gk.kit
      ·exact gb.kit
      ·exact fj.kit
      ·exact eN.kit
      ·exact fu.kit), ?_⟩
     refine ⟨_,rfl,(by show 3<=sizeLine;decide),fun t2 RZ=> ?_⟩;have st2:=aJ (o:=HO.tup [V.ref bw,V.ref bU,V.ref aO]) RZ;have he2:=st2 _ _ Q6
     refine ⟨e,t2,_,[bw,bU,aO],false,rfl,he2,dW.xc,au,iJ (by
      intro D hD;simp only [List.mem_cons,List.not_mem_nil,or_false] at hD;rcases hD with rfl|rfl|rfl
      ·exact fZ.kit
      ·exact jl.kit
      ·exact eG.kit), ?_⟩
     refine ⟨(by show 7<=sizeLine;decide),fun q hq=> ?_⟩;exact ⟨_,rfl,k q _ au (((((sf.trans s1).trans se).trans st1).trans st2).trans (aJ hq))⟩
   | 1,_=>
     refine ⟨_,rfl,cB.sub,fun e he=> ?_⟩;have se:=aJ (o:=XO aC none e) he;refine ⟨_,rfl,e,_,false,rfl,au,dZ.xc,dj dW.hd dJ, ?_⟩;refine ⟨_,rfl,e,_,true,rfl,au,dZ.xc,yh, ?_⟩;refine ⟨_,rfl,e,_,false,rfl,au,dZ.xc,dj cU.hd dh, ?_⟩;refine ⟨_,rfl,e,_,false,rfl,au,dZ.xc,dj cT.hd cY, ?_⟩;refine ⟨_,rfl,e,_,true,rfl,au,dZ.xc,vG dZ.ve, ?_⟩;refine ⟨_,rfl,(by show 6<=sizeLine;decide),fun t1 ht1=> ?_⟩;have st1:=aJ (o:=HO.tup [V.ref bV,V.ref bA,V.ref bx,V.ref aV,V.ref aP,V.ref aW]) ht1;have Q6:=st1 _ _ (au (a:=e) (o:=XO aC none e))
     refine ⟨e,t1,_,[bV,bA,bx,aV,aP,aW],false,rfl,Q6,dZ.xc,au,iJ (by
      intro D hD;simp only [List.mem_cons,List.not_mem_nil,or_false] at hD;rcases hD with rfl|rfl|rfl|rfl|rfl|rfl
      ·exact dj jm.hd eF
      ·exact dj gk.hd dN
      ·exact dj gb.hd dM
      ·exact dj fj.hd cZ
      ·exact dj eN.hd cQ
      ·exact dj fu.hd dg), ?_⟩
     refine ⟨_,rfl,(by show 3<=sizeLine;decide),fun t2 RZ=> ?_⟩;have st2:=aJ (o:=HO.tup [V.ref bw,V.ref bU,V.ref aO]) RZ;have he2:=st2 _ _ Q6
     refine ⟨e,t2,_,[bw,bU,aO],false,rfl,he2,dZ.xc,au,iJ (by
      intro D hD;simp only [List.mem_cons,List.not_mem_nil,or_false] at hD;rcases hD with rfl|rfl|rfl
      ·exact dj fZ.hd dI
      ·exact dj jl.hd eE
      ·exact dj eG.hd cP), ?_⟩
     refine ⟨(by show 7<=sizeLine;decide),fun q hq=> ?_⟩;exact ⟨_,rfl,k q _ au (((((sf.trans s1).trans se).trans st1).trans st2).trans (aJ hq))⟩
   | 2,_=>
     refine ⟨_,rfl,bJ.sub,fun e he=> ?_⟩;have se:=aJ (o:=XO aq none e) he;refine ⟨_,rfl,e,_,false,rfl,au,cU.xc,dj dW.hd cJ, ?_⟩;refine ⟨_,rfl,e,_,false,rfl,au,cU.xc,dj dZ.hd cX, ?_⟩;refine ⟨_,rfl,e,_,true,rfl,au,cU.xc,yh, ?_⟩;refine ⟨_,rfl,e,_,false,rfl,au,cU.xc,dj cT.hd cj, ?_⟩;refine ⟨_,rfl,e,_,true,rfl,au,cU.xc,vG cU.ve, ?_⟩;refine ⟨_,rfl,(by show 6<=sizeLine;decide),fun t1 ht1=> ?_⟩;have st1:=aJ (o:=HO.tup [V.ref bV,V.ref bA,V.ref bx,V.ref aV,V.ref aP,V.ref aW]) ht1;have Q6:=st1 _ _ (au (a:=e) (o:=XO aq none e))
     refine ⟨e,t1,_,[bV,bA,bx,aV,aP,aW],false,rfl,Q6,cU.xc,au,iJ (by
      intro D hD;simp only [List.mem_cons,List.not_mem_nil,or_false] at hD;rcases hD with rfl|rfl|rfl|rfl|rfl|rfl
      ·exact dj jm.hd dG
      ·exact dj gk.hd cM
      ·exact dj gb.hd cL
      ·exact dj fj.hd cu
      ·exact dj eN.hd bR
      ·exact dj fu.hd cA), ?_⟩
     refine ⟨_,rfl,(by show 3<=sizeLine;decide),fun t2 RZ=> ?_⟩;have st2:=aJ (o:=HO.tup [V.ref bw,V.ref bU,V.ref aO]) RZ;have he2:=st2 _ _ Q6
     refine ⟨e,t2,_,[bw,bU,aO],false,rfl,he2,cU.xc,au,iJ (by
      intro D hD;simp only [List.mem_cons,List.not_mem_nil,or_false] at hD;rcases hD with rfl|rfl|rfl
      ·exact dj fZ.hd cI
      ·exact dj jl.hd dF
      ·exact dj eG.hd bQ), ?_⟩
     refine ⟨(by show 7<=sizeLine;decide),fun q hq=> ?_⟩;exact ⟨_,rfl,k q _ au (((((sf.trans s1).trans se).trans st1).trans st2).trans (aJ hq))⟩
   | 3,_=>
     refine ⟨_,rfl,bI.sub,fun e he=> ?_⟩;have se:=aJ (o:=XO ao none e) he;refine ⟨_,rfl,e,_,false,rfl,au,cT.xc,dj dW.hd cF, ?_⟩;refine ⟨_,rfl,e,_,false,rfl,au,cT.xc,dj dZ.hd cW, ?_⟩;refine ⟨_,rfl,e,_,false,rfl,au,cT.xc,dj cU.hd cg, ?_⟩;refine ⟨_,rfl,e,_,true,rfl,au,cT.xc,yh, ?_⟩;refine ⟨_,rfl,e,_,true,rfl,au,cT.xc,vG cT.ve, ?_⟩;refine ⟨_,rfl,(by show 6<=sizeLine;decide),fun t1 ht1=> ?_⟩;have st1:=aJ (o:=HO.tup [V.ref bV,V.ref bA,V.ref bx,V.ref aV,V.ref aP,V.ref aW]) ht1;have Q6:=st1 _ _ (au (a:=e) (o:=XO ao none e))
     refine ⟨e,t1,_,[bV,bA,bx,aV,aP,aW],false,rfl,Q6,cT.xc,au,iJ (by
      intro D hD;simp only [List.mem_cons,List.not_mem_nil,or_false] at hD;rcases hD with rfl|rfl|rfl|rfl|rfl|rfl
      ·exact dj jm.hd dD
      ·exact dj gk.hd cH
      ·exact dj gb.hd cG
      ·exact dj fj.hd bZ
      ·exact dj eN.hd bO
      ·exact dj fu.hd b_), ?_⟩
     refine ⟨_,rfl,(by show 3<=sizeLine;decide),fun t2 RZ=> ?_⟩;have st2:=aJ (o:=HO.tup [V.ref bw,V.ref bU,V.ref aO]) RZ;have he2:=st2 _ _ Q6
     refine ⟨e,t2,_,[bw,bU,aO],false,rfl,he2,cT.xc,au,iJ (by
      intro D hD;simp only [List.mem_cons,List.not_mem_nil,or_false] at hD;rcases hD with rfl|rfl|rfl
      ·exact dj fZ.hd cD
      ·exact dj jl.hd dB
      ·exact dj eG.hd bN), ?_⟩
     refine ⟨(by show 7<=sizeLine;decide),fun q hq=> ?_⟩;exact ⟨_,rfl,k q _ au (((((sf.trans s1).trans se).trans st1).trans st2).trans (aJ hq))⟩
theorem vH {H:Hp} {a:Addr} {bs:List Bool} (h:H a=some (.lst (bs.map V.bl))):Dat H (.ref a) (.list (bs.map PyData.bool)):=by
 refine rF h ?_;clear h
 induction bs with
 | nil=>simp [bf]
 | cons x bs ih=>simp only [List.map_cons,bf,Dat,true_and];exact ih
theorem Il (x y:Bool):PyData.eqv (.bool x) (.bool y)=decide (x=y):=by
 cases x<;>cases y<;>rfl
theorem pW (bs:List Bool):SeqAt.shaped (.list (bs.map PyData.bool))=true:=uT PyData.bool 0 (by decide) (fun _ _=>rfl) (fun _ _=>by show 0<=0;decide)
def aD (es os:List Int) (ms:List Nt):PyData:= .list [.list (es.map PyData.int),.list (os.map PyData.int),.list (ms.map nD)]
theorem Fb {H:Hp} {l p o w:Addr} {es os:List Int} {ms:List Nt} (hl:H l=some (.lst [.ref p,.ref o,.ref w])) (hp:H p=some (.lst (es.map V.int))) (ho:H o=some (.lst (os.map V.int))) (hw:gA H w ms):Dat H (.ref l) (aD es os ms):=by
 obtain ⟨vs,h1,dv⟩:=hw;simp only [aD,Dat];refine ⟨l,_,rfl,hl, ?_⟩;simp only [bf,and_true];exact ⟨eX hp,eX ho,rF h1 dv⟩
theorem xQ (es os:List Int) (ms:List Nt):SeqAt.shaped (aD es os ms)=true:=by
 have e1:=shaped_ints es;have e2:=shaped_ints os;have e3:=sG ms;simp only [SeqAt.shaped,PyData.depth,PyData.depthAll,PyData.canLay0,PyData.canLayAll0,aD,Bool.and_eq_true,decide_eq_true_eq,Bool.and_true] at e1 e2 e3 ⊢;have d1:PyData.depthAll (es.map PyData.int)<=0:=jj _ 0 es (fun _ _=>by show 0<=0;decide);have d2:PyData.depthAll (os.map PyData.int)<=0:=jj _ 0 os (fun _ _=>by show 0<=0;decide);have d3:PyData.depthAll (ms.map nD)<=1:=jj _ 1 ms (fun _ _=>by show (max 0 (max 0 (max 0 (max 0 0))))+1<=1;decide);refine ⟨?_, ?_⟩<;>first |(clear e3 e2 e1;omega)|exact ⟨e1.1,e2.1,e3.1⟩|exact ⟨e1.2,e2.2,e3.2⟩|skip
theorem Og (es os:List Int) (ms:List Nt):PyData.eqv (aD es os ms) (aD es os ms)=true:=by
 simp only [aD,PyData.eqv,PyData.eqvAll,Bool.and_true];have e1:=gG PyData.int jZ es es;have e2:=gG PyData.int jZ os os;have e3:=gG nD Cd ms ms;simp only [PyData.eqv] at e1 e2 e3;rw [e1,e2,e3];simp
theorem Yq (cs:List Int) (ns:List Nt) (es os:List Int) (door limit:Int):∃du:Option Nat,Fv cs ns es os door limit du /\ ∀k,du=some k->k<4:=by
 by_cases al:eU cs ns
 rotate_left
 ·exact ⟨some 0,⟨fun _=>rfl,fun z=>absurd z al⟩,fun k e=>by cases e;decide⟩
 by_cases h1:(door<3\/door=9) /\ ¬cR cs es
 ·exact ⟨some 1,⟨fun z=>absurd al z,fun _=>⟨fun _ _=>rfl,fun _ _ _=>rfl,fun z=>by have:=h1.1;omega,fun z=>by have:=h1.1;omega,fun z=>absurd (z h1.1) h1.2⟩⟩,fun k e=>by cases e;decide⟩
 have d1:(door<3\/door=9)->cR cs es:=fun z=>Classical.byContradiction fun w=>h1 ⟨z,w⟩
 by_cases h2:door=9/\brk es ns≠[]
 ·exact ⟨some 1,⟨fun z=>absurd al z,fun _=>⟨fun _ _=>rfl,fun _ _ _=>rfl,fun z=>by have:=h2.1;omega,fun z=>by have:=h2.1;omega,fun _ z=>absurd (z h2.1) h2.2⟩⟩,fun k e=>by cases e;decide⟩
 have d2:door=9->brk es ns=[]:=fun z=>Classical.byContradiction fun w=>h2 ⟨z,w⟩
 by_cases h3:door=3 /\ ¬jB cs os
 ·exact ⟨some 2,⟨fun z=>absurd al z,fun _=>⟨fun z=>by have:=h3.1;omega,fun z=>by have:=h3.1;omega,fun _ _=>rfl,fun z=>by have:=h3.1;omega,fun _ _ z=>absurd (z h3.1) h3.2⟩⟩,fun k e=>by cases e;decide⟩
 have d3:door=3->jB cs os:=fun z=>Classical.byContradiction fun w=>h3 ⟨z,w⟩
 by_cases h4:(door=7\/door=8)/\limit=0
 ·exact ⟨some 3,⟨fun z=>absurd al z,fun _=>⟨fun z=>by have:=h4.1;omega,fun z=>by have:=h4.1;omega,fun z=>by have:=h4.1;omega,fun _ _=>rfl,fun _ _ _ z=>absurd h4.2 (z h4.1)⟩⟩,fun k e=>by cases e;decide⟩
 ·exact ⟨none,⟨fun z=>absurd al z,fun _=>⟨fun z w=>absurd (d1 z) w,fun z _ w=>absurd (d2 z) w,fun z w=>absurd (d3 z) w,fun z w=>absurd ⟨z,w⟩ h4,fun _ _ _ _=>rfl⟩⟩,fun k e=>by cases e⟩
theorem Yr {cs:List Int} {ns:List Nt} {es os:List Int} {door limit:Int} {du du':Option Nat} (a:Fv cs ns es os door limit du) (b:Fv cs ns es os door limit du'):du=du':=by
 by_cases al:eU cs ns
 rotate_left
 ·rw [a.1 al,b.1 al]
 have a:=a.2 al;have b:=b.2 al
 by_cases h1:(door<3\/door=9) /\ ¬cR cs es
 ·rw [a.1 h1.1 h1.2,b.1 h1.1 h1.2]
 have d1:(door<3\/door=9)->cR cs es:=fun z=>Classical.byContradiction fun w=>h1 ⟨z,w⟩
 by_cases h2:door=9/\brk es ns≠[]
 ·rw [a.2.1 h2.1 (d1 (.inr h2.1)) h2.2,b.2.1 h2.1 (d1 (.inr h2.1)) h2.2]
 have d2:door=9->brk es ns=[]:=fun z=>Classical.byContradiction fun w=>h2 ⟨z,w⟩
 by_cases h3:door=3 /\ ¬jB cs os
 ·rw [a.2.2.1 h3.1 h3.2,b.2.2.1 h3.1 h3.2]
 have d3:door=3->jB cs os:=fun z=>Classical.byContradiction fun w=>h3 ⟨z,w⟩
 by_cases h4:(door=7\/door=8)/\limit=0
 ·rw [a.2.2.2.1 h4.1 h4.2,b.2.2.2.1 h4.1 h4.2]
 ·have d4:(door=7\/door=8)->limit≠0:=fun z w=>h4 ⟨z,w⟩
  rw [a.2.2.2.2 d1 d2 d3 d4,b.2.2.2.2 d1 d2 d3 d4]
def KY (K:PySem.W.Frag):Sp:=fun vs H Q _=>∃(a:Addr) (ns:List Int),vs=[.ref a]/\bK K H a (ns.map V.int)/\ns.length<=63 /\ ∀H',Q (.bl true) H'
theorem Xh {f:Addr} {fd:FuncData} (F:qj K "law" "law" xU f fd) (YQ:FnAt P w K mg base 1 "_law_bag" ["script"] (P_ K)) (bL:FnAt P w K mg base 2 "_law_draw" ["bag","many"] (qz K)) (OJ:FnAt P w K mg base 4 "_law_record" ["bag","great"] (yW K)) (yE:FnAt P w K mg base 3 "_law_note" ["bag","counts"] (Az K)) (Dg:FnAt P w K mg base 4 "_law_no_note" ["bag","counts"] (A_ K)) (Vs:FnAt P w K mg base 4 "_law_list" ["bag","counts"] (FZ K)) (RN:FnAt P w K mg base 4 "_law_turns" ["bag","counts"] (Ay K)) (Vt:FnAt P w K mg base 1 "_law_copy" ["record"] (JF K)) (Ky:FnAt P w K mg base 8 "_law_refusal" ["door","record","lists","limit"] (JB K)) (YM:FnAt P w K mg base 1 "_law_due" ["door","bad","record","some","order","limit"] (JD K)) (Bt:tU mg):gn P w K mg base tV 9 f fd ["script"] (KY K):=by
 refine F.ok iY (fun vs H Q E h=> ?_) (fun cdv A outer s H vs Q E hr h=> ?_)
 ·obtain ⟨a,ns,rfl,_⟩:=h
  rfl
 ·obtain ⟨sa,sns,rfl,hS,hlen,k⟩:=h
  have gO:=hr.units
  refine ⟨_,(aF (bC (i:=1) iY.nd rfl (Or.inl rfl) (bG YQ (hr.mono (by decide)) (by rfl) (aj (pv 0) aA)))
   (aF (bC (i:=2) iY.nd rfl (Or.inl rfl) (lF yc (bG bL (hr.mono (by decide)) (by rfl) (aj (pv 1) (aj aB aA))) aB (bB _)))
   (aF (bC (i:=3) iY.nd rfl (Or.inl rfl) (gW Ot (by rfl) Bt.Wa Rv (aj (lF gF (bG bL (hr.mono (by decide)) (by rfl) (aj (pv 1) (aj aB aA))) aB (bB _)) aA)))
   (aF (bC (i:=4) iY.nd rfl (Or.inl rfl) (bM sY (bM sY aB (bG bL (hr.mono (by decide)) (by rfl) (aj (pv 1) (aj aB aA)))) (bM mX aB (pv 3))))
   (aF (bC (i:=5) iY.nd rfl (Or.inl rfl) (lF gF (bG bL (hr.mono (by decide)) (by rfl) (aj (pv 1) (aj aB aA))) aB (bB _)))
   (aF (bC (i:=6) iY.nd rfl (Or.inl rfl) (bG OJ (hr.mono (by decide)) (by rfl) (aj (pv 1) (aj (pv 3) aA))))
   (aF (bC (i:=7) iY.nd rfl (Or.inl rfl) (aU (aY (K:=K) rfl) (pv 6) aB (fun _ _=>rfl)))
   (aF (bC (i:=8) iY.nd rfl (Or.inl rfl) (fB (Bk (K:=K) rfl) (aU (aY (K:=K) rfl) (pv 6) aB (fun _ _=>rfl)) gD (gC (bG bL (hr.mono (by decide)) (by rfl) (aj (pv 1) (aj (bM fD (aX (aR (K:=K) rfl) (by rfl) Bt.fL d8 (aj (aU (aY (K:=K) rfl) (pv 6) aB (fun _ _=>rfl)) aA)) aB) aA))))))
   (aF (bC (i:=9) iY.nd rfl (Or.inl rfl) (bG yE (hr.mono (by decide)) (by rfl) (aj (pv 1) (aj (pv 7) aA))))
   (aF (dU (PW.pt (jf (aZ vA (pv 9) mW (bB _)) (iC (aZ gF (bG bL (hr.mono (by decide)) (by rfl) (aj (pv 1) (aj aB aA))) aB (bB _))))) (aF (bC (i:=8) iY.nd rfl (Or.inl rfl) (fO (aj (pv 9) (aj (bM (Bw (K:=K) rfl) (fB (g8 (K:=K) rfl) (pv 9) (gC aB) gD) (fB (g8 (K:=K) rfl) (pv 9) gD (gC aB))) aA))))
   (aK (eZ (pO (K:=K) rfl PySem.F.plainAttrs_list PySem.F.slot_list_extend PySem.F.type_list_extend Nr (aU (aY (K:=K) rfl) (pv 6) aB (fun _ _=>rfl)) (aj (pv 8) aA))))) bD)
   (aF (dU (iR (pv 5)) (aK (eZ (pO (K:=K) rfl PySem.F.plainAttrs_list PySem.F.slot_list_insert PySem.F.type_list_insert qp (pv 8) (aj (bG bL (hr.mono (by decide)) (by rfl) (aj (pv 1) (aj (bM fD (aX (aR (K:=K) rfl) (by rfl) Bt.fL d8 (aj (pv 8) aA)) aB) aA))) (aj (bG Dg (hr.mono (by decide)) (by rfl) (aj (pv 1) (aj (pv 7) aA))) aA))))) bD)
   (aF (dU (iR (pv 2)) (aF (bC (i:=9) iY.nd rfl (Or.inl rfl) (bG Dg (hr.mono (by decide)) (by rfl) (aj (pv 1) (aj (pv 7) aA))))
   (aK (eZ (pO (K:=K) rfl PySem.F.plainAttrs_list PySem.F.slot_list_insert PySem.F.type_list_insert qp (aU (aY (K:=K) rfl) (pv 6) aB (fun _ _=>rfl)) (aj (bG bL (hr.mono (by decide)) (by rfl) (aj (pv 1) (aj (bM fD (aX (aR (K:=K) rfl) (by rfl) Bt.fL d8 (aj (aU (aY (K:=K) rfl) (pv 6) aB (fun _ _=>rfl)) aA)) aB) aA))) (aj (pv 9) aA)))))) bD)
   (aF (bC (i:=10) iY.nd rfl (Or.inl rfl) (bG Vs (hr.mono (by decide)) (by rfl) (aj (pv 1) (aj (pv 7) aA))))
   (aF (bC (i:=11) iY.nd rfl (Or.inl rfl) (bG RN (hr.mono (by decide)) (by rfl) (aj (pv 1) (aj (pv 7) aA))))
   (aF (mV PassesOwn.never rfl (gH (by rfl) Bt.jk (aj aB aA)) (bY (i:=12) iY.nd rfl (Or.inl rfl))
   (aF (bC (i:=13) iY.nd rfl (Or.inl rfl) (bG Vt (hr.mono (by decide)) (by rfl) (aj (pv 6) aA)))
   (aF (bC (i:=14) iY.nd rfl (Or.inl rfl) (fO (aj (gW (fQ (K:=K) rfl) (by rfl) Bt.pQ lH (aj (pv 10) aA)) (aj (gW (fQ (K:=K) rfl) (by rfl) Bt.pQ lH (aj (pv 11) aA)) (aj (gW (fQ (K:=K) rfl) (by rfl) Bt.pQ lH (aj (pv 8) aA)) aA)))))
   (aF (bC (i:=15) iY.nd rfl (Or.inl rfl) (bG Ky (hr.mono (by decide)) (by rfl) (aj (pv 12) (aj (pv 13) (aj (pv 14) (aj (pv 4) aA))))))
   (aF (bC (i:=16) iY.nd rfl (Or.inr rfl) (bG YM (hr.mono (by decide)) (by rfl) (aj (pv 12) (aj (pv 2) (aj (pv 6) (aj (pv 10) (aj (pv 11) (aj (pv 4) aA))))))))
   (aF (dU (PW.pt (qM (aZ (jh (K:=K) rfl gO) (pv 13) (pv 6) (bB _)) (pA (aZ (jh (K:=K) rfl gO) (pv 14) (fO (aj (pv 10) (aj (pv 11) (aj (pv 8) aA)))) (bB _))))) (aK (bF qO)) bD)
   (aF (dU (PW.pt (jf (aZ Gg (pv 16) mW (bB _)) (iC (aZ (jh (K:=K) rfl gO) (pv 15) (fO aA) (bB _))))) (aK (bF qO)) bD)
   (aK (dU (PW.pt (jf (aZ vA (pv 16) mW (bB _)) (iC (aZ (jh (K:=K) rfl gO) (pv 15) (bM Gi (iT rfl (N:=["k","due"]) (own:=["k"]) (caps:=[16]) (bH.of (by kernel_rfl)) (gH (by rfl) Bt.jk (aj aB aA)) (fun _ _ _ _=>(bY (i:=0) (show List.Nodup (["k","due"]:List Str) by decide +kernel) rfl (Or.inl rfl))) (fun _ _ _ _=>iD) (fun _ _ _ _=>(lF gF (pv 0) (pv 1) (bB _)))) (fO (aj qO (aj qO (aj qO aA))))) (bB _))))) (aK (bF qO)) bD)))))))))
   (aK (bF qO))))))))))))))))), ?_⟩
  refine ⟨_,rfl,sa,sns,rfl,hS,hlen,fun r b H1 hr1 hb1 B1 s1=> ?_⟩;refine ⟨_,rfl,r,b,3,0,rfl,B1,by decide,by decide,by decide,fun z H2 z0 z1 B2 k2=> ?_⟩;refine ⟨_,_,rfl,rfl, ?_⟩;refine ⟨_,rfl,r,b,8,_,rfl,B2,by decide,by decide,by decide,fun y H3 y0 y1 B3 k3=> ?_⟩;refine ⟨rfl,Or.inr ⟨_,rfl, ?_⟩⟩
  obtain ⟨g,eg,hg⟩:∃g:Int,(V.int (if (decide (V.int y=V.int 7))=true then 1 else 0))=V.int g/\(g=0\/g=1):=by
   by_cases q:y=7
   ·exact ⟨1,by simp [q],.inr rfl⟩
   ·exact ⟨0,by simp [q],.inl rfl⟩
  rw [eg];refine ⟨_,rfl,r,b,2,_,rfl,B3,by decide,by decide,by decide,fun x H4 x0 x1 B4 k4=> ?_⟩;refine ⟨_,_,rfl,rfl,.inl ⟨by decide,by decide⟩, ?_⟩;refine ⟨_,rfl,_,_,rfl,rfl, ?_⟩;refine ⟨_,_,rfl,rfl,.inr ⟨by omega,by omega⟩, ?_⟩
  obtain ⟨limit,el,hlim⟩:∃limit:Int,(fun (i j:Int)=>V.int (i*j)) (5000*x) (1 - g)=V.int limit/\(limit=0\/(limit=5000/\g=0)):=by
   refine ⟨5000*x*(1 - g),rfl, ?_⟩;have:x=0\/x=1:=by omega
   rcases this with rfl|rfl<;>rcases hg with rfl|rfl<;>simp
  rw [el];refine ⟨_,rfl,r,b,4,_,rfl,B4,by decide,by decide,by decide,fun v H5 v0 v1 B5 k5=>⟨rfl, ?_⟩⟩;generalize (decide (V.int v=V.int 3))=sb;refine ⟨_,rfl,_,rfl,r,b,_,g,rfl,hg,B5,by decide,fun t c a cs ns H6 ht0 hc0 ha0 R6 ok sm B6 k6 Y7 n60=> ?_⟩;obtain ⟨Jm,ncb⟩:=B5.ne hc0;obtain ⟨Jo,nab⟩:=B5.ne ha0;have m5:=ok.1;have c8:=m5.1
  have lim:limit=0\/((iW cs:Int)<=limit/\iW cs<=5000):=by
   rcases hlim with h|⟨h,g0⟩
   ·exact .inl h
   ·have:=K5 (n:=4) (sm g0).1 (sm g0).2
    exact .inr ⟨by omega,by omega⟩
  have kR:∀{Hx Hy:Hp} {n:Nat} {ms:List Nt},dR Hx r b n->Kp r Hx Hy->RecAt Hx t c a cs ms->RecAt Hy t c a cs ms:=fun B kk R=>by
   obtain ⟨yl,hl⟩:=B.lst;exact R.kp hl kk Jm Jo
  refine ⟨_,rfl,_,_,_,_,rfl,rfl,eV.of R6.1,rfl, ?_⟩;obtain ⟨QX,hc6,nv,Q8,dn6⟩:=id R6;have Y6:nv.length=ns.length:=by rw [dn6.length,List.length_map]
  refine ⟨_,rfl,_,_,_,_,rfl,rfl,eV.of QX,rfl, ?_⟩;refine ⟨_,rfl,_,rfl,_,_,_,_,rfl,rfl,eV.of QX,rfl,a,_,rfl,.inl (bK.of Q8),_,_,rfl,rfl,r,b,_,_,rfl,B6,by decide,by omega,by omega,fun u H7 u0 u1 B7 k7=> ?_⟩;have R7:=kR B6 k7 R6;obtain ⟨ht7,hc7,Xn,ha7,dn7⟩:=id R7;obtain ⟨un,rfl⟩:=Int.eq_ofNat_of_zero_le u0;refine ⟨un,rfl,a,Xn,rfl,bK.of ha7,fun w hw=> ?_⟩;rw [show lD Xn none (some (un:Int))=Xn.take un from yt Xn un];have s8:=aJ (o:=HO.lst (Xn.take un)) hw;have N8:gA (upd H7 w (.lst (Xn.take un))) w (ns.take un):=⟨_,au,by rw [List.map_take];exact (bf.keep s8.tups _ (eO _ iV ns) dn7).take un⟩;have R8:=R7.same s8;have B8:=B7.keep s8;obtain ⟨Y4,nwb⟩:=B7.ne hw;have nwa:w≠a:=(aL ha7 hw).symm;have nwc:w≠c:=(aL hc7 hw).symm;generalize (upd H7 w (.lst (Xn.take un)))=H8 at N8 R8 B8;dsimp only [tM];refine gB (fun σ H9=>∃tv:V,σ=[some (.ref sa),some (.ref r),some (.bl (decide (0<z))),some (.int g),some (.int limit),some (.bl sb),some (.ref t),some (.ref c),some (.ref w),some tv,none,none,none,none,none,none,none]/\(tv = .non \/ ∃tt x,tv = .ref tt/\H9 tt=some (.tup (nV x))/\qZ cs x)/\dR H9 r b 4020/\Kp r H8 H9) (fun D' hD' _=> ?_) ?_
  ·exact ⟨_,rfl,_,rfl,r,b,_,c,cs,rfl,B8,by omega,R8.2.1,Jm,m5,fun H9 _ B9 k9=>hD' _ _ ⟨_,rfl,.inl rfl,B9.mono (by omega),k9⟩,fun tt x H9 _ htt nx B9 k9=>hD' _ _ ⟨_,rfl,.inr ⟨tt,x,rfl,htt,nx⟩,B9.mono (by omega),k9⟩⟩
  rintro σ H9 ⟨tv,rfl,htv,B9,k9⟩;have R9:=kR B8 k9 R8;have N9:gA H9 w (ns.take un):=N8.kp (B8.tups k9) k9 Y4;refine gB (fun σ vR=>∃(w:Addr) (ms ns':List Nt),σ=[some (.ref sa),some (.ref r),some (.bl (decide (0<z))),some (.int g),some (.int limit),some (.bl sb),some (.ref t),some (.ref c),some (.ref w),some tv,none,none,none,none,none,none,none]/\RecAt vR t c a cs ns'/\iz cs ns'/\ns'.length<=62/\gA vR w ms/\ms.length<=62/\w≠a/\w≠c/\w≠r/\w≠b/\dR vR r b 4021) (fun D' hD' _=> ?_) ?_
  ·have stay:∀H',dR H' r b 4021->Kp r H9 H' -> ∃(w':Addr) (ms ns':List Nt),[some (V.ref sa),some (.ref r),some (.bl (decide (0<z))),some (.int g),some (.int limit),some (.bl sb),some (.ref t),some (.ref c),some (.ref w),some tv,none,none,none,none,none,none,none]=[some (.ref sa),some (.ref r),some (.bl (decide (0<z))),some (.int g),some (.int limit),some (.bl sb),some (.ref t),some (.ref c),some (.ref w'),some tv,none,none,none,none,none,none,none]/\RecAt H' t c a cs ns'/\iz cs ns'/\ns'.length<=62/\gA H' w' ms/\ms.length<=62/\w'≠a/\w'≠c/\w'≠r/\w'≠b/\dR H' r b 4021:=fun H' B' k'=>⟨w,ns.take un,ns,rfl,kR B9 k' R9,ok,by omega,N9.kp (B9.tups k') k' Y4,by rw [List.length_take];omega,nwa,nwc,Y4,nwb,B'⟩
   refine ⟨_,rfl,rfl,_,rfl, ?_⟩;rcases htv with rfl|⟨tt,x,rfl,htt,nx⟩
   ·refine dY (fun q=>absurd q (by simp)) (fun _=>hD' _ _ (stay H9 (B9.mono (by omega)) (Kp.refl _ _)))
   refine dY (fun _=> ?_) (fun q=>absurd (by simp) q);refine ⟨_,rfl,r,b,2,_,rfl,B9,by omega,by decide,by decide,fun y2 vR _ _ B10 k10=>⟨rfl,_,rfl, ?_⟩⟩;refine dY (fun _=> ?_) (fun _=>hD' _ _ (stay vR B10 k10));have hF:=B9.tups k10 _ _ htt;have Vk:=kR B9 k10 R9;refine ⟨_,rfl,_,rfl,_,rfl,_,_,rfl,eV.of hF,wX _ rfl,fun q3 Uy=> ?_⟩;have c2:lD (nV x) (some 2) none=[.int x.2.2.1,.int x.2.2.2]:=Fd ..;rw [c2];have Tc:=aJ (o:=HO.tup [V.int x.2.2.1,V.int x.2.2.2]) Uy;refine ⟨_,rfl,_,rfl,_,_,rfl,eV.of (Tc _ _ hF),uX _ rfl,fun q4 hq4=> ?_⟩;have c1:lD (nV x) none (some 2)=[.int x.1,.int x.2.1]:=Cp ..;rw [c1];have S_:=aJ (o:=HO.tup [V.int x.1,V.int x.2.1]) hq4;refine ⟨_,_,_,_,rfl,rfl,eV.of (S_ _ _ au),eV.of au,by simp,(by show 4<=sizeLine;decide),fun z=>by simp at z,fun _ q5 Gu=> ?_⟩;have sp5:=aJ (o:=HO.tup ([V.int x.2.2.1,V.int x.2.2.2]++[V.int x.1,V.int x.2.1])) Gu;refine ⟨(by show 2<=sizeLine;decide),fun w2 hw2=> ?_⟩;have ZM:=aJ (o:=HO.lst [V.ref tt,V.ref q5]) hw2;have WX:=((Tc.trans S_).trans sp5).trans ZM;have Sg:=Vk.same WX;have B12:=B10.keep WX;have BZ:(upd (upd (upd (upd vR q3 (.tup [V.int x.2.2.1,V.int x.2.2.2])) q4 (.tup [V.int x.1,V.int x.2.1])) q5 (.tup ([V.int x.2.2.1,V.int x.2.2.2]++[V.int x.1,V.int x.2.1]))) w2 (.lst [V.ref tt,V.ref q5])) w2=some (.lst [V.ref tt,V.ref q5]):=au
   have D12:bf (upd (upd (upd (upd vR q3 (.tup [V.int x.2.2.1,V.int x.2.2.2])) q4 (.tup [V.int x.1,V.int x.2.1])) q5 (.tup ([V.int x.2.2.1,V.int x.2.2.2]++[V.int x.1,V.int x.2.1]))) w2 (.lst [V.ref tt,V.ref q5])) [V.ref tt,V.ref q5] ([x,Eb x].map nD):=by
    simp only [List.map_cons,List.map_nil,bf,and_true];exact ⟨tD (WX _ _ hF),tD (x:=Eb x) (ZM _ _ au)⟩
   have Dy:vR w2=none:=Tc.free (S_.free (sp5.free hw2));obtain ⟨n2r,n2b⟩:=B10.ne Dy;generalize (upd (upd (upd (upd vR q3 (.tup [V.int x.2.2.1,V.int x.2.2.2])) q4 (.tup [V.int x.1,V.int x.2.1])) q5 (.tup ([V.int x.2.2.1,V.int x.2.2.2]++[V.int x.1,V.int x.2.1]))) w2 (.lst [V.ref tt,V.ref q5]))=vJ at Sg B12 BZ D12 ⊢;obtain ⟨Ii,aaE,Np,Oa,U5⟩:=id Sg;have aam:Np.length=ns.length:=by rw [U5.length,List.length_map]
   have n2a:w2≠a:=by obtain ⟨_,_,_,hh,_⟩:=id Vk;exact (aL hh Dy).symm
   have n2c:w2≠c:=(aL Vk.2.1 Dy).symm;refine ⟨_,rfl,_,_,_,_,rfl,rfl,eV.of Ii,rfl,.inl ⟨rfl,_,bK.of Oa⟩,_,rfl,a,w2,_,_,rfl,rfl,Oa,BZ,by rw [sizeLine_eq];simp only [List.length_cons,List.length_nil];omega, ?_⟩;have kA:Kp a vJ (upd vJ a (.lst (Np++[V.ref tt,V.ref q5]))):=Kp.set;have tpA:=kA.tups Oa
   have DA:bf (upd vJ a (.lst (Np++[V.ref tt,V.ref q5]))) (Np++[V.ref tt,V.ref q5]) ((ns++[x,Eb x]).map nD):=by
    rw [List.map_append];exact bf.append (bf.keep tpA _ (eO _ iV ns) U5) (bf.keep tpA _ (eO _ iV _) D12)
   have nT:qZ cs (Eb x):=⟨nx.2.2.1,nx.2.2.2.1,nx.1,nx.2.1,fun z=>nx.2.2.2.2 z.symm⟩;refine hD' _ _ ⟨w2,[x,Eb x],ns++[x,Eb x],rfl,⟨tpA _ _ Ii,kA _ _ aaE Y7,_,au,DA⟩,⟨m5,by rw [List.length_append];simp only [List.length_cons,List.length_nil];omega,fun y hy=> ?_⟩,by rw [List.length_append];simp only [List.length_cons,List.length_nil];omega,⟨_,kA _ _ BZ n2a,bf.keep tpA _ (eO _ iV _) D12⟩,by simp only [List.length_cons,List.length_nil];omega,n2a,n2c,n2r,n2b,B12.kp kA Jo.symm nab.symm⟩;rcases List.mem_append.mp hy with hy|hy
   ·exact ok.2.2 y hy
   ·simp only [List.mem_cons,List.not_mem_nil,or_false] at hy
    rcases hy with rfl|rfl
    ·exact nx
    ·exact nT
  rintro σ vR ⟨w,ms,ns',rfl,Vk,ok',nl',Vn,ml,nwa,nwc,Y4,nwb,B10⟩;generalize (decide (0<z))=bd;have kW:∀{Hx Hy:Hp} {n:Nat} {ms:List Nt},dR Hx r b n->Kp r Hx Hy->gA Hx w ms->gA Hy w ms:=fun B kk N=>N.kp (B.tups kk) kk Y4;refine gB (fun σ Kv=>∃ms':List Nt,σ=[some (.ref sa),some (.ref r),some (.bl bd),some (.int g),some (.int limit),some (.bl sb),some (.ref t),some (.ref c),some (.ref w),some tv,none,none,none,none,none,none,none]/\RecAt Kv t c a cs ns'/\gA Kv w ms'/\ms'.length<=63/\dR Kv r b 4050) (fun D' hD' _=> ?_) ?_
  ·refine ⟨_,rfl,_,rfl, ?_⟩
   cases sb with
   | false=>exact iM (hD' _ _ ⟨ms,rfl,Vk,Vn,by omega,B10.mono (by omega)⟩)
   | true=>
     refine ji ?_;obtain ⟨mv,Dy,aif⟩:=id Vn;have mvl:mv.length=ms.length:=by rw [aif.length,List.length_map]
     refine ⟨_,rfl,.inl ⟨rfl,_,bK.of Dy⟩,_,rfl,_,rfl,w,_,rfl,.inl (bK.of Dy),_,_,rfl,rfl,r,b,_,_,rfl,B10,by omega,by omega,by omega,fun u2 Kv v0 v1 B11 k11=> ?_⟩;have Zj:=kR B10 k11 Vk;have Sh:=kW B10 k11 Vn;refine ⟨_,rfl,_,rfl,r,b,_,c,cs,rfl,B11,by omega,Zj.2.1,Jm,m5,fun t' x vJ ht' nx B12 k12=> ?_⟩;have Sg:=kR B11 k12 Zj;obtain ⟨mv2,BZ,aaT⟩:=id (kW B11 k12 Sh);have amY:mv2.length=ms.length:=by rw [aaT.length,List.length_map]
     refine ⟨w,mv2,u2,_,rfl,rfl,BZ,v0,by omega,by rw [sizeLine_eq];omega, ?_⟩;have kw:Kp w vJ (upd vJ w (.lst (mv2.take u2.toNat++V.ref t'::mv2.drop u2.toNat))):=Kp.set;have tpw:=kw.tups BZ;exact hD' _ _ ⟨ms.take u2.toNat++x::ms.drop u2.toNat,rfl,Sg.kp BZ kw nwc.symm nwa.symm,⟨_,au,Aa _ (bf.keep tpw _ (eO _ iV ms) aaT) (tD (tpw _ _ ht'))⟩,by rw [Ac];omega,(B12.kp kw Y4.symm nwb.symm).mono (by omega)⟩
  rintro σ Kv ⟨ms',rfl,Zj,Sh,ml',B11⟩;refine gB (fun σ vJ=>∃(tv':V) (Qw:List Nt),σ=[some (.ref sa),some (.ref r),some (.bl bd),some (.int g),some (.int limit),some (.bl sb),some (.ref t),some (.ref c),some (.ref w),some tv',none,none,none,none,none,none,none]/\RecAt vJ t c a cs Qw/\Qw.length<=63/\(bd=true -> ¬eU cs Qw)/\(bd=false->iz cs Qw)/\gA vJ w ms'/\dR vJ r b 4080) (fun D' hD' _=> ?_) ?_
  ·refine ⟨_,rfl,_,rfl, ?_⟩
   cases bd with
   | false=>exact iM (hD' _ _ ⟨tv,ns',rfl,Zj,by omega,fun z=>(by cases z),fun _=>ok',Sh,B11.mono (by omega)⟩)
   | true=>
     refine ji ?_;refine ⟨_,rfl,_,rfl,r,b,_,c,cs,rfl,B11,by omega,Zj.2.1,Jm,m5,fun t' x vJ ht' nx B12 k12=> ?_⟩;have Sg:=kR B11 k12 Zj;have Wf:=kW B11 k12 Sh;obtain ⟨Ii,aaE,Np,Oa,U5⟩:=id Sg;have aam:Np.length=ns'.length:=by rw [U5.length,List.length_map]
     refine ⟨_,rfl,_,_,_,_,rfl,rfl,eV.of Ii,rfl,.inl ⟨rfl,_,bK.of Oa⟩,_,rfl,_,rfl,_,_,_,_,rfl,rfl,eV.of Ii,rfl,a,_,rfl,.inl (bK.of Oa),_,_,rfl,rfl,r,b,_,_,rfl,B12,by omega,by omega,by omega,fun u2 Wg v0 v1 B13 k13=> ?_⟩;have R13:=kR B12 k13 Sg;have N13:=kW B12 k13 Wf;obtain ⟨QZ,ahY,Uk,aaJ,aaS⟩:=id R13;have akR:Uk.length=ns'.length:=by rw [aaS.length,List.length_map]
     refine ⟨_,rfl,a,Uk,u2,_,rfl,rfl,aaJ,v0,by omega,by rw [sizeLine_eq];omega, ?_⟩;have k14:Kp a Wg (upd Wg a (.lst (Uk.take u2.toNat++V.ref t'::Uk.drop u2.toNat))):=Kp.set;have Dl:=k14.tups aaJ;exact hD' _ _ ⟨_,ns'.take u2.toNat++x::ns'.drop u2.toNat,rfl,⟨Dl _ _ QZ,k14 _ _ ahY Y7,⟨_,au,Aa _ (bf.keep Dl _ (eO _ iV ns') aaS) (tD (Dl _ _ (B12.tups k13 _ _ ht')))⟩⟩,by rw [Ac];omega,fun _ al=>nx (al x (by simp)),fun z=>(by cases z),N13.kp Dl k14 nwa,(B13.kp k14 Jo.symm nab.symm).mono (by omega)⟩
  rintro σ vJ ⟨tv',Qw,rfl,Sg,nl2,b1,b2,Wf,B12⟩;refine ⟨_,rfl,_,rfl,r,b,_,c,cs,rfl,B12,by omega,Sg.2.1,Jm,m5,fun p es Wg hp0 ahL el B13 k13=> ?_⟩;have R13:=kR B12 k13 Sg;have N13:=kW B12 k13 Wf;obtain ⟨npr,npb⟩:=B12.ne hp0;refine ⟨_,rfl,_,rfl,r,b,_,c,cs,rfl,B13,by omega,R13.2.1,Jm,m5,fun o os Zk ho0 ahO ol B14 k14=> ?_⟩;have R14:=kR B13 k14 R13;have N14:=kW B13 k14 N13;have ahK:=k14 _ _ ahL npr
  have vo:eU cs Qw->iz cs Qw:=fun al=>by
   cases bd with
   | true=>exact absurd al (b1 rfl)
   | false=>exact b2 rfl
  refine ⟨_,rfl,by decide,by decide, ?_⟩
  refine rE (lo:=0) (n:=10) (fun i σ H15=>∃(x1 x2 x3 x4 x5:Option V),σ=[some (.ref sa),some (.ref r),some (.bl bd),some (.int g),some (.int limit),some (.bl sb),some (.ref t),some (.ref c),some (.ref w),some tv',some (.ref p),some (.ref o),x1,x2,x3,x4,x5]/\Same Zk H15)
   ⟨none,none,none,none,none,rfl,Same.refl _⟩ ?_ (fun σ H15 _=>k H15)
  rintro i σ H15 hi ⟨x1,x2,x3,x4,x5,rfl,ZS⟩;have R15:=R14.same ZS;have N15:=N14.same ZS;have X_:=ZS _ _ ahK;have Yb:=ZS _ _ ahO;refine ⟨_,rfl,t,c,a,cs,Qw,rfl,R15,fun t' c' a' H16 _ _ _ R16 s16=> ?_⟩;have ahJ:=s16 _ _ X_;have ahN:=s16 _ _ Yb;have N16:=N15.same s16;refine ⟨_,rfl,p,_,rfl,.inl (bK.of ahJ),fun q1 hq1=> ?_⟩;have u1:=aJ (o:=HO.lst (es.map V.int)) hq1;refine ⟨_,rfl,o,_,rfl,.inl (bK.of (u1 _ _ ahN)),fun q2 hq2=> ?_⟩;have u2:=aJ (o:=HO.lst (os.map V.int)) hq2;have Zm:=u1.trans u2;obtain ⟨mv,ahF,aie⟩:=id (N16.same Zm);refine ⟨_,rfl,w,_,rfl,.inl (bK.of ahF),fun q3 Uy=> ?_⟩;have u3:=aJ (o:=HO.lst mv) Uy;refine ⟨(by show 3<=sizeLine;decide),fun l hl=> ?_⟩;have u4:=aJ (o:=HO.lst [V.ref q1,V.ref q2,V.ref q3]) hl;have u34:=u3.trans u4;have u14:=Zm.trans u34;have A1:=((u2.trans u34)) _ _ (au (H:=H16) (a:=q1) (o:=HO.lst (es.map V.int)));have A2:=u34 _ _ (au (H:=upd H16 q1 (.lst (es.map V.int))) (a:=q2) (o:=HO.lst (os.map V.int)));have A3:gA (upd (upd (upd (upd H16 q1 (.lst (es.map V.int))) q2 (.lst (os.map V.int))) q3 (.lst mv)) l (.lst [V.ref q1,V.ref q2,V.ref q3])) q3 ms':=⟨mv,u4 _ _ au,bf.keep u34.tups _ (eO _ iV _) aie⟩;have A4:(upd (upd (upd (upd H16 q1 (.lst (es.map V.int))) q2 (.lst (os.map V.int))) q3 (.lst mv)) l (.lst [V.ref q1,V.ref q2,V.ref q3])) l=some (.lst [V.ref q1,V.ref q2,V.ref q3]):=au;generalize (upd (upd (upd (upd H16 q1 (.lst (es.map V.int))) q2 (.lst (os.map V.int))) q3 (.lst mv)) l (.lst [V.ref q1,V.ref q2,V.ref q3]))=H17 at u14 A1 A2 A3 A4 ⊢;have s17:=s16.trans u14;have R17:=R16.same u14;obtain ⟨du,hdu,du4⟩:=Yq cs Qw es os (0+(i:Int)) limit;refine ⟨_,rfl,_,rfl,_,rfl,_,rfl,0+(i:Int),limit,t',c',a',l,q1,q2,q3,cs,es,os,Qw,ms',du,rfl,by omega,by omega,R17,m5,by omega,vo,A4,A1,A2,ol,A3,by omega,lim,hdu,du4,fun f H18 hf s18=> ?_⟩;have S18:=s17.trans s18;refine ⟨_,rfl,_,rfl,_,rfl,_,rfl,_,rfl,_,rfl,0+(i:Int),limit,bd,t,c,a,p,o,cs,es,os,Qw,rfl,R15.same S18,m5,b1,b2,S18 _ _ X_,el,S18 _ _ Yb,ol,fun du' H19 ahW s19=> ?_⟩;have ed:=Yr ahW hdu;subst ed;have S19:=S18.trans s19;have s79:=s18.trans s19;have ahV:=s19 _ _ hf;refine ⟨_,rfl,_,rfl,_,_,LQ (R17.same s79),LQ (R15.same S19),Bl _ _,Bl _ _,_,rfl, ?_⟩;rw [if_pos rfl,U4,decide_eq_true rfl,decide_eq_true rfl];refine iM ?_;refine ⟨_,rfl,_,rfl,_,rfl,_,rfl,(by show 3<=sizeLine;decide),fun l2 hl2=> ?_⟩;have u5:=aJ (o:=HO.lst [V.ref p,V.ref o,V.ref w]) hl2;have S20:=S19.trans u5;have ZR:=s79.trans u5;refine ⟨_,_,Fb (ZR _ _ A4) (ZR _ _ A1) (ZR _ _ A2) (A3.same ZR),Fb au (S20 _ _ X_) (S20 _ _ Yb) (N15.same S20),xQ _ _ _,xQ _ _ _,_,rfl, ?_⟩;rw [if_pos rfl,Og];refine iM ?_;have Yh:=u5 _ _ ahV;have YH:=ZS.trans S20;generalize (upd H19 l2 (.lst [V.ref p,V.ref o,V.ref w]))=H20 at Yh YH;clear u5 S20 ZR;cases du' with
  | none=>
    refine ⟨_,rfl,rfl,_,rfl, ?_⟩;refine dY (fun _=> ?_) (fun q=>absurd (by simp [dV]) q);refine ⟨_,rfl,(by show 0<=sizeLine;decide),fun q hq=> ?_⟩;have u6:=aJ (o:=HO.lst []) hq;refine ⟨_,_,vH (bs:=[]) (u6 _ _ Yh),vH (bs:=[]) au,pW _,pW _,_,rfl, ?_⟩;rw [if_pos rfl,gG PyData.bool Il,decide_eq_true rfl];refine iM ?_;refine ⟨_,rfl,rfl,_,rfl, ?_⟩;refine dY (fun q=>absurd q (by simp [dV])) (fun _=> ?_);exact ⟨_,_,_,_,_,rfl,YH.trans u6⟩
  | some n=>
    have n4:=du4 n rfl;refine ⟨_,rfl,rfl,_,rfl, ?_⟩;refine dY (fun q=>absurd q (by simp [dV])) (fun _=> ?_);refine ⟨_,rfl,rfl,_,rfl, ?_⟩;refine dY (fun _=> ?_) (fun q=>absurd (by simp [dV]) q);refine ⟨_,rfl,_,rfl,by decide,by decide,fun D hD=> ?_⟩;refine mY (n:=4) (fun (i:Nat)=>some (V.bl (decide ((i:Int)=(n:Int))))) hD (by decide) (fun j H21 G F hj s21 kG kF=> ?_) (fun H21 s21 e21=> ?_)
    ·refine ⟨_,rfl,_,rfl,rfl,kF _ H21 (Same.refl _) ?_⟩
     congr 2;show decide (((j:Nat):Int)=(n:Int))=decide (V.int (0+(j:Int))=V.int (n:Int));rw [Int.zero_add]
     by_cases e:(j:Int)=(n:Int)
     ·rw [decide_eq_true e,decide_eq_true (by rw [e])]
     ·rw [decide_eq_false e,decide_eq_false (fun z=>e (by injection z))]
    refine ⟨(by show 3<=sizeLine;decide),fun q hq=> ?_⟩;have u6:=aJ (o:=HO.lst [V.bl true,V.bl false,V.bl false]) hq;have aia:H21 D=some (.lst [V.bl (decide ((0:Int)=(n:Int))),V.bl (decide ((1:Int)=(n:Int))),V.bl (decide ((2:Int)=(n:Int))),V.bl (decide ((3:Int)=(n:Int)))]):=e21;refine ⟨D,q,_,_,rfl,rfl,u6 _ _ aia,au,(by show 7<=sizeLine;decide),fun q7 Zd=> ?_⟩;have u7:=aJ (o:=HO.lst ([V.bl (decide ((0:Int)=(n:Int))),V.bl (decide ((1:Int)=(n:Int))),V.bl (decide ((2:Int)=(n:Int))),V.bl (decide ((3:Int)=(n:Int)))]++[V.bl true,V.bl false,V.bl false])) Zd;have sF:=(s21.trans u6).trans u7
    have eb:[decide ((0:Int)=(n:Int)),decide ((1:Int)=(n:Int)),decide ((2:Int)=(n:Int)),decide ((3:Int)=(n:Int)),true,false,false]=Va (some n):=by
     match n,n4 with
     | 0,_=>rfl
     | 1,_=>rfl
     | 2,_=>rfl
     | 3,_=>rfl
    refine ⟨_,_,vH (bs:=Va (some n)) (sF _ _ Yh),vH (bs:=Va (some n)) (by rw [←eb];exact au),pW _,pW _,_,rfl, ?_⟩;rw [if_pos rfl,gG PyData.bool Il,decide_eq_true rfl];refine iM ?_;exact ⟨_,_,_,_,_,rfl,YH.trans sF⟩
end
theorem len0 {us:List Value} (h:us.length=0):us=[]:=List.eq_nil_of_length_eq_zero h
theorem dX {us:List Value} {n:Nat} (h:us.length=n+1):∃a vs,us=a::vs/\vs.length=n:=by
 cases us with
 | nil=>cases h
 | cons a t=>exact ⟨a,t,rfl,Nat.succ.inj h⟩
theorem Ve (kV doc pm:Value) (an:Option Addr) (cdv ct:Value) (us:List Value) (hl:us.length=(["script"]:List Str).length):bindArgs (PySem.W.fnOf "_law_bag" "_law_bag" (aN sV) (aM sV) (aH sV) .none kV doc pm an cdv ct) ⟨us,[]⟩=pure ((["script"]:List Str).zip us):=by obtain ⟨_,_,rfl,h1⟩:=dX hl;cases len0 h1;rfl
theorem Rx (kV doc pm:Value) (an:Option Addr) (cdv ct:Value) (us:List Value) (hl:us.length=(["number","place"]:List Str).length):bindArgs (PySem.W.fnOf "_law_stir" "_law_stir" (aN pY) (aM pY) (aH pY) .none kV doc pm an cdv ct) ⟨us,[]⟩=pure ((["number","place"]:List Str).zip us):=by obtain ⟨_,_,rfl,h1⟩:=dX hl;obtain ⟨_,_,rfl,h2⟩:=dX h1;cases len0 h2;rfl
theorem RD (kV doc pm:Value) (an:Option Addr) (cdv ct:Value) (us:List Value) (hl:us.length=(["bag","many"]:List Str).length):bindArgs (PySem.W.fnOf "_law_draw" "_law_draw" (aN qb) (aM qb) (aH qb) .none kV doc pm an cdv ct) ⟨us,[]⟩=pure ((["bag","many"]:List Str).zip us):=by obtain ⟨_,_,rfl,h1⟩:=dX hl;obtain ⟨_,_,rfl,h2⟩:=dX h1;cases len0 h2;rfl
theorem Kl (kV doc pm:Value) (an:Option Addr) (cdv ct:Value) (us:List Value) (hl:us.length=(["bag","great"]:List Str).length):bindArgs (PySem.W.fnOf "_law_counts" "_law_counts" (aN jW) (aM jW) (aH jW) .none kV doc pm an cdv ct) ⟨us,[]⟩=pure ((["bag","great"]:List Str).zip us):=by obtain ⟨_,_,rfl,h1⟩:=dX hl;obtain ⟨_,_,rfl,h2⟩:=dX h1;cases len0 h2;rfl
theorem Ox (kV doc pm:Value) (an:Option Addr) (cdv ct:Value) (us:List Value) (hl:us.length=(["bag","counts"]:List Str).length):bindArgs (PySem.W.fnOf "_law_order" "_law_order" (aN n_) (aM n_) (aH n_) .none kV doc pm an cdv ct) ⟨us,[]⟩=pure ((["bag","counts"]:List Str).zip us):=by obtain ⟨_,_,rfl,h1⟩:=dX hl;obtain ⟨_,_,rfl,h2⟩:=dX h1;cases len0 h2;rfl
theorem Ow (kV doc pm:Value) (an:Option Addr) (cdv ct:Value) (us:List Value) (hl:us.length=(["order"]:List Str).length):bindArgs (PySem.W.fnOf "_law_spots" "_law_spots" (aN n6) (aM n6) (aH n6) .none kV doc pm an cdv ct) ⟨us,[]⟩=pure ((["order"]:List Str).zip us):=by obtain ⟨_,_,rfl,h1⟩:=dX hl;cases len0 h1;rfl
theorem Ry (kV doc pm:Value) (an:Option Addr) (cdv ct:Value) (us:List Value) (hl:us.length=(["bag","counts"]:List Str).length):bindArgs (PySem.W.fnOf "_law_note" "_law_note" (aN pZ) (aM pZ) (aH pZ) .none kV doc pm an cdv ct) ⟨us,[]⟩=pure ((["bag","counts"]:List Str).zip us):=by obtain ⟨_,_,rfl,h1⟩:=dX hl;obtain ⟨_,_,rfl,h2⟩:=dX h1;cases len0 h2;rfl
theorem Kh (kV doc pm:Value) (an:Option Addr) (cdv ct:Value) (us:List Value) (hl:us.length=(["bag","great"]:List Str).length):bindArgs (PySem.W.fnOf "_law_record" "_law_record" (aN jV) (aM jV) (aH jV) .none kV doc pm an cdv ct) ⟨us,[]⟩=pure ((["bag","great"]:List Str).zip us):=by obtain ⟨_,_,rfl,h1⟩:=dX hl;obtain ⟨_,_,rfl,h2⟩:=dX h1;cases len0 h2;rfl
theorem RG (kV doc pm:Value) (an:Option Addr) (cdv ct:Value) (us:List Value) (hl:us.length=(["record"]:List Str).length):bindArgs (PySem.W.fnOf "_law_copy" "_law_copy" (aN qd) (aM qd) (aH qd) .none kV doc pm an cdv ct) ⟨us,[]⟩=pure ((["record"]:List Str).zip us):=by obtain ⟨_,_,rfl,h1⟩:=dX hl;cases len0 h1;rfl
theorem Ja (kV doc pm:Value) (an:Option Addr) (cdv ct:Value) (us:List Value) (hl:us.length=(["value"]:List Str).length):bindArgs (PySem.W.fnOf "is_whole" "is_whole" (aN i_) (aM i_) (aH i_) .none kV doc pm an cdv ct) ⟨us,[]⟩=pure ((["value"]:List Str).zip us):=by obtain ⟨_,_,rfl,h1⟩:=dX hl;cases len0 h1;rfl
theorem Jb (kV doc pm:Value) (an:Option Addr) (cdv ct:Value) (us:List Value) (hl:us.length=(["value","count"]:List Str).length):bindArgs (PySem.W.fnOf "is_below" "is_below" (aN jc) (aM jc) (aH jc) .none kV doc pm an cdv ct) ⟨us,[]⟩=pure ((["value","count"]:List Str).zip us):=by obtain ⟨_,_,rfl,h1⟩:=dX hl;obtain ⟨_,_,rfl,h2⟩:=dX h1;cases len0 h2;rfl
theorem Kf (kV doc pm:Value) (an:Option Addr) (cdv ct:Value) (us:List Value) (hl:us.length=(["value"]:List Str).length):bindArgs (PySem.W.fnOf "is_note" "is_note" (aN jT) (aM jT) (aH jT) .none kV doc pm an cdv ct) ⟨us,[]⟩=pure ((["value"]:List Str).zip us):=by obtain ⟨_,_,rfl,h1⟩:=dX hl;cases len0 h1;rfl
theorem DP (kV doc pm:Value) (an:Option Addr) (cdv ct:Value) (us:List Value) (hl:us.length=(["counts","note"]:List Str).length):bindArgs (PySem.W.fnOf "is_between" "is_between" (aN h_) (aM h_) (aH h_) .none kV doc pm an cdv ct) ⟨us,[]⟩=pure ((["counts","note"]:List Str).zip us):=by obtain ⟨_,_,rfl,h1⟩:=dX hl;obtain ⟨_,_,rfl,h2⟩:=dX h1;cases len0 h2;rfl
theorem CJ (kV doc pm:Value) (an:Option Addr) (cdv ct:Value) (us:List Value) (hl:us.length=(["record"]:List Str).length):bindArgs (PySem.W.fnOf "check_notes" "check_notes" (aN gM) (aM gM) (aH gM) .none kV doc pm an cdv ct) ⟨us,[]⟩=pure ((["record"]:List Str).zip us):=by obtain ⟨_,_,rfl,h1⟩:=dX hl;cases len0 h1;rfl
theorem DW (kV doc pm:Value) (an:Option Addr) (cdv ct:Value) (us:List Value) (hl:us.length=(["record","done"]:List Str).length):bindArgs (PySem.W.fnOf "check_done" "check_done" (aN iw) (aM iw) (aH iw) .none kV doc pm an cdv ct) ⟨us,[]⟩=pure ((["record","done"]:List Str).zip us):=by obtain ⟨_,_,rfl,h1⟩:=dX hl;obtain ⟨_,_,rfl,h2⟩:=dX h1;cases len0 h2;rfl
theorem CG (kV doc pm:Value) (an:Option Addr) (cdv ct:Value) (us:List Value) (hl:us.length=(["record","order"]:List Str).length):bindArgs (PySem.W.fnOf "check_order" "check_order" (aN gK) (aM gK) (aH gK) .none kV doc pm an cdv ct) ⟨us,[]⟩=pure ((["record","order"]:List Str).zip us):=by obtain ⟨_,_,rfl,h1⟩:=dX hl;obtain ⟨_,_,rfl,h2⟩:=dX h1;cases len0 h2;rfl
theorem YC (kV doc pm:Value) (an:Option Addr) (cdv ct:Value) (us:List Value) (hl:us.length=(["done","touch"]:List Str).length):bindArgs (PySem.W.fnOf "has" "has" (aN xV) (aM xV) (aH xV) .none kV doc pm an cdv ct) ⟨us,[]⟩=pure ((["done","touch"]:List Str).zip us):=by obtain ⟨_,_,rfl,h1⟩:=dX hl;obtain ⟨_,_,rfl,h2⟩:=dX h1;cases len0 h2;rfl
theorem zT (kV doc pm:Value) (an:Option Addr) (cdv ct:Value) (us:List Value) (hl:us.length=(["record","done"]:List Str).length):bindArgs (PySem.W.fnOf "broken_notes" "broken_notes" (aN fX) (aM fX) (aH fX) .none kV doc pm an cdv ct) ⟨us,[]⟩=pure ((["record","done"]:List Str).zip us):=by obtain ⟨_,_,rfl,h1⟩:=dX hl;obtain ⟨_,_,rfl,h2⟩:=dX h1;cases len0 h2;rfl
theorem GP (kV doc pm:Value) (an:Option Addr) (cdv ct:Value) (us:List Value) (hl:us.length=(["record"]:List Str).length):bindArgs (PySem.W.fnOf "firsts_of" "firsts_of" (aN iI) (aM iI) (aH iI) .none kV doc pm an cdv ct) ⟨us,[]⟩=pure ((["record"]:List Str).zip us):=by obtain ⟨_,_,rfl,h1⟩:=dX hl;cases len0 h1;rfl
theorem Kg (kV doc pm:Value) (an:Option Addr) (cdv ct:Value) (us:List Value) (hl:us.length=(["counts","firsts","done","hand"]:List Str).length):bindArgs (PySem.W.fnOf "is_free" "is_free" (aN jU) (aM jU) (aH jU) .none kV doc pm an cdv ct) ⟨us,[]⟩=pure ((["counts","firsts","done","hand"]:List Str).zip us):=by obtain ⟨_,_,rfl,h1⟩:=dX hl;obtain ⟨_,_,rfl,h2⟩:=dX h1;obtain ⟨_,_,rfl,h3⟩:=dX h2;obtain ⟨_,_,rfl,h4⟩:=dX h3;cases len0 h4;rfl
theorem DQ (kV doc pm:Value) (an:Option Addr) (cdv ct:Value) (us:List Value) (hl:us.length=(["counts","firsts","done"]:List Str).length):bindArgs (PySem.W.fnOf "free_hands" "free_hands" (aN ig) (aM ig) (aH ig) .none kV doc pm an cdv ct) ⟨us,[]⟩=pure ((["counts","firsts","done"]:List Str).zip us):=by obtain ⟨_,_,rfl,h1⟩:=dX hl;obtain ⟨_,_,rfl,h2⟩:=dX h1;obtain ⟨_,_,rfl,h3⟩:=dX h2;cases len0 h3;rfl
theorem Ou (kV doc pm:Value) (an:Option Addr) (cdv ct:Value) (us:List Value) (hl:us.length=(["record","cut"]:List Str).length):bindArgs (PySem.W.fnOf "is_cut" "is_cut" (aN nY) (aM nY) (aH nY) .none kV doc pm an cdv ct) ⟨us,[]⟩=pure ((["record","cut"]:List Str).zip us):=by obtain ⟨_,_,rfl,h1⟩:=dX hl;obtain ⟨_,_,rfl,h2⟩:=dX h1;cases len0 h2;rfl
theorem GK (kV doc pm:Value) (an:Option Addr) (cdv ct:Value) (us:List Value) (hl:us.length=(["record","some"]:List Str).length):bindArgs (PySem.W.fnOf "least_cut" "least_cut" (aN iH) (aM iH) (aH iH) .none kV doc pm an cdv ct) ⟨us,[]⟩=pure ((["record","some"]:List Str).zip us):=by obtain ⟨_,_,rfl,h1⟩:=dX hl;obtain ⟨_,_,rfl,h2⟩:=dX h1;cases len0 h2;rfl
theorem zQ (kV doc pm:Value) (an:Option Addr) (cdv ct:Value) (us:List Value) (hl:us.length=(["record","some"]:List Str).length):bindArgs (PySem.W.fnOf "greatest_cut" "greatest_cut" (aN fV) (aM fV) (aH fV) .none kV doc pm an cdv ct) ⟨us,[]⟩=pure ((["record","some"]:List Str).zip us):=by obtain ⟨_,_,rfl,h1⟩:=dX hl;obtain ⟨_,_,rfl,h2⟩:=dX h1;cases len0 h2;rfl
theorem Rw (kV doc pm:Value) (an:Option Addr) (cdv ct:Value) (us:List Value) (hl:us.length=(["record","order"]:List Str).length):bindArgs (PySem.W.fnOf "keeps" "keeps" (aN pX) (aM pX) (aH pX) .none kV doc pm an cdv ct) ⟨us,[]⟩=pure ((["record","order"]:List Str).zip us):=by obtain ⟨_,_,rfl,h1⟩:=dX hl;obtain ⟨_,_,rfl,h2⟩:=dX h1;cases len0 h2;rfl
theorem Cz (kV doc pm:Value) (an:Option Addr) (cdv ct:Value) (us:List Value) (hl:us.length=(["record"]:List Str).length):bindArgs (PySem.W.fnOf "first_order" "first_order" (aN gJ) (aM gJ) (aH gJ) .none kV doc pm an cdv ct) ⟨us,[]⟩=pure ((["record"]:List Str).zip us):=by obtain ⟨_,_,rfl,h1⟩:=dX hl;cases len0 h1;rfl
theorem zu (kV doc pm:Value) (an:Option Addr) (cdv ct:Value) (us:List Value) (hl:us.length=(["record","chains"]:List Str).length):bindArgs (PySem.W.fnOf "longer_chains" "longer_chains" (aN fJ) (aM fJ) (aH fJ) .none kV doc pm an cdv ct) ⟨us,[]⟩=pure ((["record","chains"]:List Str).zip us):=by obtain ⟨_,_,rfl,h1⟩:=dX hl;obtain ⟨_,_,rfl,h2⟩:=dX h1;cases len0 h2;rfl
theorem GJ (kV doc pm:Value) (an:Option Addr) (cdv ct:Value) (us:List Value) (hl:us.length=(["record","start"]:List Str).length):bindArgs (PySem.W.fnOf "ring_from" "ring_from" (aN iG) (aM iG) (aH iG) .none kV doc pm an cdv ct) ⟨us,[]⟩=pure ((["record","start"]:List Str).zip us):=by obtain ⟨_,_,rfl,h1⟩:=dX hl;obtain ⟨_,_,rfl,h2⟩:=dX h1;cases len0 h2;rfl
theorem Vb (kV doc pm:Value) (an:Option Addr) (cdv ct:Value) (us:List Value) (hl:us.length=(["record"]:List Str).length):bindArgs (PySem.W.fnOf "ring" "ring" (aN sO) (aM sO) (aH sO) .none kV doc pm an cdv ct) ⟨us,[]⟩=pure ((["record"]:List Str).zip us):=by obtain ⟨_,_,rfl,h1⟩:=dX hl;cases len0 h1;rfl
theorem I_ (kV doc pm:Value) (an:Option Addr) (cdv ct:Value) (us:List Value) (hl:us.length=(["note","following"]:List Str).length):bindArgs (PySem.W.fnOf "leads_to" "leads_to" (aN iZ) (aM iZ) (aH iZ) .none kV doc pm an cdv ct) ⟨us,[]⟩=pure ((["note","following"]:List Str).zip us):=by obtain ⟨_,_,rfl,h1⟩:=dX hl;obtain ⟨_,_,rfl,h2⟩:=dX h1;cases len0 h2;rfl
theorem DN (kV doc pm:Value) (an:Option Addr) (cdv ct:Value) (us:List Value) (hl:us.length=(["record","some"]:List Str).length):bindArgs (PySem.W.fnOf "ring_shows" "ring_shows" (aN g_) (aM g_) (aH g_) .none kV doc pm an cdv ct) ⟨us,[]⟩=pure ((["record","some"]:List Str).zip us):=by obtain ⟨_,_,rfl,h1⟩:=dX hl;obtain ⟨_,_,rfl,h2⟩:=dX h1;cases len0 h2;rfl
theorem zP (kV doc pm:Value) (an:Option Addr) (cdv ct:Value) (us:List Value) (hl:us.length=(["record","most"]:List Str).length):bindArgs (PySem.W.fnOf "ways_to_cuts" "ways_to_cuts" (aN fU) (aM fU) (aH fU) .none kV doc pm an cdv ct) ⟨us,[]⟩=pure ((["record","most"]:List Str).zip us):=by obtain ⟨_,_,rfl,h1⟩:=dX hl;obtain ⟨_,_,rfl,h2⟩:=dX h1;cases len0 h2;rfl
theorem yC {tk:Tok} {K:PySem.W.Frag} {T:Addr} {tc:Value} {td:Option Addr} {tn:Nat} {KN:Array (Option Value)} (d:K.lookup T=some ⟨tc,td,.seq #[.int 2000 tk] tn,KN⟩) {kV doc pm:Value} {an:Option Addr} {cdv ct:Value}:Binds K (PySem.W.fnOf "how_many_cuts" "how_many_cuts" (aN cV) (aM cV) (aH cV) (.ref T) kV doc pm an cdv ct) ["record","most"] []:=by
 intro s us KX hl;have hl:us.length=2:=by simpa using hl
 obtain ⟨_,_,rfl,h1⟩:=dX hl;obtain ⟨_,_,rfl,h2⟩:=dX h1;cases len0 h2;exact PySem.W.binds_K KX rfl d rfl rfl rfl
theorem yx {tk:Tok} {K:PySem.W.Frag} {T:Addr} {tc:Value} {td:Option Addr} {tn:Nat} {KN:Array (Option Value)} (d:K.lookup T=some ⟨tc,td,.seq #[.int 2000 tk] tn,KN⟩) {kV doc pm:Value} {an:Option Addr} {cdv ct:Value}:Binds K (PySem.W.fnOf "how_many_cuts" "how_many_cuts" (aN cV) (aM cV) (aH cV) (.ref T) kV doc pm an cdv ct) ["record","most"] [.int 2000 tk]:=by
 intro s us KX hl;have hl:us.length=1:=by simpa using hl
 obtain ⟨_,_,rfl,h1⟩:=dX hl;cases len0 h1;exact PySem.W.binds_K KX rfl d rfl rfl rfl
theorem yw {tk:Tok} {K:PySem.W.Frag} {T:Addr} {tc:Value} {td:Option Addr} {tn:Nat} {KN:Array (Option Value)} (d:K.lookup T=some ⟨tc,td,.seq #[.int 2000 tk] tn,KN⟩) {kV doc pm:Value} {an:Option Addr} {cdv ct:Value} (s:Shared) (us:List Value) (z:Value) (KX:K.In s.heap) (hl:(us++[z]).length=(["record","most"]:List Str).length):BindsTo s (PySem.W.fnOf "how_many_cuts" "how_many_cuts" (aN cV) (aM cV) (aH cV) (.ref T) kV doc pm an cdv ct) ⟨us,[("most",z)]⟩ ((["record","most"]:List Str).zip (us++[z])):=by
 have hl:us.length=1:=by simpa using hl
 obtain ⟨_,_,rfl,h1⟩:=dX hl;cases len0 h1;exact PySem.W.binds_K KX rfl d rfl rfl rfl
theorem vP {tk:Tok} {K:PySem.W.Frag} {T:Addr} {tc:Value} {td:Option Addr} {tn:Nat} {KN:Array (Option Value)} (d:K.lookup T=some ⟨tc,td,.seq #[.int 2000 tk] tn,KN⟩) {kV doc pm:Value} {an:Option Addr} {cdv ct:Value}:Binds K (PySem.W.fnOf "how_many_orders" "how_many_orders" (aN bW) (aM bW) (aH bW) (.ref T) kV doc pm an cdv ct) ["record","most"] []:=by
 intro s us KX hl;have hl:us.length=2:=by simpa using hl
 obtain ⟨_,_,rfl,h1⟩:=dX hl;obtain ⟨_,_,rfl,h2⟩:=dX h1;cases len0 h2;exact PySem.W.binds_K KX rfl d rfl rfl rfl
theorem vO {tk:Tok} {K:PySem.W.Frag} {T:Addr} {tc:Value} {td:Option Addr} {tn:Nat} {KN:Array (Option Value)} (d:K.lookup T=some ⟨tc,td,.seq #[.int 2000 tk] tn,KN⟩) {kV doc pm:Value} {an:Option Addr} {cdv ct:Value}:Binds K (PySem.W.fnOf "how_many_orders" "how_many_orders" (aN bW) (aM bW) (aH bW) (.ref T) kV doc pm an cdv ct) ["record","most"] [.int 2000 tk]:=by
 intro s us KX hl;have hl:us.length=1:=by simpa using hl
 obtain ⟨_,_,rfl,h1⟩:=dX hl;cases len0 h1;exact PySem.W.binds_K KX rfl d rfl rfl rfl
theorem vN {tk:Tok} {K:PySem.W.Frag} {T:Addr} {tc:Value} {td:Option Addr} {tn:Nat} {KN:Array (Option Value)} (d:K.lookup T=some ⟨tc,td,.seq #[.int 2000 tk] tn,KN⟩) {kV doc pm:Value} {an:Option Addr} {cdv ct:Value} (s:Shared) (us:List Value) (z:Value) (KX:K.In s.heap) (hl:(us++[z]).length=(["record","most"]:List Str).length):BindsTo s (PySem.W.fnOf "how_many_orders" "how_many_orders" (aN bW) (aM bW) (aH bW) (.ref T) kV doc pm an cdv ct) ⟨us,[("most",z)]⟩ ((["record","most"]:List Str).zip (us++[z])):=by
 have hl:us.length=1:=by simpa using hl
 obtain ⟨_,_,rfl,h1⟩:=dX hl;cases len0 h1;exact PySem.W.binds_K KX rfl d rfl rfl rfl
theorem zR (kV doc pm:Value) (an:Option Addr) (cdv ct:Value) (us:List Value) (hl:us.length=(["cut","note"]:List Str).length):bindArgs (PySem.W.fnOf "counted_from" "counted_from" (aN fW) (aM fW) (aH fW) .none kV doc pm an cdv ct) ⟨us,[]⟩=pure ((["cut","note"]:List Str).zip us):=by obtain ⟨_,_,rfl,h1⟩:=dX hl;obtain ⟨_,_,rfl,h2⟩:=dX h1;cases len0 h2;rfl
theorem DR (kV doc pm:Value) (an:Option Addr) (cdv ct:Value) (us:List Value) (hl:us.length=(["record","cut"]:List Str).length):bindArgs (PySem.W.fnOf "cut_record" "cut_record" (aN iu) (aM iu) (aH iu) .none kV doc pm an cdv ct) ⟨us,[]⟩=pure ((["record","cut"]:List Str).zip us):=by obtain ⟨_,_,rfl,h1⟩:=dX hl;obtain ⟨_,_,rfl,h2⟩:=dX h1;cases len0 h2;rfl
theorem Vc (kV doc pm:Value) (an:Option Addr) (cdv ct:Value) (us:List Value) (hl:us.length=(["bag"]:List Str).length):bindArgs (PySem.W.fnOf "_law_far" "_law_far" (aN sS) (aM sS) (aH sS) .none kV doc pm an cdv ct) ⟨us,[]⟩=pure ((["bag"]:List Str).zip us):=by obtain ⟨_,_,rfl,h1⟩:=dX hl;cases len0 h1;rfl
theorem Jd (kV doc pm:Value) (an:Option Addr) (cdv ct:Value) (us:List Value) (hl:us.length=(["bag","counts"]:List Str).length):bindArgs (PySem.W.fnOf "_law_no_note" "_law_no_note" (aN je) (aM je) (aH je) .none kV doc pm an cdv ct) ⟨us,[]⟩=pure ((["bag","counts"]:List Str).zip us):=by obtain ⟨_,_,rfl,h1⟩:=dX hl;obtain ⟨_,_,rfl,h2⟩:=dX h1;cases len0 h2;rfl
theorem RB (kV doc pm:Value) (an:Option Addr) (cdv ct:Value) (us:List Value) (hl:us.length=(["bag","counts"]:List Str).length):bindArgs (PySem.W.fnOf "_law_list" "_law_list" (aN p7) (aM p7) (aH p7) .none kV doc pm an cdv ct) ⟨us,[]⟩=pure ((["bag","counts"]:List Str).zip us):=by obtain ⟨_,_,rfl,h1⟩:=dX hl;obtain ⟨_,_,rfl,h2⟩:=dX h1;cases len0 h2;rfl
theorem Ov (kV doc pm:Value) (an:Option Addr) (cdv ct:Value) (us:List Value) (hl:us.length=(["bag","counts"]:List Str).length):bindArgs (PySem.W.fnOf "_law_turns" "_law_turns" (aN nZ) (aM nZ) (aH nZ) .none kV doc pm an cdv ct) ⟨us,[]⟩=pure ((["bag","counts"]:List Str).zip us):=by obtain ⟨_,_,rfl,h1⟩:=dX hl;obtain ⟨_,_,rfl,h2⟩:=dX h1;cases len0 h2;rfl
theorem Vf (kV doc pm:Value) (an:Option Addr) (cdv ct:Value) (us:List Value) (hl:us.length=(["door","record","lists","limit"]:List Str).length):bindArgs (PySem.W.fnOf "_law_ask" "_law_ask" (aN sW) (aM sW) (aH sW) .none kV doc pm an cdv ct) ⟨us,[]⟩=pure ((["door","record","lists","limit"]:List Str).zip us):=by obtain ⟨_,_,rfl,h1⟩:=dX hl;obtain ⟨_,_,rfl,h2⟩:=dX h1;obtain ⟨_,_,rfl,h3⟩:=dX h2;obtain ⟨_,_,rfl,h4⟩:=dX h3;cases len0 h4;rfl
theorem Jc (kV doc pm:Value) (an:Option Addr) (cdv ct:Value) (us:List Value) (hl:us.length=(["door","record","lists","limit"]:List Str).length):bindArgs (PySem.W.fnOf "_law_refusal" "_law_refusal" (aN jd) (aM jd) (aH jd) .none kV doc pm an cdv ct) ⟨us,[]⟩=pure ((["door","record","lists","limit"]:List Str).zip us):=by obtain ⟨_,_,rfl,h1⟩:=dX hl;obtain ⟨_,_,rfl,h2⟩:=dX h1;obtain ⟨_,_,rfl,h3⟩:=dX h2;obtain ⟨_,_,rfl,h4⟩:=dX h3;cases len0 h4;rfl
theorem Vd (kV doc pm:Value) (an:Option Addr) (cdv ct:Value) (us:List Value) (hl:us.length=(["door","bad","record","some","order","limit"]:List Str).length):bindArgs (PySem.W.fnOf "_law_due" "_law_due" (aN sU) (aM sU) (aH sU) .none kV doc pm an cdv ct) ⟨us,[]⟩=pure ((["door","bad","record","some","order","limit"]:List Str).zip us):=by obtain ⟨_,_,rfl,h1⟩:=dX hl;obtain ⟨_,_,rfl,h2⟩:=dX h1;obtain ⟨_,_,rfl,h3⟩:=dX h2;obtain ⟨_,_,rfl,h4⟩:=dX h3;obtain ⟨_,_,rfl,h5⟩:=dX h4;obtain ⟨_,_,rfl,h6⟩:=dX h5;cases len0 h6;rfl
theorem all_mk {l:PySem.W.OpenLaw} {w:World} {K:PySem.W.Frag} {h:Heap} {mg:Str->Option Value} {fa f0 f1 f2 f3 f4 f5 f6 f7 f8 f9 f10 f11 f12 f13 f14 f15 f16 f17 f18 f19 f20 f21 f22 f23 f24 f25 f26 f27 f28 f29 f30 f31 f32 Yo f34 f35 f36 f37 f38 f39 f40 f41 f42 f43 ak aC aq ao aQ bV bA bx aV aP aW bw bU aO:Addr} (X:K.In h) (G:h.Ns mainGlobals mg) (hfa:mg "law" = some (.ref fa))
 {od0 an0 od1 an1 od2 an2 od3 an3 od4 an4 od5 an5 od6 an6 od7 an7 od8 an8 od9 an9 afD akp afC ako afB akn afA akm afz akl afy akk afx akj afw aki afv akh afu akg aft akf afs ake afr akd afq akc afp akb afo aj' afn aj_ afm aj9 afl aj8 afk aj7 afj aj6 afi aj5 afh aj4 afg aj3 afe aj2 afd aj1 afc aj0 afb ajZ afa ajY ae' ajX ae_ ajW ae9 ajV ae8 ajU ae7 aby:Option Addr} {sl0 sl1 sl2 sl3 sl4 sl5 sl6 sl7 sl8 sl9 aeh aeg aef aee aed aec aeb aea ad' ad_ ad9 ad8 ad7 ad6 ad5 ad4 ad3 ad2 ad1 ad0 adZ adY adX adW adV adU adT adS adR adQ adP adO adN adM:Array (Option Value)} {oc0 kV0 dc0 pm0 cd0 ct0 oc1 kV1 dc1 pm1 cd1 ct1 oc2 kV2 dc2 pm2 cd2 ct2 oc3 kV3 dc3 pm3 cd3 ct3 oc4 kV4 dc4 pm4 cd4 ct4 oc5 kV5 dc5 pm5 cd5 ct5 oc6 kV6 dc6 pm6 cd6 ct6 oc7 kV7 dc7 pm7 cd7 ct7 oc8 kV8 dc8 pm8 cd8 ct8 oc9 kV9 dc9 pm9 cd9 ct9 aga ahx aiQ ae3 abw ajm af' ahw aiP ae2 abv ajl af_ ahv aiO ae1 abu ajk af9 ahu aiN ae0 abt ajj af8 aht aiM aeZ abr aji af7 ahs aiL aeY abq ajh af6 ahr aiK aeX abp ajg af5 ahq aiJ aeW abo ajf af4 ahp aiI aeV abn aje af3 aho aiH aeU abm ajd af2 ahn aiG aeT abl ajc af0 ahm aiF aeS abk ajb afZ ahl aiE aeR abj aja afY ahk aiD aeQ abh ai' afX ahj aiC aeP abg ai_ afW ahi aiB aeO abf ai9 afV ahh aiA aeN abe ai8 afU ahg aiz aeM abd ai7 afT ahf aiy aeL abb ai6 afS ahe aix aeK aa' ai5 afR ahd aiw aeJ aa_ ai4 afQ ahc aiv aeI aa9 ai3 afP ahb aiu aeH aa8 ai2 afO aha ait aeG aa7 ai1 afN ag' ais aeF aa6 ai0 afM ag9 air aeE aa5 aiZ afL ag8 aiq aeD aa4 aiY afK ag7 aip aeC aa3 aiX afJ ag6 aio aeB aa2 aiW afI ag5 ain aeA aa1 aiV afH ag4 ail aez aa0 aiU afG ag3 aik aey aaZ aiT afF ag2 aij aex aaY aiS afE aas aaU aaf Yz aaX:Value}
 (a0:PySem.W.nsIn K mainGlobals "_law_bag" = some (some (.ref f0))) (l0:K.lookup f0=some ⟨oc0,od0,.func (PySem.W.fnOf "_law_bag" "_law_bag" (aN sV) (aM sV) (aH sV) .none kV0 dc0 pm0 an0 cd0 ct0),sl0⟩) (c0:PySem.W.codeIn K cd0 "_law_bag" = true) (k0:PySem.W.keepIn K (.ref f0)=true)
 (a1:PySem.W.nsIn K mainGlobals "_law_stir" = some (some (.ref f1))) (l1:K.lookup f1=some ⟨oc1,od1,.func (PySem.W.fnOf "_law_stir" "_law_stir" (aN pY) (aM pY) (aH pY) .none kV1 dc1 pm1 an1 cd1 ct1),sl1⟩) (c1:PySem.W.codeIn K cd1 "_law_stir" = true) (k1:PySem.W.keepIn K (.ref f1)=true)
 (a2:PySem.W.nsIn K mainGlobals "_law_draw" = some (some (.ref f2))) (l2:K.lookup f2=some ⟨oc2,od2,.func (PySem.W.fnOf "_law_draw" "_law_draw" (aN qb) (aM qb) (aH qb) .none kV2 dc2 pm2 an2 cd2 ct2),sl2⟩) (c2:PySem.W.codeIn K cd2 "_law_draw" = true) (k2:PySem.W.keepIn K (.ref f2)=true)
 (a3:PySem.W.nsIn K mainGlobals "_law_counts" = some (some (.ref f3))) (l3:K.lookup f3=some ⟨oc3,od3,.func (PySem.W.fnOf "_law_counts" "_law_counts" (aN jW) (aM jW) (aH jW) .none kV3 dc3 pm3 an3 cd3 ct3),sl3⟩) (c3:PySem.W.codeIn K cd3 "_law_counts" = true) (k3:PySem.W.keepIn K (.ref f3)=true)
 (a4:PySem.W.nsIn K mainGlobals "_law_order" = some (some (.ref f4))) (l4:K.lookup f4=some ⟨oc4,od4,.func (PySem.W.fnOf "_law_order" "_law_order" (aN n_) (aM n_) (aH n_) .none kV4 dc4 pm4 an4 cd4 ct4),sl4⟩) (c4:PySem.W.codeIn K cd4 "_law_order" = true) (k4:PySem.W.keepIn K (.ref f4)=true)
 (a5:PySem.W.nsIn K mainGlobals "_law_spots" = some (some (.ref f5))) (l5:K.lookup f5=some ⟨oc5,od5,.func (PySem.W.fnOf "_law_spots" "_law_spots" (aN n6) (aM n6) (aH n6) .none kV5 dc5 pm5 an5 cd5 ct5),sl5⟩) (c5:PySem.W.codeIn K cd5 "_law_spots" = true) (k5:PySem.W.keepIn K (.ref f5)=true)
 (a6:PySem.W.nsIn K mainGlobals "_law_note" = some (some (.ref f6))) (l6:K.lookup f6=some ⟨oc6,od6,.func (PySem.W.fnOf "_law_note" "_law_note" (aN pZ) (aM pZ) (aH pZ) .none kV6 dc6 pm6 an6 cd6 ct6),sl6⟩) (c6:PySem.W.codeIn K cd6 "_law_note" = true) (k6:PySem.W.keepIn K (.ref f6)=true)
 (a7:PySem.W.nsIn K mainGlobals "_law_record" = some (some (.ref f7))) (l7:K.lookup f7=some ⟨oc7,od7,.func (PySem.W.fnOf "_law_record" "_law_record" (aN jV) (aM jV) (aH jV) .none kV7 dc7 pm7 an7 cd7 ct7),sl7⟩) (c7:PySem.W.codeIn K cd7 "_law_record" = true) (k7:PySem.W.keepIn K (.ref f7)=true)
 (a8:PySem.W.nsIn K mainGlobals "_law_copy" = some (some (.ref f8))) (l8:K.lookup f8=some ⟨oc8,od8,.func (PySem.W.fnOf "_law_copy" "_law_copy" (aN qd) (aM qd) (aH qd) .none kV8 dc8 pm8 an8 cd8 ct8),sl8⟩) (c8:PySem.W.codeIn K cd8 "_law_copy" = true) (k8:PySem.W.keepIn K (.ref f8)=true)
 (a9:PySem.W.nsIn K mainGlobals "is_whole" = some (some (.ref f9))) (l9:K.lookup f9=some ⟨oc9,od9,.func (PySem.W.fnOf "is_whole" "is_whole" (aN i_) (aM i_) (aH i_) .none kV9 dc9 pm9 an9 cd9 ct9),sl9⟩) (c9:PySem.W.codeIn K cd9 "is_whole" = true) (k9:PySem.W.keepIn K (.ref f9)=true)
 (a10:PySem.W.nsIn K mainGlobals "is_below" = some (some (.ref f10))) (l10:K.lookup f10=some ⟨aga,afD,.func (PySem.W.fnOf "is_below" "is_below" (aN jc) (aM jc) (aH jc) .none ahx aiQ ae3 akp abw ajm),aeh⟩) (c10:PySem.W.codeIn K abw "is_below" = true) (k10:PySem.W.keepIn K (.ref f10)=true)
 (a11:PySem.W.nsIn K mainGlobals "is_note" = some (some (.ref f11))) (l11:K.lookup f11=some ⟨af',afC,.func (PySem.W.fnOf "is_note" "is_note" (aN jT) (aM jT) (aH jT) .none ahw aiP ae2 ako abv ajl),aeg⟩) (c11:PySem.W.codeIn K abv "is_note" = true) (k11:PySem.W.keepIn K (.ref f11)=true)
 (a12:PySem.W.nsIn K mainGlobals "is_between" = some (some (.ref f12))) (l12:K.lookup f12=some ⟨af_,afB,.func (PySem.W.fnOf "is_between" "is_between" (aN h_) (aM h_) (aH h_) .none ahv aiO ae1 akn abu ajk),aef⟩) (c12:PySem.W.codeIn K abu "is_between" = true) (k12:PySem.W.keepIn K (.ref f12)=true)
 (a13:PySem.W.nsIn K mainGlobals "check_notes" = some (some (.ref f13))) (l13:K.lookup f13=some ⟨af9,afA,.func (PySem.W.fnOf "check_notes" "check_notes" (aN gM) (aM gM) (aH gM) .none ahu aiN ae0 akm abt ajj),aee⟩) (c13:PySem.W.codeIn K abt "check_notes" = true) (k13:PySem.W.keepIn K (.ref f13)=true)
 (a14:PySem.W.nsIn K mainGlobals "check_done" = some (some (.ref f14))) (l14:K.lookup f14=some ⟨af8,afz,.func (PySem.W.fnOf "check_done" "check_done" (aN iw) (aM iw) (aH iw) .none aht aiM aeZ akl abr aji),aed⟩) (c14:PySem.W.codeIn K abr "check_done" = true) (k14:PySem.W.keepIn K (.ref f14)=true)
 (a15:PySem.W.nsIn K mainGlobals "check_order" = some (some (.ref f15))) (l15:K.lookup f15=some ⟨af7,afy,.func (PySem.W.fnOf "check_order" "check_order" (aN gK) (aM gK) (aH gK) .none ahs aiL aeY akk abq ajh),aec⟩) (c15:PySem.W.codeIn K abq "check_order" = true) (k15:PySem.W.keepIn K (.ref f15)=true)
 (a16:PySem.W.nsIn K mainGlobals "has" = some (some (.ref f16))) (l16:K.lookup f16=some ⟨af6,afx,.func (PySem.W.fnOf "has" "has" (aN xV) (aM xV) (aH xV) .none ahr aiK aeX akj abp ajg),aeb⟩) (c16:PySem.W.codeIn K abp "has" = true) (k16:PySem.W.keepIn K (.ref f16)=true)
 (a17:PySem.W.nsIn K mainGlobals "broken_notes" = some (some (.ref f17))) (l17:K.lookup f17=some ⟨af5,afw,.func (PySem.W.fnOf "broken_notes" "broken_notes" (aN fX) (aM fX) (aH fX) .none ahq aiJ aeW aki abo ajf),aea⟩) (c17:PySem.W.codeIn K abo "broken_notes" = true) (k17:PySem.W.keepIn K (.ref f17)=true)
 (a18:PySem.W.nsIn K mainGlobals "firsts_of" = some (some (.ref f18))) (l18:K.lookup f18=some ⟨af4,afv,.func (PySem.W.fnOf "firsts_of" "firsts_of" (aN iI) (aM iI) (aH iI) .none ahp aiI aeV akh abn aje),ad'⟩) (c18:PySem.W.codeIn K abn "firsts_of" = true) (k18:PySem.W.keepIn K (.ref f18)=true)
 (a19:PySem.W.nsIn K mainGlobals "is_free" = some (some (.ref f19))) (l19:K.lookup f19=some ⟨af3,afu,.func (PySem.W.fnOf "is_free" "is_free" (aN jU) (aM jU) (aH jU) .none aho aiH aeU akg abm ajd),ad_⟩) (c19:PySem.W.codeIn K abm "is_free" = true) (k19:PySem.W.keepIn K (.ref f19)=true)
 (a20:PySem.W.nsIn K mainGlobals "free_hands" = some (some (.ref f20))) (l20:K.lookup f20=some ⟨af2,aft,.func (PySem.W.fnOf "free_hands" "free_hands" (aN ig) (aM ig) (aH ig) .none ahn aiG aeT akf abl ajc),ad9⟩) (c20:PySem.W.codeIn K abl "free_hands" = true) (k20:PySem.W.keepIn K (.ref f20)=true)
 (a21:PySem.W.nsIn K mainGlobals "is_cut" = some (some (.ref f21))) (l21:K.lookup f21=some ⟨af0,afs,.func (PySem.W.fnOf "is_cut" "is_cut" (aN nY) (aM nY) (aH nY) .none ahm aiF aeS ake abk ajb),ad8⟩) (c21:PySem.W.codeIn K abk "is_cut" = true) (k21:PySem.W.keepIn K (.ref f21)=true)
 (a22:PySem.W.nsIn K mainGlobals "least_cut" = some (some (.ref f22))) (l22:K.lookup f22=some ⟨afZ,afr,.func (PySem.W.fnOf "least_cut" "least_cut" (aN iH) (aM iH) (aH iH) .none ahl aiE aeR akd abj aja),ad7⟩) (c22:PySem.W.codeIn K abj "least_cut" = true) (k22:PySem.W.keepIn K (.ref f22)=true)
 (a23:PySem.W.nsIn K mainGlobals "greatest_cut" = some (some (.ref f23))) (l23:K.lookup f23=some ⟨afY,afq,.func (PySem.W.fnOf "greatest_cut" "greatest_cut" (aN fV) (aM fV) (aH fV) .none ahk aiD aeQ akc abh ai'),ad6⟩) (c23:PySem.W.codeIn K abh "greatest_cut" = true) (k23:PySem.W.keepIn K (.ref f23)=true)
 (a24:PySem.W.nsIn K mainGlobals "keeps" = some (some (.ref f24))) (l24:K.lookup f24=some ⟨afX,afp,.func (PySem.W.fnOf "keeps" "keeps" (aN pX) (aM pX) (aH pX) .none ahj aiC aeP akb abg ai_),ad5⟩) (c24:PySem.W.codeIn K abg "keeps" = true) (k24:PySem.W.keepIn K (.ref f24)=true)
 (a25:PySem.W.nsIn K mainGlobals "first_order" = some (some (.ref f25))) (l25:K.lookup f25=some ⟨afW,afo,.func (PySem.W.fnOf "first_order" "first_order" (aN gJ) (aM gJ) (aH gJ) .none ahi aiB aeO aj' abf ai9),ad4⟩) (c25:PySem.W.codeIn K abf "first_order" = true) (k25:PySem.W.keepIn K (.ref f25)=true)
 (a26:PySem.W.nsIn K mainGlobals "longer_chains" = some (some (.ref f26))) (l26:K.lookup f26=some ⟨afV,afn,.func (PySem.W.fnOf "longer_chains" "longer_chains" (aN fJ) (aM fJ) (aH fJ) .none ahh aiA aeN aj_ abe ai8),ad3⟩) (c26:PySem.W.codeIn K abe "longer_chains" = true) (k26:PySem.W.keepIn K (.ref f26)=true)
 (a27:PySem.W.nsIn K mainGlobals "ring_from" = some (some (.ref f27))) (l27:K.lookup f27=some ⟨afU,afm,.func (PySem.W.fnOf "ring_from" "ring_from" (aN iG) (aM iG) (aH iG) .none ahg aiz aeM aj9 abd ai7),ad2⟩) (c27:PySem.W.codeIn K abd "ring_from" = true) (k27:PySem.W.keepIn K (.ref f27)=true)
 (a28:PySem.W.nsIn K mainGlobals "ring" = some (some (.ref f28))) (l28:K.lookup f28=some ⟨afT,afl,.func (PySem.W.fnOf "ring" "ring" (aN sO) (aM sO) (aH sO) .none ahf aiy aeL aj8 abb ai6),ad1⟩) (c28:PySem.W.codeIn K abb "ring" = true) (k28:PySem.W.keepIn K (.ref f28)=true)
 (a29:PySem.W.nsIn K mainGlobals "leads_to" = some (some (.ref f29))) (l29:K.lookup f29=some ⟨afS,afk,.func (PySem.W.fnOf "leads_to" "leads_to" (aN iZ) (aM iZ) (aH iZ) .none ahe aix aeK aj7 aa' ai5),ad0⟩) (c29:PySem.W.codeIn K aa' "leads_to" = true) (k29:PySem.W.keepIn K (.ref f29)=true)
 (a30:PySem.W.nsIn K mainGlobals "ring_shows" = some (some (.ref f30))) (l30:K.lookup f30=some ⟨afR,afj,.func (PySem.W.fnOf "ring_shows" "ring_shows" (aN g_) (aM g_) (aH g_) .none ahd aiw aeJ aj6 aa_ ai4),adZ⟩) (c30:PySem.W.codeIn K aa_ "ring_shows" = true) (k30:PySem.W.keepIn K (.ref f30)=true)
 (a31:PySem.W.nsIn K mainGlobals "ways_to_cuts" = some (some (.ref f31))) (l31:K.lookup f31=some ⟨afQ,afi,.func (PySem.W.fnOf "ways_to_cuts" "ways_to_cuts" (aN fU) (aM fU) (aH fU) .none ahc aiv aeI aj5 aa9 ai3),adY⟩) (c31:PySem.W.codeIn K aa9 "ways_to_cuts" = true) (k31:PySem.W.keepIn K (.ref f31)=true)
 {Zu:Tok} {T32:Addr} {adB:Value} {adz:Option Addr} {adx:Nat} {Zo:Array (Option Value)} (a32:PySem.W.nsIn K mainGlobals "how_many_cuts" = some (some (.ref f32))) (l32:K.lookup f32=some ⟨afP,afh,.func (PySem.W.fnOf "how_many_cuts" "how_many_cuts" (aN cV) (aM cV) (aH cV) (.ref T32) ahb aiu aeH aj4 aa8 ai2),adX⟩) (c32:PySem.W.codeIn K aa8 "how_many_cuts" = true) (Y_:PySem.W.keepIn K (.ref f32)=true) (Zi:K.lookup T32=some ⟨adB,adz,.seq #[.int 2000 Zu] adx,Zo⟩)
 {Zt:Tok} {T33:Addr} {adA:Value} {ady:Option Addr} {adw:Nat} {Zn:Array (Option Value)} (a33:PySem.W.nsIn K mainGlobals "how_many_orders" = some (some (.ref Yo))) (l33:K.lookup Yo=some ⟨afO,afg,.func (PySem.W.fnOf "how_many_orders" "how_many_orders" (aN bW) (aM bW) (aH bW) (.ref T33) aha ait aeG aj3 aa7 ai1),adW⟩) (c33:PySem.W.codeIn K aa7 "how_many_orders" = true) (Y9:PySem.W.keepIn K (.ref Yo)=true) (Zh:K.lookup T33=some ⟨adA,ady,.seq #[.int 2000 Zt] adw,Zn⟩)
 (a34:PySem.W.nsIn K mainGlobals "counted_from" = some (some (.ref f34))) (l34:K.lookup f34=some ⟨afN,afe,.func (PySem.W.fnOf "counted_from" "counted_from" (aN fW) (aM fW) (aH fW) .none ag' ais aeF aj2 aa6 ai0),adV⟩) (c34:PySem.W.codeIn K aa6 "counted_from" = true) (k34:PySem.W.keepIn K (.ref f34)=true)
 (a35:PySem.W.nsIn K mainGlobals "cut_record" = some (some (.ref f35))) (l35:K.lookup f35=some ⟨afM,afd,.func (PySem.W.fnOf "cut_record" "cut_record" (aN iu) (aM iu) (aH iu) .none ag9 air aeE aj1 aa5 aiZ),adU⟩) (c35:PySem.W.codeIn K aa5 "cut_record" = true) (k35:PySem.W.keepIn K (.ref f35)=true)
 (a36:PySem.W.nsIn K mainGlobals "_law_far" = some (some (.ref f36))) (l36:K.lookup f36=some ⟨afL,afc,.func (PySem.W.fnOf "_law_far" "_law_far" (aN sS) (aM sS) (aH sS) .none ag8 aiq aeD aj0 aa4 aiY),adT⟩) (c36:PySem.W.codeIn K aa4 "_law_far" = true) (k36:PySem.W.keepIn K (.ref f36)=true)
 (a37:PySem.W.nsIn K mainGlobals "_law_no_note" = some (some (.ref f37))) (l37:K.lookup f37=some ⟨afK,afb,.func (PySem.W.fnOf "_law_no_note" "_law_no_note" (aN je) (aM je) (aH je) .none ag7 aip aeC ajZ aa3 aiX),adS⟩) (c37:PySem.W.codeIn K aa3 "_law_no_note" = true) (k37:PySem.W.keepIn K (.ref f37)=true)
 (a38:PySem.W.nsIn K mainGlobals "_law_list" = some (some (.ref f38))) (l38:K.lookup f38=some ⟨afJ,afa,.func (PySem.W.fnOf "_law_list" "_law_list" (aN p7) (aM p7) (aH p7) .none ag6 aio aeB ajY aa2 aiW),adR⟩) (c38:PySem.W.codeIn K aa2 "_law_list" = true) (k38:PySem.W.keepIn K (.ref f38)=true)
 (a39:PySem.W.nsIn K mainGlobals "_law_turns" = some (some (.ref f39))) (l39:K.lookup f39=some ⟨afI,ae',.func (PySem.W.fnOf "_law_turns" "_law_turns" (aN nZ) (aM nZ) (aH nZ) .none ag5 ain aeA ajX aa1 aiV),adQ⟩) (c39:PySem.W.codeIn K aa1 "_law_turns" = true) (k39:PySem.W.keepIn K (.ref f39)=true)
 (a40:PySem.W.nsIn K mainGlobals "_law_ask" = some (some (.ref f40))) (l40:K.lookup f40=some ⟨afH,ae_,.func (PySem.W.fnOf "_law_ask" "_law_ask" (aN sW) (aM sW) (aH sW) .none ag4 ail aez ajW aa0 aiU),adP⟩) (c40:PySem.W.codeIn K aa0 "_law_ask" = true) (k40:PySem.W.keepIn K (.ref f40)=true)
 (a41:PySem.W.nsIn K mainGlobals "_law_refusal" = some (some (.ref f41))) (l41:K.lookup f41=some ⟨afG,ae9,.func (PySem.W.fnOf "_law_refusal" "_law_refusal" (aN jd) (aM jd) (aH jd) .none ag3 aik aey ajV aaZ aiT),adO⟩) (c41:PySem.W.codeIn K aaZ "_law_refusal" = true) (k41:PySem.W.keepIn K (.ref f41)=true)
 (a42:PySem.W.nsIn K mainGlobals "_law_due" = some (some (.ref f42))) (l42:K.lookup f42=some ⟨afF,ae8,.func (PySem.W.fnOf "_law_due" "_law_due" (aN sU) (aM sU) (aH sU) .none ag2 aij aex ajU aaY aiS),adN⟩) (c42:PySem.W.codeIn K aaY "_law_due" = true) (k42:PySem.W.keepIn K (.ref f42)=true)
 (a43:PySem.W.nsIn K mainGlobals "law" = some (some (.ref f43))) (l43:K.lookup f43=some ⟨afE,ae7,.func (PySem.W.fnOf "law" "law" (aN xU) (aM xU) (aH xU) .none aas aaU aaf aby Yz aaX),adM⟩) (c43:PySem.W.codeIn K Yz "law" = true) (k43:PySem.W.keepIn K (.ref f43)=true)
 (yQ:PySem.W.nsIn K mainGlobals "NoNote" = some (some (.ref ak)))
 (rW:(PySem.W.clsIn K ak).isSome=true)
 (v8:PySem.W.typeIn K (.ref ak)=some (.type "type"))
 (wH:PySem.W.subIn K (.ref ak) (.type "BaseException")=some true)
 (Aq:PySem.W.nsIn K mainGlobals "NoCut" = some (some (.ref aC)))
 (vg:(PySem.W.clsIn K aC).isSome=true)
 (yH:PySem.W.typeIn K (.ref aC)=some (.type "type"))
 (yO:PySem.W.subIn K (.ref aC) (.type "BaseException")=some true)
 (wN:PySem.W.nsIn K mainGlobals "NoOrder" = some (some (.ref aq)))
 (qK:(PySem.W.clsIn K aq).isSome=true)
 (uc:PySem.W.typeIn K (.ref aq)=some (.type "type"))
 (uK:PySem.W.subIn K (.ref aq) (.type "BaseException")=some true)
 (wK:PySem.W.nsIn K mainGlobals "TooMany" = some (some (.ref ao)))
 (qJ:(PySem.W.clsIn K ao).isSome=true)
 (tY:PySem.W.typeIn K (.ref ao)=some (.type "type"))
 (uH:PySem.W.subIn K (.ref ao) (.type "BaseException")=some true)
 (su:PySem.W.nsIn K mainGlobals "NoteError" = some (some (.ref aQ)))
 (qT:(PySem.W.clsIn K aQ).isSome=true)
 (qR:PySem.W.typeIn K (.ref aQ)=some (.type "type"))
 (qU:PySem.W.subIn K (.ref aQ) (.type "BaseException")=some true)
 (Fz:PySem.W.nsIn K mainGlobals "Held" = some (some (.ref bV)))
 (Al:(PySem.W.clsIn K bV).isSome=true)
 (Aj:PySem.W.typeIn K (.ref bV)=some (.type "type"))
 (Ao:PySem.W.subIn K (.ref bV) (.type "BaseException")=some true)
 (yS:PySem.W.nsIn K mainGlobals "NoForm" = some (some (.ref bA)))
 (wD:(PySem.W.clsIn K bA).isSome=true)
 (wg:PySem.W.typeIn K (.ref bA)=some (.type "type"))
 (wJ:PySem.W.subIn K (.ref bA) (.type "BaseException")=some true)
 (yR:PySem.W.nsIn K mainGlobals "NoHand" = some (some (.ref bx)))
 (wC:(PySem.W.clsIn K bx).isSome=true)
 (v9:PySem.W.typeIn K (.ref bx)=some (.type "type"))
 (wI:PySem.W.subIn K (.ref bx) (.type "BaseException")=some true)
 (wL:PySem.W.nsIn K mainGlobals "NoneYet" = some (some (.ref aV)))
 (uD:(PySem.W.clsIn K aV).isSome=true)
 (tZ:PySem.W.typeIn K (.ref aV)=some (.type "type"))
 (uI:PySem.W.subIn K (.ref aV) (.type "BaseException")=some true)
 (uM:PySem.W.nsIn K mainGlobals "NoNumber" = some (some (.ref aP)))
 (rT:(PySem.W.clsIn K aP).isSome=true)
 (rQ:PySem.W.typeIn K (.ref aP)=some (.type "type"))
 (rZ:PySem.W.subIn K (.ref aP) (.type "BaseException")=some true)
 (wM:PySem.W.nsIn K mainGlobals "NoPlace" = some (some (.ref aW)))
 (uE:(PySem.W.clsIn K aW).isSome=true)
 (t_:PySem.W.typeIn K (.ref aW)=some (.type "type"))
 (uJ:PySem.W.subIn K (.ref aW) (.type "BaseException")=some true)
 (yP:PySem.W.nsIn K mainGlobals "NoText" = some (some (.ref bw)))
 (wB:(PySem.W.clsIn K bw).isSome=true)
 (v7:PySem.W.typeIn K (.ref bw)=some (.type "type"))
 (wG:PySem.W.subIn K (.ref bw) (.type "BaseException")=some true)
 (Fy:PySem.W.nsIn K mainGlobals "Over" = some (some (.ref bU)))
 (Ak:(PySem.W.clsIn K bU).isSome=true)
 (Ai:PySem.W.typeIn K (.ref bU)=some (.type "type"))
 (Am:PySem.W.subIn K (.ref bU) (.type "BaseException")=some true)
 (uL:PySem.W.nsIn K mainGlobals "RowError" = some (some (.ref aO)))
 (rR:(PySem.W.clsIn K aO).isSome=true)
 (rP:PySem.W.typeIn K (.ref aO)=some (.type "type"))
 (rY:PySem.W.subIn K (.ref aO) (.type "BaseException")=some true)
 (o9:(Value.ref aC==Value.ref ak)=false)
 (oR:PySem.W.subIn K (.ref aC) (.ref ak)=some false)
 (mG:(Value.ref aq==Value.ref ak)=false)
 (lQ:PySem.W.subIn K (.ref aq) (.ref ak)=some false)
 (mz:(Value.ref ao==Value.ref ak)=false)
 (lK:PySem.W.subIn K (.ref ao) (.ref ak)=some false)
 (o7:(Value.ref ak==Value.ref aC)=false)
 (oM:PySem.W.subIn K (.ref ak) (.ref aC)=some false)
 (nG:(Value.ref aq==Value.ref aC)=false)
 (m7:PySem.W.subIn K (.ref aq) (.ref aC)=some false)
 (nF:(Value.ref ao==Value.ref aC)=false)
 (m6:PySem.W.subIn K (.ref ao) (.ref aC)=some false)
 (mQ:(Value.ref ak==Value.ref aq)=false)
 (lY:PySem.W.subIn K (.ref ak) (.ref aq)=some false)
 (nR:(Value.ref aC==Value.ref aq)=false)
 (nA:PySem.W.subIn K (.ref aC) (.ref aq)=some false)
 (kO:(Value.ref ao==Value.ref aq)=false)
 (j6:PySem.W.subIn K (.ref ao) (.ref aq)=some false)
 (mK:(Value.ref ak==Value.ref ao)=false)
 (lV:PySem.W.subIn K (.ref ak) (.ref ao)=some false)
 (nO:(Value.ref aC==Value.ref ao)=false)
 (ni:PySem.W.subIn K (.ref aC) (.ref ao)=some false)
 (kY:(Value.ref aq==Value.ref ao)=false)
 (j7:PySem.W.subIn K (.ref aq) (.ref ao)=some false)
 (jM:(Value.ref ak==Value.ref aQ)=false)
 (jG:PySem.W.subIn K (.ref ak) (.ref aQ)=some true)
 (lA:(Value.ref aC==Value.ref aQ)=false)
 (kj:PySem.W.subIn K (.ref aC) (.ref aQ)=some true)
 (jx:(Value.ref aq==Value.ref aQ)=false)
 (ju:PySem.W.subIn K (.ref aq) (.ref aQ)=some true)
 (jw:(Value.ref ao==Value.ref aQ)=false)
 (jt:PySem.W.subIn K (.ref ao) (.ref aQ)=some true)
 (pN:(Value.ref ak==Value.ref bV)=false)
 (pK:PySem.W.subIn K (.ref ak) (.ref bV)=some false)
 (qx:(Value.ref aC==Value.ref bV)=false)
 (qu:PySem.W.subIn K (.ref aC) (.ref bV)=some false)
 (oZ:(Value.ref aq==Value.ref bV)=false)
 (oK:PySem.W.subIn K (.ref aq) (.ref bV)=some false)
 (oX:(Value.ref ao==Value.ref bV)=false)
 (oH:PySem.W.subIn K (.ref ao) (.ref bV)=some false)
 (nM:(Value.ref ak==Value.ref bA)=false)
 (m_:PySem.W.subIn K (.ref ak) (.ref bA)=some false)
 (pq:(Value.ref aC==Value.ref bA)=false)
 (oV:PySem.W.subIn K (.ref aC) (.ref bA)=some false)
 (mJ:(Value.ref aq==Value.ref bA)=false)
 (lU:PySem.W.subIn K (.ref aq) (.ref bA)=some false)
 (mD:(Value.ref ao==Value.ref bA)=false)
 (lN:PySem.W.subIn K (.ref ao) (.ref bA)=some false)
 (nJ:(Value.ref ak==Value.ref bx)=false)
 (m9:PySem.W.subIn K (.ref ak) (.ref bx)=some false)
 (o_:(Value.ref aC==Value.ref bx)=false)
 (oU:PySem.W.subIn K (.ref aC) (.ref bx)=some false)
 (mH:(Value.ref aq==Value.ref bx)=false)
 (lR:PySem.W.subIn K (.ref aq) (.ref bx)=some false)
 (mC:(Value.ref ao==Value.ref bx)=false)
 (lM:PySem.W.subIn K (.ref ao) (.ref bx)=some false)
 (mL:(Value.ref ak==Value.ref aV)=false)
 (lW:PySem.W.subIn K (.ref ak) (.ref aV)=some false)
 (nP:(Value.ref aC==Value.ref aV)=false)
 (nj:PySem.W.subIn K (.ref aC) (.ref aV)=some false)
 (kZ:(Value.ref aq==Value.ref aV)=false)
 (j8:PySem.W.subIn K (.ref aq) (.ref aV)=some false)
 (kI:(Value.ref ao==Value.ref aV)=false)
 (j4:PySem.W.subIn K (.ref ao) (.ref aV)=some false)
 (lu:(Value.ref ak==Value.ref aP)=false)
 (kh:PySem.W.subIn K (.ref ak) (.ref aP)=some false)
 (mU:(Value.ref aC==Value.ref aP)=false)
 (mj:PySem.W.subIn K (.ref aC) (.ref aP)=some false)
 (jL:(Value.ref aq==Value.ref aP)=false)
 (jF:PySem.W.subIn K (.ref aq) (.ref aP)=some false)
 (jJ:(Value.ref ao==Value.ref aP)=false)
 (jD:PySem.W.subIn K (.ref ao) (.ref aP)=some false)
 (mO:(Value.ref ak==Value.ref aW)=false)
 (lX:PySem.W.subIn K (.ref ak) (.ref aW)=some false)
 (nQ:(Value.ref aC==Value.ref aW)=false)
 (nu:PySem.W.subIn K (.ref aC) (.ref aW)=some false)
 (k_:(Value.ref aq==Value.ref aW)=false)
 (j9:PySem.W.subIn K (.ref aq) (.ref aW)=some false)
 (kJ:(Value.ref ao==Value.ref aW)=false)
 (j5:PySem.W.subIn K (.ref ao) (.ref aW)=some false)
 (nH:(Value.ref ak==Value.ref bw)=false)
 (m8:PySem.W.subIn K (.ref ak) (.ref bw)=some false)
 (o8:(Value.ref aC==Value.ref bw)=false)
 (oN:PySem.W.subIn K (.ref aC) (.ref bw)=some false)
 (mF:(Value.ref aq==Value.ref bw)=false)
 (lO:PySem.W.subIn K (.ref aq) (.ref bw)=some false)
 (mq:(Value.ref ao==Value.ref bw)=false)
 (lJ:PySem.W.subIn K (.ref ao) (.ref bw)=some false)
 (pL:(Value.ref ak==Value.ref bU)=false)
 (pJ:PySem.W.subIn K (.ref ak) (.ref bU)=some false)
 (qw:(Value.ref aC==Value.ref bU)=false)
 (qt:PySem.W.subIn K (.ref aC) (.ref bU)=some false)
 (oY:(Value.ref aq==Value.ref bU)=false)
 (oJ:PySem.W.subIn K (.ref aq) (.ref bU)=some false)
 (oW:(Value.ref ao==Value.ref bU)=false)
 (oG:PySem.W.subIn K (.ref ao) (.ref bU)=some false)
 (lg:(Value.ref ak==Value.ref aO)=false)
 (j_:PySem.W.subIn K (.ref ak) (.ref aO)=some false)
 (mR:(Value.ref aC==Value.ref aO)=false)
 (lZ:PySem.W.subIn K (.ref aC) (.ref aO)=some false)
 (jK:(Value.ref aq==Value.ref aO)=false)
 (jE:PySem.W.subIn K (.ref aq) (.ref aO)=some false)
 (jH:(Value.ref ao==Value.ref aO)=false)
 (jC:PySem.W.subIn K (.ref ao) (.ref aO)=some false)
 (YZ:PySem.W.specialIn K (.builtin "object.__class__") "__get__" = some (some (.builtin "getset_descriptor.__get__")))
 (YX:PySem.W.takesIn K (.builtin "object.__class__")=some true)
 (wz:PySem.W.findIn K (.ref ak) "__getattribute__" = some (some (.builtin "BaseException.__getattribute__")))
 (wu:PySem.W.findIn K (.ref ak) "__getattr__" = some none)
 (wk:PySem.W.mroIn K ak (.type "BaseException")=some true)
 (wF:PySem.W.findIn K (.ref ak) "__class__" = some (some (.builtin "object.__class__")))
 (wj:PySem.W.mroIn K ak (.type "object")=some true)
 (vZ:PySem.W.subIn K (.ref ak) (.type "ValueError")=some true)
 (wA:PySem.W.excIn K ak [.type "ValueError",.type "Exception",.type "BaseException",.type "object"] "ValueError.__new__" = true)
 (yL:PySem.W.findIn K (.ref aC) "__getattribute__" = some (some (.builtin "BaseException.__getattribute__")))
 (yK:PySem.W.findIn K (.ref aC) "__getattr__" = some none)
 (yJ:PySem.W.mroIn K aC (.type "BaseException")=some true)
 (yN:PySem.W.findIn K (.ref aC) "__class__" = some (some (.builtin "object.__class__")))
 (yI:PySem.W.mroIn K aC (.type "object")=some true)
 (yG:PySem.W.subIn K (.ref aC) (.type "ValueError")=some true)
 (yM:PySem.W.excIn K aC [.type "ValueError",.type "Exception",.type "BaseException",.type "object"] "ValueError.__new__" = true)
 (ux:PySem.W.findIn K (.ref aq) "__getattribute__" = some (some (.builtin "BaseException.__getattribute__")))
 (ur:PySem.W.findIn K (.ref aq) "__getattr__" = some none)
 (uh:PySem.W.mroIn K aq (.type "BaseException")=some true)
 (uG:PySem.W.findIn K (.ref aq) "__class__" = some (some (.builtin "object.__class__")))
 (uf:PySem.W.mroIn K aq (.type "object")=some true)
 (tX:PySem.W.subIn K (.ref aq) (.type "ValueError")=some true)
 (uz:PySem.W.excIn K aq [.type "ValueError",.type "Exception",.type "BaseException",.type "object"] "ValueError.__new__" = true)
 (uw:PySem.W.findIn K (.ref ao) "__getattribute__" = some (some (.builtin "BaseException.__getattribute__")))
 (uo:PySem.W.findIn K (.ref ao) "__getattr__" = some none)
 (ug:PySem.W.mroIn K ao (.type "BaseException")=some true)
 (uF:PySem.W.findIn K (.ref ao) "__class__" = some (some (.builtin "object.__class__")))
 (ud:PySem.W.mroIn K ao (.type "object")=some true)
 (tW:PySem.W.subIn K (.ref ao) (.type "ValueError")=some true)
 (uy:PySem.W.excIn K ao [.type "ValueError",.type "Exception",.type "BaseException",.type "object"] "ValueError.__new__" = true)
 (rO:PySem.W.nsIn K mainGlobals "ValueError" = some none) (Pk:PySem.W.nsIn K mainGlobals "all" = some none) (Js:PySem.W.nsIn K mainGlobals "bool" = some none) (Jr:PySem.W.nsIn K mainGlobals "dict" = some none) (Pj:PySem.W.nsIn K mainGlobals "int" = some none) (rN:PySem.W.nsIn K mainGlobals "isinstance" = some none) (Ph:PySem.W.nsIn K mainGlobals "len" = some none) (Jq:PySem.W.nsIn K mainGlobals "list" = some none) (Pg:PySem.W.nsIn K mainGlobals "max" = some none) (Pb:PySem.W.nsIn K mainGlobals "min" = some none) (Fx:PySem.W.nsIn K mainGlobals "range" = some none) (Pa:PySem.W.nsIn K mainGlobals "sum" = some none) (Fw:PySem.W.nsIn K mainGlobals "tuple" = some none) (O_:PySem.W.nsIn K mainGlobals "zip" = some none):
 ∃fd:FuncData,(∀(s:Shared) (v:Value),BindsTo s fd ⟨[v],[]⟩ [("script",v)]) /\ ∀base:Heap,K.In base->base.Ns mainGlobals mg->gn l.prog w K mg base tV 9 fa fd ["script"] (KY K):=by
 have e:=hfa.symm.trans (PySem.W.mg_of X G a43);cases e;have Bt:tU mg:=⟨PySem.W.mg_none_of X G rO,PySem.W.mg_none_of X G Pk,PySem.W.mg_none_of X G Js,PySem.W.mg_none_of X G Jr,PySem.W.mg_none_of X G Pj,PySem.W.mg_none_of X G rN,PySem.W.mg_none_of X G Ph,PySem.W.mg_none_of X G Jq,PySem.W.mg_none_of X G Pg,PySem.W.mg_none_of X G Pb,PySem.W.mg_none_of X G Fx,PySem.W.mg_none_of X G Pa,PySem.W.mg_none_of X G Fw,PySem.W.mg_none_of X G O_⟩;have dW:Xr K mg ak "NoNote" :=⟨PySem.W.mg_of X G yQ,⟨rW,v8,wH⟩,⟨wz,wu,wk,rW,wF,YZ,YX,wj⟩,wA,vZ⟩;have dZ:Xr K mg aC "NoCut" :=⟨PySem.W.mg_of X G Aq,⟨vg,yH,yO⟩,⟨yL,yK,yJ,vg,yN,YZ,YX,yI⟩,yM,yG⟩;have cU:Xr K mg aq "NoOrder" :=⟨PySem.W.mg_of X G wN,⟨qK,uc,uK⟩,⟨ux,ur,uh,qK,uG,YZ,YX,uf⟩,uz,tX⟩;have cT:Xr K mg ao "TooMany" :=⟨PySem.W.mg_of X G wK,⟨qJ,tY,uH⟩,⟨uw,uo,ug,qJ,uF,YZ,YX,ud⟩,uy,tW⟩;have d9:Xo K mg ak aQ "NoteError" true:=⟨PySem.W.mg_of X G su,⟨qT,qR,qU⟩,⟨jM,jG⟩⟩;have jm:Xo K mg ak bV "Held" false:=⟨PySem.W.mg_of X G Fz,⟨Al,Aj,Ao⟩,⟨pN,pK⟩⟩;have gk:Xo K mg ak bA "NoForm" false:=⟨PySem.W.mg_of X G yS,⟨wD,wg,wJ⟩,⟨nM,m_⟩⟩;have gb:Xo K mg ak bx "NoHand" false:=⟨PySem.W.mg_of X G yR,⟨wC,v9,wI⟩,⟨nJ,m9⟩⟩;have fj:Xo K mg ak aV "NoneYet" false:=⟨PySem.W.mg_of X G wL,⟨uD,tZ,uI⟩,⟨mL,lW⟩⟩;have eN:Xo K mg ak aP "NoNumber" false:=⟨PySem.W.mg_of X G uM,⟨rT,rQ,rZ⟩,⟨lu,kh⟩⟩;have fu:Xo K mg ak aW "NoPlace" false:=⟨PySem.W.mg_of X G wM,⟨uE,t_,uJ⟩,⟨mO,lX⟩⟩;have fZ:Xo K mg ak bw "NoText" false:=⟨PySem.W.mg_of X G yP,⟨wB,v7,wG⟩,⟨nH,m8⟩⟩;have jl:Xo K mg ak bU "Over" false:=⟨PySem.W.mg_of X G Fy,⟨Ak,Ai,Am⟩,⟨pL,pJ⟩⟩;have eG:Xo K mg ak aO "RowError" false:=⟨PySem.W.mg_of X G uL,⟨rR,rP,rY⟩,⟨lg,j_⟩⟩;have dH:aG K ak aC false:=⟨o7,oM⟩;have cO:aG K ak aq false:=⟨mQ,lY⟩;have cN:aG K ak ao false:=⟨mK,lV⟩;have dJ:aG K aC ak false:=⟨o9,oR⟩;have dh:aG K aC aq false:=⟨nR,nA⟩;have cY:aG K aC ao false:=⟨nO,ni⟩;have cB:aG K aC aQ true:=⟨lA,kj⟩;have eF:aG K aC bV false:=⟨qx,qu⟩;have dN:aG K aC bA false:=⟨pq,oV⟩;have dM:aG K aC bx false:=⟨o_,oU⟩;have cZ:aG K aC aV false:=⟨nP,nj⟩;have cQ:aG K aC aP false:=⟨mU,mj⟩;have dg:aG K aC aW false:=⟨nQ,nu⟩;have dI:aG K aC bw false:=⟨o8,oN⟩;have eE:aG K aC bU false:=⟨qw,qt⟩;have cP:aG K aC aO false:=⟨mR,lZ⟩;have cJ:aG K aq ak false:=⟨mG,lQ⟩;have cX:aG K aq aC false:=⟨nG,m7⟩;have cj:aG K aq ao false:=⟨kY,j7⟩;have bJ:aG K aq aQ true:=⟨jx,ju⟩;have dG:aG K aq bV false:=⟨oZ,oK⟩;have cM:aG K aq bA false:=⟨mJ,lU⟩;have cL:aG K aq bx false:=⟨mH,lR⟩;have cu:aG K aq aV false:=⟨kZ,j8⟩;have bR:aG K aq aP false:=⟨jL,jF⟩;have cA:aG K aq aW false:=⟨k_,j9⟩;have cI:aG K aq bw false:=⟨mF,lO⟩;have dF:aG K aq bU false:=⟨oY,oJ⟩;have bQ:aG K aq aO false:=⟨jK,jE⟩;have cF:aG K ao ak false:=⟨mz,lK⟩;have cW:aG K ao aC false:=⟨nF,m6⟩;have cg:aG K ao aq false:=⟨kO,j6⟩;have bI:aG K ao aQ true:=⟨jw,jt⟩;have dD:aG K ao bV false:=⟨oX,oH⟩;have cH:aG K ao bA false:=⟨mD,lN⟩;have cG:aG K ao bx false:=⟨mC,lM⟩;have bZ:aG K ao aV false:=⟨kI,j4⟩;have bO:aG K ao aP false:=⟨jJ,jD⟩;have b_:aG K ao aW false:=⟨kJ,j5⟩;have cD:aG K ao bw false:=⟨mq,lJ⟩;have dB:aG K ao bU false:=⟨oW,oG⟩;have bN:aG K ao aO false:=⟨jH,jC⟩;have F0:=d7 (st:=sV) l0 c0 k0;have F1:=d7 (st:=pY) l1 c1 k1;have F2:=d7 (st:=qb) l2 c2 k2;have F3:=d7 (st:=jW) l3 c3 k3;have F4:=d7 (st:=n_) l4 c4 k4;have F5:=d7 (st:=n6) l5 c5 k5;have F6:=d7 (st:=pZ) l6 c6 k6;have F7:=d7 (st:=jV) l7 c7 k7;have F8:=d7 (st:=qd) l8 c8 k8;have F9:=d7 (st:=i_) l9 c9 k9;have F10:=d7 (st:=jc) l10 c10 k10;have F11:=d7 (st:=jT) l11 c11 k11;have F12:=d7 (st:=h_) l12 c12 k12;have F13:=d7 (st:=gM) l13 c13 k13;have F14:=d7 (st:=iw) l14 c14 k14;have F15:=d7 (st:=gK) l15 c15 k15;have F16:=d7 (st:=xV) l16 c16 k16;have F17:=d7 (st:=fX) l17 c17 k17;have F18:=d7 (st:=iI) l18 c18 k18;have F19:=d7 (st:=jU) l19 c19 k19;have F20:=d7 (st:=ig) l20 c20 k20;have F21:=d7 (st:=nY) l21 c21 k21;have F22:=d7 (st:=iH) l22 c22 k22;have F23:=d7 (st:=fV) l23 c23 k23;have F24:=d7 (st:=pX) l24 c24 k24;have F25:=d7 (st:=gJ) l25 c25 k25;have F26:=d7 (st:=fJ) l26 c26 k26;have F27:=d7 (st:=iG) l27 c27 k27;have F28:=d7 (st:=sO) l28 c28 k28;have F29:=d7 (st:=iZ) l29 c29 k29;have F30:=d7 (st:=g_) l30 c30 k30;have F31:=d7 (st:=fU) l31 c31 k31;have F32:OD K "how_many_cuts" "how_many_cuts" cV [.int 2000 Zu] f32 _:=⟨⟨_,_,_,_,_,_,_,_,_,_,_,_,_,_,rfl,l32,c32,Zi⟩,Y_⟩;have F33:OD K "how_many_orders" "how_many_orders" bW [.int 2000 Zt] Yo _:=⟨⟨_,_,_,_,_,_,_,_,_,_,_,_,_,_,rfl,l33,c33,Zh⟩,Y9⟩;have F34:=d7 (st:=fW) l34 c34 k34;have F35:=d7 (st:=iu) l35 c35 k35;have F36:=d7 (st:=sS) l36 c36 k36;have F37:=d7 (st:=je) l37 c37 k37;have F38:=d7 (st:=p7) l38 c38 k38;have F39:=d7 (st:=nZ) l39 c39 k39;have F40:=d7 (st:=sW) l40 c40 k40;have F41:=d7 (st:=jd) l41 c41 k41;have F42:=d7 (st:=sU) l42 c42 k42;have F43:=d7 (st:=xU) l43 c43 k43;refine ⟨PySem.W.fnOf "law" "law" (aN xU) (aM xU) (aH xU) .none aas aaU aaf aby Yz aaX,fun s v=> .of_eq rfl,fun base _ _=> ?_⟩;have A0:FnAt l.prog w K mg base 1 "_law_bag" ["script"] (P_ K):=⟨f0,_,Xk F0 Bt,PySem.W.mg_of X G a0,k0,F0.binds (ps:=["script"]) Ve⟩;have A1:FnAt l.prog w K mg base 1 "_law_stir" ["number","place"] (Jz K):=⟨f1,_,T8 F1,PySem.W.mg_of X G a1,k1,F1.binds (ps:=["number","place"]) Rx⟩;have A2:FnAt l.prog w K mg base 2 "_law_draw" ["bag","many"] (qz K):=⟨f2,_,Ue F2 A1 Bt,PySem.W.mg_of X G a2,k2,F2.binds (ps:=["bag","many"]) RD⟩;have A3:FnAt l.prog w K mg base 3 "_law_counts" ["bag","great"] (Bh K):=⟨f3,_,Nj F3 A2 Bt,PySem.W.mg_of X G a3,k3,F3.binds (ps:=["bag","great"]) Kl⟩;have A4:FnAt l.prog w K mg base 3 "_law_order" ["bag","counts"] (zX K):=⟨f4,_,Qs F4 A2 Bt,PySem.W.mg_of X G a4,k4,F4.binds (ps:=["bag","counts"]) Ox⟩;have A5:FnAt l.prog w K mg base 1 "_law_spots" ["order"] (FQ K):=⟨f5,_,Qp F5 Bt,PySem.W.mg_of X G a5,k5,F5.binds (ps:=["order"]) Ow⟩;have A6:FnAt l.prog w K mg base 3 "_law_note" ["bag","counts"] (Az K):=⟨f6,_,T_ F6 A2 Bt,PySem.W.mg_of X G a6,k6,F6.binds (ps:=["bag","counts"]) Ry⟩;have A7:FnAt l.prog w K mg base 4 "_law_record" ["bag","great"] (yW K):=⟨f7,_,JT F7 A2 A3 A4 A5 A6 Bt,PySem.W.mg_of X G a7,k7,F7.binds (ps:=["bag","great"]) Kh⟩;have A8:FnAt l.prog w K mg base 1 "_law_copy" ["record"] (JF K):=⟨f8,_,Uh F8 Bt,PySem.W.mg_of X G a8,k8,F8.binds (ps:=["record"]) RG⟩;have A9:FnAt l.prog w K mg base 1 "is_whole" ["value"] (SX K):=⟨f9,_,HJ F9 Bt,PySem.W.mg_of X G a9,k9,F9.binds (ps:=["value"]) Ja⟩;have A10:FnAt l.prog w K mg base 2 "is_below" ["value","count"] (xP K):=⟨f10,_,HN F10 A9,PySem.W.mg_of X G a10,k10,F10.binds (ps:=["value","count"]) Jb⟩;have A11:FnAt l.prog w K mg base 2 "is_note" ["value"] (xM K):=⟨f11,_,JV F11 A9 Bt,PySem.W.mg_of X G a11,k11,F11.binds (ps:=["value"]) Kf⟩;have A12:FnAt l.prog w K mg base 3 "is_between" ["counts","note"] (wQ K):=⟨f12,_,Bx F12 A10 A11 Bt,PySem.W.mg_of X G a12,k12,F12.binds (ps:=["counts","note"]) DP⟩;have A13:fM l.prog w K mg base 4 "check_notes" ["record"] (iU ak K):=⟨f13,_,zM F13 A12 Bt dW,PySem.W.mg_of X G a13,k13,F13.binds (ps:=["record"]) CJ⟩;have A14:fM l.prog w K mg base 3 "check_done" ["record","done"] (rA aC K):=⟨f14,_,BJ F14 A10 Bt dZ,PySem.W.mg_of X G a14,k14,F14.binds (ps:=["record","done"]) DW⟩;have A15:fM l.prog w K mg base 3 "check_order" ["record","order"] (yX aq K):=⟨f15,_,zL F15 A10 Bt dW dZ cU cT d9 jm gk gb fj eN fu fZ jl eG dH cO cN dJ dh cY cB eF dN dM cZ cQ dg dI eE cP cJ cX cj bJ dG cM cL cu bR cA cI dF bQ cF cW cg bI dD cH cG bZ bO b_ cD dB bN,PySem.W.mg_of X G a15,k15,F15.binds (ps:=["record","order"]) CG⟩;have A16:FnAt l.prog w K mg base 1 "has" ["done","touch"] (G_ K):=⟨f16,_,Xi F16,PySem.W.mg_of X G a16,k16,F16.binds (ps:=["done","touch"]) YC⟩;have A17:FnAt l.prog w K mg base 2 "broken_notes" ["record","done"] (uR K):=⟨f17,_,Nk F17 A16 Bt,PySem.W.mg_of X G a17,k17,F17.binds (ps:=["record","done"]) zT⟩;have A18:FnAt l.prog w K mg base 1 "firsts_of" ["record"] (uQ K):=⟨f18,_,Nh F18,PySem.W.mg_of X G a18,k18,F18.binds (ps:=["record"]) GP⟩;have A19:FnAt l.prog w K mg base 2 "is_free" ["counts","firsts","done","hand"] (Gb K):=⟨f19,_,JW F19 A16 Bt,PySem.W.mg_of X G a19,k19,F19.binds (ps:=["counts","firsts","done","hand"]) Kg⟩;have A20:FnAt l.prog w K mg base 3 "free_hands" ["counts","firsts","done"] (zY K):=⟨f20,_,Dt F20 A19 Bt,PySem.W.mg_of X G a20,k20,F20.binds (ps:=["counts","firsts","done"]) DQ⟩;have A21:fM l.prog w K mg base 5 "is_cut" ["record","cut"] (xO ak aC K):=⟨f21,_,JX F21 A13 A14 A17 Bt,PySem.W.mg_of X G a21,k21,F21.binds (ps:=["record","cut"]) Ou⟩;have A22:fM l.prog w K mg base 5 "least_cut" ["record","some"] (Bb ak aC K):=⟨f22,_,Nf F22 A13 A14 A17 Bt,PySem.W.mg_of X G a22,k22,F22.binds (ps:=["record","some"]) GK⟩;have A23:fM l.prog w K mg base 5 "greatest_cut" ["record","some"] (uP ak aC K):=⟨f23,_,Gj F23 A13 A14 A17 Bt,PySem.W.mg_of X G a23,k23,F23.binds (ps:=["record","some"]) zQ⟩;have A24:fM l.prog w K mg base 5 "keeps" ["record","order"] (Bc ak aq K):=⟨f24,_,Ng F24 dW dZ cU cT d9 jm gk gb fj eN fu fZ jl eG dH cO cN dJ dh cY cB eF dN dM cZ cQ dg dI eE cP cJ cX cj bJ dG cM cL cu bR cA cI dF bQ cF cW cg bI dD cH cG bZ bO b_ cD dB bN A13 A15 A18 A19 Bt,PySem.W.mg_of X G a24,k24,F24.binds (ps:=["record","order"]) Rw⟩;have A25:fM l.prog w K mg base 5 "first_order" ["record"] (Bg ak K):=⟨f25,_,Ni F25 A13 A18 A20 Bt,PySem.W.mg_of X G a25,k25,F25.binds (ps:=["record"]) Cz⟩;have A26:FnAt l.prog w K mg base 1 "longer_chains" ["record","chains"] (Ba K):=⟨f26,_,Nb F26,PySem.W.mg_of X G a26,k26,F26.binds (ps:=["record","chains"]) zu⟩;have A27:FnAt l.prog w K mg base 2 "ring_from" ["record","start"] (wO K):=⟨f27,_,HF F27 A26 Bt,PySem.W.mg_of X G a27,k27,F27.binds (ps:=["record","start"]) GJ⟩;have A28:fM l.prog w K mg base 5 "ring" ["record"] (FW ak K):=⟨f28,_,Qq F28 A13 A27 Bt,PySem.W.mg_of X G a28,k28,F28.binds (ps:=["record"]) Vb⟩;have A29:FnAt l.prog w K mg base 1 "leads_to" ["note","following"] (Ga K):=⟨f29,_,Qu F29,PySem.W.mg_of X G a29,k29,F29.binds (ps:=["note","following"]) I_⟩;have A30:fM l.prog w K mg base 5 "ring_shows" ["record","some"] (FT ak K):=⟨f30,_,M9 F30 A13 A11 A29 Bt,PySem.W.mg_of X G a30,k30,F30.binds (ps:=["record","some"]) DN⟩;have A31:fM l.prog w K mg base 4 "ways_to_cuts" ["record","most"] (zW ao K):=⟨f31,_,Qo F31 A18 A20 Bt cT,PySem.W.mg_of X G a31,k31,F31.binds (ps:=["record","most"]) zP⟩;have G32:=Ub F32 dW dZ cU cT d9 jm gk gb fj eN fu fZ jl eG dH cO cN dJ dh cY cB eF dN dM cZ cQ dg dI eE cP cJ cX cj bJ dG cM cL cu bR cA cI dF bQ cF cW cg bI dD cH cG bZ bO b_ cD dB bN A13 A31 Bt;have A32:fM l.prog w K mg base 5 "how_many_cuts" ["record","most"] (Bf ak ao K):=⟨f32,_,G32,PySem.W.mg_of X G a32,Y_,yC Zi⟩;have alQ:Wi l.prog w K mg base 5 "how_many_cuts" ["record","most"] [.int 2000] (Bf ak ao K):=⟨f32,_,_,G32,PySem.W.mg_of X G a32,Y_,yx Zi,.cons ⟨_,rfl⟩ .nil⟩;have alP:Mh l.prog w K mg base 5 "how_many_cuts" ["record","most"] "most" (Bf ak ao K):=⟨f32,_,G32,PySem.W.mg_of X G a32,Y_,yw Zi⟩;have G33:=Ua F33 dW dZ cU cT d9 jm gk gb fj eN fu fZ jl eG dH cO cN dJ dh cY cB eF dN dM cZ cQ dg dI eE cP cJ cX cj bJ dG cM cL cu bR cA cI dF bQ cF cW cg bI dD cH cG bZ bO b_ cD dB bN A13 A31 Bt;have A33:fM l.prog w K mg base 5 "how_many_orders" ["record","most"] (Bd ak ao K):=⟨Yo,_,G33,PySem.W.mg_of X G a33,Y9,vP Zh⟩;have alO:Wi l.prog w K mg base 5 "how_many_orders" ["record","most"] [.int 2000] (Bd ak ao K):=⟨Yo,_,_,G33,PySem.W.mg_of X G a33,Y9,vO Zh,.cons ⟨_,rfl⟩ .nil⟩;have abN:Mh l.prog w K mg base 5 "how_many_orders" ["record","most"] "most" (Bd ak ao K):=⟨Yo,_,G33,PySem.W.mg_of X G a33,Y9,vN Zh⟩;have A34:FnAt l.prog w K mg base 1 "counted_from" ["cut","note"] (JC K):=⟨f34,_,Uc F34,PySem.W.mg_of X G a34,k34,F34.binds (ps:=["cut","note"]) zR⟩;have A35:fM l.prog w K mg base 6 "cut_record" ["record","cut"] (Gd ak aC K):=⟨f35,_,Ug F35 dW dZ cU cT d9 jm gk gb fj eN fu fZ jl eG dH cO cN dJ dh cY cB eF dN dM cZ cQ dg dI eE cP cJ cX cj bJ dG cM cL cu bR cA cI dF bQ cF cW cg bI dD cH cG bZ bO b_ cD dB bN A21 A16 A34 Bt,PySem.W.mg_of X G a35,k35,F35.binds (ps:=["record","cut"]) DR⟩;have A36:FnAt l.prog w K mg base 3 "_law_far" ["bag"] (Hf K):=⟨f36,_,Xj F36 A2,PySem.W.mg_of X G a36,k36,F36.binds (ps:=["bag"]) Vc⟩;have A37:FnAt l.prog w K mg base 4 "_law_no_note" ["bag","counts"] (A_ K):=⟨f37,_,M_ F37 A2 A36 A6 Bt,PySem.W.mg_of X G a37,k37,F37.binds (ps:=["bag","counts"]) Jd⟩;have A38:FnAt l.prog w K mg base 4 "_law_list" ["bag","counts"] (FZ K):=⟨f38,_,Qt F38 A2 A36 Bt,PySem.W.mg_of X G a38,k38,F38.binds (ps:=["bag","counts"]) RB⟩;have A39:FnAt l.prog w K mg base 4 "_law_turns" ["bag","counts"] (Ay K):=⟨f39,_,M8 F39 A2 A36 A4 Bt,PySem.W.mg_of X G a39,k39,F39.binds (ps:=["bag","counts"]) Ov⟩;have A40:fM l.prog w K mg base 7 "_law_ask" ["door","record","lists","limit"] (JG ak aC aq ao K):=⟨f40,_,Ui F40 dW dZ cU cT d9 jm gk gb fj eN fu fZ jl eG dH cO cN dJ dh cY cB eF dN dM cZ cQ dg dI eE cP cJ cX cj bJ dG cM cL cu bR cA cI dF bQ cF cW cg bI dD cH cG bZ bO b_ cD dB bN A35 A21 A22 A23 A24 A25 A28 A30 A32 abN Bt,PySem.W.mg_of X G a40,k40,F40.binds (ps:=["door","record","lists","limit"]) Vf⟩;have A41:FnAt l.prog w K mg base 8 "_law_refusal" ["door","record","lists","limit"] (JB K):=⟨f41,_,T9 F41 dW dZ cU cT d9 jm gk gb fj eN fu fZ jl eG dH cO cN dJ dh cY cB eF dN dM cZ cQ dg dI eE cP cJ cX cj bJ dG cM cL cu bR cA cI dF bQ cF cW cg bI dD cH cG bZ bO b_ cD dB bN A40 Bt,PySem.W.mg_of X G a41,k41,F41.binds (ps:=["door","record","lists","limit"]) Jc⟩;have A42:FnAt l.prog w K mg base 1 "_law_due" ["door","bad","record","some","order","limit"] (JD K):=⟨f42,_,Ud F42 Bt,PySem.W.mg_of X G a42,k42,F42.binds (ps:=["door","bad","record","some","order","limit"]) Vd⟩;exact Xh F43 A0 A2 A7 A6 A37 A38 A39 A8 A41 A42 Bt
theorem walk {l:PySem.W.OpenLaw} {q:Program} {loose:List Str} {XP:(Str->Option Value)->Heap->Prop} {YP:World->Heap->Prop} {d:DefRec} {K:Params->PySem.W.Frag} (hn:l.most=some 63) (hdf:d.params.defaults=[])
 (hY:∀(w:World) (h:Heap),YP w h->(K w.params).In h)
 (F:∀(w:World) (mg:Str->Option Value) (fa:Addr) (h:Heap),(K w.params).In h->h.Ns mainGlobals mg->mg d.name=some (.ref fa) ->
   ∃fd:FuncData,(∀(s:Shared) (u:Value),BindsTo s fd ⟨[u],[]⟩ [("script",u)]) /\ ∀base:Heap,(K w.params).In base->base.Ns mainGlobals mg->gn l.prog w (K w.params) mg base tV 9 fa fd ["script"] (KY (K w.params))):
 PySem.W.WalkO q loose XP YP l.row.toRowW d [] (fun f vs=>PySem.call f vs):=
 L2.Sv (n:=63) (k:=9) (x:= "script") (CX:=fun _=>tV) (sp:=fun w=>KY (K w.params)) hn (by decide) hdf ⟨rfl,by decide,by decide⟩ hY F (fun _ _ a ns hl _ hS=>⟨a,ns,rfl,hS,hl,fun _=>rfl⟩) fun _ _ _ _ _ z=>z
end Prf
namespace PySem.W.Fast
def tw15383495431420321147:=()
def tw5924815778220795322:=()
def tw3080360311953498698:=()
def tw9204559700447356280:=()
def tw2245771043491135972:=()
def tw9324857215347188441:=()
def tw4526091895004537862:=()
def tw18215118123447206218:=()
def tw4199656764177102240:=()
def tw8490094610579316106:=()
def tw2222537564679115272:=()
def tw13754102683643416939:=()
def tw2690397820269299902:=()
def tw5950607222640605889:=()
def tw7322228087847311081:=()
def tw12723364258605694526:=()
def tw2915261128629084474:=()
def tw2830936166079204767:=()
def tw14187027543438732867:=()
def tw10552677653165226681:=()
def tw9535152851047387067:=()
def tw16329998081302814381:=()
def tw2722801998321727451:=()
def tw4060350999137373683:=()
def tw5734874495690943846:=()
def tw1926444422586010284:=()
def tw672021552715190842:=()
def tw2085513019852910968:=()
def tw7035229873683079046:=()
def tw1498743177961924648:=()
def tw4970130501928505495:=()
def tw8852458926248127812:=()
def tw659163618467752750:=()
def tw7522194157945208922:=()
def tw8258101275518099851:=()
def tw13840410002858780628:=()
def tw6870315450765166663:=()
def tw8609349251177857108:=()
def tw9996451395084836064:=()
def tw5836743963648694720:=()
def tw6068725576932411150:=()
def tw4357016130828364988:=()
def tw11488489402384566565:=()
def tw2960009260415979873:=()
def tw10057310124666886428:=()
def tw7213667849629075762:=()
def tw1857251202521246708:=()
def tw7569266624061251688:=()
def tw14138440148883962436:=()
def tw12563897979084491199:=()
def tw17771614233054675567:=()
def tw2238579600544648765:=()
def tw12359229332058024365:=()
def tw302644499724101356:=()
def tw1688019185252763560:=()
def tw1520217275729336966:=()
def tw5687137268041114361:=()
def tw10156786136842183045:=()
def tw13080489561400259230:=()
def tw491738393953502652:=()
def tw4419614210326817818:=()
def tw10021167096177772840:=()
def tw3433219964676038182:=()
def tw16616549051851573369:=()
def tw14167553781865188630:=()
def tw6947311909556811277:=()
def tw14049616461601230715:=()
def tw1790205546208567704:=()
def tw10404706009537722087:=()
def tw18097372277134136966:=()
def tw11549360858355977237:=()
def tw9644113236187747631:=()
def tw18404056041271536168:=()
def tw4435977791710114434:=()
def tw12457786841849128634:=()
def tw2297143285416343098:=()
def tw2511593168011219017:=()
def tw7130421268539213063:=()
def tw12893877622210415786:=()
def tw7915362928176216282:=()
def tw2715417862159458225:=()
def tw15191129335281618160:=()
def tw2673250678464326671:=()
def tw10117612350741987953:=()
def tw17847973333906530301:=()
def tw3577332615542212482:=()
def tw6523035451749878234:=()
def tw5452258645328938138:=()
def tw8166183922507798609:=()
def tw16742658439116298563:=()
def tw100238193935072865:=()
def tw382948507300329515:=()
def tw4230692473134897205:=()
def tw6900404668238172810:=()
def tw16012447692565751559:=()
def tw1654037749089379507:=()
def tw14396884430667428248:=()
def tw10300342702955950821:=()
def tw6597126751786744136:=()
def tw2431704391444516478:=()
def tw11981132581205459550:=()
def tw8634262216827425302:=()
def tw15144846895307283014:=()
def tw7339716740235864742:=()
def tw4830506668945870892:=()
def tw13636978658652052525:=()
def tw16113460272503136566:=()
def tw11670723088947145400:=()
def tw7433960387608168903:=()
def tw10502867508990846318:=()
def tw7317792786126136652:=()
def tw4184187377476685092:=()
def tw17375697961419170293:=()
def tw10891513903791597263:=()
def tw11667829621095098457:=()
def tw6142491332553505365:=()
def tw8651387099108065693:=()
def tw11984399627848916860:=()
def tw18180376281044511828:=()
def tw16490983863819998691:=()
def tw887904944294641053:=()
def tw7665716828919885102:=()
def tw15687273589333642211:=()
def tw14958495314840387375:=()
def tw17132997009849112559:=()
def tw14140577313742607843:=()
def tw11885596357464919865:=()
def tw10654446693673591713:=()
def tw6591841227863951469:=()
def tw16784414362552861762:=()
def tw11679940343853524053:=()
def tw5011522516749804960:=()
def tw1557830654126138645:=()
def tw15443561376340738916:=()
def tw17608244046822833635:=()
def tw4634826506815742621:=()
def tw15193265465875054663:=()
def tw17665598296228236498:=()
def tw1533370825741324801:=()
def tw13589271186592126898:=()
def tw8091187065805210765:=()
def tw3597998097516060244:=()
def tw12644189191368794707:=()
def tw10427560211025776226:=()
def tw7087183115200982983:=()
def tw16763501349101877274:=()
def tw13740628323116481632:=()
def tw5227148244753284897:=()
def tw14147109326357257888:=()
def tw7915853415775378742:=()
def tw17169212872698373677:=()
def tw9283012560308842855:=()
def tw12304433960125533330:=()
def tw9055670402134079919:=()
def tw10814556232210130821:=()
def tw2080837024307095431:=()
def tw6294041495443641290:=()
def tw6320092598041982528:=()
def tw9758732205829635863:=()
def tw3995599134851978099:=()
def tw13252688225424166163:=()
def tw4693379701589748756:=()
def tw9822815743525931921:=()
def tw10712758683061418020:=()
def tw16419643104385415078:=()
def tw1763646400465363463:=()
def tw5573089685835139110:=()
def tw6065843153137145808:=()
def tw18371333462407799407:=()
def tw4663932649136573931:=()
def tw2659049301281408204:=()
def tw15472810100258508388:=()
def tw9278312323351454092:=()
def tw13235727137894004461:=()
def tw5435173055473902081:=()
def tw14780197140473922613:=()
def tw3880702424017750587:=()
def tw6321540190198372255:=()
def tw12569493872894736290:=()
def tw5006849273144451741:=()
def tw8645398173414498018:=()
def tw43417137506187478:=()
def tw5036027073421067973:=()
def tw11780129389170987408:=()
def tw18148440514148909068:=()
def tw5970344406309639140:=()
def tw6585937612389688435:=()
def tw3720732947604980573:=()
def tw18204430828362190759:=()
def tw3416217536793402886:=()
def tw14328117214810082169:=()
def tw891452586336435684:=()
def tw5111538279512749158:=()
def tw3589452689113662941:=()
def tw8645545027350866716:=()
def tw1931554864538022198:=()
def tw16892337740086926292:=()
def tw9401009952854749178:=()
def tw6811037780974989300:=()
def tw7388937658689799426:=()
def tw4132171373291263515:=()
def tw4882572219265205586:=()
def tw10959323781412971558:=()
def tw5916643139329646561:=()
def tw14905176691670746963:=()
def tw5326555951751837385:=()
def tw4072197939667340979:=()
def tw7361228137646927189:=()
def tw4431606806952826306:=()
def tw15136322735419133290:=()
def tw7783377896350249965:=()
def tw15525781330723649880:=()
def tw13032890728276587014:=()
def tw15138658784659799740:=()
def tw12807299121328374565:=()
def tw5749072882760103085:=()
def tw297824143904309294:=()
def tw15294676341051060564:=()
def tw12703051208734817713:=()
def tw2727308310179725766:=()
def tw593913144668094310:=()
def tw16441918501064534656:=()
def tw18276177304677454568:=()
def tw1300100961526222667:=()
def tw16359414648903462707:=()
def tw6699942832042857916:=()
def tw598369685940688602:=()
def tw11428836211399797629:=()
def tw8636863258472446702:=()
def tw9291289190002991131:=()
def tw15279560109157368016:=()
def tw3919136121244731218:=()
def tw18056235740793862155:=()
def tw16285216195717040313:=()
def tw3973921930774486564:=()
def tw6847450320874242311:=()
def tw13348314504714533773:=()
def tw11155903381223915536:=()
def tw3167374763868540854:=()
def tw2094109607913426787:=()
def tw7893792578607522195:=()
def tw6684306695495819471:=()
def tw16765110819272565059:=()
def tw7120525549147457287:=()
def tw10366307933588740717:=()
def tw14444532462689457888:=()
def tw4534666994632162183:=()
def tw424532347257212244:=()
def tw8983678134710038610:=()
def tw613855262482109635:=()
def tw1766934275012592622:=()
def tw1104192464890382231:=()
def tw4162366356263036505:=()
def tw8309979964665565435:=()
def tw3470776161764782710:=()
def tw6611668295995908257:=()
def tw5757512957536230589:=()
def tw14249139754758496419:=()
def tw14069224031695911683:=()
def tw12325196376878154666:=()
def tw15232021295052104331:=()
def tw8453294632172516659:=()
def tw11612008848562137578:=()
def tw13298274250052517378:=()
def tw7920548236498818292:=()
def tw4985822859365321030:=()
def tw11730289836433591271:=()
def tw10229857414816286619:=()
def tw8307578306637269144:=()
def tw14370618636322208069:=()
def tw1751703400128645388:=()
def tw10540402039403488629:=()
def tw2118070531422464871:=()
def tw10478183795197734873:=()
def tw8887299411768817147:=()
def tw10599935279553550604:=()
def tw8505570158249504442:=()
def tw13155690617646714699:=()
def tw10877461784788724760:=()
def tw12030222484062730346:=()
def tw8718477938247630867:=()
def tw14421648251173754523:=()
def tw7043722980644132753:=()
def tw9200944635791937453:=()
def tw12494259839646371903:=()
def tw14827965949383451579:=()
def tw9806383128562454088:=()
def tw6981206843366405817:=()
def tw4743669076212895772:=()
def tw17570002731438422521:=()
def tw3223263406431845741:=()
def tw2971968538856317292:=()
def tw16513389667963117905:=()
def tw7807451743237964094:=()
def tw15203819916975054155:=()
def tw14760706737356803622:=()
def tw3180771124370160164:=()
def tw4998715007240207312:=()
def tw4147173912359572605:=()
def tw314304485873329378:=()
def tw9376071820147764609:=()
def tw3130239675369742663:=()
def tw11430625374041087374:=()
def tw12839830766877807490:=()
def tw2978500464527330200:=()
def tw2054151254001092895:=()
def tw2244577045656818916:=()
def tw5226669427139880835:=()
def tw18267696547313627006:=()
def tw16242268722958652952:=()
def tw6040902789458659106:=()
def tw1720730880934175217:=()
def tw14469972260711501109:=()
def tw409157013321114062:=()
def tw5728070328613273506:=()
def tw7651069866397981740:=()
def tw14240043038907526501:=()
def tw12020457646425739921:=()
def tw9031783061674901036:=()
def tw5287863584161295954:=()
def tw13730240732276223469:=()
def tw17902634305846360223:=()
def tw16395802296354527195:=()
def tw7603750368685248189:=()
def tw12242961665226448803:=()
def tw6312672529041681535:=()
def tw2983252834053363362:=()
def tw6150104292300503584:=()
def tw8901295874344401375:=()
def tw4064514121548054874:=()
def tw10310602441052144714:=()
def tw10026372531079976585:=()
def tw16872946123782683419:=()
def tw4839866361400748734:=()
def tw15164316732260034284:=()
def tw4888738098148385957:=()
def tw8107662856751896840:=()
def tw9283520321092194259:=()
def tw10071638792438963013:=()
def tw12487250604719984018:=()
def tw8744620602682554733:=()
def tw4272070775590463085:=()
def tw6094746704338866253:=()
def tw3266410991871732974:=()
def tw12972187345170082900:=()
def tw9452682758272861787:=()
def tw6365578123199068685:=()
def tw12011575293549202964:=()
def tw3852221619743896914:=()
def tw5985506409729806599:=()
def tw18151609679442543767:=()
def tw7464871642148713884:=()
def tw8394874845634718392:=()
def tw7052063454783999398:=()
def tw12137591264639020345:=()
def tw13072400532782966722:=()
def tw17121241754046152103:=()
def tw294811637633792151:=()
def tw651000125288740808:=()
def tw1725089105979823502:=()
def tw16800557214406440683:=()
def tw12539476849087880699:=()
def tw16225979885040608219:=()
def tw9990164416134507268:=()
def tw16796712874395281517:=()
def tw1117769608464002469:=()
def tw15088536008391822520:=()
def tw964988005316264575:=()
def tw16344801830199742375:=()
def tw7915409414835110344:=()
def tw15638104591803411511:=()
def tw15399993832158895170:=()
def tw3824000223917322355:=()
def tw16910750371216928475:=()
def tw3594673885168728363:=()
def tw8439569143898482902:=()
def tw2383224439673292987:=()
def tw4154459824458984267:=()
def tw16874082406411719273:=()
def tw10463215997243199517:=()
def tw2270314344760409174:=()
def tw12846163151398011632:=()
def tw17374496519930759401:=()
def tw15128254294029794903:=()
def tw18171848457573737238:=()
def tw5560219325221022924:=()
def tw9708675566156588850:=()
def tw17777368693827518650:=()
def tw5808191158782184540:=()
def tw15224185837473469974:=()
def tw15248685522842024072:=()
def tw1352040155975229535:=()
def tw4777388867878457008:=()
def tw11133451193068710913:=()
def tw13211364909137831867:=()
def tw14726566496311506774:=()
def tw6064340161022216250:=()
def tw13032019876019649317:=()
def tw17440485566394509001:=()
def tw16793025603032370763:=()
def tw17509075880827273997:=()
def tw4076555771217002727:=()
def tw8566167852668851848:=()
def tw2512104804955334132:=()
def tw3993205655598717591:=()
def tw489698419497082907:=()
def tw799125128169380496:=()
def tw5243651697566057602:=()
def tw17881540957306756510:=()
def tw621670879584744101:=()
def tw6739310141119896265:=()
def tw4094787504167252903:=()
def tw1463450995181321458:=()
def tw5407289017421476635:=()
def tw18032943454631533114:=()
def tw454048904594244115:=()
def tw14346207027432303168:=()
def tw18421301627447758773:=()
def tw11274284894225750722:=()
def tw11600444240248159769:=()
def tw11802422750659781467:=()
def tw8414604687182036555:=()
def tw15254163976310470398:=()
def tw17971485358320832930:=()
def tw6023610799822503529:=()
def tw8016733969017387427:=()
def tw13757727401952512390:=()
def tw13312750081590998980:=()
def tw10807649954434661632:=()
def tw14403460264720943457:=()
def tw9448012235350577923:=()
def tw7546941731681593590:=()
def tw6694242145765872835:=()
def tw6122460687392273136:=()
def tw12896532668391025392:=()
def tw269209628489889225:=()
def tw3916626684660725293:=()
def tw112856513249240123:=()
def tw12613809488764046363:=()
def tw2343330489022149529:=()
def tw7918055892250680298:=()
def tw4851388463580213499:=()
def tw10589652093809503752:=()
def tw8377770641659218760:=()
def tw11311647069685569960:=()
def tw16078350807046072387:=()
def tw1921854479142436922:=()
def tw373143586100021149:=()
def tw15766253108045876430:=()
def tw3006099397159606086:=()
def tw1918251883777565924:=()
def tw2696228889138544059:=()
def tw13827959658286904294:=()
def tw15831841816013588894:=()
def tw17889910984632076444:=()
def tw16783741465511369848:=()
def tw10322558215025102110:=()
def tw13966554144588408804:=()
def tw15669145547500594066:=()
def tw3716911875797503818:=()
def tw7671148924136820251:=()
def tw7283613417179240709:=()
def tw286026677002226366:=()
def tw15084213737282868358:=()
def tw8674406966538559225:=()
def tw10601043224407687059:=()
def tw8264913929004133891:=()
def tw5678981419266008261:=()
end PySem.W.Fast
open PySem PySem.W PyProof.Rows
set_option maxRecDepth 100000 in
set_option maxHeartbeats 0 in
theorem PySem.Challenge.cw_fewnotes_k97_records_refused_at_each_doo_holds : PySem.Challenge.rw_fewnotes_k97_records_refused_at_each_doo.Holds := by
 w_on;o_law;k_head;(case hw=>w_witness2)
 k_fill
 refine Prf.walk (l:=PySem.Challenge.rw_fewnotes_k97_records_refused_at_each_doo) rfl rfl (fun w h Y=>PySem.W.kIn_of Y) ?F
 case F=>
  intro w mg fa h KX G hmg
  replace hmg:mg (Str.ofString "law")=some (.ref fa):=hmg
  refine' Prf.all_mk KX G hmg ?a0 ?l0 ?c0 ?k0 ?a1 ?l1 ?c1 ?k1 ?a2 ?l2 ?c2 ?k2 ?a3 ?l3 ?c3 ?k3 ?a4 ?l4 ?c4 ?k4 ?a5 ?l5 ?c5 ?k5 ?a6 ?l6 ?c6 ?k6 ?a7 ?l7 ?c7 ?k7 ?a8 ?l8 ?c8 ?k8 ?a9 ?l9 ?c9 ?k9 ?a10 ?l10 ?c10 ?k10 ?a11 ?l11 ?c11 ?k11 ?a12 ?l12 ?c12 ?k12 ?a13 ?l13 ?c13 ?k13 ?a14 ?l14 ?c14 ?k14 ?a15 ?l15 ?c15 ?k15 ?a16 ?l16 ?c16 ?k16 ?a17 ?l17 ?c17 ?k17 ?a18 ?l18 ?c18 ?k18 ?a19 ?l19 ?c19 ?k19 ?a20 ?l20 ?c20 ?k20 ?a21 ?l21 ?c21 ?k21 ?a22 ?l22 ?c22 ?k22 ?a23 ?l23 ?c23 ?k23 ?a24 ?l24 ?c24 ?k24 ?a25 ?l25 ?c25 ?k25 ?a26 ?l26 ?c26 ?k26 ?a27 ?l27 ?c27 ?k27 ?a28 ?l28 ?c28 ?k28 ?a29 ?l29 ?c29 ?k29 ?a30 ?l30 ?c30 ?k30 ?a31 ?l31 ?c31 ?k31 ?a32 ?l32 ?c32 ?Y_ ?Zi ?a33 ?l33 ?c33 ?Y9 ?Zh ?a34 ?l34 ?c34 ?k34 ?a35 ?l35 ?c35 ?k35 ?a36 ?l36 ?c36 ?k36 ?a37 ?l37 ?c37 ?k37 ?a38 ?l38 ?c38 ?k38 ?a39 ?l39 ?c39 ?k39 ?a40 ?l40 ?c40 ?k40 ?a41 ?l41 ?c41 ?k41 ?a42 ?l42 ?c42 ?k42 ?a43 ?l43 ?c43 ?k43 ?yQ ?rW ?v8 ?wH ?Aq ?vg ?yH ?yO ?wN ?qK ?uc ?uK ?wK ?qJ ?tY ?uH ?su ?qT ?qR ?qU ?Fz ?Al ?Aj ?Ao ?yS ?wD ?wg ?wJ ?yR ?wC ?v9 ?wI ?wL ?uD ?tZ ?uI ?uM ?rT ?rQ ?rZ ?wM ?uE ?t_ ?uJ ?yP ?wB ?v7 ?wG ?Fy ?Ak ?Ai ?Am ?uL ?rR ?rP ?rY ?o9 ?oR ?mG ?lQ ?mz ?lK ?o7 ?oM ?nG ?m7 ?nF ?m6 ?mQ ?lY ?nR ?nA ?kO ?j6 ?mK ?lV ?nO ?ni ?kY ?j7 ?jM ?jG ?lA ?kj ?jx ?ju ?jw ?jt ?pN ?pK ?qx ?qu ?oZ ?oK ?oX ?oH ?nM ?m_ ?pq ?oV ?mJ ?lU ?mD ?lN ?nJ ?m9 ?o_ ?oU ?mH ?lR ?mC ?lM ?mL ?lW ?nP ?nj ?kZ ?j8 ?kI ?j4 ?lu ?kh ?mU ?mj ?jL ?jF ?jJ ?jD ?mO ?lX ?nQ ?nu ?k_ ?j9 ?kJ ?j5 ?nH ?m8 ?o8 ?oN ?mF ?lO ?mq ?lJ ?pL ?pJ ?qw ?qt ?oY ?oJ ?oW ?oG ?lg ?j_ ?mR ?lZ ?jK ?jE ?jH ?jC ?YZ ?YX ?wz ?wu ?wk ?wF ?wj ?vZ ?wA ?yL ?yK ?yJ ?yN ?yI ?yG ?yM ?ux ?ur ?uh ?uG ?uf ?tX ?uz ?uw ?uo ?ug ?uF ?ud ?tW ?uy ?rO ?Pk ?Js ?Jr ?Pj ?rN ?Ph ?Jq ?Pg ?Pb ?Fx ?Pa ?Fw ?O_
  (case yQ=>k_is)
  (case rW=>rfl)
  (case v8=>k_is)
  (case wH=>k_is)
  (case Aq=>k_is)
  (case vg=>rfl)
  (case yH=>k_is)
  (case yO=>k_is)
  (case wN=>k_is)
  (case qK=>rfl)
  (case uc=>k_is)
  (case uK=>k_is)
  (case wK=>k_is)
  (case qJ=>rfl)
  (case tY=>k_is)
  (case uH=>k_is)
  (case su=>k_is)
  (case qT=>rfl)
  (case qR=>k_is)
  (case qU=>k_is)
  (case Fz=>k_is)
  (case Al=>rfl)
  (case Aj=>k_is)
  (case Ao=>k_is)
  (case yS=>k_is)
  (case wD=>rfl)
  (case wg=>k_is)
  (case wJ=>k_is)
  (case yR=>k_is)
  (case wC=>rfl)
  (case v9=>k_is)
  (case wI=>k_is)
  (case wL=>k_is)
  (case uD=>rfl)
  (case tZ=>k_is)
  (case uI=>k_is)
  (case uM=>k_is)
  (case rT=>rfl)
  (case rQ=>k_is)
  (case rZ=>k_is)
  (case wM=>k_is)
  (case uE=>rfl)
  (case t_=>k_is)
  (case uJ=>k_is)
  (case yP=>k_is)
  (case wB=>rfl)
  (case v7=>k_is)
  (case wG=>k_is)
  (case Fy=>k_is)
  (case Ak=>rfl)
  (case Ai=>k_is)
  (case Am=>k_is)
  (case uL=>k_is)
  (case rR=>rfl)
  (case rP=>k_is)
  (case rY=>k_is)
  (case o9=>rfl)
  (case oR=>k_is)
  (case mG=>rfl)
  (case lQ=>k_is)
  (case mz=>rfl)
  (case lK=>k_is)
  (case o7=>rfl)
  (case oM=>k_is)
  (case nG=>rfl)
  (case m7=>k_is)
  (case nF=>rfl)
  (case m6=>k_is)
  (case mQ=>rfl)
  (case lY=>k_is)
  (case nR=>rfl)
  (case nA=>k_is)
  (case kO=>rfl)
  (case j6=>k_is)
  (case mK=>rfl)
  (case lV=>k_is)
  (case nO=>rfl)
  (case ni=>k_is)
  (case kY=>rfl)
  (case j7=>k_is)
  (case jM=>rfl)
  (case jG=>k_is)
  (case lA=>rfl)
  (case kj=>k_is)
  (case jx=>rfl)
  (case ju=>k_is)
  (case jw=>rfl)
  (case jt=>k_is)
  (case pN=>rfl)
  (case pK=>k_is)
  (case qx=>rfl)
  (case qu=>k_is)
  (case oZ=>rfl)
  (case oK=>k_is)
  (case oX=>rfl)
  (case oH=>k_is)
  (case nM=>rfl)
  (case m_=>k_is)
  (case pq=>rfl)
  (case oV=>k_is)
  (case mJ=>rfl)
  (case lU=>k_is)
  (case mD=>rfl)
  (case lN=>k_is)
  (case nJ=>rfl)
  (case m9=>k_is)
  (case o_=>rfl)
  (case oU=>k_is)
  (case mH=>rfl)
  (case lR=>k_is)
  (case mC=>rfl)
  (case lM=>k_is)
  (case mL=>rfl)
  (case lW=>k_is)
  (case nP=>rfl)
  (case nj=>k_is)
  (case kZ=>rfl)
  (case j8=>k_is)
  (case kI=>rfl)
  (case j4=>k_is)
  (case lu=>rfl)
  (case kh=>k_is)
  (case mU=>rfl)
  (case mj=>k_is)
  (case jL=>rfl)
  (case jF=>k_is)
  (case jJ=>rfl)
  (case jD=>k_is)
  (case mO=>rfl)
  (case lX=>k_is)
  (case nQ=>rfl)
  (case nu=>k_is)
  (case k_=>rfl)
  (case j9=>k_is)
  (case kJ=>rfl)
  (case j5=>k_is)
  (case nH=>rfl)
  (case m8=>k_is)
  (case o8=>rfl)
  (case oN=>k_is)
  (case mF=>rfl)
  (case lO=>k_is)
  (case mq=>rfl)
  (case lJ=>k_is)
  (case pL=>rfl)
  (case pJ=>k_is)
  (case qw=>rfl)
  (case qt=>k_is)
  (case oY=>rfl)
  (case oJ=>k_is)
  (case oW=>rfl)
  (case oG=>k_is)
  (case lg=>rfl)
  (case j_=>k_is)
  (case mR=>rfl)
  (case lZ=>k_is)
  (case jK=>rfl)
  (case jE=>k_is)
  (case jH=>rfl)
  (case jC=>k_is)
  (case YZ=>k_is)
  (case YX=>k_is)
  (case wz=>k_is)
  (case wu=>k_is)
  (case wk=>k_is)
  (case wF=>k_is)
  (case wj=>k_is)
  (case vZ=>k_is)
  (case wA=>k_exc)
  (case yL=>k_is)
  (case yK=>k_is)
  (case yJ=>k_is)
  (case yN=>k_is)
  (case yI=>k_is)
  (case yG=>k_is)
  (case yM=>k_exc)
  (case ux=>k_is)
  (case ur=>k_is)
  (case uh=>k_is)
  (case uG=>k_is)
  (case uf=>k_is)
  (case tX=>k_is)
  (case uz=>k_exc)
  (case uw=>k_is)
  (case uo=>k_is)
  (case ug=>k_is)
  (case uF=>k_is)
  (case ud=>k_is)
  (case tW=>k_is)
  (case uy=>k_exc)
  (case a0=>k_is)
  (case l0=>k_is)
  (case c0=>k_is)
  (case k0=>k_is)
  (case a1=>k_is)
  (case l1=>k_is)
  (case c1=>k_is)
  (case k1=>k_is)
  (case a2=>k_is)
  (case l2=>k_is)
  (case c2=>k_is)
  (case k2=>k_is)
  (case a3=>k_is)
  (case l3=>k_is)
  (case c3=>k_is)
  (case k3=>k_is)
  (case a4=>k_is)
  (case l4=>k_is)
  (case c4=>k_is)
  (case k4=>k_is)
  (case a5=>k_is)
  (case l5=>k_is)
  (case c5=>k_is)
  (case k5=>k_is)
  (case a6=>k_is)
  (case l6=>k_is)
  (case c6=>k_is)
  (case k6=>k_is)
  (case a7=>k_is)
  (case l7=>k_is)
  (case c7=>k_is)
  (case k7=>k_is)
  (case a8=>k_is)
  (case l8=>k_is)
  (case c8=>k_is)
  (case k8=>k_is)
  (case a9=>k_is)
  (case l9=>k_is)
  (case c9=>k_is)
  (case k9=>k_is)
  (case a10=>k_is)
  (case l10=>k_is)
  (case c10=>k_is)
  (case k10=>k_is)
  (case a11=>k_is)
  (case l11=>k_is)
  (case c11=>k_is)
  (case k11=>k_is)
  (case a12=>k_is)
  (case l12=>k_is)
  (case c12=>k_is)
  (case k12=>k_is)
  (case a13=>k_is)
  (case l13=>k_is)
  (case c13=>k_is)
  (case k13=>k_is)
  (case a14=>k_is)
  (case l14=>k_is)
  (case c14=>k_is)
  (case k14=>k_is)
  (case a15=>k_is)
  (case l15=>k_is)
  (case c15=>k_is)
  (case k15=>k_is)
  (case a16=>k_is)
  (case l16=>k_is)
  (case c16=>k_is)
  (case k16=>k_is)
  (case a17=>k_is)
  (case l17=>k_is)
  (case c17=>k_is)
  (case k17=>k_is)
  (case a18=>k_is)
  (case l18=>k_is)
  (case c18=>k_is)
  (case k18=>k_is)
  (case a19=>k_is)
  (case l19=>k_is)
  (case c19=>k_is)
  (case k19=>k_is)
  (case a20=>k_is)
  (case l20=>k_is)
  (case c20=>k_is)
  (case k20=>k_is)
  (case a21=>k_is)
  (case l21=>k_is)
  (case c21=>k_is)
  (case k21=>k_is)
  (case a22=>k_is)
  (case l22=>k_is)
  (case c22=>k_is)
  (case k22=>k_is)
  (case a23=>k_is)
  (case l23=>k_is)
  (case c23=>k_is)
  (case k23=>k_is)
  (case a24=>k_is)
  (case l24=>k_is)
  (case c24=>k_is)
  (case k24=>k_is)
  (case a25=>k_is)
  (case l25=>k_is)
  (case c25=>k_is)
  (case k25=>k_is)
  (case a26=>k_is)
  (case l26=>k_is)
  (case c26=>k_is)
  (case k26=>k_is)
  (case a27=>k_is)
  (case l27=>k_is)
  (case c27=>k_is)
  (case k27=>k_is)
  (case a28=>k_is)
  (case l28=>k_is)
  (case c28=>k_is)
  (case k28=>k_is)
  (case a29=>k_is)
  (case l29=>k_is)
  (case c29=>k_is)
  (case k29=>k_is)
  (case a30=>k_is)
  (case l30=>k_is)
  (case c30=>k_is)
  (case k30=>k_is)
  (case a31=>k_is)
  (case l31=>k_is)
  (case c31=>k_is)
  (case k31=>k_is)
  (case a32=>k_is)
  (case l32=>k_is)
  (case c32=>k_is)
  (case Y_=>k_is)
  (case Zi=>k_is)
  (case a33=>k_is)
  (case l33=>k_is)
  (case c33=>k_is)
  (case Y9=>k_is)
  (case Zh=>k_is)
  (case a34=>k_is)
  (case l34=>k_is)
  (case c34=>k_is)
  (case k34=>k_is)
  (case a35=>k_is)
  (case l35=>k_is)
  (case c35=>k_is)
  (case k35=>k_is)
  (case a36=>k_is)
  (case l36=>k_is)
  (case c36=>k_is)
  (case k36=>k_is)
  (case a37=>k_is)
  (case l37=>k_is)
  (case c37=>k_is)
  (case k37=>k_is)
  (case a38=>k_is)
  (case l38=>k_is)
  (case c38=>k_is)
  (case k38=>k_is)
  (case a39=>k_is)
  (case l39=>k_is)
  (case c39=>k_is)
  (case k39=>k_is)
  (case a40=>k_is)
  (case l40=>k_is)
  (case c40=>k_is)
  (case k40=>k_is)
  (case a41=>k_is)
  (case l41=>k_is)
  (case c41=>k_is)
  (case k41=>k_is)
  (case a42=>k_is)
  (case l42=>k_is)
  (case c42=>k_is)
  (case k42=>k_is)
  (case a43=>k_is)
  (case l43=>k_is)
  (case c43=>k_is)
  (case k43=>k_is)
  (case rO=>k_is)
  (case Pk=>k_is)
  (case Js=>k_is)
  (case Jr=>k_is)
  (case Pj=>k_is)
  (case rN=>k_is)
  (case Ph=>k_is)
  (case Jq=>k_is)
  (case Pg=>k_is)
  (case Pb=>k_is)
  (case Fx=>k_is)
  (case Pa=>k_is)
  (case Fw=>k_is)
  (case O_=>k_is)
#print axioms PySem.Challenge.cw_fewnotes_k97_records_refused_at_each_doo_holds
