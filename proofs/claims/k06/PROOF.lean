import PyProof.Rows.All
import Wide.All
import OpenK.AllK
import Wide.FinOn
import Lean
import PyProof.EqAt
import PyProof.EqKinds
import PyProof.TupleCall
import PyProof.EqLayable
import PyProof.ExcArgsOwn
import PyProof.ExcAttrAll.Exception
import PyProof.RulesAs
import PyProof.ExcBaseAll.ValueError
import PyProof.NsDelKeeps
import KE.KRevSl
import OpenK.KOps
import OpenK.KWalk
import PyProof.TupleIter
import PyProof.ZipIter
import PyProof.ExcClass3
import PyProof.InstStoreFacts
import PyProof.Draws
import PyProof.EnumMake
import KE.KTab
import PyProof.StrLawsIn
import PyProof.StrBlock2
import PyProof.StrLawsIdx
import PySem.Challenge.RW_fewnotes_k06_two_faults
set_option Elab.async false
set_option linter.all false
set_option maxRecDepth 100000
namespace L2
open PySem PySem.Spec PyProof.Rows
abbrev Key:=Sum Int Str
def Zg:Key->Value->Bool
 | .inl k,v=>Value.isInt k v
 | .inr x,v=>Value.isStrOf x v
def aiq (w:World):Key->Int
 | .inl k=>hashInt k
 | .inr x=>hashStr w x
theorem eE:∀{k:Key} {v:Value},Zg k v=true->(∃i t,k=Sum.inl i/\v=Value.int i t)\/(∃x t,k=Sum.inr x/\v=Value.str x t)
 | .inl i,v,h=>by
   obtain ⟨t,e⟩:=Value.isInt_shape (k:=i) (v:=v) h;exact .inl ⟨i,t,rfl,e⟩
 | .inr x,v,h=>by
   obtain ⟨t,e⟩:=Value.isStrOf_shape (x:=x) (v:=v) h;exact .inr ⟨x,t,rfl,e⟩
theorem aaH (a b:Int):decide ((Sum.inl a:Key)=Sum.inl b)=(a==b):=by
 by_cases e:a=b
 ·subst e;simp
 ·have h:¬(Sum.inl a:Key)=Sum.inl b:=fun q=>e (Sum.inl.inj q)
  rw [decide_eq_false h];exact (beq_eq_false_iff_ne.mpr e).symm
theorem aaE (a b:Str):decide ((Sum.inr a:Key)=Sum.inr b)=decide (a=b):=by
 by_cases e:a=b
 ·subst e;simp
 ·have h:¬(Sum.inr a:Key)=Sum.inr b:=fun q=>e (Sum.inr.inj q)
  rw [decide_eq_false h,decide_eq_false e]
theorem aaG (a:Int) (b:Str):decide ((Sum.inl a:Key)=Sum.inr b)=false:=decide_eq_false (fun q=>nomatch q)
theorem aaF (a:Str) (b:Int):decide ((Sum.inr a:Key)=Sum.inl b)=false:=decide_eq_false (fun q=>nomatch q)
def Jg (prog:Program) (w:World):PySem.KeyKind prog w Key where
 is:=Zg
 hash:=aiq w
 inj:=fun v a b ha hb=>by
  rcases eE ha with ⟨i,t,rfl,rfl⟩|⟨x,t,rfl,rfl⟩
  ·rcases eE hb with ⟨j,u,rfl,e⟩|⟨y,u,rfl,e⟩
   ·injection e with e1 _;rw [e1]
   ·exact nomatch e
  ·rcases eE hb with ⟨j,u,rfl,e⟩|⟨y,u,rfl,e⟩
   ·exact nomatch e
   ·injection e with e1 _;rw [e1]
 byValue:=fun k v h=>by
  rcases eE h with ⟨i,t,rfl,rfl⟩|⟨x,t,rfl,rfl⟩<;>rfl
 pyHash:=fun hv h=>by
  rcases eE hv with ⟨i,t,rfl,rfl⟩|⟨x,t,rfl,rfl⟩
  ·exact wpAny_pyHash_int h
  ·exact wpAny_pyHash_str h
 eqBool:=fun hu hv h=>by
  rcases eE hu with ⟨i,t,rfl,rfl⟩|⟨x,t,rfl,rfl⟩
  ·rcases eE hv with ⟨j,u,rfl,rfl⟩|⟨y,u,rfl,rfl⟩
   ·rw [aaH] at h;exact wpAny_eqBool_int h
   ·rw [aaG] at h;exact SeqAt.EqAt.int_str i t y u _ _ _ _ h
  ·rcases eE hv with ⟨j,u,rfl,rfl⟩|⟨y,u,rfl,rfl⟩
   ·rw [aaF] at h;exact SeqAt.EqAt.str_int x t j u _ _ _ _ h
   ·rw [aaE] at h;exact wpAny_eqBool_str h
 «strs» :=fun k x t v h=>by
  rcases eE h with ⟨i,u,rfl,e⟩|⟨y,u,rfl,e⟩
  ·exact nomatch e
  ·injection e with e1 _
   subst e1;cases v<;>rfl
end L2
namespace L2
open PySem PySem.Spec PyProof.Rows
inductive V where
 | non|bl (b:Bool)|int (i:Int)|str (x:Str)|Lg (b:Array UInt8)|flt (b:UInt64)|ref (a:Addr)|ty (n:String)
 deriving DecidableEq
def RelV:V->Value->Prop
 | .non,u=>u=Value.none
 | .bl b,u=>u=Value.bool b
 | .int i,u=>∃t,u=Value.int i t
 | .str x,u=>∃t,u=Value.str x t
 | .Lg b,u=>∃t,u=Value.bytes b t
 | .flt b,u=>∃t,u=Value.float b t
 | .ref a,u=>u=Value.ref a
 | .ty n,u=>u=Value.type n
abbrev Vals:List V->List Value->Prop:=Paired RelV
theorem Vals.length {xs:List V} {us:List Value} (r:Vals xs us):xs.length=us.length:=Paired.length r
theorem Vals.get:∀{xs:List V} {us:List Value} {i:Nat} {x:V},Vals xs us->xs[i]? = some x -> ∃u,us[i]? = some u/\RelV x u
 | _,_,_,_,.nil,e=>by simp at e
 | _,_,0,_,.cons r _,e=>by simp at e;subst e;exact ⟨_,rfl,r⟩
 | _,_,i+1,x,.cons _ t,e=>by
   obtain ⟨u,h1,h2⟩:=Vals.get (i:=i) (x:=x) t (by simpa using e);exact ⟨u,by simpa using h1,h2⟩
theorem Vals.set {x:V} {u:Value} (r:RelV x u):∀{xs:List V} {us:List Value} (i:Nat),Vals xs us->Vals (xs.set i x) (us.set i u)
 | _,_,_,.nil=> .nil
 | _,_,0,.cons _ t=> .cons r t
 | _,_,i+1,.cons q t=> .cons q (Vals.set r i t)
theorem Vals.append {xs ys:List V} {us ws:List Value} (h:Vals xs us) (s:Vals ys ws):Vals (xs++ys) (us++ws):=by
 induction h with
 | nil=>exact s
 | cons r t ih=>exact .cons r ih
theorem Vals.take:∀{xs:List V} {us:List Value} (n:Nat),Vals xs us->Vals (xs.take n) (us.take n)
 | _,_,0,_=> .nil
 | _,_,_+1,.nil=> .nil
 | _,_,n+1,.cons r t=> .cons r (Vals.take n t)
theorem Vals.drop:∀{xs:List V} {us:List Value} (n:Nat),Vals xs us->Vals (xs.drop n) (us.drop n)
 | _,_,0,r=>r
 | _,_,_+1,.nil=> .nil
 | _,_,n+1,.cons _ t=>Vals.drop n t
def Lr:Option V->Option Value->Prop
 | some v,some u=>RelV v u
 | none,none=>True
 | _,_=>False
def KV {κ:Type}:List (κ×V)->List (κ×Value)->Prop:=Paired fun (p:κ×V) (q:κ×Value)=>p.1=q.1/\RelV p.2 q.2
def kV:Key->V
 | .inl i=> .int i
 | .inr x=> .str x
inductive HO where
 | lst (xs:List V)
 | tup (xs:List V)
 | dK (kvs:List (Key×V))|dT (kvs:List (List Key×V))
 | set (S:Int->Bool) (n:Nat)
 | ins (C dx:Addr) (fs:List (Str×V))
 | own (x:Addr)
 | xd (fs:List (Str×V))
 | met (f x:Addr)
 | rng (lo hi:Int)
 | K5 (o:Obj) (u:HO)
 | Y4 (ps:Array Value)
 | ext (φ:Heap->Prop)
abbrev Hp:=Addr->Option HO
def upd (H:Hp) (a:Addr) (o:HO):Hp:=fun b=>if b=a then some o else H b
theorem aq {H:Hp} {a:Addr} {o:HO}:upd H a o a=some o:=by unfold upd;rw [if_pos rfl]
theorem aW {H:Hp} {a b:Addr} {o:HO} (h:b≠a):upd H a o b=H b:=by unfold upd;rw [if_neg h]
theorem KD {H:Hp} {a b:Addr} {o u:HO} (h:H a=some o) (h':H b=some u) (d:o≠u):a≠b:=by
 intro e;subst e;rw [h] at h';exact d (Option.some.inj h')
theorem bw {H:Hp} {a b:Addr} {o:HO} (h:H a=some o) (h':H b=none):a≠b:=by
 intro e;subst e;rw [h] at h';cases h'
section
variable (P:Program) (w:World)
def eO (H:Hp) (h:Heap) (a:Addr):HO->Prop
 | .lst xs=>xs.length<=sizeLine /\ ∃(its:List Value) (n:Nat),Vals xs its/\h.get? a=some {cls:= .type "list",data:= .seq its.toArray n}
 | .tup xs=>xs.length<=sizeLine /\ ∃its:List Value,Vals xs its/\IsTup h a its.toArray
 | .dK kvs=>kvs.length<=sizeLine/\(a==sysModules)=false /\ ∃vs,KV kvs vs/\h.DictOf (Jg P w) a vs
 | .dT kvs=>kvs.length<=sizeLine/\(a==sysModules)=false /\ ∃xs:List (List Key×Addr×Value),
    Paired (fun (p:List Key×V) (q:List Key×Addr×Value)=>p.1=q.1/\H q.2.1=some (.tup (p.1.map kV))/\RelV p.2 q.2.2) kvs xs /\
    ∃o es ep,h.get? a=some o/\o.ExactDict/\o.data = .dict es ep/\es.toList=xs.map (entryOfKey (tupleKind (Jg P w)))/\(xs.map (·.1)).Nodup
 | .set S n=>h.SetOf (intKind P w) a S n
 | .ins C dx fs=>H dx=some (.own a)/\fs.length<=1000/\dx≠a/\h.get? a=some (PySem.W.instObj C dx) /\
    ∃mA,h.Ns1 dx mA/\(∀f,Lr (fs.lookup f) (mA f))/\PySem.Within mA (fs.map (·.1))
 | .own _=>∃o,h.get? a=some o
 | .xd fs=>∃mA,h.Ns1 a mA /\ ∀f,Lr (fs.lookup f) (mA f)
 | .rng lo hi=>∃t u v,h.get? a=some {cls:= .type "range",data:= .fields #[.int lo t,.int hi u,.int 1 v]}
 | .K5 o u=>h.get? a=some o/\eO H h a u
 | .Y4 ps=>h.get? a=some {cls:= .none,data:= .fields ps}
 | .met f x=>h.get? a=some (PySem.W.methodObj (.ref f) (.ref x))
 | .ext φ=>φ h/\(∃o,h.get? a=some o) /\ ∀h1 h2:Heap,φ h1->(∀o,h1.get? a=some o->h2.get? a=some o)->φ h2
def Ck (H:Hp) (h:Heap):Prop:=∀a o,H a=some o->eO P w H h a o
end
section
variable {P:Program} {w:World} {H H':Hp} {h h':Heap} {a:Addr} {o:HO}
theorem eO.lt (x:eO P w H h a o):a<h.objs.size:=by
 cases o with
 | lst xs=>obtain ⟨_,_,_,_,e⟩:=x;exact Heap.lt_size e
 | tup xs=>obtain ⟨_,_,_,p⟩:=x;exact p.lt
 | dK kvs=>obtain ⟨_,_,_,_,o,_,_,e,_⟩:=x;exact Heap.lt_size e
 | dT kvs=>obtain ⟨_,_,_,_,o,_,_,e,_⟩:=x;exact Heap.lt_size e
 | set S n=>obtain ⟨o,_,_,_,e,_⟩:=x;exact Heap.lt_size e
 | ins C dx fs=>obtain ⟨_,_,_,e,_⟩:=x;exact Heap.lt_size e
 | own y=>obtain ⟨_,e⟩:=x;exact Heap.lt_size e
 | xd fs=>obtain ⟨_,⟨_,_,_,e,_⟩,_⟩:=x;exact Heap.lt_size e
 | rng lo hi=>obtain ⟨_,_,_,e⟩:=x;exact Heap.lt_size e
 | K5 ob u=>obtain ⟨e,_⟩:=x;exact Heap.lt_size e
 | Y4 ps=>exact Heap.lt_size (show h.get? a=some _ from x)
 | met f y=>exact Heap.lt_size (show h.get? a=some _ from x)
 | ext φ=>obtain ⟨_,⟨_,e⟩,_⟩:=x;exact Heap.lt_size e
theorem Paired.ahT {α β:Type} {F G:α->β->Prop}:∀{l₁:List α} {l₂:List β},Paired F l₁ l₂->(∀a b,F a b->G a b)->Paired G l₁ l₂
 :=by
 intro l₁ l₂ h f
 induction h with
 | nil=>exact .nil
 | cons r t ih=>exact .cons (f _ _ r) ih
theorem eO.stay (x:eO P w H h a o) (k:∀b u,(b=a\/H b=some (.own a))->h.get? b=some u->h'.get? b=some u)
 (ho:∀b,H b=some (.own a)->H' b=some (.own a)) (ht:∀b xs,H b=some (.tup xs)->H' b=some (.tup xs)):eO P w H' h' a o:=by
 induction o with
 | lst xs=>obtain ⟨z,its,n,r,e⟩:=x;exact ⟨z,its,n,r,k _ _ (.inl rfl) e⟩
 | tup xs=>obtain ⟨z,its,r,ob,e,c⟩:=x;exact ⟨z,its,r,ob,k _ _ (.inl rfl) e,c⟩
 | dK kvs=>obtain ⟨z,y,vs,r,ob,es,ep,e,c⟩:=x;exact ⟨z,y,vs,r,ob,es,ep,k _ _ (.inl rfl) e,c⟩
 | dT kvs=>
   obtain ⟨z,y,xs,r,ob,es,ep,e,c⟩:=x;exact ⟨z,y,xs,Paired.ahT r fun p q z=>⟨z.1,ht _ _ z.2.1,z.2.2⟩,ob,es,ep,k _ _ (.inl rfl) e,c⟩
 | set S n=>obtain ⟨ob,es,ep,t,e,c⟩:=x;exact ⟨ob,es,ep,t,k _ _ (.inl rfl) e,c⟩
 | ins C dx fs=>
   obtain ⟨d,z,ne,e,mA,⟨od,es,ep,e2,c⟩,r⟩:=x;exact ⟨ho _ d,z,ne,k _ _ (.inl rfl) e,mA,⟨od,es,ep,k _ _ (.inr d) e2,c⟩,r⟩
 | own y=>obtain ⟨ob,e⟩:=x;exact ⟨ob,k _ _ (.inl rfl) e⟩
 | xd fs=>obtain ⟨mA,⟨od,es,ep,e,c⟩,r⟩:=x;exact ⟨mA,⟨od,es,ep,k _ _ (.inl rfl) e,c⟩,r⟩
 | rng lo hi=>obtain ⟨t,u,v,e⟩:=x;exact ⟨t,u,v,k _ _ (.inl rfl) e⟩
 | K5 ob u ih=>obtain ⟨e,q⟩:=x;exact ⟨k _ _ (.inl rfl) e,ih q⟩
 | Y4 ps=>
   have e:h.get? a=some {cls:= .none,data:= .fields ps}:=x;show h'.get? a=some {cls:= .none,data:= .fields ps};exact k a _ (.inl rfl) e
 | met f y=>
   have e:h.get? a=some (PySem.W.methodObj (.ref f) (.ref y)):=x;show h'.get? a=some (PySem.W.methodObj (.ref f) (.ref y));exact k a _ (.inl rfl) e
 | ext φ=>obtain ⟨p,⟨o,e⟩,st⟩:=x;exact ⟨st _ _ p fun o q=>k _ _ (.inl rfl) q,⟨o,k _ _ (.inl rfl) e⟩,st⟩
theorem Ck.lt (x:Ck P w H h) (e:H a=some o):a<h.objs.size:=(x a o e).lt
theorem Ck.fresh (x:Ck P w H h) (e:h.objs.size<=a):H a=none:=by
 cases q:H a with
 | none=>rfl
 | some u=>exact absurd (Nat.lt_of_lt_of_le (x.lt q) e) (Nat.lt_irrefl _)
theorem Ck.kept (x:Ck P w H h) (k:∀b u,h.get? b=some u->h'.get? b=some u):Ck P w H h':=fun a o e=>
 (x a o e).stay (fun b u _ q=>k b u q) (fun _ q=>q) fun _ _ q=>q
theorem Ck.laid (x:Ck P w H h) (k:∀b u,h.get? b=some u->h'.get? b=some u) (hp:h.objs.size<=a) (new:eO P w (upd H a o) h' a o):Ck P w (upd H a o) h':=fun b u e=>by
 have hn:=x.fresh hp
 by_cases hb:b=a
 ·subst hb;rw [aq] at e;cases e;exact new
 ·rw [aW hb] at e
  exact (x b u e).stay (fun c v _ q=>k c v q) (fun c q=>by rw [aW (bw q hn)];exact q) fun c xs q=>by rw [aW (bw q hn)];exact q
end
def Rd (H:Hp) (a:Addr) (u:HO):Prop:=H a=some u \/ ∃o,H a=some (.K5 o u)
theorem Rd.ok {P:Program} {w:World} {H:Hp} {h:Heap} {a:Addr} {u:HO} (r:Rd H a u) (x:Ck P w H h):eO P w H h a u:=by
 rcases r with r|⟨o,r⟩
 ·exact x a u r
 ·obtain ⟨_,q⟩:=x a _ r
  exact q
def Mut:Option HO->Prop
 | some (.lst _)=>True
 | some (.dK _)=>True
 | some (.dT _)=>True
 | some (.set _ _)=>True
 | some (.ins _ _ _)=>True
 | some (.ext _)=>True
 | _=>False
section
variable {P:Program} {w:World} {H:Hp} {h h':Heap} {x e:Addr} {o':HO}
theorem Ck.write (ok:Ck P w H h) (mu:Mut (H x)) (he:e=x\/H e=some (.own x)) (k:∀b u,b≠e->h.get? b=some u->h'.get? b=some u) (heo:∃u,h'.get? e=some u)
 (new:eO P w (upd H x o') h' x o'):Ck P w (upd H x o') h':=fun b u q=>by
 have acs:∀c y,H c=some (.own y)->c≠x:=fun c y r z=>by subst z;rw [r] at mu;exact mu
 have ahM:∀c xs,H c=some (.tup xs)->c≠x:=fun c xs r z=>by subst z;rw [r] at mu;exact mu
 by_cases hb:b=x
 ·subst hb;rw [aq] at q;cases q;exact new
 ·rw [aW hb] at q
  by_cases hbe:b=e
  ·have q':H b=some (.own x):=by
    rcases he with z|z
    ·exact absurd (hbe.trans z) hb
    ·rw [hbe];exact z
   rw [q] at q';cases q';obtain ⟨v,hv⟩:=heo;exact ⟨v,by rw [hbe];exact hv⟩
  ·refine (ok b u q).stay (fun c v hc r=>k c v ?_ r) (fun c r=>by rw [aW (acs c b r)];exact r) fun c xs r=>by rw [aW (ahM c xs r)];exact r
   rcases hc with rfl|hc
   ·exact hbe
   ·rintro rfl
    rcases he with z|z
    ·exact acs c b hc z
    ·rw [hc] at z;cases z;exact hb rfl
end
structure Un (fs ex:List Addr) (H H':Hp) (h h':Heap):Prop where
 keep:∀b o,h.get? b=some o->H b=none->b∉fs->b∉ex->h'.get? b=some o
 slot:∀b o,h.get? b=some o->H b=none->b∈fs->b∉ex -> ∃sl,h'.get? b=some {o with slots:=sl}
 free:∀b o,h.get? b=some o->H b=none->b∉ex->H' b=none
 there:∀b o,h.get? b=some o->b∉ex -> ∃o',h'.get? b=some o'
 tups:∀b xs,H b=some (.tup xs)->H' b=some (.tup xs)
 zO:∀b o u,H b=some (.K5 o u)->H' b=some (.K5 o u)
 Ax:∀b ps,H b=some (.Y4 ps) -> ∃more,H' b=some (.Y4 (ps++more))
section
variable {fs fs' ex ex':List Addr} {H H1 H2:Hp} {h h1 h2 h':Heap} {a x e:Addr} {o:HO}
theorem Un.any (u:Un fs ex H H1 h h1) {b:Addr} {ob:Obj} (q:h.get? b=some ob) (n:H b=none) (hx:b∉ex):∃sl,h1.get? b=some {ob with slots:=sl}:=by
 by_cases hb:b∈fs
 ·exact u.slot b ob q n hb hx
 ·exact ⟨ob.slots,u.keep b ob q n hb hx⟩
theorem Un.kept (k:∀b u,h.get? b=some u->h'.get? b=some u):Un fs ex H H h h':=
 ⟨fun b ob q _ _ _=>k b ob q,fun b ob q _ _ _=>⟨ob.slots,k b ob q⟩,fun _ _ _ n _=>n,fun b ob q _=>⟨ob,k b ob q⟩,fun _ _ q=>q,fun _ _ _ q=>q,fun _ ps q=>⟨#[],by rw [q];simp⟩⟩
theorem Un.refl:Un fs ex H H h h:=Un.kept fun _ _ q=>q
theorem Un.laid (k:∀b u,h.get? b=some u->h'.get? b=some u) (hp:h.objs.size<=a) (hn:H a=none):Un fs ex H (upd H a o) h h' where
 keep:=fun b u q _ _ _=>k b u q
 slot:=fun b u q _ _ _=>⟨u.slots,k b u q⟩
 free:=fun b u q n _=>by rw [aW (Nat.ne_of_lt (Nat.lt_of_lt_of_le (Heap.lt_size q) hp))];exact n
 there:=fun b u q _=>⟨u,k b u q⟩
 tups:=fun b xs q=>by rw [aW (bw q hn)];exact q
 zO:=fun b u xs q=>by rw [aW (bw q hn)];exact q
 Ax:=fun b ps q=>⟨#[],by rw [aW (bw q hn),q];simp⟩
theorem Un.write (mu:Mut (H x)) (he:e=x\/H e=some (.own x)) (k:∀b u,b≠e->h.get? b=some u->h'.get? b=some u) (heo:∃u,h'.get? e=some u):Un fs ex H (upd H x o) h h':=by
 have hx:∀b,H b=none->b≠x:=fun b n z=>by subst z;rw [n] at mu;exact mu
 have hb:∀b,H b=none->b≠e:=fun b n z=>by
  subst z;rcases he with r|r
  ·exact hx b n r
  ·rw [n] at r;cases r
 have hm:∀b u,H b=some u -> ¬Mut (some u)->b≠x:=fun b u q nm z=>by subst z;rw [q] at mu;exact nm mu
 refine ⟨fun b u q n _ _=>k b u (hb b n) q,fun b u q n _ _=>⟨u.slots,k b u (hb b n) q⟩,fun b u q n _=>by rw [aW (hx b n)];exact n,fun b u q _=> ?_,
  fun b xs q=>by rw [aW (hm b _ q fun z=>z)];exact q,fun b u xs q=>by rw [aW (hm b _ q fun z=>z)];exact q,fun b ps q=>⟨#[],by rw [aW (hm b _ q fun z=>z),q];simp⟩⟩
 by_cases hbe:b=e
 ·subst hbe;exact heo
 ·exact ⟨u,k b u hbe q⟩
end
def Wx (h:Heap) (H:Hp):List Addr:=(List.range h.objs.size).filter fun a=>(H a).isSome
def Jo (h:Heap) (H:Hp):Heap:=PySem.W.hideAll h (Wx h H)
theorem Ra (h:Heap) (H:Hp):(Jo h H).objs.size=h.objs.size:=PySem.W.hideAll_size _ _
theorem U8 {h:Heap} {H:Hp} {b:Addr} {o:Obj} (e:h.get? b=some o) (n:H b=none):(Jo h H).get? b=some o:=
 PySem.W.hideAll_get _ e fun hm=>by
  have q:(H b).isSome=true:=(List.mem_filter.mp hm).2;rw [n] at q;simp at q
theorem X_ {h:Heap} {H:Hp} {b:Addr} {o:Obj} (e:(Jo h H).get? b=some o):h.get? b=some o/\H b=none:=by
 have e':h.get? b=some o:=PySem.W.of_hideAll (Wx h H) e;refine ⟨e', ?_⟩;cases q:H b with
 | none=>rfl
 | some x=>
   have hm:b∈Wx h H:=List.mem_filter.mpr ⟨List.mem_range.mpr (Heap.lt_size e'),by simp [q]⟩;have z:(Jo h H).get? b=none:=PySem.W.hideAll_none (Wx h H) hm;rw [z] at e;cases e
def YH (g h:Heap) (L:Addr):List (Addr×Obj):=(List.range h.objs.size).filterMap fun a=>if a=L\/(g.get? a).isSome=true then none else (h.get? a).map fun o=>(a,o)
def rest (g h:Heap) (L d:Addr):List (Addr×Obj):=(YH g h L).filter fun p=>decide (p.1≠d)
end L2
namespace L2
open PySem PySem.Spec PyProof.Rows
structure Mod (K:PySem.W.Frag) (mg:Str->Option Value) (base:Heap):Prop where
 kin:K.In base
 glob:base.Ns mainGlobals mg
 blt:∃mb,base.Ns builtinsNs mb /\ ∀x:Str,x ≠ "__name__" -> mb x=bootBuiltins x
 nolimit:base.NoLimit
structure Cx where
 prog:Program
 w:World
 K:PySem.W.Frag
 mg:Str->Option Value
 base:Heap
 A:Around
 N:List Str
 s₀:Shared
 H₀:Hp
 env:Env
 outer:List Env
 stack:List Env
 ex:List Addr
 fn:Str->Bool
 calm:Bool
 pn:List (Addr×Obj)
 xe:Value->Shared->Prop
def frs (l:List Env):List Addr:=l.filterMap (·.frame)
abbrev Cx.fs (X:Cx):List Addr:=frs X.outer
def Vis (sc:Scope) (x:Str):Prop:=sc.names.lookup x=some .local\/sc.names.lookup x=some .cell\/sc.names.lookup x=some .free
def Loc (sc:Scope) (x:Str):Prop:=sc.names.lookup x=some .local\/sc.names.lookup x=some .cell
def Look (env:Env) (h:Heap) (m:Str->Option Value) (x:Str) (u:Value):Prop:=
 (env.kindOf x=some .local/\m x=some u)\/((env.kindOf x=some .cell\/env.kindOf x=some .free) /\ ∃c,env.cells.lookup x=some c/\h.IsCell c (some u))
structure Cx.Ok (X:Cx):Prop where
 mod:Mod X.K X.mg X.base
 kind:X.env.scope.kind = .function
 glob:X.env.globals=mainGlobals
 blt:X.env.builtins=builtinsNs
 above:X.s₀.heap.objs.size<=X.env.locals
 inj:∀x y c,X.env.cells.lookup x=some c->X.env.cells.lookup y=some c->x=y
 has:∀x,(X.env.kindOf x=some .cell\/X.env.kindOf x=some .free) -> ∃c,X.env.cells.lookup x=some c
 cab:∀x c,X.fn x=true->X.env.cells.lookup x=some c->X.s₀.heap.objs.size<=c
 hd:X.calm=true->X.A.handled=none
 frames:X.A.frames=some X.stack
 stk:X.stack=X.outer\/(X.stack=X.env::X.outer/\X.env.frame=some X.env.locals)
 exf:∀b∈X.ex,b≠X.env.locals /\ ∀x c,X.env.cells.lookup x=some c->c≠b
 bs:∀b o,X.base.get? b=some o->X.s₀.heap.get? b=some o/\X.H₀ b=none
 Ru:X.base.objs.size<=X.s₀.heap.objs.size
 Je:∀b o,X.base.get? b=some o->b∉X.ex
 K8:∀b∈X.ex,b∉X.fs
 wK:X.s₀.heap.FunFrames X.base X.outer
 Vb:∀b∈X.fs,X.H₀ b=none
structure Inv (X:Cx) (pins:List (Addr×Obj)) (σ:List (Option V)) (H:Hp) (s:Shared):Prop where
 ok:X.Ok
 os:s.os=X.s₀.os
 bare:AllBare s.gens
 base:Un X.fs X.ex X.H₀ H X.s₀.heap s.heap
 loc:∃m,s.heap.Ns X.env.locals m /\ ∀(i:Nat) (x:Str) (v:V),X.N[i]? = some x->σ[i]? = some (some v)->Vis X.env.scope x -> ∃u,RelV v u/\Look X.env s.heap m x u
 cell:∀x c,X.env.cells.lookup x=some c -> ∃v,s.heap.IsCell c v
 free:H X.env.locals=none
 mq:∀x c,X.env.cells.lookup x=some c->H c=none
 pin:∀p∈X.pn++pins,s.heap.get? p.1=some p.2/\H p.1=none/\p.1≠X.env.locals/\p.1∉X.fs /\ ∀v,p.2.data ≠ .cell v
 hok:Ck X.prog X.w H s.heap
 len:σ.length=X.N.length
section
variable {X:Cx} {pins:List (Addr×Obj)} {σ:List (Option V)} {H H':Hp} {s:Shared} {h':Heap}
theorem Cx.Ok.ahO (ok:X.Ok) {b:Addr} {o:Obj} (e:X.base.get? b=some o):b∉X.fs:=fun hb=>by
 have:=(ok.wK.mem hb).1;rw [e] at this;cases this
theorem Inv.bs (I:Inv X pins σ H s):∀b o,X.base.get? b=some o->s.heap.get? b=some o/\H b=none:=fun b o e=>
 ⟨I.base.keep b o (I.ok.bs b o e).1 (I.ok.bs b o e).2 (I.ok.ahO e) (I.ok.Je b o e),I.base.free b o (I.ok.bs b o e).1 (I.ok.bs b o e).2 (I.ok.Je b o e)⟩
theorem Inv.bk (I:Inv X pins σ H s):∀b o,X.base.get? b=some o->s.heap.get? b=some o:=fun b o e=>(I.bs b o e).1
theorem Inv.mod (I:Inv X pins σ H s):Mod X.K X.mg X.base:=I.ok.mod
theorem Inv.xR (I:Inv X pins σ H s):X.K.In s.heap:=I.ok.mod.kin.keeps I.bk
theorem Inv.lt (I:Inv X pins σ H s):X.env.locals<s.heap.objs.size:=let ⟨_,hn,_⟩:=I.loc;hn.lt
theorem Inv.sz (I:Inv X pins σ H s):X.s₀.heap.objs.size<=s.heap.objs.size:=Nat.le_trans I.ok.above (Nat.le_of_lt I.lt)
theorem Inv.ahN (I:Inv X pins σ H s) {a:Addr} (h:s.heap.objs.size<=a):a∉X.fs:=fun hb=>by
 obtain ⟨_,o,ho,_⟩:=I.ok.wK.mem hb;exact absurd (Nat.lt_of_lt_of_le (Heap.lt_size ho) (Nat.le_trans I.sz h)) (Nat.lt_irrefl _)
theorem Inv.ZD (I:Inv X pins σ H s):∀x c,X.env.cells.lookup x=some c->c≠X.env.locals:=fun x c e z=>by
 obtain ⟨v,o,ho,hd⟩:=I.cell x c e;obtain ⟨m,⟨o',es,ep,ho',hd',_⟩,_⟩:=I.loc;rw [z,ho'] at ho;cases ho;rw [hd'] at hd;cases hd
theorem Inv.wK (I:Inv X pins σ H s):s.heap.FunFrames X.base X.outer:=by
 have all:∀(l:List Env),(∀b∈frs l,b∈X.fs)->X.s₀.heap.FunFrames X.base l->s.heap.FunFrames X.base l:=by
  intro l
  induction l with
  | nil=>intro _ _;trivial
  | cons env r ih=>
    intro hs hl;obtain ⟨hk,⟨L,o,hf,hn,ho,hd⟩,hr⟩:=hl;have hL:L∈X.fs:=hs L (by unfold frs;rw [List.filterMap_cons,hf];exact List.mem_cons_self);obtain ⟨sl,e⟩:=I.base.slot L o ho (I.ok.Vb L hL) hL fun z=>I.ok.K8 L z hL;exact ⟨hk,⟨L,_,hf,hn,e,hd⟩,ih (fun b hb=>hs b (by unfold frs;rw [List.filterMap_cons,hf];exact List.mem_cons_of_mem _ hb)) hr⟩
 exact all X.outer (fun _ hb=>hb) I.ok.wK
theorem Inv.stack (I:Inv X pins σ H s):s.heap.FunFrames X.base X.stack:=by
 rcases I.ok.stk with e|⟨e,hf⟩
 ·rw [e];exact I.wK
 ·rw [e]
  obtain ⟨m,hn,_⟩:=I.loc;refine .cons (by rw [I.ok.kind];decide) hf hn ?_ I.wK;exact Heap.get?_none_of_le (Nat.le_trans I.ok.Ru I.ok.above)
theorem Inv.Eb (I:Inv X pins σ H s):∀b∈frs X.stack,b∈X.env.locals::X.fs:=fun b hb=>by
 rcases I.ok.stk with e|⟨e,hf⟩
 ·rw [e] at hb;exact List.mem_cons_of_mem _ hb
 ·rw [e] at hb
  unfold frs at hb;rw [List.filterMap_cons,hf] at hb;exact hb
theorem Inv.Ia (I:Inv X pins σ H s):∀b∈frs X.stack,H b=none:=fun b hb=>by
 rcases List.mem_cons.mp (I.Eb b hb) with e|hb
 ·rw [e];exact I.free
 ·obtain ⟨_,o,ho,_⟩:=I.ok.wK.mem hb
  exact I.base.free b o ho (I.ok.Vb b hb) fun z=>I.ok.K8 b z hb
theorem Inv.step {g':Array GenState} {t':Nat} {d':Drawn} {ch:List Addr} (I:Inv X pins σ H s)
 (hch:∀b∈ch,(b∈X.ex\/X.s₀.heap.objs.size<=b)/\b≠X.env.locals/\(∀x c,X.env.cells.lookup x=some c->c≠b) /\ ∀p∈X.pn++pins,p.1≠b)
 (keep:∀b o,b≠X.env.locals->b∉X.fs->b∉ch->s.heap.get? b=some o->H b=none->h'.get? b=some o)
 (slot:∀b o,b≠X.env.locals->b∈X.fs->b∉ch->s.heap.get? b=some o->H b=none -> ∃sl,h'.get? b=some {o with slots:=sl}) (free:∀b o,b∉ch->s.heap.get? b=some o->H b=none->H' b=none)
 (there:∀b o,b∉ch->s.heap.get? b=some o -> ∃o',h'.get? b=some o')
 (tups:∀b xs,H b=some (.tup xs)->H' b=some (.tup xs)) (zO:∀b o u,H b=some (.K5 o u)->H' b=some (.K5 o u)) (Ax:∀b ps,H b=some (.Y4 ps) -> ∃more,H' b=some (.Y4 (ps++more)))
 (ns:∀m,s.heap.Ns X.env.locals m->h'.Ns X.env.locals m) (hok:Ck X.prog X.w H' h') (hg:AllBare g'):
 Inv X pins σ H' {s with heap:=h',gens:=g',drawn:=d',toks:=t'}:=by
 have Zc:∀b o,X.s₀.heap.get? b=some o->b≠X.env.locals:=fun b o e=>Nat.ne_of_lt (Nat.lt_of_lt_of_le (Heap.lt_size e) I.ok.above)
 have neC:∀b o,X.s₀.heap.get? b=some o->b∉X.ex->b∉ch:=fun b o e hx hb=>by
  rcases (hch b hb).1 with z|z
  ·exact hx z
  ·exact absurd (Nat.lt_of_lt_of_le (Heap.lt_size e) z) (Nat.lt_irrefl _)
 have cellK:∀x c,X.env.cells.lookup x=some c -> ∀v,s.heap.IsCell c v->h'.IsCell c v:=fun x c e v ⟨o,ho,hd⟩=>by
  have nch:c∉ch:=fun z=>(hch c z).2.2.1 x c e rfl
  by_cases hc:c∈X.fs
  ·obtain ⟨sl,q⟩:=slot c o (I.ZD x c e) hc nch ho (I.mq x c e)
   exact ⟨_,q,hd⟩
  ·exact ⟨o,keep c o (I.ZD x c e) hc nch ho (I.mq x c e),hd⟩
 refine ⟨I.ok,I.os,hg,⟨fun b o e n hb hx=> ?_,fun b o e n hb hx=> ?_,fun b o e n hx=> ?_,fun b o e hx=> ?_,fun b xs e=>tups b xs (I.base.tups b xs e),fun b o xs e=>zO b o xs (I.base.zO b o xs e),fun b ps e=> ?_⟩, ?_,fun x c e=> ?_, ?_,fun x c e=> ?_,fun p hp=> ?_,hok,I.len⟩
 ·exact keep b o (Zc b o e) hb (neC b o e hx) (I.base.keep b o e n hb hx) (I.base.free b o e n hx)
 ·obtain ⟨sl,e1⟩:=I.base.slot b o e n hb hx
  obtain ⟨sl',e2⟩:=slot b _ (Zc b o e) hb (neC b o e hx) e1 (I.base.free b o e n hx);exact ⟨sl',e2⟩
 ·obtain ⟨o',e1⟩:=I.base.there b o e hx
  exact free b o' (neC b o e hx) e1 (I.base.free b o e n hx)
 ·obtain ⟨o',e1⟩:=I.base.there b o e hx
  exact there b o' (neC b o e hx) e1
 ·obtain ⟨m1,e1⟩:=I.base.Ax b ps e
  obtain ⟨m2,e2⟩:=Ax b _ e1;exact ⟨m1++m2,by rw [e2,Array.append_assoc]⟩
 ·obtain ⟨m,hn,hl⟩:=I.loc
  refine ⟨m,ns m hn,fun i x v e1 e2 e3=> ?_⟩;obtain ⟨u,r,l⟩:=hl i x v e1 e2 e3;refine ⟨u,r, ?_⟩;rcases l with l|⟨k,c,e,z⟩
  ·exact .inl l
  ·exact .inr ⟨k,c,e,cellK x c e _ z⟩
 ·obtain ⟨v,z⟩:=I.cell x c e
  exact ⟨v,cellK x c e v z⟩
 ·obtain ⟨m,⟨o,_,_,ho,_⟩,_⟩:=I.loc
  exact free _ o (fun z=>(hch _ z).2.1 rfl) ho I.free
 ·obtain ⟨v,o,ho,hd⟩:=I.cell x c e
  exact free c o (fun z=>(hch c z).2.2.1 x c e rfl) ho (I.mq x c e)
 ·obtain ⟨e,n,ne,nf,d⟩:=I.pin p hp
  have nch:p.1∉ch:=fun z=>(hch p.1 z).2.2.2 p hp rfl;exact ⟨keep p.1 p.2 ne nf nch e n,free p.1 p.2 nch e n,ne,nf,d⟩
theorem Inv.un {t':Nat} (I:Inv X pins σ H s) (u:Un X.fs [] H H' s.heap h') (hok:Ck X.prog X.w H' h'):Inv X pins σ H' {s with heap:=h',toks:=t'}:=by
 obtain ⟨m,⟨o,es,ep,ho,r⟩,_⟩:=id I.loc;obtain ⟨sl,hL⟩:=u.any ho I.free (by simp)
 exact I.step (g':=s.gens) (d':=s.drawn) (ch:=[]) (fun _ z=>nomatch z) (fun b o _ hb _ e n=>u.keep b o e n hb (by simp)) (fun b o _ hb _ e n=>u.slot b o e n hb (by simp)) (fun b o _ e n=>u.free b o e n (by simp)) (fun b o _ e=>u.there b o e (by simp)) u.tups u.zO u.Ax (fun m' hm=>by
  obtain ⟨o',es',ep',ho',r'⟩:=hm;rw [ho] at ho';cases ho';exact ⟨_,es',ep',hL,r'⟩) hok I.bare
theorem Inv.call {g':Array GenState} {t':Nat} {d':Drawn} {ch:List Addr} (I:Inv X pins σ H s) (u:Un (frs X.stack) ch H H' s.heap h') (hok:Ck X.prog X.w H' h') (hg:AllBare g')
 (hch:∀b∈ch,(b∈X.ex\/X.s₀.heap.objs.size<=b)/\b≠X.env.locals/\(∀x c,X.env.cells.lookup x=some c->c≠b) /\ ∀p∈X.pn++pins,p.1≠b):
 Inv X pins σ H' {s with heap:=h',gens:=g',drawn:=d',toks:=t'}:=by
 obtain ⟨m,⟨o,es,ep,ho,r⟩,_⟩:=id I.loc;obtain ⟨sl,hL⟩:=u.any ho I.free fun z=>(hch _ z).2.1 rfl
 exact I.step (ch:=ch) hch (fun b o hL hb hc e n=>u.keep b o e n (fun z=>(List.mem_cons.mp (I.Eb b z)).elim hL hb) hc) (fun b o _ _ hc e n=>u.any e n hc) (fun b o hc e n=>u.free b o e n hc) (fun b o hc e=>u.there b o e hc) u.tups u.zO u.Ax (fun m' hm=>by
  obtain ⟨o',es',ep',ho',r'⟩:=hm;rw [ho] at ho';cases ho';exact ⟨_,es',ep',hL,r'⟩) hok hg
theorem Inv.turned {t':Nat} {it:Addr} (I:Inv X pins σ H s) (k:∀b o,b≠it->s.heap.get? b=some o->h'.get? b=some o) (hn:H it=none) (hL:it≠X.env.locals)
 (h1:it∈X.ex\/X.s₀.heap.objs.size<=it) (h2:∀x c,X.env.cells.lookup x=some c->c≠it) (h3:∀p∈X.pn++pins,p.1≠it):Inv X pins σ H {s with heap:=h',toks:=t'}:=by
 have nit:∀b u,H b=some u->b≠it:=fun b u e z=>by rw [z,hn] at e;cases e
 refine I.step (g':=s.gens) (d':=s.drawn) (ch:=[it]) (fun b hb=> ?_) (fun b o _ _ hc e _=>k b o (fun z=>hc (by simp [z])) e) (fun b o _ _ hc e _=>⟨o.slots,k b o (fun z=>hc (by simp [z])) e⟩) (fun _ _ _ _ n=>n)
  (fun b o hc e=>⟨o,k b o (fun z=>hc (by simp [z])) e⟩) (fun _ _ e=>e) (fun _ _ _ e=>e) (fun b ps e=>⟨#[],by rw [e];simp⟩) (fun m hm=> ?_) (fun b u e=> ?_) I.bare
 ·have e:b=it:=by simpa using hb
  subst e;exact ⟨h1,hL,h2,h3⟩
 ·obtain ⟨o,es,ep,ho,r⟩:=hm
  exact ⟨o,es,ep,k _ o (Ne.symm hL) ho,r⟩
 ·refine (I.hok b u e).stay (fun c v hc q=>k c v ?_ q) (fun _ q=>q) fun _ _ q=>q
  rcases hc with z|z
  ·rw [z];exact nit b u e
  ·exact nit c _ z
theorem Inv.tok (I:Inv X pins σ H s) (t:Nat):Inv X pins σ H {s with toks:=t}:=I.un (h':=s.heap) (t':=t) Un.refl I.hok
theorem Inv.kept {t':Nat} (I:Inv X pins σ H s) (k:∀b u,s.heap.get? b=some u->h'.get? b=some u):Inv X pins σ H {s with heap:=h',toks:=t'}:=I.un (Un.kept k) (I.hok.kept k)
theorem Inv.laid {a:Addr} {o:HO} {t':Nat} (I:Inv X pins σ H s) (k:∀b u,s.heap.get? b=some u->h'.get? b=some u) (hp:s.heap.objs.size<=a) (new:eO X.prog X.w (upd H a o) h' a o):
 Inv X pins σ (upd H a o) {s with heap:=h',toks:=t'}:=I.un (Un.laid k hp (I.hok.fresh hp)) (I.hok.laid k hp new)
theorem Inv.write {x e:Addr} {o:HO} {t':Nat} (I:Inv X pins σ H s) (mu:Mut (H x)) (he:e=x\/H e=some (.own x)) (k:∀b u,b≠e->s.heap.get? b=some u->h'.get? b=some u) (heo:∃u,h'.get? e=some u)
 (new:eO X.prog X.w (upd H x o) h' x o):Inv X pins σ (upd H x o) {s with heap:=h',toks:=t'}:=I.un (Un.write mu he k heo) (I.hok.write mu he k heo new)
theorem Inv.Py {vm:List (Addr×Obj)} (I:Inv X pins σ H s) (h:∀p∈vm,s.heap.get? p.1=some p.2/\H p.1=none/\p.1≠X.env.locals/\p.1∉X.fs /\ ∀v,p.2.data ≠ .cell v):Inv X vm σ H s:=
 ⟨I.ok,I.os,I.bare,I.base,I.loc,I.cell,I.free,I.mq,fun p hp=>(List.mem_append.mp hp).elim (fun z=>I.pin p (List.mem_append_left _ z)) (h p),I.hok,I.len⟩
theorem Ew {N:List Str} (hN:N.Nodup) {i j:Nat} {x:Str} (a:N[i]? = some x) (b:N[j]? = some x):i=j:=by
 obtain ⟨h1,e1⟩:=List.getElem?_eq_some_iff.mp a;obtain ⟨h2,e2⟩:=List.getElem?_eq_some_iff.mp b;exact (List.getElem_inj hN).mp (e1.trans e2.symm)
theorem G7 {M:Model} {A:Around} {E:Value->Shared->Prop} {i:Nat} {x:Str} {v:V} {u:Value} {Q:Unit->Shared->Prop} (I:Inv X pins σ H s) (hN:X.N.Nodup) (hi:X.N[i]? = some x) (hx:Loc X.env.scope x) (r:RelV v u)
 (h:∀s',Inv X pins (σ.set i (some v)) H s'->(∃a,Heap.SameBut a s.heap s'.heap/\(a=X.env.locals\/X.env.cells.lookup x=some a))->Q () s') (hf:X.fn x=true\/X.env.scope.names.lookup x=some .local:=by first |exact .inl rfl|exact .inr rfl|assumption):wpAny M A (storeName X.env x u) Q E s:=by
 obtain ⟨m,hn,hl⟩:=id I.loc;have hcls:(X.env.scope.kind == .class||(X.env.scope.kind == .module&&X.env.locals != X.env.globals))=false:=by rw [I.ok.kind];rfl
 have alm:i<σ.length:=by rw [I.len];exact (List.getElem?_eq_some_iff.mp hi).1
 have ZD:=I.ZD
 have tracked:∀{a:Addr} {h':Heap},(∃o,s.heap.get? a=some o/\H a=none)->Heap.SameBut a s.heap h'->Ck X.prog X.w H h':=fun {a h'} ha hs b ob e=>by
  obtain ⟨_,_,hfree⟩:=ha;refine (I.hok b ob e).stay (fun c w' hc q=>(hs.2 c ?_).trans q) (fun _ q=>q) fun _ _ q=>q;rintro rfl;rcases hc with rfl|hc
  ·rw [hfree] at e;cases e
  ·rw [hfree] at hc;cases hc
 rcases hx with hk|hk
 ·refine wpAny_storeName_local hk hn (fun h' hn' hs=> ?_) hcls
  obtain ⟨oL,_,_,hoL,_⟩:=id hn;refine h _ ⟨I.ok,I.os,I.bare,⟨fun b o e n hb hx=> ?_,fun b o e n hb hx=> ?_,I.base.free,fun b o e hx=> ?_,I.base.tups,I.base.zO,I.base.Ax⟩,⟨_,hn',fun j y v' e1 e2 e3=> ?_⟩,fun y c e=> ?_,I.free,I.mq,fun p hp=> ?_,tracked ⟨oL,hoL,I.free⟩ hs,by simpa using I.len⟩ ⟨_,hs,.inl rfl⟩
  ·exact (hs.2 b (Nat.ne_of_lt (Nat.lt_of_lt_of_le (Heap.lt_size e) I.ok.above))).trans (I.base.keep b o e n hb hx)
  ·obtain ⟨sl,e1⟩:=I.base.slot b o e n hb hx
   exact ⟨sl,(hs.2 b (Nat.ne_of_lt (Nat.lt_of_lt_of_le (Heap.lt_size e) I.ok.above))).trans e1⟩
  ·obtain ⟨o',e1⟩:=I.base.there b o e hx
   exact ⟨o',(hs.2 b (Nat.ne_of_lt (Nat.lt_of_lt_of_le (Heap.lt_size e) I.ok.above))).trans e1⟩
  ·by_cases hj:j=i
   ·subst hj
    rw [hi] at e1;cases e1;rw [List.getElem?_set_self alm] at e2;cases e2;exact ⟨u,r,.inl ⟨hk,by simp⟩⟩
   ·rw [List.getElem?_set_ne (Ne.symm hj)] at e2
    obtain ⟨u',r',q⟩:=hl j y v' e1 e2 e3;refine ⟨u',r', ?_⟩;rcases q with ⟨k,e⟩|⟨k,c,e,z⟩
    ·refine .inl ⟨k, ?_⟩
     have:y≠x:=fun e=>hj (Ew hN e1 (e▸hi));simp [this,e]
    ·exact .inr ⟨k,c,e,z.sameBut hs (ZD y c e)⟩
  ·obtain ⟨w',z⟩:=I.cell y c e
   exact ⟨w',z.sameBut hs (ZD y c e)⟩
  ·obtain ⟨e,n,ne,nf,d⟩:=I.pin p hp
   exact ⟨(hs.2 p.1 ne).trans e,n,ne,nf,d⟩
 ·have hfn:X.fn x=true:=by
   rcases hf with z|z
   ·exact z
   ·rw [z] at hk;cases hk
  obtain ⟨c,hc⟩:=I.ok.has x (.inl hk);obtain ⟨w',z⟩:=I.cell x c hc;refine wpAny_storeName_cell I.ok.kind hk hc z (fun h' hc' hs=> ?_);obtain ⟨oc,hoc,aiV⟩:=id z;refine h {s with heap:=h'} ⟨I.ok,I.os,I.bare,⟨fun b o e n hb hx=> ?_,fun b o e n hb hx=> ?_,I.base.free,fun b o e hx=> ?_,I.base.tups,I.base.zO,I.base.Ax⟩,⟨m,hn.sameBut hs (Ne.symm (ZD x c hc)),fun j y v' e1 e2 e3=> ?_⟩,fun y c' e=> ?_,I.free,I.mq,fun p hp=> ?_,tracked ⟨oc,hoc,I.mq x c hc⟩ hs,by simpa using I.len⟩ ⟨c,hs,.inr hc⟩
  ·exact (hs.2 b (Nat.ne_of_lt (Nat.lt_of_lt_of_le (Heap.lt_size e) (I.ok.cab x c hfn hc)))).trans (I.base.keep b o e n hb hx)
  ·obtain ⟨sl,e1⟩:=I.base.slot b o e n hb hx
   exact ⟨sl,(hs.2 b (Nat.ne_of_lt (Nat.lt_of_lt_of_le (Heap.lt_size e) (I.ok.cab x c hfn hc)))).trans e1⟩
  ·obtain ⟨o',e1⟩:=I.base.there b o e hx
   exact ⟨o',(hs.2 b (Nat.ne_of_lt (Nat.lt_of_lt_of_le (Heap.lt_size e) (I.ok.cab x c hfn hc)))).trans e1⟩
  ·by_cases hj:j=i
   ·subst hj
    rw [hi] at e1;cases e1;rw [List.getElem?_set_self alm] at e2;cases e2;exact ⟨u,r,.inr ⟨.inl hk,c,hc,hc'⟩⟩
   ·rw [List.getElem?_set_ne (Ne.symm hj)] at e2
    obtain ⟨u',r',q⟩:=hl j y v' e1 e2 e3;refine ⟨u',r', ?_⟩;rcases q with q|⟨k,c',e,z'⟩
    ·exact .inl q
    ·refine .inr ⟨k,c',e,z'.sameBut hs ?_⟩
     rintro rfl;exact hj (Ew hN e1 (I.ok.inj _ _ _ e hc▸hi))
  ·by_cases hcc:c'=c
   ·subst hcc;exact ⟨_,hc'⟩
   ·obtain ⟨w2,z2⟩:=I.cell y c' e
    exact ⟨w2,z2.sameBut hs hcc⟩
  ·obtain ⟨e,n,ne,nf,d⟩:=I.pin p hp
   refine ⟨(hs.2 p.1 ?_).trans e,n,ne,nf,d⟩;intro q;rw [q,hoc] at e;have q':oc=p.2:=Option.some.inj e;exact d w' (by rw [←q'];exact aiV)
theorem zp {M:Model} {A:Around} {E:Value->Shared->Prop} {i:Nat} {x:Str} {v:V} {u:Value} {Q:Unit->Shared->Prop} (I:Inv X pins σ H s) (hN:X.N.Nodup) (hi:X.N[i]? = some x) (hx:Loc X.env.scope x) (r:RelV v u)
 (h:∀s',Inv X pins (σ.set i (some v)) H s'->Q () s') (hf:X.fn x=true\/X.env.scope.names.lookup x=some .local:=by first |exact .inl rfl|exact .inr rfl|assumption):wpAny M A (storeName X.env x u) Q E s:=
 G7 I hN hi hx r (fun s' I' _=>h s' I') hf
theorem Inv.call' {s':Shared} {ch:List Addr} (I:Inv X pins σ H s) (ho:s'.os=s.os) (u:Un (frs X.stack) ch H H' s.heap s'.heap) (hok:Ck X.prog X.w H' s'.heap) (hg:AllBare s'.gens)
 (hch:∀b∈ch,(b∈X.ex\/X.s₀.heap.objs.size<=b)/\b≠X.env.locals/\(∀x c,X.env.cells.lookup x=some c->c≠b) /\ ∀p∈X.pn++pins,p.1≠b):Inv X pins σ H' s':=by
 obtain ⟨h',g',d',t',o'⟩:=s';have e:o'=s.os:=ho;subst e;exact I.call (g':=g') (t':=t') (d':=d') u hok hg hch
end
abbrev XK:=Value->Option Addr->Hp->Prop
abbrev St:=List (Option V)
abbrev VK:=V->Hp->Prop
abbrev TE:=St->Hp->VK->Prop
abbrev TT:=St->Hp->(Bool->Hp->Prop)->Prop
abbrev TA:=St->Hp->(List V->Hp->Prop)->Prop
structure Ends where
 nx:St->Hp->Prop
 rt:VK
 bk:St->Hp->Prop:=fun _ _=>False
 ct:St->Hp->Prop:=fun _ _=>False
abbrev TS:=Ends->St->Hp->Prop
def EP (X:Cx) (pins:List (Addr×Obj)) (σ:St) (Q:VK) (u:Value) (s':Shared):Prop:=∃v H',Inv X pins σ H' s'/\RelV v u/\Q v H'
def TP (X:Cx) (pins:List (Addr×Obj)) (σ:St) (Q:Bool->Hp->Prop) (b:Bool) (s':Shared):Prop:=∃H',Inv X pins σ H' s'/\Q b H'
def AP (X:Cx) (pins:List (Addr×Obj)) (σ:St) (Q:List V->Hp->Prop) (us:List Value) (s':Shared):Prop:=∃vs H',Inv X pins σ H' s'/\Vals vs us/\Q vs H'
def SP (X:Cx) (pins:List (Addr×Obj)) (D:Ends) (f:Flow) (s':Shared):Prop:=
 match f with
 | .next=>∃σ' H',Inv X pins σ' H' s'/\D.nx σ' H'
 | .brk=>∃σ' H',Inv X pins σ' H' s'/\D.bk σ' H'
 | .cont=>∃σ' H',Inv X pins σ' H' s'/\D.ct σ' H'
 | .ret u=>∃v σ' H',Inv X pins σ' H' s'/\RelV v u/\D.rt v H'
def PE (X:Cx) (e:Expr) (t:TE):Prop:=
 ∀(pins:List (Addr×Obj)) (s:Shared) (σ:St) (H:Hp) (Q:VK),Inv X pins σ H s->t σ H Q->wpAny (model X.prog X.w) X.A (eval e X.env) (EP X pins σ Q) X.xe s
def PT (X:Cx) (e:Expr) (t:TT):Prop:=
 ∀(pins:List (Addr×Obj)) (s:Shared) (σ:St) (H:Hp) (Q:Bool->Hp->Prop),Inv X pins σ H s->t σ H Q->wpAny (model X.prog X.w) X.A (isTrue e X.env (eval e X.env)) (TP X pins σ Q) X.xe s
def PW (X:Cx) (e:Expr) (t:TT):Prop:=
 ∀(whole:Sem Value) (pins:List (Addr×Obj)) (s:Shared) (σ:St) (H:Hp) (Q:Bool->Hp->Prop),Inv X pins σ H s->t σ H Q->wpAny (model X.prog X.w) X.A (isTrue e X.env whole) (TP X pins σ Q) X.xe s
theorem PW.pt {X:Cx} {e:Expr} {t:TT} (h:PW X e t):PT X e t:=h _
def PA (X:Cx) (es:List Expr) (t:TA):Prop:=
 ∀(pos:Pos) (pins:List (Addr×Obj)) (s:Shared) (σ:St) (H:Hp) (Q:List V->Hp->Prop),Inv X pins σ H s->t σ H Q->wpAny (model X.prog X.w) X.A (spliced (backTo pos (starEach es X.env))) (AP X pins σ Q) X.xe s
def PS (X:Cx) (st:Stmt) (t:TS):Prop:=
 ∀(pins:List (Addr×Obj)) (s:Shared) (σ:St) (H:Hp) (D:Ends),Inv X pins σ H s->t D σ H->wpAny (model X.prog X.w) X.A (exec st X.env) (SP X pins D) X.xe s
def OD (X:Cx) (st:List Stmt) (t:TS):Prop:=
 ∀(pins:List (Addr×Obj)) (s:Shared) (σ:St) (H:Hp) (D:Ends),Inv X pins σ H s->t D σ H->wpAny (model X.prog X.w) X.A (execs st X.env) (SP X pins D) X.xe s
theorem fu {α:Type} {t:Sem α} {Q Q':α->Shared->Prop} {M:Model} {A:Around} {E:Value->Shared->Prop} {s:Shared} (h:wpAny M A t Q E s) (hQ:∀a s,Q a s->Q' a s):wpAny M A t Q' E s:=wpAny_mono h hQ fun _ _ x=>x
end L2
namespace L2
open PySem PySem.Spec PyProof.Rows
section
variable {X:Cx}
def Ti (i:Nat):TE:=fun σ H Q=>∃v,σ[i]? = some (some v)/\Q v H
def tC (v:V):TE:=fun _ H Q=>Q v H
theorem aan {i:Nat} {x:Str} {pos:Pos} (hN:X.N[i]? = some x) (hv:Vis X.env.scope x) (hd:(x==("__debug__" :Str))=false:=by decide) (hcd:(x==("__classdict__" :Str))=false:=by decide):PE X (.Name x pos) (Ti i):=by
 intro pins s σ H Q I h;obtain ⟨v,e,h⟩:=h;obtain ⟨m,hn,hl⟩:=I.loc;obtain ⟨u,r,l⟩:=hl i x v hN e hv;have fin:EP X pins σ Q u s:=⟨v,H,I,r,h⟩;rcases l with ⟨hk,hm⟩|⟨hk,c,hc,hcell⟩
 ·exact wpAny_Name (wpAny_loadName_local I.ok.kind hk hn hm fin) hd
 ·rcases hk with hk|hk
  ·exact wpAny_Name (wpAny_loadName_cell I.ok.kind hk hc hcell fin) hd
  ·exact wpAny_Name (wpAny_loadName_free I.ok.kind hk hc hcell fin hcd) hd
theorem au {i j pos}:PE X (.Constant (.int i) j pos) (tC (.int i)):=fun _ _ _ H _ I h=>wpAny_Constant_int ⟨.int i,H,I.tok _,⟨_,rfl⟩,h⟩
theorem Ks {b j pos}:PE X (.Constant (.bool b) j pos) (tC (.bl b)):=fun _ _ _ H _ I h=>Constant_bool ⟨.bl b,H,I,rfl,h⟩
theorem eV {j pos}:PE X (.Constant .none j pos) (tC .non):=fun _ _ _ H _ I h=>Constant_none ⟨.non,H,I,rfl,h⟩
theorem aM {x j pos}:PE X (.Constant (.str x) j pos) (tC (.str x)):=fun _ _ _ H _ I h=>Calls.Constant_str ⟨.str x,H,I.tok _,⟨_,rfl⟩,h⟩
def Gl (X:Cx) (x:Str):Prop:=X.env.kindOf x=some .globalImplicit
theorem xP {E:Value->Shared->Prop} {pins:List (Addr×Obj)} {s:Shared} {σ:St} {H:Hp} {x:Str} {u:Value} {pos:Pos} {Q:Value->Shared->Prop} (I:Inv X pins σ H s) (hg:Gl X x) (hm:X.mg x=some u) (h:Q u s)
 (hd:(x==("__debug__" :Str))=false:=by decide):wpAny (model X.prog X.w) X.A (eval (.Name x pos) X.env) Q E s:=
 Calls.Name_function_global I.ok.kind hg (Calls.loadGlobal_global (by rw [I.ok.glob];exact I.mod.glob.keeps I.bk) hm h) hd
theorem wF {E:Value->Shared->Prop} {pins:List (Addr×Obj)} {s:Shared} {σ:St} {H:Hp} {x:Str} {u:Value} {pos:Pos} {Q:Value->Shared->Prop} (I:Inv X pins σ H s) (hg:Gl X x) (hm:X.mg x=none) (hv:bootBuiltins x=some u) (h:Q u s)
 (hn:x ≠ "__name__" :=by decide) (hd:(x==("__debug__" :Str))=false:=by decide):wpAny (model X.prog X.w) X.A (eval (.Name x pos) X.env) Q E s:=by
 obtain ⟨mb,h1,h2⟩:=I.mod.blt;exact Calls.Name_function_global I.ok.kind hg (Calls.loadGlobal_builtin (by rw [I.ok.glob];exact I.mod.glob.keeps I.bk) hm (by rw [I.ok.blt];exact h1.keeps I.bk) ((h2 x hn).trans hv) h) hd
theorem cU {x:Str} {v:V} {u:Value} {pos:Pos} (hg:Gl X x) (hm:X.mg x=some u) (r:RelV v u) (hd:(x==("__debug__" :Str))=false:=by decide):PE X (.Name x pos) (tC v):=
 fun _ _ _ H _ I h=>xP I hg hm ⟨v,H,I,r,h⟩ hd
theorem CZ {x:Str} {v:V} {u:Value} {pos:Pos} (hg:Gl X x) (hm:X.mg x=none) (hv:bootBuiltins x=some u) (r:RelV v u) (hn:x ≠ "__name__" :=by decide) (hd:(x==("__debug__" :Str))=false:=by decide):PE X (.Name x pos) (tC v):=
 fun _ _ _ H _ I h=>wF I hg hm hv ⟨v,H,I,r,h⟩ hn hd
variable {a b:Expr} {ta tb:TE} {pos:Pos}
def tB (t:TE):TT:=fun σ H Q=>t σ H fun x H1=>∃c,x = .bl c/\Q c H1
theorem oY {e:Expr} {t:TE} (h:PE X e t) (he:∀whole,isTrue e X.env whole=(do let v ←whole;standAt e.pos;holding [v] (truthy v)):=by intro _;rfl):PT X e (tB t):=by
 intro pins s σ H Q I hw;refine isTrue_plain (fu (h pins s σ H _ I hw) fun v s1 ⟨x,H1,I1,r1,q1⟩=> ?_) (he _);obtain ⟨d,rfl,q⟩:=q1;cases r1;exact wpAny_truthy_bool ⟨H1,I1,q⟩
variable {tA tB':TT} {rest:List Expr}
def afI (t u:TT):TT:=fun σ H Q=>t σ H fun c H1=>if c=true then u σ H1 Q else Q false H1
def tOr (t u:TT):TT:=fun σ H Q=>t σ H fun c H1=>if c=true then Q true H1 else u σ H1 Q
def afE (t:TT):TT:=fun σ H Q=>t σ H fun c H1=>Q (!c) H1
theorem rC (ha:PT X a tA):PW X (.BoolOp .And [a] pos) tA:=by
 intro wh pins s σ H Q I h;refine isTrue_and (fu (ha pins s σ H Q I h) fun c s1 e=> ?_);cases c with
 | true=>exact isTrue_and_nil e
 | false=>exact e
theorem uQ (ha:PT X a tA):PW X (.BoolOp .Or [a] pos) tA:=by
 intro wh pins s σ H Q I h;refine isTrue_or (fu (ha pins s σ H Q I h) fun c s1 e=> ?_);cases c with
 | false=>exact isTrue_or_nil e
 | true=>exact e
theorem v7 (ha:PT X a tA) (hb:PW X (.BoolOp .And (b::rest) pos) tB'):PW X (.BoolOp .And (a::b::rest) pos) (afI tA tB'):=by
 intro wh pins s σ H Q I h;refine isTrue_and (fu (ha pins s σ H _ I h) fun c s1 ⟨H1,I1,q1⟩=> ?_);cases c with
 | true=>exact hb wh pins s1 σ H1 Q I1 q1
 | false=>exact ⟨H1,I1,q1⟩
theorem vh (ha:PT X a tA) (hb:PW X (.BoolOp .Or (b::rest) pos) tB'):PW X (.BoolOp .Or (a::b::rest) pos) (tOr tA tB'):=by
 intro wh pins s σ H Q I h;refine isTrue_or (fu (ha pins s σ H _ I h) fun c s1 ⟨H1,I1,q1⟩=> ?_);cases c with
 | true=>exact ⟨H1,I1,q1⟩
 | false=>exact hb wh pins s1 σ H1 Q I1 q1
theorem v8 (ha:PT X a tA):PT X (.UnaryOp .Not a pos) (afE tA):=by
 intro pins s σ H Q I h;exact isTrue_not (ha pins s σ H (fun c H1=>Q (!c) H1) I h)
def ab0 (ta tb:TE):TE:=fun σ H Q=>ta σ H fun x H1=>∃c,x = .bl c/\if c=true then tb σ H1 Q else Q (.bl false) H1
def afD (ta tb:TE):TE:=fun σ H Q=>ta σ H fun x H1=>∃c,x = .bl c/\if c=true then Q (.bl true) H1 else tb σ H1 Q
theorem Bg {op} {t:TE} (h:PE X a t):PE X (.BoolOp op [a] pos) t:=fun pins s σ H Q I hw=>BoolOp_one (h pins s σ H Q I hw)
theorem Bh (ha:PE X a ta) (hb:PE X (.BoolOp .And (b::rest) pos) tb):PE X (.BoolOp .And (a::b::rest) pos) (ab0 ta tb):=by
 intro pins s σ H Q I h;refine BoolOp_and (fu (ha pins s σ H _ I h) fun v s1 ⟨x,H1,I1,r1,q1⟩=> ?_);obtain ⟨c,rfl,q1⟩:=q1;cases r1;refine wpAny_truthy_bool ?_;cases c with
 | true=>exact hb pins s1 σ H1 Q I1 q1
 | false=>exact ⟨.bl false,H1,I1,rfl,q1⟩
theorem acp (ha:PE X a ta) (hb:PE X (.BoolOp .Or (b::rest) pos) tb):PE X (.BoolOp .Or (a::b::rest) pos) (afD ta tb):=by
 intro pins s σ H Q I h;refine BoolOp_or (fu (ha pins s σ H _ I h) fun v s1 ⟨x,H1,I1,r1,q1⟩=> ?_);obtain ⟨c,rfl,q1⟩:=q1;cases r1;refine wpAny_truthy_bool ?_;cases c with
 | false=>exact hb pins s1 σ H1 Q I1 q1
 | true=>exact ⟨.bl true,H1,I1,rfl,q1⟩
def tIf (t:TT) (ta tb:TE):TE:=fun σ H Q=>t σ H fun c H1=>if c=true then ta σ H1 Q else tb σ H1 Q
theorem wk {c:Expr} (hc:PT X c tA) (ha:PE X a ta) (hb:PE X b tb):PE X (.IfExp c a b pos) (tIf tA ta tb):=by
 intro pins s σ H Q I h;refine wpAny_IfExp (fu (hc pins s σ H _ I h) fun d s1 ⟨H1,I1,q1⟩=> ?_);cases d with
 | true=>exact ha pins s1 σ H1 Q I1 q1
 | false=>exact hb pins s1 σ H1 Q I1 q1
end
end L2
namespace L2
open PySem PySem.Spec PyProof.Rows
def bO (K:PySem.W.Frag) (H:Hp) (a:Addr) (xs:List V):Prop:=
 Rd H a (.lst xs) \/
  ∃(o:Obj) (its:Array Value) (n:Nat),K.lookup a=some o/\o.cls = .type "list" /\ o.dict=none/\o.data = .seq its n/\its.size<=sizeLine/\Vals xs its.toList
def eU (K:PySem.W.Frag) (H:Hp) (a:Addr) (xs:List V):Prop:=
 Rd H a (.tup xs) \/
  ∃(o:Obj) (its:Array Value) (n:Nat),K.lookup a=some o/\o.cls = .type "tuple" /\ o.data = .seq its n/\its.size<=sizeLine/\Vals xs its.toList
def akX:Value->Option V
 | .none=>some .non
 | .bool b=>some (.bl b)
 | .int i _=>some (.int i)
 | .str x _=>some (.str x)
 | .bytes b _=>some (.Lg b)
 | .float b _=>some (.flt b)
 | .ref a=>some (.ref a)
 | .type n=>some (.ty n)
 | _=>none
theorem RelV.abs {x:V} {u:Value} (r:RelV x u):akX u=some x:=by
 cases x with
 | non=>cases r;rfl
 | bl _=>cases r;rfl
 | int _=>obtain ⟨t,rfl⟩:=r;rfl
 | str _=>obtain ⟨t,rfl⟩:=r;rfl
 | Lg _=>obtain ⟨t,rfl⟩:=r;rfl
 | flt _=>obtain ⟨t,rfl⟩:=r;rfl
 | ref _=>cases r;rfl
 | ty _=>cases r;rfl
theorem RelV.inj {x y:V} {u:Value} (r:RelV x u) (q:RelV y u):x=y:=Option.some.inj (r.abs.symm.trans q.abs)
theorem Vals.inj {xs ys:List V} {us:List Value} (h:Vals xs us) (h':Vals ys us):xs=ys:=by
 induction h generalizing ys with
 | nil=>cases h';rfl
 | cons r t ih=>cases h' with
   | cons r' t'=>rw [r.inj r',ih t']
section
variable {X:Cx} {pins:List (Addr×Obj)} {σ:St} {H:Hp} {s:Shared} {a:Addr} {xs ys:List V}
theorem bO.of {K:PySem.W.Frag} (h:H a=some (.lst xs)):bO K H a xs:= .inl (.inl h)
theorem eU.of {K:PySem.W.Frag} (h:H a=some (.tup xs)):eU K H a xs:= .inl (.inl h)
theorem Inv.list (I:Inv X pins σ H s) (h:bO X.K H a xs):∃its:List Value,Vals xs its/\PlainL s.heap a its.toArray/\xs.length<=sizeLine:=by
 rcases h with h|⟨o,its,n,hk,hc,hd,hs,hz,r⟩
 ·obtain ⟨z,its,n,r,e⟩:=h.ok I.hok
  exact ⟨its,r,⟨_,n,e,rfl,rfl,rfl⟩,z⟩
 ·refine ⟨its.toList,r,⟨o,n,I.xR a o hk,hc,hd,by simpa using hs⟩, ?_⟩
  have e:=r.length;simp only [Array.length_toList] at e;omega
theorem Inv.tuple (I:Inv X pins σ H s) (h:eU X.K H a xs):∃its:List Value,Vals xs its/\IsTup s.heap a its.toArray/\xs.length<=sizeLine:=by
 rcases h with h|⟨o,its,n,hk,hc,hs,hz,r⟩
 ·obtain ⟨z,its,r,p⟩:=h.ok I.hok
  exact ⟨its,r,p,z⟩
 ·refine ⟨its.toList,r,⟨o,I.xR a o hk,hc,n,by simpa using hs⟩, ?_⟩
  have e:=r.length;simp only [Array.length_toList] at e;omega
theorem Inv.wD (I:Inv X pins σ H s) (h:bO X.K H a xs) (h':bO X.K H a ys):xs=ys:=by
 obtain ⟨its,r,⟨o,n,e,_,_,d⟩,_⟩:=I.list h;obtain ⟨its',r',⟨o',n',e',_,_,d'⟩,_⟩:=I.list h';rw [e] at e';cases e';rw [d] at d';injection d' with d1 _
 have:its=its':=by simpa using congrArg Array.toList d1
 subst this;exact r.inj r'
theorem Inv.G5 (I:Inv X pins σ H s) (h:eU X.K H a xs) (h':eU X.K H a ys):xs=ys:=by
 obtain ⟨its,r,⟨o,e,_,n,d⟩,_⟩:=I.tuple h;obtain ⟨its',r',⟨o',e',_,n',d'⟩,_⟩:=I.tuple h';rw [e] at e';cases e';rw [d] at d';injection d' with d1 _
 have:its=its':=by simpa using congrArg Array.toList d1
 subst this;exact r.inj r'
end
abbrev Cx.wish (X:Cx) (E:Value->Shared->Prop):Cx:={X with xe:=E}
abbrev Cx.nox (X:Cx):Cx:=X.wish fun _ _=>False
theorem Cx.Ok.wish {X:Cx} (ok:X.Ok) (E:Value->Shared->Prop):(X.wish E).Ok:=
 ⟨ok.mod,ok.kind,ok.glob,ok.blt,ok.above,ok.inj,ok.has,ok.cab,ok.hd,ok.frames,ok.stk,ok.exf,ok.bs,ok.Ru,ok.Je,ok.K8,ok.wK,ok.Vb⟩
theorem Cx.Ok.vV {X:Cx} {E:Value->Shared->Prop} (ok:(X.wish E).Ok):X.Ok:=
 ⟨ok.mod,ok.kind,ok.glob,ok.blt,ok.above,ok.inj,ok.has,ok.cab,ok.hd,ok.frames,ok.stk,ok.exf,ok.bs,ok.Ru,ok.Je,ok.K8,ok.wK,ok.Vb⟩
section
variable {X:Cx} {pins:List (Addr×Obj)} {σ:St} {H:Hp} {s:Shared} {E:Value->Shared->Prop}
theorem Inv.wish (I:Inv X pins σ H s) (E:Value->Shared->Prop):Inv (X.wish E) pins σ H s:=⟨I.ok.wish E,I.os,I.bare,I.base,I.loc,I.cell,I.free,I.mq,I.pin,I.hok,I.len⟩
theorem Inv.vV (I:Inv (X.wish E) pins σ H s):Inv X pins σ H s:=⟨I.ok.vV,I.os,I.bare,I.base,I.loc,I.cell,I.free,I.mq,I.pin,I.hok,I.len⟩
theorem SP.vV {D:Ends} {f:Flow} {s':Shared} (h:SP (X.wish E) pins D f s'):SP X pins D f s':=by
 cases f with
 | next=>obtain ⟨σ',H',I,q⟩:=h;exact ⟨σ',H',I.vV,q⟩
 | brk=>obtain ⟨σ',H',I,q⟩:=h;exact ⟨σ',H',I.vV,q⟩
 | cont=>obtain ⟨σ',H',I,q⟩:=h;exact ⟨σ',H',I.vV,q⟩
 | ret u=>obtain ⟨v,σ',H',I,r,q⟩:=h;exact ⟨v,σ',H',I.vV,r,q⟩
theorem OD.nox {st:List Stmt} {t:TS} (h:OD X.nox st t):OD X st t:=fun pins s σ H D I hw=>
 wpAny_mono (h pins s σ H D (I.wish _) hw) (fun _ _ q=>q.vV) fun _ _ z=>False.elim z
end
section
variable {X:Cx} {st:Stmt} {rest:List Stmt} {t u:TS} {e:Expr} {te:TE} {pos:Pos}
def rA:TS:=fun D σ H=>D.nx σ H
def Z6 (t u:TS):TS:=fun D σ H=>t {D with nx:=u D} σ H
theorem aR:OD X [] rA:=fun _ _ σ H _ I h=>wpAny_execs_nil ⟨σ,H,I,h⟩
theorem aA (h1:PS X st t) (h2:OD X rest u):OD X (st::rest) (Z6 t u):=by
 intro pins s σ H D I h;refine wpAny_execs_cons (fu (h1 pins s σ H {D with nx:=u D} I h) fun f s1 q=> ?_);cases f with
 | next=>
   obtain ⟨σ',H',I',q⟩:=q;exact h2 pins s1 σ' H' D I' q
 | ret v=>exact q
 | brk=>exact q
 | cont=>exact q
theorem aG (h1:PS X st t):OD X [st] t:=by
 intro pins s σ H D I h;refine wpAny_execs_cons (fu (h1 pins s σ H D I h) fun f s1 q=> ?_);cases f with
 | next=>exact wpAny_execs_nil q
 | ret v=>exact q
 | brk=>exact q
 | cont=>exact q
theorem Inv.quiet {pins:List (Addr×Obj)} {σ:St} {H:Hp} {s:Shared} (I:Inv X pins σ H s):interactive X.env=false:=by simp [interactive,I.ok.kind]
def abZ (te:TE):TS:=fun D σ H=>te σ H fun _ H1=>D.nx σ H1
theorem lF (he:PE X e te) (hs:swapsWith e none pos.line X.env=pure false:=by rfl):PS X (.Expr e pos) (abZ te):=by
 intro pins s σ H D I h;exact wpAny_Expr_any (fu (he pins s σ H _ I h) fun v s1 ⟨x,H1,I1,r1,q1⟩=>⟨σ,H1,I1,q1⟩) I.quiet hs
def afC (te:TE):TS:=fun D σ H=>te σ H D.rt
theorem aN (he:PE X e te):PS X (.Return (some e) pos) (afC te):=by
 intro pins s σ H D I h;exact wpAny_Return_some (fu (he pins s σ H _ I h) fun v s1 ⟨x,H1,I1,r1,q1⟩=>⟨x,σ,H1,I1,r1,q1⟩)
def abT:TS:=fun D _ H=>D.rt .non H
theorem Xn:PS X (.Return none pos) abT:=fun _ _ σ H _ I h=>wpAny_Return_none ⟨.non,σ,H,I,rfl,h⟩
def abX (c:TT) (t u:TS):TS:=fun D σ H=>c σ H fun b H1=>if b=true then t D σ H1 else u D σ H1
theorem bI {c:Expr} {a b:List Stmt} {tc:TT} (hc:PT X c tc) (ha:OD X a t) (hb:OD X b u):PS X (.If c a b pos) (abX tc t u):=by
 intro pins s σ H D I h;refine wpAny_If (fu (hc pins s σ H _ I h) fun d s1 ⟨H1,I1,q1⟩=> ?_);cases d with
 | true=>exact ha pins s1 σ H1 D I1 q1
 | false=>exact hb pins s1 σ H1 D I1 q1
end
abbrev TG:=V->St->Hp->(St->Hp->Prop)->Prop
abbrev ZL:=List V->St->Hp->(St->Hp->Prop)->Prop
def PG (X:Cx) (target:Expr) (t:TG):Prop:=
 ∀(pins:List (Addr×Obj)) (s:Shared) (σ:St) (H:Hp) (v:V) (u:Value) (Q:St->Hp->Prop),Inv X pins σ H s->RelV v u->t v σ H Q ->
  wpAny (model X.prog X.w) X.A (assign target X.env u) (fun _ s'=>∃σ' H',Inv X pins σ' H' s'/\Q σ' H') X.xe s
def PGs (X:Cx) (ts:List Expr) (t:ZL):Prop:=
 ∀(pins:List (Addr×Obj)) (s:Shared) (σ:St) (H:Hp) (vs:List V) (us:List Value) (Q:St->Hp->Prop),Inv X pins σ H s->Vals vs us->t vs σ H Q ->
  wpAny (model X.prog X.w) X.A (assignInOrder ((assignEach ts X.env).map (·.2)) us) (fun _ s'=>∃σ' H',Inv X pins σ' H' s'/\Q σ' H') X.xe s
abbrev abg:=V->V->V->Hp->(Hp->Prop)->Prop
def ad_ (X:Cx) (t:abg):Prop:=
 ∀(pins:List (Addr×Obj)) (s:Shared) (σ:St) (H:Hp) (o i v:V) (ov iv u:Value) (Q:Hp->Prop),Inv X pins σ H s->RelV o ov->RelV i iv->RelV v u->t o i v H Q ->
  wpAny (model X.prog X.w) X.A (setItem ov iv u) (fun _ s'=>∃H',Inv X pins σ H' s'/\Q H') X.xe s
abbrev TIp:=V->V->Hp->VK->Prop
def PIp (X:Cx) (op:Operator) (t:TIp):Prop:=
 ∀(pins:List (Addr×Obj)) (s:Shared) (σ:St) (H:Hp) (x y:V) (v u:Value) (Q:VK),Inv X pins σ H s->RelV x v->RelV y u->t x y H Q ->
  wpAny (model X.prog X.w) X.A (inplaceOp op v u) (EP X pins σ Q) X.xe s
section
variable {X:Cx} {pos:Pos}
def qO (i:Nat):TG:=fun v σ H Q=>Q (σ.set i (some v)) H
theorem cM {i:Nat} {x:Str} (hN:X.N.Nodup) (hi:X.N[i]? = some x) (hx:Loc X.env.scope x) (hf:X.fn x=true\/X.env.scope.names.lookup x=some .local:=by first |exact .inl rfl|exact .inr rfl|assumption):PG X (.Name x pos) (qO i):=by
 intro pins s σ H v u Q I r h;exact wpAny_assign_Name (zp I hN hi hx r (fun s' I'=>⟨_,H,I',h⟩) hf)
def aaW:ZL:=fun vs σ H Q=>vs=[]/\Q σ H
def K4 (t:TG) (u:ZL):ZL:=fun vs σ H Q=>∃v r,vs=v::r/\t v σ H fun σ' H'=>u r σ' H' Q
theorem IK:PGs X [] aaW:=by
 intro pins s σ H vs us Q I r h;obtain ⟨e,h⟩:=h;subst e;cases r;exact assignInOrder_nil ⟨σ,H,I,h⟩
theorem tD {e:Expr} {es:List Expr} {t:TG} {u:ZL} (h1:PG X e t) (h2:PGs X es u)
 (hs:(assignEach (e::es) X.env).map (·.2)=assign e X.env::(assignEach es X.env).map (·.2):=by rfl):PGs X (e::es) (K4 t u):=by
 intro pins s σ H vs us Q I r h;obtain ⟨v,vr,e1,h⟩:=h;subst e1;cases r with
 | cons r rr=>
   rw [hs];refine assignInOrder_cons (fu (h1 pins s σ H _ _ _ I r h) fun _ s1 ⟨σ1,H1,I1,q1⟩=> ?_);exact h2 pins s1 σ1 H1 _ _ Q I1 rr q1
def Yo (K:PySem.W.Frag) (n:Nat) (t:ZL):TG:=fun v σ H Q=>∃a xs,v = .ref a/\eU K H a xs/\xs.length=n/\t xs σ H Q
theorem aam {es:List Expr} {k:Nat} {t:ZL} {n:Nat} (hc:X.calm=true) (h:PGs X es t)
 (hn:(assignEach es X.env).length=n:=by rfl) (hst:(assignEach es X.env).findIdx? (·.1)=none:=by rfl):PG X (.Tuple es k pos) (Yo X.K n t):=by
 intro pins s σ H v u Q I r hw;obtain ⟨a,xs,e1,hq,hl,hw⟩:=hw;subst e1;cases r;obtain ⟨its,rv,ht,hz⟩:=I.tuple hq;refine assign_Tuple_tuple (I.ok.hd hc) ht (by simp [hn,←hl,rv.length]) hst fun h' hx=> ?_;have I1:Inv X pins σ H {s with heap:=h'}:=I.kept (t':=s.toks) fun b o e=>hx b o (Nat.ne_of_lt (Heap.lt_size e)) e;exact h pins _ σ H xs _ Q I1 (by simpa using rv) hw
def aiZ (to ti:TE) (t:abg):TG:=fun v σ H Q=>to σ H fun o H1=>ti σ H1 fun i H2=>t o i v H2 fun H3=>Q σ H3
theorem wj {o i:Expr} {to ti:TE} {t:abg} (ho:PE X o to) (hi:PE X i ti) (hs:ad_ X t)
 (ha:∀v,assign (.Subscript o i pos) X.env v=(do
   let ov ←holding [v] (eval o X.env)
   let iv ←holding [v,ov] (eval i X.env)
   standAt pos
   holding [v,ov,iv] (setItem ov iv v)
   release [v,ov,iv] []):=by intro _;rfl):PG X (.Subscript o i pos) (aiZ to ti t):=by
 intro pins s σ H v u Q I r h;rw [ha];refine wpAny_bind (wpAny_holding (fu (ho pins s σ H _ I h) fun ov s1 ⟨x,H1,I1,r1,q1⟩=> ?_));refine wpAny_bind (wpAny_holding (fu (hi pins s1 σ H1 _ I1 q1) fun iv s2 ⟨y,H2,I2,r2,q2⟩=> ?_));refine wpAny_bind (wpAny_standAt (wpAny_bind (wpAny_holding (fu (hs pins s2 σ H2 x y v ov iv u _ I2 r1 r2 r q2) fun _ s3 ⟨H3,I3,q3⟩=> ?_))));exact wpAny_release ⟨σ,H3,I3,q3⟩
def W0 (te:TE) (g:TG):TS:=fun D σ H=>te σ H fun x H1=>g x σ H1 D.nx
theorem v9 {tg e:Expr} {te:TE} {g:TG} (he:PE X e te) (hg:PG X tg g) (hs:swapsWithSole [tg] e pos.line X.env=pure false:=by rfl) (hw:swappedStores [tg] e X.env=pure none:=by rfl)
 (h1:(assignEach [tg] X.env).map (·.2)=[assign tg X.env]:=by rfl):PS X (.Assign [tg] e pos) (W0 te g):=by
 intro pins s σ H D I h;refine wpAny_Assign_stores (fu (he pins s σ H _ I h) fun v s1 ⟨x,H1,I1,r1,q1⟩=> ?_) hs hw;rw [h1];exact fu (hg pins s1 σ H1 x v _ I1 r1 q1) fun _ s2 q=>q
theorem aX {i:Nat} {x:Str} {e:Expr} {te:TE} {pos':Pos} (hN:X.N.Nodup) (hi:X.N[i]? = some x) (hx:Loc X.env.scope x) (he:PE X e te) (hs:swapsWith e (some (.Name x pos')) pos.line X.env=pure false:=by rfl) (hf:X.fn x=true\/X.env.scope.names.lookup x=some .local:=by first |exact .inl rfl|exact .inr rfl|assumption):
 PS X (.Assign [.Name x pos'] e pos) (W0 te (qO i)):=by
 intro pins s σ H D I h;refine wpAny_Assign_Name (fu (he pins s σ H _ I h) fun v s1 ⟨y,H1,I1,r1,q1⟩=> ?_) hs;exact zp I1 hN hi hx r1 (fun s2 I2=>⟨_,H1,I2,q1⟩) hf
def afH (i:Nat) (te:TE) (ti:TIp):TS:=fun D σ H=>∃x,σ[i]? = some (some x)/\te σ H fun y H1=>ti x y H1 fun z H2=>D.nx (σ.set i (some z)) H2
theorem T5 {i:Nat} {x:Str} {e:Expr} {te:TE} {op:Operator} {ti:TIp} {pos':Pos} (hN:X.N.Nodup) (hi:X.N[i]? = some x) (hx:Loc X.env.scope x) (he:PE X e te) (ho:PIp X op ti) (hf:X.fn x=true\/X.env.scope.names.lookup x=some .local:=by first |exact .inl rfl|exact .inr rfl|assumption):
 PS X (.AugAssign (.Name x pos') op e pos) (afH i te ti):=by
 intro pins s σ H D I h;obtain ⟨v,e1,h⟩:=h;obtain ⟨m,hn,hl⟩:=I.loc;have vis:Vis X.env.scope x:=by rcases hx with k|k;exact .inl k;exact .inr (.inl k)
 obtain ⟨u,r,l⟩:=hl i x v hi e1 vis;refine wpAny_AugAssign_Name ?_
 have go:wpAny (model X.prog X.w) X.A (eval e X.env) (fun w s₂=>wpAny (model X.prog X.w) X.A (inplaceOp op u w) (fun r s₃=>wpAny (model X.prog X.w) X.A (storeName X.env x r) (fun _=>SP X pins D .next) X.xe s₃) X.xe s₂) X.xe s:=by
  refine fu (he pins s σ H _ I h) fun w s1 ⟨y,H1,I1,r1,q1⟩=> ?_;refine fu (ho pins s1 σ H1 v y u w _ I1 r r1 q1) fun z s2 ⟨zv,H2,I2,r2,q2⟩=> ?_;exact zp I2 hN hi hx r2 (fun s3 I3=>⟨_,H2,I3,q2⟩) hf
 rcases l with ⟨hk,hm⟩|⟨hk,c,hc,hcell⟩
 ·exact wpAny_loadName_local I.ok.kind hk hn hm go
 ·rcases hk with hk|hk
  ·exact wpAny_loadName_cell I.ok.kind hk hc hcell go
  ·rcases hx with k|k
   ·have:X.env.scope.names.lookup x=some .free:=hk
    rw [k] at this;cases this
   ·have:X.env.scope.names.lookup x=some .free:=hk
    rw [k] at this;cases this
def ipI (f:Int->Int->Int):TIp:=fun x y H Q=>∃i j,x = .int i/\y = .int j/\Q (.int (f i j)) H
theorem U0:PIp X .Add (ipI fun i j=>i+j):=by
 intro pins s σ H x y v u Q I r1 r2 h;obtain ⟨i,j,e1,e2,q⟩:=h;subst e1;subst e2;obtain ⟨t,rfl⟩:=r1;obtain ⟨t',rfl⟩:=r2;exact iadd_int ⟨.int _,H,I.tok _,⟨_,rfl⟩,q⟩
end
section
variable {X:Cx} {pos:Pos}
end
structure It where
 go:Nat->Hp->Prop
 ZV:Nat->Hp->V->Hp->Prop
 stop:Nat->Hp->Prop
def wY (X:Cx) (pins:List (Addr×Obj)) (H:Hp) (b:Addr):Prop:=
 H b=none/\b≠X.env.locals/\b∉X.fs/\(b∈X.ex\/X.s₀.heap.objs.size<=b)/\(∀x c,X.env.cells.lookup x=some c->c≠b) /\ ∀p∈X.pn++pins,p.1≠b
theorem Inv.Gz {X:Cx} {pins:List (Addr×Obj)} {σ:St} {H H':Hp} {s:Shared} {b:Addr} (I:Inv X pins σ H s) (hb:s.heap.objs.size<=b) (hn:H' b=none):wY X pins H' b:=by
 refine ⟨hn,Nat.ne_of_gt (Nat.lt_of_lt_of_le I.lt hb),I.ahN hb,.inr (Nat.le_trans I.sz hb),fun x c e z=> ?_,fun p hp z=> ?_⟩
 ·obtain ⟨v,q⟩:=I.cell x c e
  exact absurd (Nat.lt_of_lt_of_le q.lt (by rw [z];exact hb)) (Nat.lt_irrefl _)
 ·exact absurd (Nat.lt_of_lt_of_le (Heap.lt_size (I.pin p hp).1) (by rw [z];exact hb)) (Nat.lt_irrefl _)
structure Turn (P:Program) (w:World) (K:PySem.W.Frag) (tg:Expr) (J:It) (fp:List Addr) (it:Addr) (tn:Nat->Heap->Prop):Prop where
 mem:it∈fp
 obj:∀i h,tn i h -> ∀b∈fp,∃o,h.get? b=some o /\ ∀v,o.data ≠ .cell v
 keep:∀i h h',tn i h->(∀b∈fp,∀o,h.get? b=some o->h'.get? b=some o)->tn i h'
 item:∀(X:Cx),X.prog=P->X.w=w->X.K=K->X.calm=true -> ∀(i:Nat) (pins:List (Addr×Obj)) (s:Shared) (σ:St) (H:Hp) (E:Value->Shared->Prop),Inv X pins σ H s->(∀b∈fp,wY X pins H b)->tn i s.heap->J.go i H ->
  wpAny (model P w) X.A (pyNext (.ref it)) (fun r s1=>∃u,r=some u /\
   wpAny (model P w) X.A (letOwnedTupleGo tg (.ref it) u) (fun _ s2=>∃x H',Inv X pins σ H' s2/\RelV x u/\J.ZV i H x H'/\tn (i+1) s2.heap /\ ∀b∈fp,H' b=none) E s1) E s
 done:∀(X:Cx),X.prog=P->X.w=w->X.K=K->X.calm=true -> ∀(i:Nat) (pins:List (Addr×Obj)) (s:Shared) (σ:St) (H:Hp) (E:Value->Shared->Prop),Inv X pins σ H s->(∀b∈fp,wY X pins H b)->tn i s.heap->J.stop i H ->
  wpAny (model P w) X.A (pyNext (.ref it)) (fun r s1=>r=none/\Inv X pins σ H s1) E s
 self:∀(A:Around) (i:Nat) (s:Shared) (Q:Value->Shared->Prop) (E:Value->Shared->Prop),tn i s.heap->Q (.ref it) s->wpAny (model P w) A (pyIter (.ref it)) Q E s
abbrev TI:=St->Hp->(It->Hp->Prop)->Prop
def PIE (X:Cx) (pins:List (Addr×Obj)) (σ:St) (tg:Expr) (R:It->Hp->Prop) (itv:Value) (s2:Shared):Prop:=
 ∃(it:Addr) (fp:List Addr) (tn:Nat->Heap->Prop) (J:It) (H':Hp),itv = .ref it/\Inv X pins σ H' s2/\Turn X.prog X.w X.K tg J fp it tn/\tn 0 s2.heap/\(∀b∈fp,wY X pins H' b)/\R J H'
def PI (X:Cx) (tg iter:Expr) (wi:TI):Prop:=
 ∀(pins:List (Addr×Obj)) (s:Shared) (σ:St) (H:Hp) (R:It->Hp->Prop),Inv X pins σ H s->wi σ H R ->
  wpAny (model X.prog X.w) X.A (eval iter X.env) (fun v s1=>wpAny (model X.prog X.w) X.A (pyIter v) (PIE X pins σ tg R) X.xe s1) X.xe s
theorem K3 {M:Model} {A:Around} {E:Value->Shared->Prop} {s:Shared} {tg:Expr} {it:Addr} {u:Value} {o:Obj} {n:String} {vs:Array Value} {Q:Unit->Shared->Prop} (ho:s.heap.get? it=some o) (hc:o.cls = .type n) (hd:o.data = .fields vs)
 (hn:["enumerate","zip","dict_itemiterator","dict_reverseitemiterator","odict_iterator","itertools.zip_longest","itertools.pairwise"].contains n=false) (hQ:Q () s):wpAny M A (letOwnedTupleGo tg (.ref it) u) Q E s:=by
 unfold letOwnedTupleGo
 cases tg<;>first
  | exact wpAny_pure hQ
  | (cases u<;>first
      | exact wpAny_pure hQ
      | (refine wpAny_bind (wpAny_load ho ?_)
         rw [hc,hd];show wpAny M A (if (["enumerate","zip","dict_itemiterator","dict_reverseitemiterator","odict_iterator","itertools.zip_longest","itertools.pairwise"].contains n&&vs[0]? == some (rawInt _))=true then _ else _) Q E s;rw [if_neg (by intro h;rw [hn,Bool.false_and] at h;cases h)];exact wpAny_pure hQ))
def Itl (K:PySem.W.Frag) (a:Addr):It:=
 ⟨fun i H=>∃xs x,bO K H a xs/\xs[i]? = some x,fun i H x H'=>H'=H /\ ∀xs,bO K H a xs->xs[i]? = some x,fun i H=>∃xs,bO K H a xs/\xs.length<=i⟩
def Itt (K:PySem.W.Frag) (a:Addr):It:=
 ⟨fun i H=>∃xs x,eU K H a xs/\xs[i]? = some x,fun i H x H'=>H'=H /\ ∀xs,eU K H a xs->xs[i]? = some x,fun i H=>∃xs,eU K H a xs/\xs.length<=i⟩
def Wq (lo:Int) (n:Nat):It:=⟨fun i _=>i<n,fun i H x H'=>H'=H/\x = .int (lo+i),fun i _=>n<=i⟩
theorem Qx {P:Program} {w:World} {K:PySem.W.Frag} {tg:Expr} (a it:Addr):Turn P w K tg (Itl K a) [it] it (fun i h=>h.IsListIter it a i) where
 mem:=by simp
 obj:=fun i h st b hb=>by
  have e:b=it:=by simpa using hb
  subst e;obtain ⟨o,e,c,d⟩:=st;exact ⟨o,e,fun v z=>by rw [d] at z;cases z⟩
 keep:=fun i h h' st k=>st.at fun o e=>k it (by simp) o e
 item:=by
  intro X hP hw hK hc i pins s σ H E I hf st hg;subst hP hw hK;obtain ⟨xs,x,hq,hx⟩:=hg;obtain ⟨its,rv,p,hz⟩:=I.list hq;obtain ⟨u,hu,ru⟩:=rv.get hx;obtain ⟨f0,f1,f2,f3,f4,f5⟩:=hf it (by simp);refine wpAny_pyNext_list_item st p.isList (x:=u) (by simpa using hu) fun h' st' sb=> ?_;have I1:Inv X pins σ H {s with heap:=h'}:=I.turned (t':=s.toks) (fun b o hb e=>(sb.2 b hb).trans e) f0 f1 f3 f4 f5;obtain ⟨o,e,c,d⟩:=id st';exact ⟨u,rfl,K3 (s:={s with heap:=h'}) e c d (by decide) ⟨x,H,I1,ru,⟨rfl,fun ys hy=>by rw [I.wD hy hq];exact hx⟩,st',fun b hb=>(hf b hb).1⟩⟩
 done:=by
  intro X hP hw hK hc i pins s σ H E I hf st hg;subst hP hw hK;obtain ⟨xs,hq,hx⟩:=hg;obtain ⟨its,rv,p,hz⟩:=I.list hq;obtain ⟨f0,f1,f2,f3,f4,f5⟩:=hf it (by simp);have hl:=rv.length;exact wpAny_pyNext_list_end (I.ok.hd hc) st p.isList (by simp;omega) fun h' eb=>⟨rfl,I.turned (t':=s.toks) (fun b o hb e=>eb b o hb e) f0 f1 f3 f4 f5⟩
 self:=fun _ _ _ _ _ st h=>wpAny_pyIter_listiter st h
theorem Mq {P:Program} {w:World} {K:PySem.W.Frag} {tg:Expr} (a it:Addr):Turn P w K tg (Itt K a) [it] it (fun i h=>h.IsTupleIter it a i) where
 mem:=by simp
 obj:=fun i h st b hb=>by
  have e:b=it:=by simpa using hb
  subst e;obtain ⟨o,e,c,d⟩:=st;exact ⟨o,e,fun v z=>by rw [d] at z;cases z⟩
 keep:=fun i h h' st k=>st.at fun o e=>k it (by simp) o e
 item:=by
  intro X hP hw hK hc i pins s σ H E I hf st hg;subst hP hw hK;obtain ⟨xs,x,hq,hx⟩:=hg;obtain ⟨its,rv,p,hz⟩:=I.tuple hq;obtain ⟨u,hu,ru⟩:=rv.get hx;obtain ⟨f0,f1,f2,f3,f4,f5⟩:=hf it (by simp);refine wpAny_pyNext_tuple_item st (show s.heap.IsTuple a its.toArray from p) (x:=u) (by simpa using hu) fun h' st' sb=> ?_;have I1:Inv X pins σ H {s with heap:=h'}:=I.turned (t':=s.toks) (fun b o hb e=>(sb.2 b hb).trans e) f0 f1 f3 f4 f5;obtain ⟨o,e,c,d⟩:=id st';exact ⟨u,rfl,K3 (s:={s with heap:=h'}) e c d (by decide) ⟨x,H,I1,ru,⟨rfl,fun ys hy=>by rw [I.G5 hy hq];exact hx⟩,st',fun b hb=>(hf b hb).1⟩⟩
 done:=by
  intro X hP hw hK hc i pins s σ H E I hf st hg;subst hP hw hK;obtain ⟨xs,hq,hx⟩:=hg;obtain ⟨its,rv,p,hz⟩:=I.tuple hq;obtain ⟨f0,f1,f2,f3,f4,f5⟩:=hf it (by simp);have hl:=rv.length;exact wpAny_pyNext_tuple_end (I.ok.hd hc) st (show s.heap.IsTuple a its.toArray from p) (by simp;omega) fun h' eb=>⟨rfl,I.turned (t':=s.toks) (fun b o hb e=>eb b o hb e) f0 f1 f3 f4 f5⟩
 self:=fun _ _ _ _ _ st h=>wpAny_pyIter_tupleiter st h
theorem Mr {P:Program} {w:World} {K:PySem.W.Frag} {tg:Expr} (it:Addr) (lo:Int) (n:Nat):Turn P w K tg (Wq lo n) [it] it (fun i h=>IsRangeIter h it (lo+(i:Nat)*1) ((n:Int) - (i:Nat)) 1) where
 mem:=by simp
 obj:=fun i h st b hb=>by
  have e:b=it:=by simpa using hb
  subst e
  exact ⟨_,st,fun v z=>by
   have z':Data.fields _=Data.cell v:=z;cases z'⟩
 keep:=fun i h h' st k=>k it (by simp) _ st
 item:=by
  intro X hP hw hK hc i pins s σ H E I hf st hg;subst hP hw hK;obtain ⟨f0,f1,f2,f3,f4,f5⟩:=hf it (by simp);have W:=Walks.range (prog:=X.prog) (w:=X.w) (I.ok.hd hc) it lo 1 n;refine W.item i s _ _ hg st fun v h' tk hv st' kk=> ?_;obtain ⟨t,rfl⟩:=hv;have I1:Inv X pins σ H {s with heap:=h',toks:=tk}:=I.turned (fun b o hb e=>kk b o (by simpa using hb) e) f0 f1 f3 f4 f5;refine ⟨_,rfl,K3 (s:={s with heap:=h',toks:=tk}) (n:= "range_iterator") st' rfl rfl (by decide) ⟨.int (lo+i),H,I1,⟨t, ?_⟩,⟨rfl,rfl⟩,st',fun b hb=>(hf b hb).1⟩⟩;rw [Int.mul_one]
 done:=by
  intro X hP hw hK hc i pins s σ H E I hf st hg;subst hP hw hK;obtain ⟨f0,f1,f2,f3,f4,f5⟩:=hf it (by simp);exact wpAny_pyNext_range_end (I.ok.hd hc) st (by have:n<=i:=hg;omega) fun h' eb=>⟨rfl,I.turned (t':=s.toks) (fun b o hb e=>eb b o hb e) f0 f1 f3 f4 f5⟩
 self:=fun _ _ _ _ _ st h=>wpAny_pyIter_rangeiter st h
end L2
namespace L2
open PySem PySem.Spec PyProof.Rows
section
variable {X:Cx} {tg:Expr}
def Zh (K:PySem.W.Frag) (tl:TE):TI:=fun σ H R=>tl σ H fun x H1=>∃a,x = .ref a/\(∃xs,bO K H1 a xs)/\R (Itl K a) H1
def acN (K:PySem.W.Frag) (tl:TE):TI:=fun σ H R=>tl σ H fun x H1=>∃a,x = .ref a/\(∃xs,eU K H1 a xs)/\R (Itt K a) H1
theorem Xv {l:Expr} {tl:TE} (hl:PE X l tl):PI X tg l (Zh X.K tl):=by
 intro pins s σ H R I h;refine fu (hl pins s σ H _ I h) fun v s1 ⟨x,H1,I1,r1,q1⟩=> ?_;obtain ⟨a,e,⟨xs,hq⟩,q⟩:=q1;subst e;cases r1;obtain ⟨its,rv,p,hz⟩:=I1.list hq;refine wpAny_pyIter_list p.isList ?_;refine ⟨s1.heap.objs.size,[s1.heap.objs.size],_,_,H1,rfl,I1.kept (t':=s1.toks) fun b o e=>Heap.get?_push_of_some _ e,Qx a _,⟨_,Heap.get?_push_size _ rfl,rfl,rfl⟩,fun b hb=> ?_,q⟩;have e:b=s1.heap.objs.size:=by simpa using hb
 subst e;exact I1.Gz (Nat.le_refl _) (I1.hok.fresh (Nat.le_refl _))
theorem aal {l:Expr} {tl:TE} (hl:PE X l tl):PI X tg l (acN X.K tl):=by
 intro pins s σ H R I h;refine fu (hl pins s σ H _ I h) fun v s1 ⟨x,H1,I1,r1,q1⟩=> ?_;obtain ⟨a,e,⟨xs,hq⟩,q⟩:=q1;subst e;cases r1;obtain ⟨its,rv,p,hz⟩:=I1.tuple hq;refine wpAny_pyIter_tuple (show s1.heap.IsTuple a its.toArray from p) ?_;refine ⟨s1.heap.objs.size,[s1.heap.objs.size],_,_,H1,rfl,I1.kept (t':=s1.toks) fun b o e=>Heap.get?_push_of_some _ e,Mq a _,⟨_,Heap.get?_push_size _ rfl,rfl,rfl⟩,fun b hb=> ?_,q⟩;have e:b=s1.heap.objs.size:=by simpa using hb
 subst e;exact I1.Gz (Nat.le_refl _) (I1.hok.fresh (Nat.le_refl _))
theorem Km {pins:List (Addr×Obj)} {σ:St} {H:Hp} {s:Shared} {R:It->Hp->Prop} {E:Value->Shared->Prop} {lo hi:Int} {t u v:Tok} {tk:Nat} (I:Inv X pins σ H s) (h1: -(2 ^ 62)<=lo) (h2:lo<2 ^ 62) (h3: -(2 ^ 62)<=hi) (h4:hi<2 ^ 62)
 (q:R (Wq lo (hi - lo).toNat) H):wpAny (model X.prog X.w) X.A (pyIter (.ref s.heap.objs.size)) (PIE X pins σ tg R) E {s with heap:=s.heap.push {cls:= .type "range",data:= .fields #[.int lo t,.int hi u,.int 1 v]},toks:=tk}:=by
 refine wpAny_pyIter_range (IsRange.new ..) (small_one h1 h2 h3 h4) ?_;have I1:Inv X pins σ H {s with heap:=s.heap.push {cls:= .type "range",data:= .fields #[.int lo t,.int hi u,.int 1 v]},toks:=tk}:=I.kept fun b o e=>Heap.get?_push_of_some _ e
 refine ⟨(s.heap.push {cls:= .type "range",data:= .fields #[.int lo t,.int hi u,.int 1 v]}).objs.size,[(s.heap.push {cls:= .type "range",data:= .fields #[.int lo t,.int hi u,.int 1 v]}).objs.size],_,_,H,rfl,
  I1.kept (t':=tk) fun b o e=>Heap.get?_push_of_some _ e,Mr _ lo (hi - lo).toNat, ?_,fun b hb=> ?_,q⟩
 ·have e1:lo+((0:Nat):Int)*1=lo:=by simp
  have e2:(((hi - lo).toNat:Nat):Int) - ((0:Nat):Int)=Builtin.Range.rangeSize lo hi 1:=by rw [rangeSize_one];split<;>omega
  show IsRangeIter _ _ (lo+((0:Nat):Int)*1) ((((hi - lo).toNat:Nat):Int) - ((0:Nat):Int)) 1;rw [e1,e2];exact Heap.get?_push_size _ rfl
 ·have e:b=(s.heap.push {cls:= .type "range",data:= .fields #[.int lo t,.int hi u,.int 1 v]}).objs.size:=by simpa using hb
  subst e;exact I1.Gz (Nat.le_refl _) (I1.hok.fresh (Nat.le_refl _))
def acP (ta:TA):TI:=fun σ H R=>ta σ H fun vs H1=>∃j:Int,vs=[.int j] /\ -(2 ^ 62)<=j/\j<2 ^ 62/\R (Wq 0 j.toNat) H1
def acO (ta:TA):TI:=fun σ H R=>ta σ H fun vs H1=>∃i j:Int,vs=[.int i,.int j]/\(-(2 ^ 62)<=i/\i<2 ^ 62 /\ -(2 ^ 62)<=j/\j<2 ^ 62)/\R (Wq i (j - i).toNat) H1
theorem qp {a:Expr} {ta:TA} {p pos:Pos} (hg:Gl X "range") (hm:X.mg "range" = none) (ha:PA X [a] ta) (hs:starEach [a] X.env=[(false,eval a X.env)]:=by rfl):PI X tg (.Call (.Name "range" p) [a] [] pos) (acP ta):=by
 intro pins s σ H R I h;refine Call_ (wF I hg hm boot_range (PyProof.Rows.callWith_type1 (fu (ha pos pins s σ H _ I h) fun us s1 ⟨vs,H1,I1,r1,q1⟩=> ?_) hs rfl));obtain ⟨j,e,q1,q2,q⟩:=q1;subst e;cases r1 with
 | cons r rr=>
   cases rr;obtain ⟨t,rfl⟩:=r;exact call_range_1 (Km I1 (by omega) (by omega) q1 q2 (by simpa using q))
theorem Hh {a b:Expr} {ta:TA} {p pos:Pos} (hg:Gl X "range") (hm:X.mg "range" = none) (ha:PA X [a,b] ta) (hs:starEach [a,b] X.env=[(false,eval a X.env),(false,eval b X.env)]:=by rfl) (hs2:starEach [b] X.env=[(false,eval b X.env)]:=by rfl):
 PI X tg (.Call (.Name "range" p) [a,b] [] pos) (acO ta):=by
 intro pins s σ H R I h;refine Call_ (wF I hg hm boot_range (PyProof.Rows.callWith_type1 (fu (ha pos pins s σ H _ I h) fun us s1 ⟨vs,H1,I1,r1,q1⟩=> ?_) (by rw [hs,hs2]) (by rw [hs2];rfl)));obtain ⟨i,j,e,⟨q1,q2,q3,q4⟩,q⟩:=q1;subst e;cases r1 with
 | cons r rr=>
   cases rr with
   | cons r' rr=>
     cases rr;obtain ⟨t,rfl⟩:=r;obtain ⟨t',rfl⟩:=r';exact call_range_2 (Km I1 q1 q2 q3 q4 q)
def afF (wi:TI) (g:TG) (tb:TS):TS:=fun D σ H=>wi σ H fun J H1=>∃W:Nat->Nat->St->Hp->Prop,(∃m,W 0 m σ H1) /\ ∀i m σ H,W i m σ H ->
 (J.stop i H/\D.nx σ H)\/(J.go i H /\ ∃N:St->Hp->Prop,(∀σ' H',N σ' H' -> ∃m',m'<m/\W (i+1) m' σ' H') /\ ∀x H',J.ZV i H x H'->g x σ H' fun σ2 H2=>tb {D with nx:=N,ct:=N,bk:=D.nx} σ2 H2)
def Ep (fp:List Addr) (h:Heap):List (Addr×Obj):=fp.filterMap fun b=>(h.get? b).map fun o=>(b,o)
theorem uT {fp:List Addr} {h:Heap} {b:Addr} {o:Obj} (hb:b∈fp) (e:h.get? b=some o):(b,o)∈Ep fp h:=List.mem_filterMap.mpr ⟨b,hb,by rw [e];rfl⟩
theorem Q6 {fp:List Addr} {h:Heap} {p:Addr×Obj} (hp:p∈Ep fp h):p.1∈fp/\h.get? p.1=some p.2:=by
 obtain ⟨b,hb,e⟩:=List.mem_filterMap.mp hp;cases q:h.get? b with
 | none=>rw [q] at e;cases e
 | some o=>
   rw [q] at e;have e':(b,o)=p:=Option.some.inj e;subst e';exact ⟨hb,q⟩
theorem Inv.pinned {pins:List (Addr×Obj)} {σ:St} {H:Hp} {s:Shared} {fp:List Addr} (I:Inv X pins σ H s) (hf:∀b∈fp,wY X pins H b) (ho:∀b∈fp,∃o,s.heap.get? b=some o /\ ∀v,o.data ≠ .cell v):Inv X (pins++Ep fp s.heap) σ H s:=
 I.Py fun p hp=>(List.mem_append.mp hp).elim (fun z=>I.pin p (List.mem_append_right _ z)) fun z=>by
  obtain ⟨hb,e⟩:=Q6 z;obtain ⟨f0,f1,f2,_⟩:=hf p.1 hb;obtain ⟨o,e',d⟩:=ho p.1 hb;rw [e] at e';cases e';exact ⟨e,f0,f1,f2,d⟩
theorem Inv.zj {pins pl:List (Addr×Obj)} {σ:St} {H:Hp} {s:Shared} (I:Inv X (pins++pl) σ H s):Inv X pins σ H s:=I.Py fun p hp=>I.pin p (List.mem_append_right _ (List.mem_append_left _ hp))
theorem oZ {iter:Expr} {body:List Stmt} {wi:TI} {g:TG} {tb:TS} {pos:Pos} (hp:PassesOwn (model X.prog X.w) X.A X.env X.xe) (hc:X.calm=true) (hi:PI X tg iter wi) (hg:PG X tg g) (hb:OD X body tb)
 (hs:∀x,foldedSetIterable iter X.env x=pure x:=by intro _;rfl):PS X (.For tg iter body [] pos) (afF wi g tb):=by
 intro pins s σ H D I h;refine wpAny_For (fu (hi pins s σ H _ I h) fun v s1 h1=>fu h1 fun itv s2 h2=> ?_) hs;obtain ⟨it,fp,tn,J,H2,e,I2,T,st2,f2,W,⟨m0,w0⟩,turn⟩:=h2;subst e;have stat:∀{H':Hp},(∀b∈fp,H' b=none) -> ∀b∈fp,wY X pins H' b:=fun hn b hb=>⟨hn b hb,(f2 b hb).2⟩;refine codeAny_forLoop_any (fun n s'=>∃i σ' H',Inv X pins σ' H' s'/\tn i s'.heap/\(∀b∈fp,H' b=none)/\W i n σ' H') ?_ m0 ⟨0,σ,H2,I2,st2,fun b hb=>(f2 b hb).1,w0⟩;rintro n s3 ⟨i,σ3,H3,I3,st3,fr3,w3⟩;rcases turn i n σ3 H3 w3 with ⟨stop,qn⟩|⟨go,N,hN,step⟩
 ·refine wpAny_passesOwn hp (fu (T.done X rfl rfl rfl hc i pins s3 σ3 H3 X.xe I3 (stat fr3) st3 stop) fun r s4 ⟨hr,I4⟩=> ?_)
  subst hr;exact wpAny_execs_nil ⟨σ3,H3,I4,qn⟩
 ·refine wpAny_passesOwn hp (fu (T.item X rfl rfl rfl hc i pins s3 σ3 H3 X.xe I3 (stat fr3) st3 go) fun r s4 ⟨u,hr,h4⟩=> ?_)
  subst hr;refine wpAny_passesOwn hp (fu h4 fun _ s5 ⟨x,H5,I5,r5,y5,Z9,fr5⟩=> ?_);have I5':=I5.pinned (stat fr5) (T.obj _ _ Z9);refine wpAny_passesOwn hp (fu (hg _ s5 σ3 H5 x u _ I5' r5 (step x H5 y5)) fun _ s6 ⟨σ6,H6,I6,q6⟩=> ?_);refine wpAny_passesOwn hp (fu (hb _ s6 σ6 H6 _ I6 q6) fun f s7 q7=> ?_)
  have again:∀{σ7:St} {H7:Hp},Inv X (pins++Ep fp s5.heap) σ7 H7 s7->N σ7 H7 -> ∃m,m<n /\ ∃i σ' H',Inv X pins σ' H' s7/\tn i s7.heap/\(∀b∈fp,H' b=none)/\W i m σ' H':=fun {σ7 H7} I7 n7=>by
   obtain ⟨m',hm,w7⟩:=hN σ7 H7 n7;refine ⟨m',hm,i+1,σ7,H7,I7.zj,T.keep _ _ _ Z9 fun b hb o e=>(I7.pin (b,o) (List.mem_append_right _ (List.mem_append_right _ (uT hb e)))).1,fun b hb=> ?_,w7⟩;obtain ⟨o,e,d⟩:=T.obj _ _ Z9 b hb;exact (I7.pin (b,o) (List.mem_append_right _ (List.mem_append_right _ (uT hb e)))).2.1
  cases f with
  | next=>obtain ⟨σ7,H7,I7,n7⟩:=q7;exact again I7 n7
  | cont=>obtain ⟨σ7,H7,I7,n7⟩:=q7;exact again I7 n7
  | brk=>obtain ⟨σ7,H7,I7,q7⟩:=q7;exact ⟨σ7,H7,I7.zj,q7⟩
  | ret v=>obtain ⟨x7,σ7,H7,I7,r7,q7⟩:=q7;exact ⟨x7,σ7,H7,I7.zj,r7,q7⟩
end
theorem wL {K:PySem.W.Frag} {a:Addr} {xs:List V} {g:TG} {tb:TS} {D:Ends} {σ:St} {H:Hp} (Pv:Nat->St->Hp->Prop) (h0:Pv 0 σ H) (hl:∀i σ H,i<=xs.length->Pv i σ H->bO K H a xs)
 (hs:∀i x σ H,xs[i]? = some x->Pv i σ H->g x σ H fun σ2 H2=>tb {D with nx:=Pv (i+1),ct:=Pv (i+1),bk:=D.nx} σ2 H2) (hd:∀σ H,Pv xs.length σ H->D.nx σ H):
 ∃W:Nat->Nat->St->Hp->Prop,(∃m,W 0 m σ H) /\ ∀i m σ H,W i m σ H ->
  ((Itl K a).stop i H/\D.nx σ H)\/((Itl K a).go i H /\ ∃N:St->Hp->Prop,(∀σ' H',N σ' H' -> ∃m',m'<m/\W (i+1) m' σ' H') /\ ∀x H',(Itl K a).ZV i H x H'->g x σ H' fun σ2 H2=>tb {D with nx:=N,ct:=N,bk:=D.nx} σ2 H2):=by
 refine ⟨fun i m σ H=>m=xs.length - i/\i<=xs.length/\Pv i σ H,⟨xs.length,by simp,Nat.zero_le _,h0⟩, ?_⟩;rintro i m σ H ⟨rfl,hi,p⟩;have q:=hl i σ H hi p
 by_cases hlt:i<xs.length
 ·refine .inr ⟨⟨xs,xs[i],q,by simp [hlt]⟩,Pv (i+1),fun σ' H' p'=>⟨xs.length - (i+1),by omega,rfl,hlt,p'⟩,fun x H' y=> ?_⟩
  obtain ⟨e,y⟩:=y;subst e;exact hs i x σ _ (y xs q) p
 ·have e:i=xs.length:=by omega
  subst e;exact .inl ⟨⟨xs,q,Nat.le_refl _⟩,hd σ H p⟩
theorem Yq {K:PySem.W.Frag} {a:Addr} {xs:List V} {g:TG} {tb:TS} {D:Ends} {σ:St} {H:Hp} (Pv:Nat->St->Hp->Prop) (h0:Pv 0 σ H) (hl:∀i σ H,i<=xs.length->Pv i σ H->eU K H a xs)
 (hs:∀i x σ H,xs[i]? = some x->Pv i σ H->g x σ H fun σ2 H2=>tb {D with nx:=Pv (i+1),ct:=Pv (i+1),bk:=D.nx} σ2 H2) (hd:∀σ H,Pv xs.length σ H->D.nx σ H):
 ∃W:Nat->Nat->St->Hp->Prop,(∃m,W 0 m σ H) /\ ∀i m σ H,W i m σ H ->
  ((Itt K a).stop i H/\D.nx σ H)\/((Itt K a).go i H /\ ∃N:St->Hp->Prop,(∀σ' H',N σ' H' -> ∃m',m'<m/\W (i+1) m' σ' H') /\ ∀x H',(Itt K a).ZV i H x H'->g x σ H' fun σ2 H2=>tb {D with nx:=N,ct:=N,bk:=D.nx} σ2 H2):=by
 refine ⟨fun i m σ H=>m=xs.length - i/\i<=xs.length/\Pv i σ H,⟨xs.length,by simp,Nat.zero_le _,h0⟩, ?_⟩;rintro i m σ H ⟨rfl,hi,p⟩;have q:=hl i σ H hi p
 by_cases hlt:i<xs.length
 ·refine .inr ⟨⟨xs,xs[i],q,by simp [hlt]⟩,Pv (i+1),fun σ' H' p'=>⟨xs.length - (i+1),by omega,rfl,hlt,p'⟩,fun x H' y=> ?_⟩
  obtain ⟨e,y⟩:=y;subst e;exact hs i x σ _ (y xs q) p
 ·have e:i=xs.length:=by omega
  subst e;exact .inl ⟨⟨xs,q,Nat.le_refl _⟩,hd σ H p⟩
theorem tL {lo:Int} {n:Nat} {g:TG} {tb:TS} {D:Ends} {σ:St} {H:Hp} (Pv:Nat->St->Hp->Prop) (h0:Pv 0 σ H)
 (hs:∀i σ H,i<n->Pv i σ H->g (.int (lo+i)) σ H fun σ2 H2=>tb {D with nx:=Pv (i+1),ct:=Pv (i+1),bk:=D.nx} σ2 H2) (hd:∀σ H,Pv n σ H->D.nx σ H):
 ∃W:Nat->Nat->St->Hp->Prop,(∃m,W 0 m σ H) /\ ∀i m σ H,W i m σ H ->
  ((Wq lo n).stop i H/\D.nx σ H)\/((Wq lo n).go i H /\ ∃N:St->Hp->Prop,(∀σ' H',N σ' H' -> ∃m',m'<m/\W (i+1) m' σ' H') /\ ∀x H',(Wq lo n).ZV i H x H'->g x σ H' fun σ2 H2=>tb {D with nx:=N,ct:=N,bk:=D.nx} σ2 H2):=by
 refine ⟨fun i m σ H=>m=n - i/\i<=n/\Pv i σ H,⟨n,by simp,Nat.zero_le _,h0⟩, ?_⟩;rintro i m σ H ⟨rfl,hi,p⟩
 by_cases hlt:i<n
 ·refine .inr ⟨hlt,Pv (i+1),fun σ' H' p'=>⟨n - (i+1),by omega,rfl,hlt,p'⟩,fun x H' y=> ?_⟩
  obtain ⟨e,y⟩:=y;subst e y;exact hs i σ _ hlt p
 ·have e:i=n:=by omega
  subst e;exact .inl ⟨Nat.le_refl _,hd σ H p⟩
end L2
namespace L2
open PySem PySem.Spec PyProof.Rows
abbrev R2:=V->V->Hp->VK->Prop
def vp (X:Cx) (f:Value->Value->Sem Value) (r:R2):Prop:=
 ∀(pins:List (Addr×Obj)) (s:Shared) (σ:St) (H:Hp) (x y:V) (v u:Value) (Q:VK),Inv X pins σ H s->RelV x v->RelV y u->r x y H Q ->
  wpAny (model X.prog X.w) X.A (f v u) (EP X pins σ Q) X.xe s
def UnR (X:Cx) (f:Value->Sem Value) (r:V->Hp->VK->Prop):Prop:=
 ∀(pins:List (Addr×Obj)) (s:Shared) (σ:St) (H:Hp) (x:V) (v:Value) (Q:VK),Inv X pins σ H s->RelV x v->r x H Q ->
  wpAny (model X.prog X.w) X.A (f v) (EP X pins σ Q) X.xe s
def jL (X:Cx) (f:Value) (r:List V->Hp->VK->Prop):Prop:=
 ∀(pins:List (Addr×Obj)) (s:Shared) (σ:St) (H:Hp) (xs:List V) (us:List Value) (Q:VK),Inv X pins σ H s->Vals xs us->r xs H Q ->
  wpAny (model X.prog X.w) X.A (call f us) (EP X pins σ Q) X.xe s
def akZ (X:Cx) (r:V->Hp->(Bool->Hp->Prop)->Prop):Prop:=
 ∀(pins:List (Addr×Obj)) (s:Shared) (σ:St) (H:Hp) (x:V) (v:Value) (Q:Bool->Hp->Prop),Inv X pins σ H s->RelV x v->r x H Q ->
  wpAny (model X.prog X.w) X.A (truthy v) (TP X pins σ Q) X.xe s
def tOp (r:R2) (ta tb:TE):TE:=fun σ H Q=>ta σ H fun x H1=>tb σ H1 fun y H2=>r x y H2 Q
def tUn (r:V->Hp->VK->Prop) (ta:TE):TE:=fun σ H Q=>ta σ H fun x H1=>r x H1 Q
def rI (C:Int->Int->Prop) (g:Int->Int->V):R2:=fun x y H Q=>∃i j,x = .int i/\y = .int j/\C i j/\Q (g i j) H
def Y_ (g:Int->Int->V):R2:=fun x y H Q=>∃i j,x = .int i/\y = .int j/\Q (g i j) H
def rU (g:Int->V):V->Hp->VK->Prop:=fun x H Q=>∃i,x = .int i/\Q (g i) H
section
variable {X:Cx} {a b c:Expr} {ta tb tc:TE} {pos:Pos}
theorem aa' (ha:PE X a ta) (hb:PE X b tb) {pins:List (Addr×Obj)} {s:Shared} {σ:St} {H:Hp} {R:V->V->Hp->Prop} (I:Inv X pins σ H s)
 (h:ta σ H fun x H1=>tb σ H1 fun y H2=>R x y H2) {Q:Value->Shared->Prop} {f:Value->Value->Sem Value}
 (hf:∀v u s2 x y H2,Inv X pins σ H2 s2->RelV x v->RelV y u->R x y H2->wpAny (model X.prog X.w) X.A (f v u) Q X.xe s2):
 wpAny (model X.prog X.w) X.A (eval a X.env) (fun v s₁=>wpAny (model X.prog X.w) X.A (eval b X.env) (fun u s₂=>wpAny (model X.prog X.w) X.A (f v u) Q X.xe s₂) X.xe s₁) X.xe s:=by
 refine fu (ha pins s σ H _ I h) fun v s1 ⟨x,H1,I1,r1,q1⟩=> ?_;refine fu (hb pins s1 σ H1 _ I1 q1) fun u s2 ⟨y,H2,I2,r2,q2⟩=> ?_;exact hf v u s2 x y H2 I2 r1 r2 q2
theorem bB {op:Operator} {r:R2} (ho:vp X (binaryOp op) r) (ha:PE X a ta) (hb:PE X b tb):PE X (.BinOp a op b pos) (tOp r ta tb):=by
 intro pins s σ H Q I h;exact wpAny_BinOp (aa' ha hb I h fun v u s2 x y H2 I2 rx ry q=>ho pins s2 σ H2 x y v u Q I2 rx ry q)
theorem pL {op:UnaryOp} {r:V->Hp->VK->Prop} (ho:UnR X (unaryOp op) r) (ha:PE X a ta):PE X (.UnaryOp op a pos) (tUn r ta):=by
 intro pins s σ H Q I h;exact UnaryOp_ (fu (ha pins s σ H _ I h) fun v s1 ⟨x,H1,I1,r1,q1⟩=>ho pins s1 σ H1 x v Q I1 r1 q1)
theorem opI {f:Value->Value->Sem Value} {C:Int->Int->Prop} {g:Int->Int->Int}
 (rule:∀(i j:Int) (t u:Tok) (s:Shared) (Q:Value->Shared->Prop) (E:Value->Shared->Prop),C i j->Q (.int (g i j) s.toks) {s with toks:=s.toks+1}->wpAny (model X.prog X.w) X.A (f (.int i t) (.int j u)) Q E s):
 vp X f (rI C fun i j=> .int (g i j)):=by
 intro pins s σ H x y v u Q I rx ry h;obtain ⟨i,j,rfl,rfl,hc,q⟩:=h;obtain ⟨t,rfl⟩:=rx;obtain ⟨t',rfl⟩:=ry;exact rule i j t t' s _ _ hc ⟨.int (g i j),H,I.tok _,⟨_,rfl⟩,q⟩
theorem acq {f:Value->Value->Sem Value} {g:Int->Int->Int}
 (rule:∀(i j:Int) (t u:Tok) (s:Shared) (Q:Value->Shared->Prop) (E:Value->Shared->Prop),Q (.int (g i j) s.toks) {s with toks:=s.toks+1}->wpAny (model X.prog X.w) X.A (f (.int i t) (.int j u)) Q E s):
 vp X f (Y_ fun i j=> .int (g i j)):=by
 intro pins s σ H x y v u Q I rx ry h;obtain ⟨i,j,rfl,rfl,q⟩:=h;obtain ⟨t,rfl⟩:=rx;obtain ⟨t',rfl⟩:=ry;exact rule i j t t' s _ _ ⟨.int (g i j),H,I.tok _,⟨_,rfl⟩,q⟩
theorem XF {f:Value->Value->Sem Value} {g:Int->Int->Bool}
 (rule:∀(i j:Int) (t u:Tok) (s:Shared) (Q:Value->Shared->Prop) (E:Value->Shared->Prop),Q (.bool (g i j)) s->wpAny (model X.prog X.w) X.A (f (.int i t) (.int j u)) Q E s):
 vp X f (Y_ fun i j=> .bl (g i j)):=by
 intro pins s σ H x y v u Q I rx ry h;obtain ⟨i,j,rfl,rfl,q⟩:=h;obtain ⟨t,rfl⟩:=rx;obtain ⟨t',rfl⟩:=ry;exact rule i j t t' s _ _ ⟨.bl (g i j),H,I,rfl,q⟩
def aed (i j:Int):Prop:=0<j/\j<1073741824
def Lz (i j:Int):Prop:=0<=j/\j<=1000000/\i.natAbs<2 ^ 64
def abr (i j:Int):Prop:=(-(2 ^ 64)<i/\i<2 ^ 64)\/(-(2 ^ 64)<j/\j<2 ^ 64)
theorem abr.ok {i j:Int} (h:abr i j):IntMulOk i j:=by
 rcases h with ⟨h1,h2⟩|⟨h1,h2⟩
 ·exact .of_left (intBits_le_64 h1 h2)
 ·exact .of_right (intBits_le_64 h1 h2)
theorem dJ:vp X (binaryOp .Add) (Y_ fun i j=> .int (i+j)):=acq fun _ _ _ _ _ _ _ q=>add_int q
theorem Et:vp X (binaryOp .Sub) (Y_ fun i j=> .int (i - j)):=acq fun _ _ _ _ _ _ _ q=>sub_int q
theorem Eu:vp X (binaryOp .Mult) (rI abr fun i j=> .int (i*j)):=opI fun _ _ _ _ _ _ _ hc q=>mul_int q hc.ok
theorem PN:vp X (binaryOp .FloorDiv) (rI aed fun i j=> .int (i / j)):=opI fun i j _ _ _ _ _ hc q=>by
 have h1:(0:Int)<j:=hc.1;have h2:j<1073741824:=hc.2;exact floordiv_int (by omega) (by rw [Int.fdiv_eq_ediv_of_nonneg i (by omega)];exact q) (.inl (PyProof.noPylong_small (by omega)))
theorem wz:vp X (binaryOp .Mod) (rI (fun _ j=>0<j) fun i j=> .int (i % j)):=opI fun i j _ _ _ _ _ hc q=>by
 have h1:(0:Int)<j:=hc;exact mod_int' (by omega) (by rw [Int.fmod_eq_emod_of_nonneg i (by omega)];exact q)
theorem wu:vp X (binaryOp .Pow) (rI Lz fun i j=> .int (i ^ j.toNat)):=opI fun _ _ _ _ _ _ _ hc q=>pow_int_small hc.1 hc.2.1 hc.2.2 q
theorem unI {f:Value->Sem Value} {g:Int->Int}
 (rule:∀(i:Int) (t:Tok) (s:Shared) (Q:Value->Shared->Prop) (E:Value->Shared->Prop),Q (.int (g i) s.toks) {s with toks:=s.toks+1}->wpAny (model X.prog X.w) X.A (f (.int i t)) Q E s):
 UnR X f (rU fun i=> .int (g i)):=by
 intro pins s σ H x v Q I rx h;obtain ⟨i,rfl,q⟩:=h;obtain ⟨t,rfl⟩:=rx;exact rule i t s _ _ ⟨.int (g i),H,I.tok _,⟨_,rfl⟩,q⟩
theorem iJ:UnR X (unaryOp .USub) (rU fun i=> .int (-i)):=unI fun _ _ _ _ _ q=>neg_int q
end
def ab3:V->V->Bool
 | .non,.non=>true | .non,.int _=>true | .int _,.non=>true | .non,.bl _=>true | .bl _,.non=>true | .non,.str _=>true | .str _,.non=>true
 | .int _,.int _=>true | .bl _,.bl _=>true | .str _,.str _=>true | .Lg _,.Lg _=>true
 | .int _,.str _=>true | .str _,.int _=>true | .bl _,.str _=>true | .str _,.bl _=>true
 | _,_=>false
def rEq:R2:=fun x y H Q=>ab3 x y=true/\Q (.bl (decide (x=y))) H
def rNe:R2:=fun x y H Q=>ab3 x y=true/\Q (.bl (!decide (x=y))) H
theorem Qh {i j:Int}:decide (V.int i=V.int j)=(i==j):=by
 rw [Bool.eq_iff_iff];simp
theorem VN {i j:Bool}:decide (V.bl i=V.bl j)=(i==j):=by
 rw [Bool.eq_iff_iff];simp
theorem Qg {i j:Str}:decide (V.str i=V.str j)=(i==j):=by
 rw [Bool.eq_iff_iff];simp
theorem Qi {i j:Array UInt8}:decide (V.Lg i=V.Lg j)=(i.toList==j.toList):=by
 rw [Bool.eq_iff_iff];cases i;cases j;simp
section
variable {X:Cx} {a b c:Expr} {ta tb tc:TE} {pos:Pos}
theorem cG {pins:List (Addr×Obj)} {σ:St} {H:Hp} {s:Shared} {Q:VK} {k k':Bool} (I:Inv X pins σ H s) (q:Q (.bl k) H) (e:k=k'):EP X pins σ Q (.bool k') s:=by
 subst e;exact ⟨.bl k,H,I,rfl,q⟩
theorem cB:vp X (compareOp .Eq) rEq:=by
 intro pins s σ H x y v u Q I rx ry h;obtain ⟨hs,q⟩:=h;cases x with
 | non=>
   cases rx;cases y with
   | non=>cases ry;exact PySem.EqNone.eq_none_none (cG I q (by simp))
   | bl j=>cases ry;exact PySem.EqNone.eq_none_bool (cG I q (by simp))
   | int j=>obtain ⟨t',rfl⟩:=ry;exact PySem.EqNone.eq_none_int (cG I q (by simp))
   | str j=>obtain ⟨t',rfl⟩:=ry;exact PySem.EqNone.eq_none_str (cG I q (by simp))
   | _=>exact absurd (show false=true from hs) Bool.false_ne_true
 | bl i=>
   cases rx;cases y with
   | non=>cases ry;exact PySem.EqNone.eq_bool_none (cG I q (by simp))
   | bl j=>cases ry;exact eq_bool (cG I q VN)
   | str j=>obtain ⟨t',rfl⟩:=ry;exact PySem.EqMixed.eq_bool_str (cG I q (by simp))
   | _=>exact absurd (show false=true from hs) Bool.false_ne_true
 | int i=>
   obtain ⟨t,rfl⟩:=rx;cases y with
   | non=>cases ry;exact PySem.EqNone.eq_int_none (cG I q (by simp))
   | int j=>obtain ⟨t',rfl⟩:=ry;exact eq_int (cG I q Qh)
   | str j=>obtain ⟨t',rfl⟩:=ry;exact PySem.EqMixed.eq_int_str (cG I q (by simp))
   | _=>exact absurd (show false=true from hs) Bool.false_ne_true
 | str i=>
   obtain ⟨t,rfl⟩:=rx;cases y with
   | non=>cases ry;exact PySem.EqNone.eq_str_none (cG I q (by simp))
   | bl j=>cases ry;exact PySem.EqMixed.eq_str_bool (cG I q (by simp))
   | int j=>obtain ⟨t',rfl⟩:=ry;exact PySem.EqMixed.eq_str_int (cG I q (by simp))
   | str j=>obtain ⟨t',rfl⟩:=ry;exact eq_str (cG I q Qg)
   | _=>exact absurd (show false=true from hs) Bool.false_ne_true
 | Lg i=>
   obtain ⟨t,rfl⟩:=rx;cases y with
   | Lg j=>obtain ⟨t',rfl⟩:=ry;exact PySem.W.eq_bytes (cG I q Qi)
   | _=>exact absurd (show false=true from hs) Bool.false_ne_true
 | _=>cases y<;>exact absurd (show false=true from hs) Bool.false_ne_true
theorem Kw:vp X (compareOp .NotEq) rNe:=by
 intro pins s σ H x y v u Q I rx ry h;obtain ⟨hs,q⟩:=h;cases x with
 | non=>
   cases rx;cases y with
   | non=>cases ry;exact PySem.EqNone.ne_none_none (cG I q (by simp))
   | bl j=>cases ry;exact PySem.EqNone.ne_none_bool (cG I q (by simp))
   | int j=>obtain ⟨t',rfl⟩:=ry;exact PySem.EqNone.ne_none_int (cG I q (by simp))
   | str j=>obtain ⟨t',rfl⟩:=ry;exact PySem.EqNone.ne_none_str (cG I q (by simp))
   | _=>exact absurd (show false=true from hs) Bool.false_ne_true
 | bl i=>
   cases rx;cases y with
   | non=>cases ry;exact PySem.EqNone.ne_bool_none (cG I q (by simp))
   | bl j=>cases ry;exact ne_bool (cG I q (congrArg not VN))
   | str j=>obtain ⟨t',rfl⟩:=ry;exact PySem.EqMixed.ne_bool_str (cG I q (by simp))
   | _=>exact absurd (show false=true from hs) Bool.false_ne_true
 | int i=>
   obtain ⟨t,rfl⟩:=rx;cases y with
   | non=>cases ry;exact PySem.EqNone.ne_int_none (cG I q (by simp))
   | int j=>obtain ⟨t',rfl⟩:=ry;exact ne_int (cG I q (congrArg not Qh))
   | str j=>obtain ⟨t',rfl⟩:=ry;exact PySem.EqMixed.ne_int_str (cG I q (by simp))
   | _=>exact absurd (show false=true from hs) Bool.false_ne_true
 | str i=>
   obtain ⟨t,rfl⟩:=rx;cases y with
   | non=>cases ry;exact PySem.EqNone.ne_str_none (cG I q (by simp))
   | bl j=>cases ry;exact PySem.EqMixed.ne_str_bool (cG I q (by simp))
   | int j=>obtain ⟨t',rfl⟩:=ry;exact PySem.EqMixed.ne_str_int (cG I q (by simp))
   | str j=>obtain ⟨t',rfl⟩:=ry;exact ne_str (cG I q (congrArg not Qg))
   | _=>exact absurd (show false=true from hs) Bool.false_ne_true
 | Lg i=>
   obtain ⟨t,rfl⟩:=rx;cases y with
   | Lg j=>obtain ⟨t',rfl⟩:=ry;exact PySem.W.ne_bytes (cG I q (congrArg not Qi))
   | _=>exact absurd (show false=true from hs) Bool.false_ne_true
 | _=>cases y<;>exact absurd (show false=true from hs) Bool.false_ne_true
theorem PK:vp X (compareOp .Lt) (Y_ fun i j=> .bl (decide (i<j))):=XF fun _ _ _ _ _ _ _ q=>lt_int q
theorem PL:vp X (compareOp .LtE) (Y_ fun i j=> .bl (decide (i<=j))):=XF fun _ _ _ _ _ _ _ q=>le_int q
theorem zJ:vp X (compareOp .Gt) (Y_ fun i j=> .bl (decide (j<i))):=XF fun _ _ _ _ _ _ _ q=>gt_int q
theorem Ky:vp X (compareOp .GtE) (Y_ fun i j=> .bl (decide (j<=i))):=XF fun _ _ _ _ _ _ _ q=>ge_int q
theorem jG:vp X (compareOp .In) (fun x y H Q=>∃i j,x = .str i/\y = .str j/\Q (.bl (!(Builtin.Str.occurrences j i 0 j.length 1).isEmpty)) H):=by
 intro pins s σ H x y v u Q I rx ry h;obtain ⟨i,j,rfl,rfl,q⟩:=h;obtain ⟨t,rfl⟩:=rx;obtain ⟨t',rfl⟩:=ry;exact in_str (cG I q rfl)
theorem Bj:vp X (compareOp .Is) (fun x y H Q=>y = .non/\Q (.bl (decide (x = .non))) H):=by
 intro pins s σ H x y v u Q I rx ry h;obtain ⟨rfl,q⟩:=h;cases ry;refine is_none_gen (cG I q ?_)
 cases x<;>first
  | (cases rx;rfl)
  | (obtain ⟨t,rfl⟩:=rx;rfl)
theorem XC:vp X (compareOp .IsNot) (fun x y H Q=>y = .non/\Q (.bl (!decide (x = .non))) H):=by
 intro pins s σ H x y v u Q I rx ry h;obtain ⟨rfl,q⟩:=h;cases ry;refine isnot_none_gen (cG I q ?_)
 cases x<;>first
  | (cases rx;rfl)
  | (obtain ⟨t,rfl⟩:=rx;rfl)
def isObj:HO->Bool
 | .lst _=>true
 | .ins _ _ _=>true
 | _=>false
theorem aO (b:Expr) {op:CmpOp} (h:op ≠ .In:=by decide) (h2:op ≠ .NotIn:=by decide):behindInMarks op b=false:=by
 have e1:(op==CmpOp.In)=false:=by cases op<;>first |rfl|exact absurd rfl h
 have e2:(op==CmpOp.NotIn)=false:=by cases op<;>first |rfl|exact absurd rfl h2
 cases b<;>simp [behindInMarks,e1,e2]
theorem dU {op:CmpOp} {r:R2} (ho:vp X (compareOp op) r) (ha:PE X a ta) (hb:PE X b tb) (hm:behindInMarks op b=false):PE X (.Compare a [op] [b] pos) (tOp r ta tb):=by
 intro pins s σ H Q I h;exact wpAny_Compare1 (aa' ha hb I h fun v u s2 x y H2 I2 rx ry q=>ho pins s2 σ H2 x y v u Q I2 rx ry q) hm
def Y6 (t:TE):TT:=fun σ H Q=>t σ H fun x H'=>∃k,x = .bl k/\Q k H'
theorem aK {op:CmpOp} {r:R2} (ho:vp X (compareOp op) r) (ha:PE X a ta) (hb:PE X b tb) (hm:behindInMarks op b=false):PT X (.Compare a [op] [b] pos) (Y6 (tOp r ta tb)):=by
 intro pins s σ H Q I h
 refine wpAny_isTrue_Compare1 (fu (ha pins s σ H _ I h) fun v s1 ⟨x,H1,I1,r1,q1⟩=>fu (hb pins s1 σ H1 _ I1 q1) fun u s2 ⟨y,H2,I2,r2,q2⟩=>
  fu (ho pins s2 σ H2 x y v u _ I2 r1 r2 q2) fun c s3 ⟨z,H3,I3,r3,k,e,q3⟩=> ?_) hm
 subst e;cases r3;exact wpAny_truthy_bool ⟨H3,I3,q3⟩
def Z7 (r r':R2) (ta tb tc:TE):TE:=fun σ H Q=>ta σ H fun x H1=>tb σ H1 fun y H2=>r x y H2 fun z H3=>∃k,z = .bl k /\
 (if k=true then tc σ H3 fun w' H4=>r' y w' H4 Q else Q (.bl false) H3)
theorem Ko {op op':CmpOp} {r r':R2} (ho:vp X (compareOp op) r) (ho':vp X (compareOp op') r') (ha:PE X a ta) (hb:PE X b tb) (hc:PE X c tc)
 (hm:lastMarks [op,op'] [b,c]=false:=by with_unfolding_all rfl):PT X (.Compare a [op,op'] [b,c] pos) (Y6 (Z7 r r' ta tb tc)):=by
 intro pins s σ H Q I h
 refine isTrue_chain (fu (ha pins s σ H _ I h) fun v s1 ⟨x,H1,I1,r1,q1⟩=>test_link (fu (hb pins s1 σ H1 _ I1 q1) fun u s2 ⟨y,H2,I2,r2,q2⟩=>
  fu (ho pins s2 σ H2 x y v u _ I2 r1 r2 q2) fun d s3 ⟨z,H3,I3,r3,k,e,q3⟩=> ?_)) hm
 subst e;cases r3;refine wpAny_truthy_bool ?_;cases k with
 | false=>
   obtain ⟨k',e',q'⟩:=q3;cases e';exact ite_ff ⟨H3,I3,q'⟩
 | true=>
   refine ite_tt (test_last (fu (hc pins s3 σ H3 _ I3 q3) fun w' s4 ⟨z',H4,I4,r4,q4⟩=>fu (ho' pins s4 σ H4 y z' u w' _ I4 r2 r4 q4) fun d' s5 ⟨z2,H5,I5,r5,k2,e2,q5⟩=> ?_));subst e2;cases r5;exact wpAny_truthy_bool ⟨H5,I5,q5⟩
def abf (K:PySem.W.Frag) (x:V) (H:Hp) (k:Bool):Prop:=
 match x with
 | .non=>k=false
 | .bl b=>k=b
 | .int i=>k=(i != 0)
 | .str y=>y.length<=sizeLine/\k=((y.length:Int) != 0)
 | .Lg y=>y.size<=sizeLine/\k=((y.size:Int) != 0)
 | .ref p=>(∃xs,bO K H p xs/\k = !xs.isEmpty)\/(∃xs,eU K H p xs/\k = !xs.isEmpty) \/ ∃kvs,H p=some (.dK kvs)/\k = !kvs.isEmpty
 | _=>False
theorem Nz {κ:Type} {kvs:List (κ×V)} {vs:List (κ×Value)} (r:KV kvs vs):(!vs.isEmpty) = !kvs.isEmpty:=by
 cases r<;>rfl
theorem Ez {xs:List V} {its:List Value} (r:Vals xs its):(!its.toArray.isEmpty) = !xs.isEmpty:=by
 cases r<;>simp
theorem uV:(sizeLine:Nat)<2 ^ 63:=by rw [sizeLine_eq];decide
theorem Z5:akZ X (fun x H Q=>∃k,abf X.K x H k/\Q k H):=by
 intro pins s σ H x v Q I rx h;obtain ⟨k,e,q⟩:=h;have hl:=uV;have hs:sizeLine=16777216:=sizeLine_eq;cases x with
 | non=>
   cases rx;have e':k=false:=e;subst e';exact truthy_none ⟨H,I,q⟩
 | bl b=>
   cases rx;have e':k=b:=e;subst e';exact wpAny_truthy_bool ⟨H,I,q⟩
 | int i=>
   obtain ⟨t,rfl⟩:=rx;have e':k=(i != 0):=e;subst e';exact PySem.P.truthy_int ⟨H,I,q⟩
 | str y=>
   obtain ⟨t,rfl⟩:=rx;obtain ⟨hy,e'⟩:y.length<=sizeLine/\k=((y.length:Int) != 0):=e;subst e';exact PySem.P.truthy_str (by omega) ⟨H,I.tok _,q⟩
 | Lg y=>
   obtain ⟨t,rfl⟩:=rx;obtain ⟨hy,e'⟩:y.size<=sizeLine/\k=((y.size:Int) != 0):=e;subst e';exact PySem.W.truthy_bytes (by omega) ⟨H,I.tok _,q⟩
 | ref p=>
   cases rx;have e':(∃xs,bO X.K H p xs/\k = !xs.isEmpty)\/(∃xs,eU X.K H p xs/\k = !xs.isEmpty) \/ ∃kvs,H p=some (.dK kvs)/\k = !kvs.isEmpty:=e;rcases e' with ⟨xs,hx,e'⟩|⟨xs,hx,e'⟩|⟨kvs,hx,e'⟩
   ·subst e'
    obtain ⟨its,r,pl,hz⟩:=I.list hx;have hlen:=r.length;exact wpAny_truthy_list pl.isList (by simp only [List.size_toArray];omega) ⟨H,I.tok _,by rw [Ez r];exact q⟩
   ·subst e'
    obtain ⟨its,r,pl,hz⟩:=I.tuple hx;have hlen:=r.length;exact truthy_tuple pl (by simp only [List.size_toArray];omega) ⟨H,I.tok _,by rw [Ez r];exact q⟩
   ·subst e'
    obtain ⟨hz,hS,vs,r,m⟩:kvs.length<=sizeLine/\(p==sysModules)=false /\ ∃vs,KV kvs vs/\s.heap.DictOf (Jg X.prog X.w) p vs:=I.hok p _ hx;have hlen:kvs.length=vs.length:=Paired.length r;exact wpAny_truthy_dict hS m (by omega) ⟨H,I.tok _,by rw [Nz r];exact q⟩
 | _=>exact (show False from e).elim
theorem T4 (ha:PE X a ta) (he:∀whole,isTrue a X.env whole=(do let v ←whole;standAt a.pos;holding [v] (truthy v))):
 PT X a (fun σ H Q=>ta σ H fun x H'=>∃k,abf X.K x H' k/\Q k H'):=by
 intro pins s σ H Q I h;exact isTrue_plain (fu (ha pins s σ H _ I h) fun v s1 ⟨x,H1,I1,r1,q1⟩=>Z5 pins s1 σ H1 x v Q I1 r1 q1) (he _)
theorem ju:vp X (binaryOp .Add) (fun x y H Q=>∃i j,x = .str i/\y = .str j/\i.length+j.length<=sizeLine/\Q (.str (i++j)) H):=by
 intro pins s σ H x y v u Q I rx ry h;obtain ⟨i,j,rfl,rfl,hz,q⟩:=h;obtain ⟨t,rfl⟩:=rx;obtain ⟨t',rfl⟩:=ry;exact add_str (fun t' tk=>⟨.str (i++j),H,I.tok _,⟨_,rfl⟩,q⟩) hz
theorem vals1 {x:V} {us:List Value} (r:Vals [x] us):∃u,us=[u]/\RelV x u:=by
 cases r with
 | cons r1 r2=>cases r2;exact ⟨_,rfl,r1⟩
theorem vals2 {x y:V} {us:List Value} (r:Vals [x,y] us):∃u w',us=[u,w']/\RelV x u/\RelV y w':=by
 cases r with
 | cons r1 r2=>
   cases r2 with
   | cons r3 r4=>cases r4;exact ⟨_,_,rfl,r1,r3⟩
theorem Rt (hc:X.calm=true):jL X (.builtin "min") (fun xs H Q=>∃i j,xs=[.int i,.int j]/\Q (.int (if j<i then j else i)) H):=by
 intro pins s σ H xs us Q I r h;obtain ⟨i,j,rfl,q⟩:=h;obtain ⟨u,w',rfl,⟨t,rfl⟩,⟨t',rfl⟩⟩:=vals2 r;refine min_two_ints (I.ok.hd hc) fun h' tk k=>⟨_,H,I.kept k, ?_,q⟩
 by_cases hj:j<i
 ·rw [if_pos hj,if_pos hj];exact ⟨_,rfl⟩
 ·rw [if_neg hj,if_neg hj];exact ⟨_,rfl⟩
theorem tQ:jL X (.type "int") (fun xs H Q=>(∃i,xs=[.int i]/\Q (.int i) H) \/ ∃k,xs=[.bl k]/\Q (.int (if k then 1 else 0)) H):=by
 intro pins s σ H xs us Q I r h;rcases h with ⟨i,rfl,q⟩|⟨k,rfl,q⟩
 ·obtain ⟨u,rfl,t,rfl⟩:=vals1 r
  exact call_int_int ⟨.int i,H,I,⟨_,rfl⟩,q⟩
 ·obtain ⟨u,rfl,r1⟩:=vals1 r
  cases r1;exact call_int_bool ⟨.int (if k then 1 else 0),H,I.tok _,⟨_,rfl⟩,q⟩
theorem zU:jL X (.type "str") (fun xs H Q=>∃i,xs=[.int i]/\i.natAbs.log2<1920/\Q (.str (toString i)) H):=by
 intro pins s σ H xs us Q I r h;obtain ⟨i,rfl,hz,q⟩:=h;obtain ⟨u,rfl,t,rfl⟩:=vals1 r;exact PySem.P.str_of_int hz ⟨.str _,H,I.tok _,⟨_,rfl⟩,q⟩
def ak1 (K:PySem.W.Frag) (x:V) (H:Hp) (n:Nat):Prop:=
 match x with
 | .str y=>y.length<=sizeLine/\n=y.length
 | .Lg y=>y.size<=sizeLine/\n=y.size
 | .ref p=>(∃xs,bO K H p xs/\n=xs.length) \/ ∃xs,eU K H p xs/\n=xs.length
 | _=>False
theorem V5:jL X (.builtin "len") (fun xs H Q=>∃x n,xs=[x]/\ak1 X.K x H n/\Q (.int n) H):=by
 intro pins s σ H xs us Q I r h;obtain ⟨x,n,rfl,e,q⟩:=h;obtain ⟨u,rfl,rx⟩:=vals1 r;have hl:=uV;have hs:sizeLine=16777216:=sizeLine_eq;cases x with
 | str y=>
   obtain ⟨t,rfl⟩:=rx;obtain ⟨hy,e'⟩:y.length<=sizeLine/\n=y.length:=e;subst e';exact len_str (by omega) ⟨.int _,H,I.tok _,⟨_,rfl⟩,q⟩
 | Lg y=>
   obtain ⟨t,rfl⟩:=rx;obtain ⟨hy,e'⟩:y.size<=sizeLine/\n=y.size:=e;subst e';exact PySem.W.len_bytes (by omega) ⟨.int _,H,I.tok _,⟨_,rfl⟩,q⟩
 | ref p=>
   cases rx;have e':(∃xs,bO X.K H p xs/\n=xs.length) \/ ∃xs,eU X.K H p xs/\n=xs.length:=e;rcases e' with ⟨xs,hx,e'⟩|⟨xs,hx,e'⟩
   ·subst e'
    obtain ⟨its,r',pl,hz⟩:=I.list hx;have hlen:=r'.length;exact Calls.call_len_list pl.isList (by simp only [List.size_toArray];omega) ⟨.int xs.length,H,I.tok _,⟨_,by simp only [List.size_toArray];rw [hlen]⟩,q⟩
   ·subst e'
    obtain ⟨its,r',pl,hz⟩:=I.tuple hx;have hlen:=r'.length;exact len_tuple pl (by simp only [List.size_toArray];omega) ⟨.int xs.length,H,I.tok _,⟨_,by simp only [List.size_toArray];rw [hlen]⟩,q⟩
 | _=>exact (show False from e).elim
end
end L2
namespace L2
open PySem PySem.Spec PyProof.Rows
structure abk (h:Heap) (x dx C:Addr) (mA:Str->Option Value):Prop where
 obj:h.get? x=some (PySem.W.instObj C dx)
 ns:h.Ns1 dx mA
 ne:dx≠x
theorem Ho {h:Heap} {dx:Addr} {mA:Str->Option Value} (n:h.Ns1 dx mA):∃od,h.get? dx=some od /\ ∀name,PySem.W.lookIn name od=some (mA name):=by
 obtain ⟨o,es,ep,ho,hd,hk,_,hm⟩:=n;refine ⟨o,ho,fun name=> ?_⟩;have e:=hm name;unfold nsFind findBy at e;rw [←Array.find?_toList] at e;unfold PySem.W.lookIn;rw [hd];dsimp only;split
 ·rename_i y q
  rw [q] at e;exact congrArg some e
 ·rename_i q
  rw [q] at e
  have a:es.toList.any (·.refKey)=false:=by
   rw [List.any_eq_false];intro y hy;obtain ⟨z,t,hkey⟩:=hk y (Array.mem_toList_iff.mp hy);simp [DictEntry.refKey,hkey]
  have a':¬es.toList.any (·.refKey)=true:=by rw [a];exact Bool.false_ne_true
  rw [if_neg a'];exact congrArg some e
theorem abk.look {h:Heap} {x dx C:Addr} {mA:Str->Option Value} (I:abk h x dx C mA):∃od,PySem.W.InstAt h x (PySem.W.instObj C dx) C (some od) /\ ∀name,PySem.W.lookIn name od=some (mA name):=
 let ⟨od,ho,hl⟩:=Ho I.ns
 ⟨od,⟨I.obj,rfl,rfl,ho⟩,hl⟩
section
variable {prog:Program} {w:World} {A:Around} {E:Value->Shared->Prop} {s:Shared} {K:PySem.W.Frag} {x dx C f:Addr} {mA:Str->Option Value} {name:Str} {v:Value}
end
theorem Lr.some_of {v:V} {o:Option Value} (r:Lr (some v) o):∃u,o=some u/\RelV v u:=by
 cases o with
 | none=>exact (show False from r).elim
 | some u=>exact ⟨u,rfl,r⟩
theorem Rf {v:V} {u:Value} (r:RelV v u):PySem.W.handedIn u=true:=by
 cases v with
 | non=>cases (show u=Value.none from r);rfl
 | bl b=>cases (show u=Value.bool b from r);rfl
 | int i=>obtain ⟨t,e⟩:=(show ∃t,u=Value.int i t from r);cases e;rfl
 | str x=>obtain ⟨t,e⟩:=(show ∃t,u=Value.str x t from r);cases e;rfl
 | Lg b=>obtain ⟨t,e⟩:=(show ∃t,u=Value.bytes b t from r);cases e;rfl
 | flt b=>obtain ⟨t,e⟩:=(show ∃t,u=Value.float b t from r);cases e;rfl
 | ref a=>cases (show u=Value.ref a from r);rfl
 | ty n=>cases (show u=Value.type n from r);rfl
section
variable {P:Program} {w:World} {H H':Hp} {h h':Heap} {a C dx:Addr} {fs fs':List (Str×V)}
theorem Yi (hok:Ck P w H h) (e:H a=some (.ins C dx fs)):∃mA,abk h a dx C mA/\(∀f,Lr (fs.lookup f) (mA f))/\PySem.Within mA (fs.map (·.1))/\fs.length<=1000/\H dx=some (.own a):=by
 obtain ⟨d,z,ne,ob,mA,n,r,q⟩:=(show eO P w H h a (.ins C dx fs) from hok a _ e);exact ⟨mA,⟨ob,n,ne⟩,r,q,z,d⟩
end
structure Cls (K:PySem.W.Frag) (C:Addr):Prop where
 pg:PySem.W.plainGet K C Str.empty=true
 hd:PySem.W.hasDictIn K C=true
 po:PySem.W.plainOver K C=true
 sa:PySem.W.findIn K (.ref C) "__setattr__" = some (some (.builtin "object.__setattr__"))
theorem Cls.get {K:PySem.W.Frag} {C:Addr} (c:Cls K C) (f:Str):PySem.W.plainGet K C f=true:=c.pg
def BX (K:PySem.W.Frag) (C:Addr) (f:Str):Prop:=PySem.W.findIn K (.ref C) f=some none
section
variable {X:Cx} {pins:List (Addr×Obj)} {σ:St} {H:Hp} {s:Shared} {a C dx:Addr} {fs:List (Str×V)} {f:Str} {v:V} {A:Around} {E:Value->Shared->Prop}
theorem YF {prog:Program} {w:World} {env:Env} {e:Expr} {f:Str} {pos:Pos} {s:Shared} {Q:Value->Shared->Prop} (hb:attributeBase e f env (eval e env)=eval e env)
 (h:wpAny (model prog w) A (eval e env) (fun o s₁=>wpAny (model prog w) A (getAttr o f true) Q E s₁) E s):wpAny (model prog w) A (eval (.Attribute e f pos) env) Q E s:=
 Attribute_any_ h (by rw [arm_eval_Attribute,hb])
end
section
variable {X:Cx} {o e value:Expr} {f:Str} {pos pos' tpos:Pos} {ta tv:TE}
end
section
variable {X:Cx} {pins:List (Addr×Obj)} {σ:St} {H:Hp} {s:Shared} {A:Around} {E:Value->Shared->Prop} {Q:Value->Shared->Prop} {c:Value} {b:Bool}
inductive zW (K:PySem.W.Frag) (H:Hp):V->Value->Prop where
 | non:zW K H .non (.type "NoneType")
 | bl (x:Bool):zW K H (.bl x) (.type "bool")
 | int (i:Int):zW K H (.int i) (.type "int")
 | str (x:Str):zW K H (.str x) (.type "str")
 | flt (x:UInt64):zW K H (.flt x) (.type "float")
 | lst {a:Addr} {xs:List V} (e:H a=some (.lst xs)):zW K H (.ref a) (.type "list")
 | K5 {a:Addr} {o:Obj} {xs:List V} (e:H a=some (.K5 o (.lst xs))):zW K H (.ref a) (.type "list")
 | tup {a:Addr} {xs:List V} (e:H a=some (.tup xs)):zW K H (.ref a) (.type "tuple")
 | dK {a:Addr} {kvs:List (Key×V)} (e:H a=some (.dK kvs)):zW K H (.ref a) (.type "dict")
 | dT {a:Addr} {kvs:List (List Key×V)} (e:H a=some (.dT kvs)):zW K H (.ref a) (.type "dict")
 | ins {a C dx:Addr} {fs:List (Str×V)} (e:H a=some (.ins C dx fs)) (cl:Cls K C) (ha:PySem.W.findIn K (.ref C) "__class__" = some (some (.builtin "object.__class__")))
    (hn:PySem.W.specialIn K (.builtin "object.__class__") "__get__" = some (some (.builtin "getset_descriptor.__get__"))) (htk:PySem.W.takesIn K (.builtin "object.__class__")=some true)
    (hm:PySem.W.mroIn K C (.type "object")=some true):zW K H (.ref a) (.ref C)
theorem Q9 {x:V} {u t:Value} (I:Inv X pins σ H s) (rx:RelV x u) (ty:zW X.K H x t) (e:PySem.W.kitOne X.K t c=some b) (h:∀tk,Q (.bool b) {s with toks:=tk}):
 wpAny (model X.prog X.w) A (call (.builtin "isinstance") [u,c]) Q E s:=by
 cases ty with
 | non=>cases (show u=Value.none from rx);exact PySem.W.kia_one PySem.W.kitx_none I.xR True.intro e (fun z=>nomatch z) h
 | bl y=>cases (show u=Value.bool y from rx);exact PySem.W.kia_one PySem.W.kitx_bool I.xR True.intro e (fun z=>nomatch z) h
 | int i=>obtain ⟨t,q⟩:=(show ∃t,u=Value.int i t from rx);cases q;exact PySem.W.kia_one PySem.W.kitx_int I.xR True.intro e (fun z=>nomatch z) h
 | str y=>obtain ⟨t,q⟩:=(show ∃t,u=Value.str y t from rx);cases q;exact PySem.W.kia_one PySem.W.kitx_str I.xR True.intro e (fun z=>nomatch z) h
 | flt y=>obtain ⟨t,q⟩:=(show ∃t,u=Value.float y t from rx);cases q;exact PySem.W.kia_one PySem.W.kitx_float I.xR True.intro e (fun z=>nomatch z) h
 | @lst a xs ea=>
   cases (show u=Value.ref a from rx);obtain ⟨_,_,n,_,h1⟩:=(show eO X.prog X.w H s.heap a (.lst xs) from I.hok a _ ea);exact PySem.W.kia_one PySem.W.kitx_list I.xR ⟨_,h1,rfl⟩ e (fun z=>nomatch z) h
 | @K5 a ob xs ea=>
   cases (show u=Value.ref a from rx);obtain ⟨_,_,_,n,_,h1⟩:=(show eO X.prog X.w H s.heap a (.K5 ob (.lst xs)) from I.hok a _ ea);exact PySem.W.kia_one PySem.W.kitx_list I.xR ⟨_,h1,rfl⟩ e (fun z=>nomatch z) h
 | @tup a xs ea=>
   cases (show u=Value.ref a from rx);obtain ⟨_,_,_,p⟩:=(show eO X.prog X.w H s.heap a (.tup xs) from I.hok a _ ea);obtain ⟨o,h1,h2,_⟩:=p;exact PySem.W.kia_one PySem.W.kitx_tuple I.xR ⟨o,h1,h2⟩ e (fun z=>nomatch z) h
 | @dK a kvs ea=>
   cases (show u=Value.ref a from rx);obtain ⟨_,_,vs,_,p⟩:=(show eO X.prog X.w H s.heap a (.dK kvs) from I.hok a _ ea);obtain ⟨o,es,ep,h1,h2,_⟩:=p;exact PySem.W.kia_one PySem.W.kitx_dict I.xR ⟨o,h1,h2.1⟩ e (fun z=>nomatch z) h
 | @dT a kvs ea=>
   cases (show u=Value.ref a from rx);obtain ⟨_,_,xs,_,o,es,ep,h1,h2,_⟩:=(show eO X.prog X.w H s.heap a (.dT kvs) from I.hok a _ ea);exact PySem.W.kia_one PySem.W.kitx_dict I.xR ⟨o,h1,h2.1⟩ e (fun z=>nomatch z) h
 | @ins a C dx fs ea cl ha hn htk hm=>
   cases (show u=Value.ref a from rx);obtain ⟨mA,O,_⟩:=Yi I.hok ea;obtain ⟨od,J,_⟩:=O.look;exact PySem.W.kia_one (PySem.W.kitx_own (cl.get _) cl.hd ha hn htk hm) I.xR J e (fun z=>nomatch z) h
end
end L2
namespace L2
open PySem PySem.Spec PyProof.Rows
structure lH (k:Nat) (A:Around):Prop where
 hd:A.handled=none
 dp:A.depth+3*k+5<recursionLimit
 un:A.units+16*k+200<cLine
theorem lH.mono {j k:Nat} {A:Around} (r:lH k A) (h:j<=k):lH j A:=⟨r.hd,by have:=r.dp;omega,by have:=r.un;omega⟩
theorem lH.deeper {k:Nat} {A:Around} (r:lH (k+1) A) (env:Env):lH k (A.deeper env):=
 ⟨r.hd,by have:=r.dp;show A.depth+1+3*k+5<_;omega,by have:=r.un;show A.units+3+16*k+200<_;omega⟩
theorem Nv {A:Around} {C:Addr} {us:List Value} {kw:List (Str×Value)}:(A.under (.builtin "type.__call__" ⟨.ref C::us,kw⟩)).depth=A.depth+1:=by
 first |rfl|simp [Around.under,Code.weight,Code.isCreation,Code.isGuard,Code.isCaller,Code.frames,Code.isFrame,guardIds]
theorem Nu {A:Around} {C:Addr} {us:List Value} {kw:List (Str×Value)}:(A.under (.builtin "type.__call__" ⟨.ref C::us,kw⟩)).units=A.units+1:=by
 first |rfl|simp [Around.under,Code.cUnits,Code.frames,Code.isFrame]
theorem lH.make {k:Nat} {A:Around} (r:lH (k+1) A) (C:Addr) (us:List Value) (kw:List (Str×Value)):lH k (A.under (.builtin "type.__call__" ⟨.ref C::us,kw⟩)):=
 ⟨r.hd,by have:=r.dp;rw [Nv];omega,by have:=r.un;rw [Nu];omega⟩
theorem lH.depth {k:Nat} {A:Around} (r:lH k A):A.depth<recursionLimit:=by have:=r.dp;omega
theorem lH.units {k:Nat} {A:Around} (r:lH k A):A.units+64<cLine:=by have:=r.un;omega
def Ka:TA:=fun _ H Q=>Q [] H
def Y7 (ta:TE) (tr:TA):TA:=fun σ H Q=>ta σ H fun x H1=>tr σ H1 fun xs H2=>Q (x::xs) H2
section
variable {X:Cx} {e:Expr} {es:List Expr} {te:TE} {t:TA} {pos:Pos}
theorem ak:PA X [] Ka:=fun _ _ _ _ H Q I h=>Calls.spliced_nil ⟨[],H,I,.nil,h⟩
theorem aj (ha:PE X e te) (hr:PA X es t) (hs:starEach (e::es) X.env=(false,eval e X.env)::starEach es X.env:=by rfl):PA X (e::es) (Y7 te t):=by
 intro pos pins s σ H Q I h;rw [hs];show wpAny _ _ (spliced ((false,eval e X.env)::backTo pos (starEach es X.env))) _ _ s;refine Calls.spliced_cons (fu (ha pins s σ H _ I h) fun u s1 ⟨x,H1,I1,r1,q1⟩=> ?_);exact fu (hr pos pins s1 σ H1 _ I1 q1) fun us s2 ⟨xs,H2,I2,r2,q2⟩=>⟨x::xs,H2,I2,.cons r1 r2,q2⟩
def afz (t:TA):TE:=fun σ H Q=>t σ H fun xs H1=>xs.length<=sizeLine /\ ∀p,H1 p=none->Q (.ref p) (upd H1 p (.tup xs))
def abW (t:TA):TE:=fun σ H Q=>t σ H fun xs H1=>xs.length<=sizeLine /\ ∀p,H1 p=none->Q (.ref p) (upd H1 p (.lst xs))
theorem cF {x1} (h:PA X es t):PE X (.Tuple es x1 pos) (afz t):=by
 intro pins s σ H Q I hq;refine wpAny_Tuple_spliced (fu (h pos pins s σ H _ I hq) fun us s1 ⟨xs,H1,I1,r,z,q⟩=>⟨by rw [←r.length];exact z, ?_⟩);have hf:H1 s1.heap.objs.size=none:=I1.hok.fresh (Nat.le_refl _);refine ⟨.ref s1.heap.objs.size,upd H1 s1.heap.objs.size (.tup xs),I1.laid (t':=s1.toks) (fun b u e=>Heap.get?_push_of_some _ e) (Nat.le_refl _) ?_,rfl,q _ hf⟩;exact ⟨z,us,r,⟨_,Heap.get?_push_size _ rfl,rfl,_,rfl⟩⟩
theorem cO (h:PA X es t):PE X (.List es pos) (abW t):=by
 intro pins s σ H Q I hq;refine wpAny_List_spliced (fu (h pos pins s σ H _ I hq) fun us s1 ⟨xs,H1,I1,r,z,q⟩=>⟨by rw [←r.length];exact z, ?_⟩);have hf:H1 s1.heap.objs.size=none:=I1.hok.fresh (Nat.le_refl _);refine ⟨.ref s1.heap.objs.size,upd H1 s1.heap.objs.size (.lst xs),I1.laid (t':=s1.toks) (fun b u e=>Heap.get?_push_of_some _ e) (Nat.le_refl _) ?_,rfl,q _ hf⟩;exact ⟨z,us,0,r,Heap.get?_push_size _ rfl⟩
end
abbrev Sp:=List V->Hp->VK->XK->Prop
abbrev Sq:=List Env->Hp->Shared->XK->Value->Shared->Prop
structure O1 (P:Program) (w:World) (K:PySem.W.Frag) (mg:Str->Option Value) (base:Heap) (A:Around) (outer:List Env) (s:Shared) (H:Hp):Prop where
 frames:A.frames=some outer
 mod:Mod K mg base
 bs:∀b o,base.get? b=some o->s.heap.get? b=some o/\H b=none
 Ru:base.objs.size<=s.heap.objs.size
 wK:s.heap.FunFrames base outer
 Vb:∀b∈frs outer,H b=none
 hok:Ck P w H s.heap
 bare:AllBare s.gens
def CE (outer:List Env) (P:Program) (w:World) (H:Hp) (s:Shared) (Q:VK) (u:Value) (s':Shared):Prop:=
 ∃v H',s'.os=s.os/\AllBare s'.gens/\Un (frs outer) [] H H' s.heap s'.heap/\Ck P w H' s'.heap/\RelV v u/\Q v H'
def CR (CX:Sq) (outer:List Env) (P:Program) (w:World) (H:Hp) (s:Shared) (Q:VK) (E:XK) (r:Result) (s':Shared):Prop:=
 match r with
 | .ok (.ret u)=>CE outer P w H s Q u s'
 | .ok _=>False
 | .error e=>CX outer H s E e s'
structure dM (P:Program) (w:World) (K:PySem.W.Frag) (mg:Str->Option Value) (base:Heap) (CX:Sq) (k:Nat) (f:Addr) (fd:FuncData) (ps:List Str) (sp:Sp):Prop where
 len:∀vs H Q E,sp vs H Q E->vs.length=ps.length
 run:∀(A:Around) (outer:List Env) (s:Shared) (H:Hp) (args:Args) (us:List Value) (vs:List V) (Q:VK) (E:XK),lH k A->O1 P w K mg base A outer s H->BindsTo s fd args (ps.zip us)->Vals vs us->sp vs H Q E ->
  codeAny (model P w) A (.call (.ref f) args) (CR CX outer P w H s Q E) s
theorem O1.make {P:Program} {w:World} {K:PySem.W.Frag} {mg:Str->Option Value} {base:Heap} {A:Around} {outer:List Env} {s:Shared} {H:Hp} (e:O1 P w K mg base A outer s H) (C:Addr) (us:List Value) (kw:List (Str×Value)):
 O1 P w K mg base (A.under (.builtin "type.__call__" ⟨.ref C::us,kw⟩)) outer s H:=⟨by first |exact e.frames|(simpa [Around.under,Code.envs,Code.isFrame,pushEnvs] using e.frames),e.mod,e.bs,e.Ru,e.wK,e.Vb,e.hok,e.bare⟩
section
variable {X:Cx} {pins:List (Addr×Obj)} {σ:St} {H:Hp} {s s':Shared}
theorem Inv.env0 (I:Inv X pins σ H s):O1 X.prog X.w X.K X.mg X.base X.A X.stack s H:=
 ⟨I.ok.frames,I.ok.mod,I.bs,Nat.le_trans I.ok.Ru I.sz,I.stack,I.Ia,I.hok,I.bare⟩
theorem Inv.after {Q:VK} {u:Value} (I:Inv X pins σ H s) (h:CE X.stack X.prog X.w H s Q u s'):EP X pins σ Q u s':=by
 obtain ⟨v,H',os,bare,un,hok,r,q⟩:=h;obtain ⟨hh,g,d,t,os'⟩:=s';obtain rfl:os'=s.os:=os;exact ⟨v,H',I.call (h':=hh) (g':=g) (d':=d) (t':=t) (ch:=[]) un hok bare (fun b z=>absurd z (by simp)),r,q⟩
end
def Pb (sp:Sp) (Sd:List V) (E:XK) (t:TA):TE:=fun σ H Q=>t σ H fun vs H1=>sp (vs++Sd) H1 Q E
def Binds (K:PySem.W.Frag) (fd:FuncData) (ps:List Str) (ds:List Value):Prop:=
 ∀(s:Shared) (us:List Value),K.In s.heap->(us++ds).length=ps.length->BindsTo s fd ⟨us,[]⟩ (ps.zip (us++ds))
theorem Binds.all {K:PySem.W.Frag} {fd:FuncData} {ps:List Str} (h:∀us:List Value,us.length=ps.length->bindArgs fd ⟨us,[]⟩=pure (ps.zip us)):Binds K fd ps []:=fun s us _ hl=>by
 rw [List.append_nil] at hl ⊢;exact .of_eq (h us hl)
def Passes (CX:Sq) (X:Cx) (E:XK):Prop:=∀(pins:List (Addr×Obj)) (σ:St) (H:Hp) (s:Shared) (e:Value) (s':Shared),Inv X pins σ H s->CX X.stack H s E e s'->X.xe e s'
section
variable {X:Cx} {CX:Sq} {k:Nat} {f C:Addr} {fd:FuncData} {ps:List Str} {sp:Sp} {Sd:List V} {ds:List Value} {E:XK} {x m:Str} {p pos apos:Pos} {e o:Expr} {es:List Expr} {ta:TE} {t:TA}
theorem TV {pins:List (Addr×Obj)} {σ:St} {H:Hp} {s:Shared} {Q:VK} {us:List Value} {vs:List V} (F:dM X.prog X.w X.K X.mg X.base CX k f fd ps sp) (hr:lH k X.A) (hb:Binds X.K fd ps ds) (hd:Vals Sd ds) (hx:Passes CX X E)
 (I:Inv X pins σ H s) (r:Vals vs us) (h:sp (vs++Sd) H Q E):wpAny (model X.prog X.w) X.A (call (.ref f) us) (EP X pins σ Q) X.xe s:=by
 have r2:Vals (vs++Sd) (us++ds):=r.append hd;have hl:(us++ds).length=ps.length:=by rw [←r2.length];exact F.len _ _ _ _ h
 refine wpAny_call (codeAny_mono (F.run X.A X.stack s H ⟨us,[]⟩ (us++ds) (vs++Sd) Q E hr I.env0 (hb s us I.xR hl) r2 h) fun r s' hq=> ?_);cases r with
 | error e=>exact hx pins σ H s e s' I hq
 | ok fl=>
   cases fl with
   | ret u=>exact I.after hq
   | next=>exact False.elim hq
   | brk=>exact False.elim hq
   | cont=>exact False.elim hq
theorem Xy (F:dM X.prog X.w X.K X.mg X.base CX k f fd ps sp) (hr:lH k X.A) (hg:Gl X x) (hm:X.mg x=some (.ref f)) (hk:PySem.W.keepIn X.K (.ref f)=true) (hb:Binds X.K fd ps ds) (hd:Vals Sd ds) (hx:Passes CX X E)
 (ha:PA X (e::es) t) (hdb:(x==("__debug__" :Str))=false:=by decide) (he:starEach (e::es) X.env=(false,eval e X.env)::starEach es X.env:=by rfl) (hpl:(backTo pos (starEach es X.env)).any (·.1)=false:=by rfl):
 PE X (.Call (.Name x p) (e::es) [] pos) (Pb sp Sd E t):=by
 intro pins s σ H Q I h;refine wpAny_Call_Name_kw (xP I hg hm ?_ hdb);refine PySem.W.callWith_K (h₀:=X.base) I.ok.mod.kin hk (fu (ha pos pins s σ H _ I h) fun us s1 ⟨vs,H1,I1,r,q⟩=>⟨I1.xR, ?_⟩) he hpl;exact TV F hr hb hd hx I1 r q
theorem T_ (F:dM X.prog X.w X.K X.mg X.base CX k f fd ps sp) (hr:lH k X.A) (hg:Gl X x) (hm:X.mg x=some (.ref f)) (hk:PySem.W.keepIn X.K (.ref f)=true) (hb:Binds X.K fd ps ds) (hd:Vals Sd ds) (hx:Passes CX X E)
 (hdb:(x==("__debug__" :Str))=false:=by decide):PE X (.Call (.Name x p) [] [] pos) (Pb sp Sd E Ka):=by
 intro pins s σ H Q I h;refine wpAny_Call_Name_kw (xP I hg hm ?_ hdb);exact PySem.W.callWith_K0 I.xR hk (TV (us:=[]) F hr hb hd hx I .nil h)
end
section
variable {X:Cx} {CX:Sq} {k:Nat} {f C:Addr} {fd:FuncData} {ps ks:List Str} {sp:Sp} {E:XK} {x m:Str} {p pos apos kpos:Pos} {e o:Expr} {es:List Expr} {kws:List Keyword} {te ta:TE} {t tk:TA} {nm:Option Str}
variable {g:List Value->List Value->List Value} {gV:List V->List V->List V}
end
structure bH (N P:List Str) (sc:Scope):Prop where
 kind:sc.kind = .function
 co:sc.isCoroutine=false
 gen:sc.isGenerator=false
 nd:N.Nodup
 pre:N.take P.length=P
 par:∀x∈P,sc.names.lookup x=some .local\/sc.names.lookup x=some .cell
 aaw:∀y∈sc.names,y.2 ≠ .free
theorem Hv {kindOf:Str->Option NameKind} {x:Str}:∀{binds:List (Str×Value)} {m:Str->Option Value},(∀v,(x,v)∉binds)->bindL kindOf binds m x=m x
 | [],_,_=>rfl
 | (n,v)::r,m,h=>by
   unfold bindL;rw [Hv fun w hw=>h w (List.mem_cons_of_mem _ hw)];split
   ·have:x≠n:=by rintro rfl;exact h v List.mem_cons_self
    simp [this]
   ·rfl
theorem Hx {kindOf:Str->Option NameKind} {x:Str}:∀{binds:List (Str×Value)} {m:Str->Option Value},(∀v,(x,v)∉binds)->bindC kindOf binds m x=m x
 | [],_,_=>rfl
 | (n,v)::r,m,h=>by
   unfold bindC;rw [Hx fun w hw=>h w (List.mem_cons_of_mem _ hw)];split
   ·rfl
   ·have:x≠n:=by rintro rfl;exact h v List.mem_cons_self
    simp [this]
theorem Hw {kindOf:Str->Option NameKind} {x:Str} {v:Value}:∀{P:List Str} {vs:List Value} {i:Nat} {m:Str->Option Value},P.Nodup->P[i]? = some x->vs[i]? = some v->kindOf x=some .local ->
 bindL kindOf (P.zip vs) m x=some v
 | [],_,_,_,_,h,_,_=>by simp at h
 | _::_,[],_,_,_,_,h,_=>by simp at h
 | p::P,w::vs,0,m,nd,h1,h2,hk=>by
   simp at h1 h2;subst h1;subst h2;show bindL kindOf ((p,w)::P.zip vs) m p=_;unfold bindL;rw [Hv fun v hv=>(List.nodup_cons.mp nd).1 (List.of_mem_zip hv).1,if_pos hk];simp
 | p::P,w::vs,i+1,m,nd,h1,h2,hk=>by
   show bindL kindOf ((p,w)::P.zip vs) m x=_;unfold bindL;exact Hw (i:=i) (List.nodup_cons.mp nd).2 (by simpa using h1) (by simpa using h2) hk
theorem Hy {kindOf:Str->Option NameKind} {x:Str} {v:Value}:∀{P:List Str} {vs:List Value} {i:Nat} {m:Str->Option Value},P.Nodup->P[i]? = some x->vs[i]? = some v->kindOf x≠some .local ->
 bindC kindOf (P.zip vs) m x=some v
 | [],_,_,_,_,h,_,_=>by simp at h
 | _::_,[],_,_,_,_,h,_=>by simp at h
 | p::P,w::vs,0,m,nd,h1,h2,hk=>by
   simp at h1 h2;subst h1;subst h2;show bindC kindOf ((p,w)::P.zip vs) m p=_;unfold bindC;rw [Hx fun v hv=>(List.nodup_cons.mp nd).1 (List.of_mem_zip hv).1,if_neg hk];simp
 | p::P,w::vs,i+1,m,nd,h1,h2,hk=>by
   show bindC kindOf ((p,w)::P.zip vs) m x=_;unfold bindC;exact Hy (i:=i) (List.nodup_cons.mp nd).2 (by simpa using h1) (by simpa using h2) hk
def start (N:List Str) (vs:List V):St:=vs.map some++List.replicate (N.length - vs.length) none
def xW (CX:Sq) (P:Program) (w:World) (K:PySem.W.Frag) (mg:Str->Option Value) (base:Heap) (N:List Str) (qual:Str) (scope:Scope) (f:Addr) (cd:Value) (A:Around) (outer:List Env) (s:Shared) (H:Hp) (E:XK):Cx where
 prog:=P
 w:=w
 K:=K
 mg:=mg
 base:=base
 A:=A.deeper (envOfC qual scope s.heap.objs.size f cd)
 N:=N
 s₀:=s
 H₀:=H
 env:=envOfC qual scope s.heap.objs.size f cd
 outer:=outer
 stack:=envOfC qual scope s.heap.objs.size f cd::outer
 ex:=[]
 calm:=true
 fn:=fun _=>true
 pn:=[]
 xe:=fun e s'=>wpAny (model P w) (A.deeper (envOfC qual scope s.heap.objs.size f cd)) (leaving (envOfC qual scope s.heap.objs.size f cd) e) (fun _ s''=>CX outer H s E e s'') (fun e' s''=>CX outer H s E e' s'') s'
theorem Lf {sc:Scope} {n:Nat} {x:Str} (h:sc.names.lookup x=some .cell):∃c,(cellsFrom n sc.names []).lookup x=some c:=by
 have q:=PySem.W.cellsFrom_some sc.names n [] (.inl h);exact Option.isSome_iff_exists.mp q
theorem Q_ {CX:Sq} {P:Program} {w:World} {K:PySem.W.Frag} {mg:Str->Option Value} {base:Heap} {N ps:List Str} {qual:Str} {scope:Scope} {f:Addr} {cd:Value} {A:Around} {outer:List Env} {s s1:Shared} {H:Hp} {E:XK} {us:List Value} {vs:List V}
 (S:bH N ps scope) (hd:A.handled=none) (e0:O1 P w K mg base A outer s H) (hl:vs.length=ps.length) (r:Vals vs us)
 (x:InCallC s s.heap.objs.size (bindL (envOfC qual scope s.heap.objs.size f cd).kindOf (ps.zip us) fun _=>none) (cellsFrom (s.heap.objs.size+1) scope.names []) (bindC (envOfC qual scope s.heap.objs.size f cd).kindOf (ps.zip us) fun _=>none) s1):
 Inv (xW CX P w K mg base N qual scope f cd A outer s H E) [] (start N vs) H s1:=by
 have hpl:ps.length<=N.length:=by have:=congrArg List.length S.pre;rw [List.length_take] at this;omega
 obtain ⟨h1,tk,rfl,hk⟩:=x.done;have noA:∀b:Addr,b∉(xW CX P w K mg base N qual scope f cd A outer s H E).ex:=fun b z=>absurd (show b∈([]:List Addr) from z) (by simp)
 refine ⟨⟨e0.mod,S.kind,rfl,rfl,Nat.le_refl _,fun y z c h1 h2=> ?_,fun y hy=> ?_,fun y c _ h=> ?_,fun _=>hd,Around.frames_deeper e0.frames,.inr ⟨rfl,rfl⟩,fun b z=>absurd z (noA b),e0.bs,e0.Ru,fun b _ _=>noA b,fun b z=>absurd z (noA b),e0.wK,e0.Vb⟩,
  rfl,e0.bare,Un.kept hk,⟨_,x.toInCall.ns,fun i y v h1 h2 h3=> ?_⟩,fun y c h=>⟨_,x.cell y c h⟩,e0.hok.fresh (Nat.le_refl _),fun y c h=> ?_,fun p hp=>absurd (show p∈([]:List (Addr×Obj)) from hp) (by simp),e0.hok.kept hk, ?_⟩
 ·exact name_of_addr x.apart (PySem.mem_of_lookup h1) (PySem.mem_of_lookup h2)
 ·have hy:scope.names.lookup y=some .cell\/scope.names.lookup y=some .free:=hy
  rcases hy with hy|hy
  ·exact Lf hy
  ·exact absurd rfl (S.aaw _ (PySem.mem_of_lookup hy))
 ·exact Nat.le_of_lt (x.above y c (PySem.mem_of_lookup h))
 ·have hi:i<vs.length:=by
   unfold start at h2
   by_cases hi:i<vs.length
   ·exact hi
   ·rw [List.getElem?_append_right (by simpa using hi)] at h2
    rw [List.getElem?_replicate] at h2;split at h2<;>cases h2
  have ha:vs[i]? = some v:=by
   unfold start at h2;rw [List.getElem?_append_left (by simpa using hi),List.getElem?_map] at h2;cases e:vs[i]? with
   | none=>rw [e] at h2;cases h2
   | some a=>rw [e] at h2;cases h2;rfl
  obtain ⟨u,hu,rv⟩:=r.get ha
  have hp:ps[i]? = some y:=by
   rw [←S.pre,List.getElem?_take_of_lt (by omega)];exact h1
  have ndP:ps.Nodup:=by rw [←S.pre];exact S.nd.sublist (List.take_sublist _ _)
  refine ⟨u,rv, ?_⟩;rcases S.par y (List.mem_of_getElem? hp) with k|k
  ·exact .inl ⟨k,Hw ndP hp hu k⟩
  ·obtain ⟨c,e⟩:=Lf (n:=s.heap.objs.size+1) k
   refine .inr ⟨.inl k,c,e, ?_⟩;have q:=x.cell y c e;rw [Hy ndP hp hu (by show scope.names.lookup y≠_;rw [k];decide)] at q;exact q
 ·exact e0.hok.fresh (Nat.le_of_lt (x.above y c (PySem.mem_of_lookup h)))
 ·unfold start
  show _=N.length;rw [List.length_append,List.length_map,List.length_replicate];omega
theorem Zw {CX:Sq} {P:Program} {w:World} {K:PySem.W.Frag} {mg:Str->Option Value} {base:Heap} {k:Nat} {f:Addr} {name qual:Str} {params:Arguments} {body:List Stmt} {scope:Scope} {dV kV doc pm cdv ct oc:Value} {an od:Option Addr}
 {osl:Array (Option Value)} {N ps:List Str} {sp:Sp} (lk:K.lookup f=some ⟨oc,od,.func (PySem.W.fnOf name qual params body scope dV kV doc pm an cdv ct),osl⟩) (hcd:PySem.W.codeIn K cdv qual=true) (S:bH N ps scope)
 (len:∀vs H Q E,sp vs H Q E->vs.length=ps.length)
 (hbody:∀(A:Around) (outer:List Env) (s:Shared) (H:Hp) (vs:List V) (Q:VK) (E:XK),lH k (A.deeper (envOfC qual scope s.heap.objs.size f cdv))->sp vs H Q E ->
   ∃t,OD (xW CX P w K mg base N qual scope f cdv A outer s H E) body t/\t {nx:=fun _ H'=>Q .non H',rt:=Q} (start N vs) H):
 dM P w K mg base CX (k+1) f (PySem.W.fnOf name qual params body scope dV kV doc pm an cdv ct) ps sp:=by
 refine ⟨len,fun A outer s H args us vs Q E hr e0 hb r hsp=> ?_⟩;have hl:=len _ _ _ _ hsp;have KX:K.In s.heap:=e0.mod.kin.keeps fun b o e=>(e0.bs b o e).1;have lim:s.heap.NoLimit:=e0.mod.nolimit.keeps fun b o e=>(e0.bs b o e).1
 have hkind:∀y∈ps.zip us,scope.names.lookup y.1=some .local\/(scope.names.lookup y.1=some .cell/\((cellsFrom (s.heap.objs.size+1) scope.names []).lookup y.1).isSome=true):=fun ⟨n,v⟩ hy=>by
  rcases S.par n (List.of_mem_zip hy).1 with q|q
  ·exact .inl q
  ·exact .inr ⟨q,PySem.W.cellsFrom_some _ _ _ (.inl q)⟩
 refine codeAny_call_function hr.depth (KX _ _ lk) rfl S.co S.gen rfl (PySem.W.codeRec_of KX hcd) (hb _ _ _ _ ?_);refine wpAny_newFunctionEnv_cells S.kind hkind fun env he s1 x=> ?_;subst he;refine ⟨lim.keeps x.toInCall.keep,codeAny_func ?_⟩;obtain ⟨t,ht,hq⟩:=hbody A outer s H vs Q E (hr.deeper _) hsp;have I:Inv (xW CX P w K mg base N qual scope f cdv A outer s H E) [] (start N vs) H s1:=Q_ S hr.hd e0 hl r x;refine wpAny_mono (ht [] s1 (start N vs) H _ I hq) (fun fl s' hs=> ?_) fun e s' hs=>hs
 have fin:∀{σ':St} {H':Hp} {v:V} {u:Value},Inv (xW CX P w K mg base N qual scope f cdv A outer s H E) [] σ' H' s'->RelV v u->Q v H'->CE outer P w H s Q u s':=
  fun {σ' H' v u} J rv q=>⟨v,H',J.os,J.bare,J.base,J.hok,rv,q⟩
 cases fl with
 | ret u=>
   obtain ⟨v,σ',H',J,rv,q⟩:=hs;exact fin J rv q
 | next=>
   obtain ⟨σ',H',J,q⟩:=hs;exact fin (v:=V.non) (u:=Value.none) J rfl q
 | brk=>
   obtain ⟨_,_,_,q⟩:=hs;exact False.elim q
 | cont=>
   obtain ⟨_,_,_,q⟩:=hs;exact False.elim q
end L2
namespace L2
open PySem PySem.Spec PyProof.Rows
section
variable {X:Cx} {x:Str} {p pos:Pos} {e:Expr} {es:List Expr} {t:TA} {id T:String} {r:List V->Hp->VK->Prop}
def tCB (r:List V->Hp->VK->Prop) (t:TA):TE:=fun σ H Q=>t σ H fun vs H1=>r vs H1 Q
theorem aY (hc:jL X (.builtin id) r) (hg:Gl X x) (hm:X.mg x=none) (hv:bootBuiltins x=some (.builtin id)) (ha:PA X (e::es) t) (hn:x ≠ "__name__" :=by decide) (hdb:(x==("__debug__" :Str))=false:=by decide)
 (he:starEach (e::es) X.env=(false,eval e X.env)::starEach es X.env:=by rfl) (hpl:(backTo pos (starEach es X.env)).any (·.1)=false:=by rfl):PE X (.Call (.Name x p) (e::es) [] pos) (tCB r t):=by
 intro pins s σ H Q I h;refine wpAny_Call_Name_kw (wF I hg hm hv ?_ hn hdb);exact PyProof.Rows.callWith_builtin1 (fu (ha pos pins s σ H _ I h) fun us s1 ⟨vs,H1,I1,r1,q1⟩=>hc pins s1 σ H1 vs us Q I1 r1 q1) he hpl
theorem cj (hc:jL X (.type T) r) (hg:Gl X x) (hm:X.mg x=none) (hv:bootBuiltins x=some (.type T)) (ha:PA X (e::es) t) (hn:x ≠ "__name__" :=by decide) (hdb:(x==("__debug__" :Str))=false:=by decide)
 (he:starEach (e::es) X.env=(false,eval e X.env)::starEach es X.env:=by rfl) (hpl:(backTo pos (starEach es X.env)).any (·.1)=false:=by rfl):PE X (.Call (.Name x p) (e::es) [] pos) (tCB r t):=by
 intro pins s σ H Q I h;refine wpAny_Call_Name_kw (wF I hg hm hv ?_ hn hdb);exact PyProof.Rows.callWith_type1 (fu (ha pos pins s σ H _ I h) fun us s1 ⟨vs,H1,I1,r1,q1⟩=>hc pins s1 σ H1 vs us Q I1 r1 q1) he hpl
end
end L2
namespace HT
open PySem PyProof.Rows
section
open PySem.SeqAt
open PySem.AutoSeq1 (wpAny_loadPart')
open PySem.MeetsSeq PySem.MeetsSeq2 PySem.MeetsSeq3
end
section
variable {prog:Program} {w:World} {A:Around} {E:Value->Shared->Prop} {s:Shared}
def nO (n d:Nat):Option Int->Nat
 | none=>d
 | some v=>if v<0 then (v+(n:Int)).toNat else min v.toNat n
theorem Em (n d:Nat):nO n d none=d:=rfl
theorem CV (n d k:Nat):nO n d (some (k:Int))=min k n:=by
 show (if (k:Int)<0 then ((k:Int)+(n:Int)).toNat else min (k:Int).toNat n)=min k n;rw [if_neg (by omega),Int.toNat_natCast]
theorem aag (n d:Nat) (hd:d<=n) (o:Option Int):nO n d o<=n:=by
 cases o with
 | none=>exact hd
 | some v=>
   show (if v<0 then (v+(n:Int)).toNat else min v.toNat n)<=n
   by_cases hv:v<0
   ·rw [if_pos hv];omega
   ·rw [if_neg hv];exact Nat.min_le_right _ _
theorem Ql (v:Int) (n d:Nat):(if v<0 then max (v+(n:Int)) 0 else min v (n:Int))=((nO n d (some v):Nat):Int):=by
 show (if v<0 then max (v+(n:Int)) 0 else min v (n:Int))=(((if v<0 then (v+(n:Int)).toNat else min v.toNat n):Nat):Int)
 by_cases hv:v<0
 ·simp only [if_pos hv];omega
 ·simp only [if_neg hv];omega
theorem Ox (lo hi:Option Int) (n:Nat):Builtin.Slice.sliceAdjust lo hi 1 (n:Int)=(((nO n 0 lo:Nat):Int),((nO n n hi:Nat):Int)):=by
 have h1:¬((1:Int)<0):=by omega
 unfold Builtin.Slice.sliceAdjust;simp only [h1,if_false];refine Prod.ext ?_ ?_
 ·cases lo with
  | none=>rfl
  | some v=>exact Ql v n 0
 ·cases hi with
  | none=>rfl
  | some v=>exact Ql v n n
theorem Ng (i j:Nat):Builtin.Slice.slicePlaces (i:Int) (j:Int) 1=j - i:=by
 unfold Builtin.Slice.slicePlaces;have h1:(1:Int)>0:=by omega
 simp only [h1,if_true,Int.ediv_one];split<;>omega
theorem Ek {v:Value} {o:Option Int} {Q:Option Int->Shared->Prop} (p:IsPart v o) (h:Q o s):wpAny (model prog w) A (Builtin.Slice.slicePartIndex v) Q E s:=by
 cases p with
 | none=>exact slicePart_none h
 | int i t=>exact slicePart_int h
theorem Bb {sl:Addr} {vl vu:Value} {lo hi:Option Int} {n:Nat} {Q:Int×Int×Nat->Shared->Prop} (hs:s.heap.IsSliceOf sl vl vu .none) (pl:IsPart vl lo) (pu:IsPart vu hi)
 (h:Q (((nO n 0 lo:Nat):Int),1,nO n n hi - nO n 0 lo) s):wpAny (model prog w) A (Builtin.Slice.sliceApplied (.ref sl) (pure (n:Int))) Q E s:=by
 obtain ⟨os,hos,hcs,hds⟩:=id hs;unfold Builtin.Slice.sliceApplied Builtin.Slice.sliceFields;refine wpAny_bind (wpAny_bind (wpAny_field hos hds (x:=vl) rfl (wpAny_bind (wpAny_field hos hds (x:=vu) rfl (wpAny_bind (wpAny_field hos hds (x:= .none) rfl (wpAny_pure ?_)))))));refine wpAny_bind (slicePart_none ?_);show wpAny _ _ (if ((1:Int)==0)=true then _ else _) _ _ s;rw [if_neg (by decide)];refine wpAny_bind (Ek pl (wpAny_bind (Ek pu (wpAny_bind (wpAny_pure ?_)))));show wpAny _ _ (match Builtin.Slice.sliceAdjust lo hi 1 (n:Int) with |(lo,hi)=>pure (lo,(1:Int),Builtin.Slice.slicePlaces lo hi 1)) _ _ s;rw [Ox lo hi n];show wpAny _ _ (pure (((nO n 0 lo:Nat):Int),(1:Int),Builtin.Slice.slicePlaces ((nO n 0 lo:Nat):Int) ((nO n n hi:Nat):Int) 1)) _ _ s;rw [Ng];exact wpAny_pure h
theorem T7 (xs:Array Value) (i k:Nat):((List.range k).filterMap fun (m:Nat)=>xs[((i:Int)+(m:Int)*1).toNat]?).toArray=((xs.toList.drop i).take k).toArray:=by
 have e:(fun (m:Nat)=>xs[((i:Int)+(m:Int)*1).toNat]?)=fun m=>xs[i+m]? :=by
  funext m;have:((i:Int)+(m:Int)*1).toNat=i+m:=by omega
  rw [this]
 rw [e];have:=pick_run xs i k;rw [List.filterMap_map] at this;have e2:((fun x=>xs[x]?)∘fun x=>i+x)=fun m=>xs[i+m]? :=rfl;rw [e2] at this;rw [this]
theorem zN {t sl:Addr} {items:Array Value} {vl vu:Value} {lo hi:Option Int} {Q:Value->Shared->Prop} (ht:IsTup s.heap t items) (hs:s.heap.IsSliceOf sl vl vu .none) (pl:IsPart vl lo) (pu:IsPart vu hi)
 (hw:¬(nO items.size 0 lo=0/\nO items.size items.size hi=items.size))
 (h:Q (.ref s.heap.objs.size) {s with heap:=s.heap.push {cls:= .type "tuple",data:= .seq ((items.toList.drop (nO items.size 0 lo)).take (nO items.size items.size hi - nO items.size 0 lo)).toArray}})
 (hsz:items.size<=sizeLine):wpAny (model prog w) A (getItem (.ref t) (.ref sl)) Q E s:=by
 have Qd:sizeOk (.seq ((items.toList.drop (nO items.size 0 lo)).take (nO items.size items.size hi - nO items.size 0 lo)).toArray):=by
  show ((items.toList.drop (nO items.size 0 lo)).take (nO items.size items.size hi - nO items.size 0 lo)).toArray.size<=sizeLine;rw [List.size_toArray,List.length_take,List.length_drop,Array.length_toList];omega
 have hj:nO items.size items.size hi<=items.size:=aag _ _ (Nat.le_refl _) hi;obtain ⟨os,hos,hcs,hds⟩:=id hs;have hTs:s.TypeIs (.ref sl) "slice" :=⟨os,hos,hcs⟩;unfold getItem
 try with_reducible refine wpAny_holding ?_
 first |refine wpAny_bind (wpAny_pure ?_)|skip
 refine wpAny_bind (wpAny_sequenceKey ht.typeIs (by decide) ?_)
 refine wpAny_bind (wpAny_callSpecial?_slot (name:=Str.ofString "__getitem__") ht.typeIs PyProof.Rows.slot_tuple_getitem
  (wpAny_call_entry PyProof.Rows.slot_tuple_getitem ht.typeIs entry_tuple_getitem ?_ (args_tuple_getitem _ _)))
 show wpAny _ _ (Builtin.Tuple.tupleItemsOf (.ref t) >>= _) _ _ s;refine wpAny_bind (tupleItemsOf_ ht ?_);refine wpAny_bind (wpAny_typeOf hTs ?_);rw [if_pos (by decide)];refine wpAny_bind (Bb hs pl pu ?_)
 have hno:¬((((nO items.size 0 lo:Nat):Int)==0&&(1:Int)==1&&(nO items.size items.size hi - nO items.size 0 lo)==items.size)=true):=by
  intro q;rw [Bool.and_eq_true,Bool.and_eq_true] at q;have q1:((nO items.size 0 lo:Nat):Int)=0:=eq_of_beq q.1.1;have q2:nO items.size items.size hi - nO items.size 0 lo=items.size:=eq_of_beq q.2;exact hw ⟨by omega,by omega⟩
 show wpAny _ _ (if (((nO items.size 0 lo:Nat):Int)==0&&(1:Int)==1&&(nO items.size items.size hi - nO items.size 0 lo)==items.size)=true then _ else _) _ _ s;rw [if_neg hno,T7]
 first
  | exact wpAny_bind (m:=Builtin.Tuple.tupleExact _) (wpAny_newObj_type (wpAny_pure ⟨_,rfl,wpAny_pure h⟩) Qd)
  | exact wpAny_bind (m:=Builtin.Tuple.tupleExact _) (wpAny_newObj_type (wpAny_bind (wpAny_pure (wpAny_pure ⟨_,rfl,wpAny_pure h⟩))) Qd)
  | exact wpAny_bind (wpAny_bind (m:=Builtin.Tuple.tupleExact _) (wpAny_newObj_type (wpAny_pure (wpAny_pure ⟨_,rfl,wpAny_pure h⟩)) Qd))
  | exact wpAny_bind (wpAny_bind (m:=Builtin.Tuple.tupleExact _) (wpAny_newObj_type (wpAny_pure ⟨_,rfl,wpAny_pure h⟩) Qd))
end
end HT
namespace L2
open PySem PySem.Spec PyProof.Rows
abbrev TO:=St->Hp->(Option Int->Hp->Prop)->Prop
def PO (X:Cx) (e:Option Expr) (t:TO):Prop:=
 ∀(pins:List (Addr×Obj)) (s:Shared) (σ:St) (H:Hp) (Q:Option Int->Hp->Prop),Inv X pins σ H s->t σ H Q ->
  wpAny (model X.prog X.w) X.A (evalPart e X.env) (fun u s'=>∃o H',Inv X pins σ H' s'/\IsPart u o/\Q o H') X.xe s
def WY:TO:=fun _ H Q=>Q none H
def abU (t:TE):TO:=fun σ H Q=>t σ H fun x H1=>∃i,x = .int i/\Q (some i) H1
section
variable {X:Cx} {e:Expr} {te:TE} {lo hi:Option Expr} {tl th:TO} {pos p2:Pos}
theorem fQ:PO X none WY:=by
 intro pins s σ H Q I h;rw [evalPart_none];exact wpAny_pure ⟨none,H,I,.none,h⟩
theorem fP (h:PE X e te):PO X (some e) (abU te):=by
 intro pins s σ H Q I hw;rw [evalPart_some];refine fu (h pins s σ H _ I hw) fun u s1 ⟨x,H1,I1,r1,q1⟩=> ?_;obtain ⟨i,rfl,q⟩:=q1;obtain ⟨t,rfl⟩:=r1;exact ⟨some i,H1,I1,.int i t,q⟩
def SlR (X:Cx) (r:V->Option Int->Option Int->Hp->VK->Prop):Prop:=
 ∀(pins:List (Addr×Obj)) (s:Shared) (σ:St) (H:Hp) (x:V) (v vl vu:Value) (lo hi:Option Int) (sl:Addr) (Q:VK),Inv X pins σ H s->RelV x v->s.heap.IsSliceOf sl vl vu .none->IsPart vl lo->IsPart vu hi->r x lo hi H Q ->
  ∃T id,typeLookup (.type T) "__getitem__" = pure (some (.builtin id))/\s.TypeIs v T/\wpAny (model X.prog X.w) X.A (getItem v (.ref sl)) (EP X pins σ Q) X.xe s
def tSl (r:V->Option Int->Option Int->Hp->VK->Prop) (te:TE) (tl th:TO):TE:=fun σ H Q=>te σ H fun x H1=>tl σ H1 fun l H2=>th σ H2 fun u H3=>r x l u H3 Q
theorem d_ {r:V->Option Int->Option Int->Hp->VK->Prop} (hr:SlR X r) (he:PE X e te) (hl:PO X lo tl) (hu:PO X hi th):PE X (.Subscript e (.Slice lo hi none p2) pos) (tSl r te tl th):=by
 intro pins s σ H Q I h;refine Subscript_ (fu (he pins s σ H _ I h) fun v s1 ⟨x,H1,I1,r1,q1⟩=> ?_);refine wpAny_Slice (fu (hl pins s1 σ H1 _ I1 q1) fun vl s2 ⟨l,H2,I2,pl,q2⟩=>fu (hu pins s2 σ H2 _ I2 q2) fun vu s3 ⟨u,H3,I3,pu,q3⟩=> ?_);rw [evalPart_none];refine wpAny_pure ?_;have I4:Inv X pins σ H3 {s3 with heap:=s3.heap.push {cls:= .type "slice",data:= .fields #[vl,vu,.none]}}:=I3.kept (t':=s3.toks) fun b ob q=>Heap.get?_push_of_some _ q;obtain ⟨T,id,hT,ht,hg⟩:=hr pins {s3 with heap:=s3.heap.push {cls:= .type "slice",data:= .fields #[vl,vu,.none]}} σ H3 x v vl vu l u s3.heap.objs.size Q I4 r1 (Heap.IsSliceOf.new ..) pl pu q3;show wpAny (model X.prog X.w) X.A (subscriptTail e (.Slice lo hi none p2) v (.ref s3.heap.objs.size)) (EP X pins σ Q) X.xe {s3 with heap:=s3.heap.push {cls:= .type "slice",data:= .fields #[vl,vu,.none]}};exact tail_any (ops:=[.ref s3.heap.objs.size,v]) ht hT hg (by with_unfolding_all rfl)
def wM (xs:List V) (lo hi:Option Int):List V:=(xs.drop (HT.nO xs.length 0 lo)).take (HT.nO xs.length xs.length hi - HT.nO xs.length 0 lo)
theorem Ca (xs:List V) (lo hi:Option Int):(wM xs lo hi).length<=xs.length:=by
 unfold wM;rw [List.length_take,List.length_drop];omega
def ab7 (K:PySem.W.Frag):V->Option Int->Option Int->Hp->VK->Prop:=fun x lo hi H Q=>∃a xs,x = .ref a/\eU K H a xs /\
 ¬(HT.nO xs.length 0 lo=0/\HT.nO xs.length xs.length hi=xs.length) /\ ∀p,H p=none->Q (.ref p) (upd H p (.tup (wM xs lo hi)))
theorem aad:SlR X (ab7 X.K):=by
 intro pins s σ H x v vl vu lo hi sl Q I rx hs pl pu h;obtain ⟨a,xs,rfl,hx,hw,q⟩:=h;cases rx;obtain ⟨its,r,ht,hz⟩:=I.tuple hx;have hlen:its.toArray.size=xs.length:=by rw [List.size_toArray];exact r.length.symm
 refine ⟨"tuple",_,PyProof.Rows.slot_tuple_getitem.lookup,ht.typeIs, ?_⟩;refine HT.zN ht hs pl pu (by rw [hlen];exact hw) ?_ (by rw [hlen];exact hz);rw [hlen];refine ⟨.ref s.heap.objs.size,_,I.laid (t':=s.toks) (o:= .tup (wM xs lo hi)) (fun b ob q=>Heap.get?_push_of_some _ q) (Nat.le_refl _) ?_,rfl,q _ (I.hok.fresh (Nat.le_refl _))⟩;exact ⟨Nat.le_trans (Ca xs lo hi) hz,_,(r.drop (HT.nO xs.length 0 lo)).take (HT.nO xs.length xs.length hi - HT.nO xs.length 0 lo),IsTup.new _ _⟩
end
end L2
namespace L2
open PySem PySem.Spec PyProof.Rows
def Jj (n:Nat) (i:Int):Option Nat:=if 0<=i then (if i<n then some i.toNat else none) else if -(n:Int)<=i then some (i+n).toNat else none
def vq {α:Type} (xs:List α) (i:Int):Option α:=(Jj xs.length i).bind fun j=>xs[j]?
theorem Qa {n:Nat} {i:Int} {j:Nat} (h:Jj n i=some j):seqIndex? i n=some j/\j<n /\ -(n:Int)<=i/\i<n:=by
 unfold Jj at h
 by_cases h0:0<=i
 ·rw [if_pos h0] at h
  by_cases h1:i<n
  ·rw [if_pos h1] at h
   have e:i.toNat=j:=Option.some.inj h;exact ⟨by rw [seqIndex_of h0 h1,e],by omega,by omega,h1⟩
  ·rw [if_neg h1] at h;cases h
 ·rw [if_neg h0] at h
  by_cases h1: -(n:Int)<=i
  ·rw [if_pos h1] at h
   have e:(i+n).toNat=j:=Option.some.inj h;exact ⟨by rw [seqIndex_neg (by omega) h1,e],by omega,h1,by omega⟩
  ·rw [if_neg h1] at h;cases h
theorem JN {α:Type} {xs:List α} {i:Int} {v:α} (h:vq xs i=some v):∃j,seqIndex? i xs.length=some j/\xs[j]? = some v/\j<xs.length /\ -(xs.length:Int)<=i/\i<xs.length:=by
 unfold vq at h;cases e:Jj xs.length i with
 | none=>rw [e] at h;cases h
 | some j=>
   rw [e] at h;obtain ⟨h1,h2,h3,h4⟩:=Qa e;exact ⟨j,h1,h,h2,h3,h4⟩
theorem bW {α:Type} {xs:List α} {j:Nat} {v:α} (h:xs[j]? = some v):vq xs (j:Int)=some v:=by
 have hj:j<xs.length:=(List.getElem?_eq_some_iff.mp h).1
 have e:Jj xs.length (j:Int)=some j:=by
  unfold Jj;rw [if_pos (by omega),if_pos (by omega)];simp
 unfold vq;rw [e];exact h
theorem FZ {α:Type} (xs:List α) (v:α):vq (xs++[v]) (-1)=some v:=by
 have hl:(xs++[v]).length=xs.length+1:=by simp
 have e:Jj (xs++[v]).length (-1)=some xs.length:=by
  unfold Jj;rw [hl,if_neg (by decide),if_pos (by omega)];congr 1;omega
 unfold vq;rw [e];show (xs++[v])[xs.length]? = some v;simp
def YJ (b:Expr):Prop:=∀o i,subscripted b false o i=operate [o,i] (getItem o i)
def IxR (X:Cx) (r:R2):Prop:=
 ∀(value slice:Expr) (pins:List (Addr×Obj)) (s:Shared) (σ:St) (H:Hp) (x y:V) (v u:Value) (Q:VK),Inv X pins σ H s->RelV x v->RelV y u->r x y H Q ->
  subscripted slice false v u=operate [v,u] (getItem v u)->wpAny (model X.prog X.w) X.A (subscriptTail value slice v u) (EP X pins σ Q) X.xe s
def ZP (X:Cx) (id:String) (r:V->List V->Hp->VK->Prop):Prop:=
 ∀(pins:List (Addr×Obj)) (s:Shared) (σ:St) (H:Hp) (x:V) (xs:List V) (v:Value) (us:List Value) (Q:VK),Inv X pins σ H s->RelV x v->Vals xs us->r x xs H Q ->
  wpAny (model X.prog X.w) X.A (call (.builtin id) (v::us)) (EP X pins σ Q) X.xe s
section
variable {X:Cx} {a b:Expr} {ta tb:TE} {pos:Pos}
theorem aV {r:R2} (hr:IxR X r) (ha:PE X a ta) (hb:PE X b tb) (hs:YJ b):PE X (.Subscript a b pos) (tOp r ta tb):=by
 intro pins s σ H Q I h;exact Subscript_ (aa' ha hb I h fun v u s2 x y H2 I2 rx ry q=>hr a b pins s2 σ H2 x y v u Q I2 rx ry q (hs _ _))
def ace (K:PySem.W.Frag):R2:=fun x y H Q=>∃p xs i v,x = .ref p/\y = .int i/\bO K H p xs/\vq xs i=some v/\Q v H
def acd (K:PySem.W.Frag):R2:=fun x y H Q=>∃p xs i v,x = .ref p/\y = .int i/\eU K H p xs/\vq xs i=some v/\Q v H
def agm:R2:=fun x y H Q=>∃z i c,x = .str z/\y = .int i/\z.length<=sizeLine/\vq z.cps.toList i=some c/\Q (.str ⟨#[c]⟩) H
theorem Ye:IxR X (ace X.K):=by
 intro value slice pins s σ H x y v u Q I rx ry h hs;obtain ⟨p,xs,i,z,rfl,rfl,hq,he,q⟩:=h;cases rx;obtain ⟨t,rfl⟩:=ry;obtain ⟨its,r,pl,hz⟩:=I.list hq;obtain ⟨j,h1,h2,h3,h4,h5⟩:=JN he;obtain ⟨w,ew,rw'⟩:=r.get h2;have hl:=r.length;have hn:=uV;have fin:EP X pins σ Q w s:=⟨z,H,I,rw',q⟩
 by_cases h0:0<=i
 ·have hj:i.toNat=j:=by
   rw [seqIndex_of h0 h5] at h1;exact Option.some.inj h1
  exact item_listR pl.isList h0 (by omega) (by rw [hj];simpa using ew) fin hs
 ·have hj:(i+(its.toArray.size:Int)).toNat=j:=by
   rw [seqIndex_neg (by omega) h4] at h1;rw [List.size_toArray,←hl];exact Option.some.inj h1
  exact subscriptTail_builtinR (x:=w) pl.isList.typeIs slot_list_getitem.lookup
   (wpAny_getItem_list_neg (Q:=fun r s'=>r=w/\EP X pins σ Q r s') pl.isList (by omega) (by rw [List.size_toArray]<;>omega) (by omega) (by rw [hj];simpa using ew) ⟨rfl,fin⟩) hs
theorem aaI:IxR X (acd X.K):=by
 intro value slice pins s σ H x y v u Q I rx ry h hs;obtain ⟨p,xs,i,z,rfl,rfl,hq,he,q⟩:=h;cases rx;obtain ⟨t,rfl⟩:=ry;obtain ⟨its,r,pl,hz⟩:=I.tuple hq;obtain ⟨j,h1,h2,h3,h4,h5⟩:=JN he;obtain ⟨w,ew,rw'⟩:=r.get h2;have hl:=r.length;have hn:=uV;have fin:EP X pins σ Q w s:=⟨z,H,I,rw',q⟩
 exact subscriptTail_builtinR (x:=w) pl.typeIs slot_tuple_getitem.lookup
  (getItem_tuple (j:=j) (Q:=fun r s'=>r=w/\EP X pins σ Q r s') pl (by omega) (by omega) (by rw [List.size_toArray,←hl];exact h1) (by simpa using ew) ⟨rfl,fin⟩) hs
theorem wH:IxR X agm:=by
 intro value slice pins s σ H x y v u Q I rx ry h hs;obtain ⟨z,i,c,rfl,rfl,hz,he,q⟩:=h;obtain ⟨t,rfl⟩:=rx;obtain ⟨t',rfl⟩:=ry;obtain ⟨j,h1,h2,h3,h4,h5⟩:=JN he;have hl:z.cps.toList.length=z.length:=by simp [Str.length]
 rw [hl] at h1 h4 h5;have hn:=uV
 exact tail_any (typeIs_str s z t) slot_str_getitem.lookup (getItem_str (c:=c) (by
  have e1:decide (i < -(2 ^ 63:Int))=false:=decide_eq_false (by omega);have e2:decide (i≥2 ^ 63)=false:=decide_eq_false (by omega);rw [e1,e2,Bool.or_false]) (by rw [h1];simpa using h2) ⟨.str ⟨#[c]⟩,H,I.tok _,⟨_,rfl⟩,q⟩) hs
theorem Nt (its:List Value) (n j:Nat) (u:Value):Obj.mapSeq (·.setIfInBounds j u) {cls:= .type "list",data:= .seq its.toArray n}={cls:= .type "list",data:= .seq (its.set j u).toArray n}:=by
 simp [Obj.mapSeq]
theorem Inv.lst {pins:List (Addr×Obj)} {σ:St} {H:Hp} {s:Shared} {p:Addr} {xs:List V} (I:Inv X pins σ H s) (h:H p=some (.lst xs)):
 ∃(its:List Value) (n:Nat),Vals xs its/\s.heap.get? p=some {cls:= .type "list",data:= .seq its.toArray n}/\xs.length<=sizeLine:=by
 obtain ⟨z,its,n,r,e⟩:=I.hok p _ h;exact ⟨its,n,r,e,z⟩
theorem Inv.aaA {pins:List (Addr×Obj)} {σ:St} {H:Hp} {s:Shared} {p:Addr} {xs ys:List V} {its its':List Value} {n n':Nat} {f:Obj->Obj} (I:Inv X pins σ H s) (h:H p=some (.lst xs))
 (ho:s.heap.get? p=some {cls:= .type "list",data:= .seq its.toArray n}) (hf:f {cls:= .type "list",data:= .seq its.toArray n}={cls:= .type "list",data:= .seq its'.toArray n'}) (r:Vals ys its') (hz:ys.length<=sizeLine) (t:Nat):
 Inv X pins σ (upd H p (.lst ys)) {s with heap:=s.heap.update p f,toks:=t}:=by
 have e:(s.heap.update p f).get? p=some {cls:= .type "list",data:= .seq its'.toArray n'}:=by
  rw [Heap.get?_update_self f ho (by rw [hf]<;>rfl),hf]
 refine I.write (x:=p) (e:=p) (by rw [h];trivial) (.inl rfl) (fun b u hb q=>(Heap.get?_update_other _ _ (Ne.symm hb)).trans q) ⟨_,e⟩ ?_;exact ⟨hz,its',n',r,e⟩
def ab9:V->V->V->Hp->(Hp->Prop)->Prop:=fun o i v H Q=>∃p xs k j,o = .ref p/\i = .int k/\H p=some (.lst xs)/\Jj xs.length k=some j/\Q (upd H p (.lst (xs.set j v)))
theorem set_list:ad_ X ab9:=by
 intro pins s σ H o i v ov iv u Q I ro ri rv h;obtain ⟨p,xs,k,j,rfl,rfl,hp,hj,q⟩:=h;cases ro;obtain ⟨t,rfl⟩:=ri;obtain ⟨its,n,r,ho,hz⟩:=I.lst hp;obtain ⟨h1,h2,h3,h4⟩:=Qa hj;have hl:=r.length;have hn:=uV
 have I':Inv X pins σ (upd H p (.lst (xs.set j v))) {s with heap:=s.heap.update p (Obj.mapSeq (·.setIfInBounds j u))}:=
  I.aaA hp ho (Nt its n j u) (r.set rv j) (by rw [List.length_set];exact hz) s.toks
 by_cases h0:0<=k
 ·have hk:k.toNat=j:=by
   rw [seqIndex_of h0 h4] at h1;exact Option.some.inj h1
  exact PySem.W.ki_setAt ho h0 (by omega) (by rw [List.size_toArray,←hl];exact h4) (by rw [hk];exact ⟨_,I',q⟩)
 ·have hk:(k+(its.toArray.size:Int)).toNat=j:=by
   rw [seqIndex_neg (by omega) h3] at h1;rw [List.size_toArray,←hl];exact Option.some.inj h1
  exact PySem.W.ki_setBack ho (by omega) (by rw [List.size_toArray,←hl];exact h3) (by omega) (by rw [hk];exact ⟨_,I',q⟩)
theorem Ik (lo hi:Option Int) (n:Nat):(sliceBounds lo hi none n).1=((HT.nO n 0 lo:Nat):Int)/\(sliceBounds lo hi none n).2.1=((HT.nO n n hi:Nat):Int)/\(sliceBounds lo hi none n).2.2=1:=by
 refine ⟨?_, ?_,rfl⟩
 ·cases lo with
  | none=>simp [sliceBounds,HT.nO]
  | some i=>
    simp only [sliceBounds,HT.nO,Option.getD_none,show (1:Int)>0 by decide,if_true]
    by_cases h:i<0
    ·simp only [h,if_true]<;>omega
    ·simp only [h,if_false]<;>omega
 ·cases hi with
  | none=>simp [sliceBounds,HT.nO]
  | some i=>
    simp only [sliceBounds,HT.nO,Option.getD_none,show (1:Int)>0 by decide,if_true]
    by_cases h:i<0
    ·simp only [h,if_true]<;>omega
    ·simp only [h,if_false]<;>omega
theorem Gk (its:List Value) (lo hi:Option Int):slicePick its.toArray lo hi none=((its.drop (HT.nO its.length 0 lo)).take (HT.nO its.length its.length hi - HT.nO its.length 0 lo)).toArray:=by
 obtain ⟨h1,h2,h3⟩:=Ik lo hi its.toArray.size;unfold slicePick;rw [h1,h2,h3];simp only [sliceRange_one,pick_run,List.size_toArray]<;>rfl
def ab8 (K:PySem.W.Frag):V->Option Int->Option Int->Hp->VK->Prop:=fun x lo hi H Q=>∃a xs,x = .ref a/\bO K H a xs /\ ∀p,H p=none->Q (.ref p) (upd H p (.lst (wM xs lo hi)))
theorem W8:SlR X (ab8 X.K):=by
 intro pins s σ H x v vl vu lo hi sl Q I rx hs pl pu h;obtain ⟨a,xs,rfl,hx,q⟩:=h;cases rx;obtain ⟨its,r,ht,hz⟩:=I.list hx;have hlen:=r.length;refine ⟨"list",_,slot_list_getitem.lookup,ht.isList.typeIs, ?_⟩;refine wpAny_getItem_list_slice ht.isList hs pl pu .none (by simp) ?_ (by rw [List.size_toArray]<;>omega);rw [Gk,←hlen];refine ⟨.ref s.heap.objs.size,_,I.laid (t':=s.toks) (o:= .lst (wM xs lo hi)) (fun b ob q=>Heap.get?_push_of_some _ q) (Nat.le_refl _) ?_,rfl,q _ (I.hok.fresh (Nat.le_refl _))⟩;exact ⟨Nat.le_trans (Ca xs lo hi) hz,_,0,(r.drop (HT.nO xs.length 0 lo)).take (HT.nO xs.length xs.length hi - HT.nO xs.length 0 lo),Heap.get?_push_size _ rfl⟩
def BZ:V->Bool
 | .non=>true
 | .bl _=>true
 | .int _=>true
 | .str _=>true
 | _=>false
def Rj:V->V->Bool
 | .non,.non=>true
 | .bl a,.bl b=>a==b
 | .bl a,.int b=>(if a then 1 else 0)==b
 | .int a,.bl b=>a==(if b then 1 else 0)
 | .int a,.int b=>a==b
 | .str a,.str b=>a==b
 | _,_=>false
theorem aa4 {A:Around} {s:Shared} {y x:V} {u v:Value} (ry:RelV y u) (rx:RelV x v) (fy:BZ y=true) (fx:BZ x=true):SeqAt.EqAt A s u v (Rj y x):=by
 cases y with
 | non=>
   cases ry;cases x with
   | non=>cases rx;exact SeqAt.EqAt.same _
   | bl b=>cases rx;exact SeqAt.EqAt.none_bool b
   | int b=>obtain ⟨t,rfl⟩:=rx;exact SeqAt.EqAt.none_int b t
   | str b=>obtain ⟨t,rfl⟩:=rx;exact SeqAt.EqAt.none_str b t
   | _=>exact absurd (show false=true from fx) Bool.false_ne_true
 | bl a=>
   cases ry;cases x with
   | non=>cases rx;exact SeqAt.EqAt.bool_none a
   | bl b=>cases rx;exact SeqAt.EqAt.bool_bool a b
   | int b=>obtain ⟨t,rfl⟩:=rx;exact SeqAt.EqAt.bool_int a b t
   | str b=>obtain ⟨t,rfl⟩:=rx;exact SeqAt.EqAt.bool_str a b t
   | _=>exact absurd (show false=true from fx) Bool.false_ne_true
 | int a=>
   obtain ⟨t',rfl⟩:=ry;cases x with
   | non=>cases rx;exact SeqAt.EqAt.int_none a t'
   | bl b=>cases rx;exact SeqAt.EqAt.int_bool a t' b
   | int b=>obtain ⟨t,rfl⟩:=rx;exact SeqAt.EqAt.int_int a t' b t
   | str b=>obtain ⟨t,rfl⟩:=rx;exact SeqAt.EqAt.int_str a t' b t
   | _=>exact absurd (show false=true from fx) Bool.false_ne_true
 | str a=>
   obtain ⟨t',rfl⟩:=ry;cases x with
   | non=>cases rx;exact SeqAt.EqAt.str_none a t'
   | bl b=>cases rx;exact SeqAt.EqAt.str_bool a t' b
   | int b=>obtain ⟨t,rfl⟩:=rx;exact SeqAt.EqAt.str_int a t' b t
   | str b=>obtain ⟨t,rfl⟩:=rx;exact SeqAt.EqAt.str_str a t' b t
   | _=>exact absurd (show false=true from fx) Bool.false_ne_true
 | _=>exact absurd (show false=true from fy) Bool.false_ne_true
def Oe (x:V) (u:Value):Bool:=match u with
 | .none=>Rj .non x
 | .bool b=>Rj (.bl b) x
 | .int i _=>Rj (.int i) x
 | .str z _=>Rj (.str z) x
 | _=>false
theorem VL {x y:V} {u:Value} (r:RelV y u) (f:BZ y=true):Oe x u=Rj y x:=by
 cases y with
 | non=>cases r;rfl
 | bl b=>cases r;rfl
 | int i=>obtain ⟨t,rfl⟩:=r;rfl
 | str z=>obtain ⟨t,rfl⟩:=r;rfl
 | _=>exact absurd (show false=true from f) Bool.false_ne_true
theorem zV {x:V}:∀{xs:List V} {us:List Value},Vals xs us->xs.all BZ=true->us.any (Oe x)=xs.any fun y=>Rj y x
 | _,_,.nil,_=>rfl
 | y::xs,u::us,.cons r t,f=>by
   rw [List.all_cons,Bool.and_eq_true] at f;rw [List.any_cons,List.any_cons,VL r f.1,zV t f.2]
theorem wC {A:Around} {s:Shared} {x:V} {v:Value} (rx:RelV x v) (fx:BZ x=true):∀{xs:List V} {us:List Value},Vals xs us->xs.all BZ=true -> ∀u∈us,SeqAt.EqAt A s u v (Oe x u)
 | _,_,.nil,_=>fun u hu=>by cases hu
 | y::xs,u::us,.cons r t,f=>fun u' hu=>by
   rw [List.all_cons,Bool.and_eq_true] at f;rcases List.mem_cons.mp hu with rfl|hu
   ·rw [VL r f.1];exact aa4 r rx f.1 fx
   ·exact wC rx fx t f.2 u' hu
def inV (x:V) (xs:List V):Bool:=xs.any fun y=>Rj y x
def rIn (K:PySem.W.Frag) (neg:Bool):R2:=fun x y H Q=>∃p xs,y = .ref p/\(bO K H p xs\/eU K H p xs)/\BZ x=true/\xs.all BZ=true/\Q (.bl (if neg then !inV x xs else inV x xs)) H
theorem QS:vp X (compareOp .In) (rIn X.K false):=by
 intro pins s σ H x y v u Q I rx ry h;obtain ⟨p,xs,rfl,hq,fx,fs,q⟩:=h;cases ry;rcases hq with hq|hq
 ·obtain ⟨its,r,pl,hz⟩:=I.list hq
  refine SeqAt.in_listAt (Oe x) pl.isList (fun w hw=>wC rx fx r fs w (by simpa using hw)) ⟨.bl _,H,I,rfl, ?_⟩;rw [show its.toArray.any (Oe x)=its.any (Oe x) by simp,zV r fs];exact q
 ·obtain ⟨its,r,pl,hz⟩:=I.tuple hq
  refine SeqAt.in_tupleAt (Oe x) pl (fun w hw=>wC rx fx r fs w (by simpa using hw)) ⟨.bl _,H,I,rfl, ?_⟩;rw [show its.toArray.any (Oe x)=its.any (Oe x) by simp,zV r fs];exact q
theorem Ja:vp X (compareOp .NotIn) (rIn X.K true):=by
 intro pins s σ H x y v u Q I rx ry h;obtain ⟨p,xs,rfl,hq,fx,fs,q⟩:=h;cases ry;rcases hq with hq|hq
 ·obtain ⟨its,r,pl,hz⟩:=I.list hq
  refine SeqAt.notIn_listAt (Oe x) pl.isList (fun w hw=>wC rx fx r fs w (by simpa using hw)) ⟨.bl _,H,I,rfl, ?_⟩;rw [show its.toArray.any (Oe x)=its.any (Oe x) by simp,zV r fs];exact q
 ·obtain ⟨its,r,pl,hz⟩:=I.tuple hq
  refine SeqAt.notIn_tupleAt (Oe x) pl (fun w hw=>wC rx fx r fs w (by simpa using hw)) ⟨.bl _,H,I,rfl, ?_⟩;rw [show its.toArray.any (Oe x)=its.any (Oe x) by simp,zV r fs];exact q
theorem JB:jL X (.builtin "len") (fun xs H Q=>∃p ys,xs=[.ref p]/\(bO X.K H p ys\/eU X.K H p ys)/\Q (.int ys.length) H):=by
 intro pins s σ H xs us Q I r h;obtain ⟨p,ys,rfl,hq,q⟩:=h;obtain ⟨u,rfl,rx⟩:=vals1 r;cases rx;have hn:=uV;rcases hq with hq|hq
 ·obtain ⟨its,r',pl,hz⟩:=I.list hq
  have hlen:=r'.length;exact Calls.call_len_list pl.isList (by simp only [List.size_toArray]<;>omega) ⟨.int ys.length,H,I.tok _,⟨s.toks+1,by rw [List.size_toArray,hlen]⟩,q⟩
 ·obtain ⟨its,r',pl,hz⟩:=I.tuple hq
  have hlen:=r'.length;exact len_tuple pl (by simp only [List.size_toArray]<;>omega) ⟨.int ys.length,H,I.tok _,⟨s.toks+1,by rw [List.size_toArray,hlen]⟩,q⟩
theorem Jz:jL X (.type "list") (fun xs H Q=>∃p ys,xs=[.ref p]/\(bO X.K H p ys\/eU X.K H p ys) /\ ∀l,H l=none->Q (.ref l) (upd H l (.lst ys))):=by
 intro pins s σ H xs us Q I r h;obtain ⟨p,ys,rfl,hq,q⟩:=h;obtain ⟨u,rfl,rx⟩:=vals1 r;cases rx
 have fin:∀(its:List Value),Vals ys its->ys.length<=sizeLine -> ∀(h':Heap) (c':Nat),(∀b o',s.heap.get? b=some o'->h'.get? b=some o') ->
  h'.get? s.heap.objs.size=some {cls:= .type "list",dict:=none,data:= .seq its.toArray c',slots:= #[]}->EP X pins σ Q (.ref s.heap.objs.size) {s with heap:=h'}:=fun its r' hz h' c' kp e=>
  ⟨.ref s.heap.objs.size,_,I.laid (t':=s.toks) kp (Nat.le_refl _) (show eO X.prog X.w _ h' _ (.lst ys) from ⟨hz,its,c',r',e⟩),rfl,q _ (I.hok.fresh (Nat.le_refl _))⟩
 rcases hq with hq|hq
 ·obtain ⟨its,r',pl,hz⟩:=I.list hq
  have hlen:=r'.length;obtain ⟨o,ho,hc,n,hd⟩:=pl.isList;exact call_list_seq p (.inl rfl) ho hc hd (fun h' c' kp e=>fin its r' hz h' c' kp e) (by simp only [List.size_toArray]<;>omega)
 ·obtain ⟨its,r',pl,hz⟩:=I.tuple hq
  have hlen:=r'.length;obtain ⟨o,ho,hc,n,hd⟩:=pl;exact call_list_seq p (.inr rfl) ho hc hd (fun h' c' kp e=>fin its r' hz h' c' kp e) (by simp only [List.size_toArray]<;>omega)
theorem GD:jL X (.type "tuple") (fun xs H Q=>∃p ys,xs=[.ref p]/\((bO X.K H p ys /\ ∀l,H l=none->Q (.ref l) (upd H l (.tup ys)))\/(eU X.K H p ys/\Q (.ref p) H))):=by
 intro pins s σ H xs us Q I r h;obtain ⟨p,ys,rfl,h⟩:=h;obtain ⟨u,rfl,rx⟩:=vals1 r;cases rx;rcases h with ⟨hq,q⟩|⟨hq,q⟩
 ·obtain ⟨its,r',pl,hz⟩:=I.list hq
  have hlen:=r'.length;refine call_tuple_list pl.isList (fun h' kp=> ?_) (by simp only [List.size_toArray]<;>omega);have I1:Inv X pins σ H {s with heap:=h'}:=I.kept (t':=s.toks) kp
  have I2:Inv X pins σ (upd H h'.objs.size (.tup ys)) {s with heap:=h'.push {cls:= .type "tuple",data:= .seq its.toArray}}:=
   I1.laid (t':=s.toks) (fun b o e=>Heap.get?_push_of_some _ e) (Nat.le_refl _) (show eO X.prog X.w _ _ _ (.tup ys) from ⟨hz,its,r',IsTup.new _ _⟩)
  exact ⟨.ref h'.objs.size,_,I2,rfl,q _ (I1.hok.fresh (Nat.le_refl _))⟩
 ·obtain ⟨its,r',pl,hz⟩:=I.tuple hq
  exact call_tuple_same pl ⟨.ref p,H,I,rfl,q⟩
def tyV (K:PySem.W.Frag) (T:String) (x:V) (H:Hp):Prop:=match x with
 | .str _=>T = "str"
 | .int _=>T = "int"
 | .ref p=>(T = "list" /\ ∃xs,bO K H p xs)\/(T = "tuple" /\ ∃o,K.lookup p=some o/\o.cls = .type "tuple" /\ o.dict=none) \/
    (T = "dict" /\ ((∃kvs,H p=some (.dK kvs)) \/ ∃kvs,H p=some (.dT kvs)))\/(T = "set" /\ ∃S n,H p=some (.set S n))
 | _=>False
theorem Z4 {pins:List (Addr×Obj)} {σ:St} {H:Hp} {s:Shared} {T:String} {x:V} {v:Value} (I:Inv X pins σ H s) (r:RelV x v) (ty:tyV X.K T x H):
 s.TypeIs v T /\ ∀a,v = .ref a -> ∃ob,s.heap.get? a=some ob/\ob.dict=none:=by
 cases x with
 | str z=>
   obtain ⟨t,rfl⟩:=r;cases (show T = "str" from ty);exact ⟨typeIs_str s z t,fun _ e=>nomatch e⟩
 | int i=>
   obtain ⟨t,rfl⟩:=r;cases (show T = "int" from ty);exact ⟨typeIs_int s i t,fun _ e=>nomatch e⟩
 | ref p=>
   cases r;rcases ty with ⟨rfl,xs,hq⟩|⟨rfl,o,hk,hc,hd⟩|⟨rfl,hk⟩|⟨rfl,S,n,hk⟩
   ·obtain ⟨its,_,pl,_⟩:=I.list hq
    refine ⟨pl.isList.typeIs,fun a e=> ?_⟩;cases e;obtain ⟨o,n,e,c,hd,_⟩:=pl;exact ⟨o,e,hd⟩
   ·refine ⟨⟨o,I.xR p o hk,hc⟩,fun a e=> ?_⟩
    cases e;exact ⟨o,I.xR _ o hk,hd⟩
   ·have z:∃o,s.heap.get? p=some o/\o.ExactDict:=by
     rcases hk with ⟨kvs,hk⟩|⟨kvs,hk⟩
     ·obtain ⟨_,_,_,_,o,_,_,e,ex,_⟩:=I.hok p _ hk
      exact ⟨o,e,ex⟩
     ·obtain ⟨_,_,_,_,o,_,_,e,ex,_⟩:=I.hok p _ hk
      exact ⟨o,e,ex⟩
    obtain ⟨o,e,ex⟩:=z;refine ⟨⟨o,e,ex.1⟩,fun a e2=> ?_⟩;cases e2;exact ⟨o,e,ex.2.1⟩
   ·obtain ⟨o,_,_,_,e,ex,_⟩:=I.hok p _ hk
    refine ⟨⟨o,e,ex.1⟩,fun a e2=> ?_⟩;cases e2;exact ⟨o,e,ex.2.1⟩
 | _=>exact False.elim ty
def tBM (K:PySem.W.Frag) (T:String) (r:V->List V->Hp->VK->Prop) (to:TE) (t:TA):TE:=fun σ H Q=>to σ H fun x H1=>tyV K T x H1/\t σ H1 fun xs H2=>r x xs H2 Q
variable {o e:Expr} {es:List Expr} {to:TE} {t:TA} {name:Str} {apos cpos:Pos} {T id:String} {r:V->List V->Hp->VK->Prop}
theorem Za (pa:PlainAttrs T) (slot:Slot T name id) (hty:typeOf (.builtin id)=pure (.type "method_descriptor")) (hm:ZP X id r) (ho:PE X o to) (ha:PA X (e::es) t)
 (hbase:attributeBase o name X.env (eval o X.env)=eval o X.env:=by rfl)
 (hfew:((backTo cpos (starEach (e::es) X.env)).all (fun x=> !x.1)&&(backToKw cpos (keywordEach [] X.env)).all (fun x=>x.1.isSome)
   && decide ((e::es).length+([]:List Keyword).length+(if ([]:List Keyword).isEmpty then 0 else 1)<30))=true:=by rfl)
 (hline:(apos.endLine==cpos.line)=true:=by rfl) (hs:starEach (e::es) X.env=(false,eval e X.env)::starEach es X.env:=by rfl) (hplain:(backTo cpos (starEach es X.env)).any (·.1)=false:=by rfl):
 PE X (.Call (.Attribute o name apos) (e::es) [] cpos) (tBM X.K T r to t):=by
 intro pins s σ H Q I h;refine wpAny_Call_method_late hbase hfew hline rfl (fu (ho pins s σ H _ I h) fun v s1 ⟨x,H1,I1,r1,ty,q1⟩=> ?_);obtain ⟨h1,h2⟩:=Z4 I1 r1 ty;refine ⟨T,id,pa,slot,hty,h1,h2, ?_⟩;have hA:=ha cpos pins s1 σ H1 _ I1 q1;rw [hs] at hA ⊢;refine Calls.callWith_builtin (by show (false||(backTo cpos (starEach es X.env)).any (·.1))=false;rw [hplain]<;>rfl) (Calls.evalArgs_plain ?_);exact fu hA fun us s2 ⟨vs,H2,I2,r2,q2⟩=>hm pins s2 σ H2 x vs v us Q I2 r1 r2 q2
end
end L2
namespace L2
open PySem PySem.Spec PyProof.Rows
def MtM (X:Cx) (id:String) (r:V->List V->Hp->VK->Prop):Prop:=
 ∀(pins:List (Addr×Obj)) (s:Shared) (σ:St) (H:Hp) (x:V) (xs:List V) (v:Value) (us:List Value) (Q:VK),Inv X pins σ H s->RelV x v->Vals xs us->r x xs H Q ->
  wpAny (model X.prog X.w) X.A (call (.builtin id) (v::us)) (EP X pins σ Q) X.xe s
theorem Vals.one {x:V} {us:List Value} (h:Vals [x] us):∃u,us=[u]/\RelV x u:=by
 cases h with
 | cons r t=>cases t;exact ⟨_,rfl,r⟩
theorem Vals.rep {xs:List V} {us:List Value} (h:Vals xs us):∀k:Nat,Vals (List.replicate k xs).flatten (List.replicate k us).flatten
 | 0=> .nil
 | k+1=>by
   rw [List.replicate_succ,List.replicate_succ,List.flatten_cons,List.flatten_cons];exact Vals.append h (Vals.rep h k)
theorem foldl_rep (its:List Value):∀(k:Nat) (acc:List Value),
 List.foldl (fun x1 x2=>x1++x2) acc.toArray (List.replicate k its.toArray)=(acc++(List.replicate k its).flatten).toArray
 | 0,acc=>by simp
 | k+1,acc=>by
   have e:acc.toArray++its.toArray=(acc++its).toArray:=by simp
   have e2:(acc++its)++(List.replicate k its).flatten=acc++(List.replicate (k+1) its).flatten:=by
    rw [List.replicate_succ,List.flatten_cons,List.append_assoc]
   rw [←e2,←foldl_rep its k (acc++its),←e,List.replicate_succ,List.foldl_cons]
section
variable {X:Cx} {pins:List (Addr×Obj)} {σ:St} {H:Hp} {s:Shared} {l b:Addr} {xs ys zs:List V}
theorem Inv.ahV {its its':List Value} {n:Nat} {f:Array Value->Array Value} {t':Nat} (I:Inv X pins σ H s) (hH:H l=some (.lst xs))
 (e:s.heap.get? l=some {cls:= .type "list",data:= .seq its.toArray n}) (hf:f its.toArray=its'.toArray) (hv:Vals ys its') (hz:ys.length<=sizeLine):
 Inv X pins σ (upd H l (.lst ys)) {s with heap:=s.heap.update l (Obj.mapSeq f),toks:=t'}:=by
 have q:=PySem.IsL.update e f;rw [hf] at q;refine I.write (x:=l) (e:=l) (by rw [hH];exact trivial) (.inl rfl) (fun b' u hb hu=>(Heap.get?_update_other s.heap (Obj.mapSeq f) (Ne.symm hb)).trans hu) ⟨_,q⟩ ?_;exact ⟨hz,its',_,hv,q⟩
theorem Inv.acC {its:List Value} {t':Nat} (I:Inv X pins σ H s) (hv:Vals ys its) (hz:ys.length<=sizeLine):
 Inv X pins σ (upd H s.heap.objs.size (.lst ys)) {s with heap:=s.heap.push {cls:= .type "list",data:= .seq its.toArray},toks:=t'}:=
 I.laid (fun _ _ q=>Heap.get?_push_of_some _ q) (Nat.le_refl _) ⟨hz,its,0,hv,Heap.get?_push_size _ rfl⟩
theorem Inv.fresh (I:Inv X pins σ H s):H s.heap.objs.size=none:=I.hok.fresh (Nat.le_refl _)
theorem Inv.Yc (I:Inv X pins σ H s) (hH:H l=some (.lst xs)):xs.length<=sizeLine /\ ∃(its:List Value) (n:Nat),Vals xs its/\xs.length=its.length/\s.heap.get? l=some {cls:= .type "list",data:= .seq its.toArray n}:=by
 obtain ⟨z,its,n,r,e⟩:=I.hok l _ hH;exact ⟨z,its,n,r,r.length,e⟩
theorem Us {n:Nat} (h:n<=sizeLine):Builtin.List.listTooLong n=false:=by
 unfold Builtin.List.listTooLong;exact decide_eq_false (by omega)
end
section
variable {X:Cx}
def Pq:V->List V->Hp->VK->Prop:=fun x vs H Q=>∃l xs y,x = .ref l/\vs=[y]/\H l=some (.lst xs)/\xs.length<sizeLine/\Q .non (upd H l (.lst (xs++[y])))
theorem Hl:MtM X "list.append" Pq:=by
 intro pins s σ H x vs v us Q I rx rv h;obtain ⟨l,xs,y,rfl,rfl,hH,hz,q⟩:=h;cases rx;obtain ⟨u,rfl,ru⟩:=rv.one;obtain ⟨z,its,n,r,hl,e⟩:=I.Yc hH;refine call_meets F.slot_list_append ⟨_,e,rfl⟩ F.entry_list_append (F.args_list_append_2 _ _) (PySem.list_append l its.toArray n u (by rw [List.size_toArray];omega)) ⟨e, ?_⟩;refine ⟨.non,_,I.ahV (its':=its++[u]) hH e (by simp) (r.append (.cons ru .nil)) ?_,rfl,q⟩;rw [List.length_append,List.length_singleton];omega
def agp:R2:=fun x y H Q=>∃l b xs zs,x = .ref l/\y = .ref b/\H l=some (.lst xs)/\H b=some (.lst zs)/\xs.length+zs.length<=sizeLine /\ ∀p,H p=none->Q (.ref p) (upd H p (.lst (xs++zs)))
theorem o7:vp X (binaryOp .Add) agp:=by
 intro pins s σ H x y v u Q I rx ry h;obtain ⟨l,b,xs,zs,rfl,rfl,hH,hB,hz,q⟩:=h;cases rx;cases ry;obtain ⟨z,its,n,r,hl,e⟩:=I.Yc hH;obtain ⟨z2,its2,n2,r2,hl2,e2⟩:=I.Yc hB;refine PySem.P.add_list e e2 ?_ (by rw [List.size_toArray,List.size_toArray];omega);have ea:its.toArray++its2.toArray=(its++its2).toArray:=by simp
 rw [ea];exact ⟨.ref _,_,I.acC (t':=s.toks) (r.append r2) (by rw [List.length_append];omega),rfl,q _ I.fresh⟩
def agk:R2:=fun x y H Q=>∃l k xs,x = .ref l/\y = .int k/\H l=some (.lst xs) /\ -(2 ^ 63)<=k/\k<2 ^ 63/\xs.length*k.toNat<=sizeLine /\
 ∀p,H p=none->Q (.ref p) (upd H p (.lst (List.replicate k.toNat xs).flatten))
theorem len_rep {α:Type} (xs:List α) (k:Nat):(List.replicate k xs).flatten.length=k*xs.length:=by
 induction k with
 | zero=>simp
 | succ k ih=>rw [List.replicate_succ,List.flatten_cons,List.length_append,ih,Nat.succ_mul,Nat.add_comm]
theorem aao:vp X (binaryOp .Mult) agk:=by
 intro pins s σ H x y v u Q I rx ry h;obtain ⟨l,k,xs,rfl,rfl,hH,h1,h2,hz,q⟩:=h;cases rx;obtain ⟨t,rfl⟩:=ry;obtain ⟨z,its,n,r,hl,e⟩:=I.Yc hH;have hlen:its.toArray.size*k.toNat<=sizeLine:=by rw [List.size_toArray,←hl];exact hz
 have hcap:¬its.toArray.size*k.toNat>(2 ^ 63 - 1) / 8:=by
  have:(sizeLine:Nat)<=(2 ^ 63 - 1) / 8:=by decide
  omega
 have hfit:¬(!Builtin.List.listFitsIndex k)=true:=by
  rw [fitsIndex_both h1 h2];exact Bool.false_ne_true
 have acR:¬Builtin.List.listTooLong (its.toArray.size*k.toNat)=true:=by
  rw [Us hlen];exact Bool.false_ne_true
 have hnew:List.foldl (fun x1 x2=>x1++x2) #[] (List.replicate (if its.toArray.isEmpty=true then 0 else k.toNat) its.toArray)=(List.replicate k.toNat its).flatten.toArray:=by
  have f0:∀m:Nat,List.foldl (fun x1 x2=>x1++x2) #[] (List.replicate m its.toArray)=(List.replicate m its).flatten.toArray:=fun m=>by
   have:=foldl_rep its m [];rw [List.nil_append] at this;exact this
  rw [f0];cases its with
  | nil=>simp
  | cons a r'=>rw [if_neg (by simp)]
 refine wpAny_binaryOp_repeat_ref (T:= "list") (U:= "int") (by decide) ⟨_,e,rfl⟩ (fun s'=>typeIs_int s' k t) noFill_list_mul F.fills_int_mul F.slot_int_rmul repeat_list F.slot_int_index.lookup
  (call_meets F.slot_int_rmul (typeIs_int s k t) F.entry_int_rmul (F.args_int_rmul_2 _ _) (int___rmul___int_list k t l its.toArray n)
    ⟨e,rfl,⟨_,e,rfl⟩,call_meets F.slot_list_mul ⟨_,e,rfl⟩ F.entry_list_mul (F.args_list_mul_2 _ _) (AutoListH.list___mul___list_int_3 l its.toArray n k t hfit hcap acR) ⟨e, ?_⟩⟩)
 rw [hnew];exact ⟨.ref _,_,I.acC (t':=s.toks) (r.rep k.toNat) (by rw [len_rep,Nat.mul_comm];exact hz),rfl,q _ I.fresh⟩
end
section
variable {prog:Program} {w:World} {A:Around} {E:Value->Shared->Prop} {s:Shared}
end
section
variable {X:Cx}
end
end L2
namespace L2
open PySem PySem.Spec PyProof.Rows
section
variable {κ:Type} [DecidableEq κ]
end
abbrev KT (H:Hp):List (List Key×V)->List (List Key×Addr×Value)->Prop:=Paired fun p q=>p.1=q.1/\H q.2.1=some (.tup (p.1.map kV))/\RelV p.2 q.2.2
section
variable {P:Program} {w:World} {H:Hp} {h:Heap} {a:Addr}
end
section
variable {X:Cx} {pins:List (Addr×Obj)} {σ:St} {H:Hp} {s:Shared} {a:Addr} {y v:V} {u r:Value} {o:Option V} {A:Around} {E:Value->Shared->Prop}
end
section
variable {X:Cx} {pins:List (Addr×Obj)} {σ:St} {H:Hp} {s:Shared} {a:Addr} {kvs:List (Key×V)} {k:Key} {u:Value} {A:Around} {E:Value->Shared->Prop}
end
section
variable {X:Cx} {o i e value:Expr} {pos pos' tpos:Pos} {td ty tv:TE}
end
section
variable {X:Cx} {pos:Pos}
end
structure M1 (X:Cx) (o:Expr) (m:Str) (apos:Pos) (e:Expr) (cpos:Pos):Prop where
 base:attributeBase o m X.env (eval o X.env)=eval o X.env
 few:((backTo cpos (starEach [e] X.env)).all (fun x=> !x.1)&&(backToKw cpos (keywordEach [] X.env)).all (fun x=>x.1.isSome)
  && decide (([e]:List Expr).length+([]:List Keyword).length+(if ([]:List Keyword).isEmpty then 0 else 1)<30))=true
 line:(apos.endLine==cpos.line)=true
 trees:backTo cpos (starEach [e] X.env)=[(false,eval e X.env)]
structure M2 (X:Cx) (o:Expr) (m:Str) (apos:Pos) (e f:Expr) (cpos:Pos):Prop where
 base:attributeBase o m X.env (eval o X.env)=eval o X.env
 few:((backTo cpos (starEach [e,f] X.env)).all (fun x=> !x.1)&&(backToKw cpos (keywordEach [] X.env)).all (fun x=>x.1.isSome)
  && decide (([e,f]:List Expr).length+([]:List Keyword).length+(if ([]:List Keyword).isEmpty then 0 else 1)<30))=true
 line:(apos.endLine==cpos.line)=true
 trees:backTo cpos (starEach [e,f] X.env)=[(false,eval e X.env),(false,eval f X.env)]
section
variable {X:Cx} {pins:List (Addr×Obj)} {σ:St} {H:Hp} {s:Shared} {a:Addr} {y d:V} {u r:Value} {o:Option V} {A:Around} {E:Value->Shared->Prop}
end
section
variable {X:Cx} {o e f:Expr} {apos cpos:Pos} {td ty tx:TE}
end
section
variable {X:Cx} {pins:List (Addr×Obj)} {σ:St} {H:Hp} {s:Shared} {a:Addr} {kvs:List (Key×V)} {A:Around} {E:Value->Shared->Prop}
end
section
variable {X:Cx} {pins:List (Addr×Obj)} {σ:St} {H:Hp} {s:Shared} {a:Addr} {y:V} {u:Value} {A:Around} {E:Value->Shared->Prop}
end
end L2
namespace Att
open PySem PySem.W PySem.Calls PyProof.Rows
theorem Cr {P:Params} {h:Heap}:∀(ns:List Int) (vs:List Value),WellAll P h vs (ns.map WData.int)->IntsAre vs ns:=by
 intro ns
 induction ns with
 | nil=>
   intro vs w;rw [List.map_nil] at w;cases w;exact .nil
 | cons n ns ih=>
   intro vs w;rw [List.map_cons] at w;cases w with
   | cons a b=>
     cases a;exact .cons _ _ (ih _ b)
theorem Qz {l:OpenLaw} {n:Nat} (hn:l.most=some n) {P:Params} {h:Heap} {args:List WData} {vals:List Value}
 (hpre:l.row.toRowW.claim.pre args=true) (hwl:WellAll P h vals args):
 ∃a vs ns,vals=[Value.ref a]/\args=[WData.list (ns.map WData.int)]/\h.get? a=some {cls:= .type "list",data:= .seq vs.toArray}/\IntsAre vs ns/\ns.length<=n:=by
 have hsh:WShape.hasAll [] args [.list .int]=true:=(pre_splitW hpre).1;have hc:l.pre.holds [] {args:=args}=true:=(pre_splitW hpre).2;obtain ⟨d,r,rfl,h1,h2⟩:=hasAllW_cons hsh;obtain rfl:=hasAllW_nil h2;obtain ⟨xs,rfl,h3⟩:=hasW_list h1;obtain ⟨ns,rfl⟩:=items_int h3
 have hlen:ns.length<=n:=by
  unfold OpenLaw.pre at hc
  have h4:(WTm.not (.lt (.lit (.int (n:Int))) (.len (.arg 0)))).holds [] {args:=[.list (ns.map .int)]}=true:=by
   have h4:=(holds_andW hc).1;rw [hn] at h4;exact h4
  have h5:=condW_of h4 (w_not (w_lt w_lit (w_len_list (w_arg rfl))));rw [List.length_map] at h5;refine Nat.le_of_not_lt fun q=> ?_;have q':(n:Int)<((ns.length:Nat):Int):=by omega
  first
   | (rw [decide_eq_true q'] at h5;exact absurd h5 (by decide))
   | (simp at h5;omega)
 cases hwl with
 | cons w1 w2=>
   cases w2;cases w1 with
   | list ho hall=>exact ⟨_,_,ns,rfl,rfl,ho,Cr ns _ hall,hlen⟩
theorem QL (l:OpenLaw) (args:List WData):l.row.toRowW.claim.post args (.bool true) args=true:=
 postW_of (r:=l.row.toRowW) (X:=(true==true))
  (show WShape.has [] (.bool true) .bool=true by first |rfl|decide|simp [WShape.has,WShape.arms,WShape.armsAll])
  (show (WTm.eq .res (.lit (.bool true))).value [] {args:=args,res:=some (.bool true),after:=args}=some (.bool (true==true)) from w_eq_bool (w_res rfl) w_lit) rfl
theorem Lj {l:OpenLaw} {n:Nat} {q:Program} {loose:List Str} {XP:(Str->Option Value)->Heap->Prop} {YP:World->Heap->Prop} {d:DefRec}
 (hn:l.most=some n) (hdf:d.params.defaults=[])
 (call:∀(w:World) (s₀ s₁:Shared) (mg mb:Str->Option Value) (fa:Addr) (o:Obj) (pm cd doc:Value) (a:Addr) (vs:List Value) (ns:List Int),
   Ground q loose [] XP w s₀ mg mb s₁.heap->YP w s₁.heap ->
   s₁.heap.get? fa=some o->o.data = .func (docDef d.name d.params d.body d.scope pm cd doc)->s₁.heap.CodeRec cd d.name->mg d.name=some (.ref fa) ->
   s₁.heap.get? a=some {cls:= .type "list",data:= .seq vs.toArray}->IntsAre vs ns->ns.length<=n->s₁.gens = #[] ->
   codeAny (model l.prog w) callerA (.call (.ref fa) ⟨[.ref a],[]⟩) (fun r s'=>r = .ok (.ret (.bool true))/\OldK s₁.heap s'.heap/\s'.os=s₁.os/\AllBare s'.gens) s₁):
 WalkO q loose XP YP l.row.toRowW d [] (fun f vs=>PySem.call f vs):=by
 intro w s₀ s₁ mg mb G Y fa o pm cd doc dV kV ho hd hcd hD hmg hg args vals as hpre hlay hrd hwl hlo;obtain rfl:dV = .none:=Dflts.none hD hdf;obtain rfl:kV = .none:=Dflts.noKw hD;obtain ⟨a,vs,ns,rfl,rfl,hobj,hints,hlen⟩:=Qz hn hpre hwl;refine enter_call (codeAny_mono (call w s₀ s₁ mg mb fa o pm cd doc a vs ns G Y ho (fd_plain hd) hcd hmg hobj hints hlen hg) fun r s' hq=> ?_);obtain ⟨rfl,h2,h3,h4⟩:=hq;exact ⟨.inl ⟨.bool true,.bool true,[],rfl,fun _=>rfl,.bool true,QL l _,fun _=>⟨List.Pairwise.nil,fun _ hm=>(nomatch hm)⟩⟩,h2,h3,h4⟩
section
variable {prog:Program} {w:World} {A:Around} {E:Value->Shared->Prop} {s:Shared} {K:Frag}
def ledger (h:Heap) (L d:Addr):List (Addr×Obj):=(List.range h.objs.size).filterMap fun a=>if a=L\/a=d then none else (h.get? a).map fun o=>(a,o)
end
end Att
namespace L2
open PySem PySem.Spec PyProof.Rows
theorem Qu {vs:List Value} {ns:List Int} (h:IntsAre vs ns):Vals (ns.map V.int) vs:=by
 induction h with
 | nil=>exact .nil
 | cons n t h ih=>exact .cons ⟨t,rfl⟩ ih
def Only (H:Hp):Prop:=∀b,H b=none \/ ∃o xs,H b=some (.K5 o (.lst xs))
theorem Uz {P:Program} {w:World} {K:PySem.W.Frag} {mg mb:Str->Option Value} {CX:Sq} {k:Nat} {fa a:Addr} {fd:FuncData} {x:Str} {sp:Sp} {s₁:Shared} {vs:List Value} {ns:List Int}
 (KX:K.In s₁.heap) (hns:s₁.heap.Ns mainGlobals mg) (hb:s₁.heap.Ns builtinsNs mb) (hbb:∀x:Str,x ≠ "__name__" -> mb x=bootBuiltins x) (hlim:s₁.heap.NoLimit) (hg:s₁.gens = #[])
 (ha:s₁.heap.get? a=some {cls:= .type "list",data:= .seq vs.toArray}) (hi:IntsAre vs ns) (hl:ns.length<=sizeLine) (hr:lH k callerA)
 (F:∀base:Heap,K.In base->base.Ns mainGlobals mg->dM P w K mg base CX k fa fd [x] sp) (hbind:∀(s:Shared) (u:Value),BindsTo s fd ⟨[u],[]⟩ [(x,u)])
 (hsp:∀H:Hp,Only H->bO K H a (ns.map V.int)->sp [.ref a] H (fun v _=>v = .bl true) fun _ _ _=>False)
 (hCX:∀H e s',CX [] H s₁ (fun _ _ _=>False) e s'->False):
 codeAny (model P w) callerA (.call (.ref fa) ⟨[.ref a],[]⟩) (fun r s'=>r = .ok (.ret (.bool true))/\OldK s₁.heap s'.heap/\s'.os=s₁.os/\AllBare s'.gens) s₁:=by
 have rv:=Qu hi;have lenV:=hi.length
 have core:∀H:Hp,Only H->bO K H a (ns.map V.int)->Ck P w H s₁.heap->(∀b,H b≠none->b=a)->(H a≠none->K.lookup a=none) ->
  codeAny (model P w) callerA (.call (.ref fa) ⟨[.ref a],[]⟩) (fun r s'=>r = .ok (.ret (.bool true))/\OldK s₁.heap s'.heap/\s'.os=s₁.os/\AllBare s'.gens) s₁:=by
  intro H hO hS hok hA hK;have Qo:∀{b:Addr} {o:Obj},s₁.heap.get? b=some o->H b=none->(Jo s₁.heap H).get? b=some o:=fun e n=>U8 e n
  have noA:∀{b:Addr} {o:Obj} {es:Array DictEntry} {ep:Nat},s₁.heap.get? b=some o->o.data = .dict es ep->H b=none:=fun {b o es ep} e d=>by
   cases q:H b with
   | none=>rfl
   | some u=>
     have e':b=a:=hA b (by rw [q];simp);subst e';rw [ha] at e;cases e;have d':Data.seq vs.toArray _=Data.dict es ep:=d;cases d'
  have nsK:∀{b:Addr} {m:Str->Option Value},s₁.heap.Ns b m->(Jo s₁.heap H).Ns b m:=fun {b m} ⟨o,es,ep,e,d,r⟩=>⟨o,es,ep,Qo e (noA e d),d,r⟩
  have hKb:K.In (Jo s₁.heap H):=fun b o e=>Qo (KX b o e) (by
   cases q:H b with
   | none=>rfl
   | some u=>
     have e':b=a:=hA b (by rw [q];simp);subst e';rw [hK (by rw [q];simp)] at e;cases e)
  have hM:Mod K mg (Jo s₁.heap H):=⟨hKb,nsK hns,⟨mb,nsK hb,hbb⟩,let ⟨mc,h1,h2⟩:=hlim;⟨mc,nsK h1,h2⟩⟩;have e0:O1 P w K mg (Jo s₁.heap H) callerA [] s₁ H:=⟨rfl,hM,fun b o e=>X_ e,Nat.le_of_eq (Ra _ _),trivial,fun b hb=>absurd (show b∈([]:List Addr) from hb) (by simp),hok,.of_eq hg⟩;refine codeAny_mono ((F _ hKb (nsK hns)).run callerA [] s₁ H ⟨[.ref a],[]⟩ [.ref a] [.ref a] _ _ hr e0 (hbind s₁ (.ref a)) (.cons rfl .nil) (hsp H hO hS)) fun r s' h=> ?_;cases r with
  | error e=>exact (hCX H e s' h).elim
  | ok fl=>
    cases fl with
    | next=>exact False.elim h
    | brk=>exact False.elim h
    | cont=>exact False.elim h
    | ret u=>
      obtain ⟨v,H',os,bare,un,hok',r',q⟩:=h;have q':v = .bl true:=q;subst q';obtain rfl:u=Value.bool true:=r';refine ⟨rfl,OldK.of_keep fun b o e=> ?_,os,bare⟩;cases q:H b with
      | none=>exact un.keep b o e q (by intro z;exact absurd (show b∈([]:List Addr) from z) (by simp)) (by simp)
      | some u=>
        rcases hO b with z|⟨ob,xs,z⟩
        ·rw [q] at z;cases z
        ·have z2:=un.zO b ob _ z
         obtain ⟨e1,_⟩:=hok b _ z;obtain ⟨e2,_⟩:=hok' b _ z2;rw [e] at e1;cases e1;exact e2
 cases hk:K.lookup a with
 | some o=>
   have e:=KX a o hk;rw [ha] at e;cases e;refine core (fun _=>none) (fun _=> .inl rfl) (.inr ⟨_,vs.toArray,_,hk,rfl,rfl,rfl,by rw [List.size_toArray,lenV];exact hl,by simpa using rv⟩) (fun b u z=>by have z':(none:Option HO)=some u:=z;cases z') (fun b z=>absurd rfl z) fun z=>absurd rfl z
 | none=>
   refine core (fun b=>if b=a then some (.K5 {cls:= .type "list",data:= .seq vs.toArray} (.lst (ns.map V.int))) else none) (fun b=> ?_) (.inl (.inr ⟨{cls:= .type "list",data:= .seq vs.toArray},if_pos rfl⟩)) (fun b u z=> ?_) (fun b z=> ?_) fun _=>hk
   ·by_cases hb:b=a
    ·exact .inr ⟨_,_,if_pos hb⟩
    ·exact .inl (if_neg hb)
   ·by_cases hb:b=a
    ·have z':=(if_pos hb).symm.trans z
     cases z';subst hb;exact ⟨ha,by rw [List.length_map];exact hl,vs,_,rv,ha⟩
    ·have z':=(if_neg hb).symm.trans z
     cases z'
   ·by_cases hb:b=a
    ·exact hb
    ·exact absurd (if_neg hb) z
end L2
namespace L2
open PySem PySem.Spec PyProof.Rows
abbrev KOf {K:PySem.W.Frag} {h:Heap} (_:K.In h):PySem.W.Frag:=K
theorem WR {l:PySem.W.OpenLaw} {n k:Nat} {q:Program} {loose:List Str} {XP:(Str->Option Value)->Heap->Prop} {YP:World->Heap->Prop} {d:DefRec} {K:Params->PySem.W.Frag} {CX:World->Sq} {sp:World->Sp} {x:Str}
 (hn:l.most=some n) (hn2:n<=sizeLine) (hdf:d.params.defaults=[]) (hr:lH k callerA)
 (hY:∀(w:World) (h:Heap),YP w h->(K w.params).In h)
 (F:∀(w:World) (mg:Str->Option Value) (fa:Addr) (h:Heap),(K w.params).In h->h.Ns mainGlobals mg->mg d.name=some (.ref fa) ->
   ∃fd:FuncData,(∀(s:Shared) (u:Value),BindsTo s fd ⟨[u],[]⟩ [(x,u)]) /\
    ∀base:Heap,(K w.params).In base->base.Ns mainGlobals mg->dM l.prog w (K w.params) mg base (CX w) k fa fd [x] (sp w))
 (hsp:∀(w:World) (H:Hp) (a:Addr) (ns:List Int),ns.length<=n->Only H->bO (K w.params) H a (ns.map V.int)->sp w [.ref a] H (fun v _=>v = .bl true) fun _ _ _=>False)
 (hCX:∀(w:World) (H:Hp) (s:Shared) (e:Value) (s':Shared),CX w [] H s (fun _ _ _=>False) e s'->False):
 PySem.W.WalkO q loose XP YP l.row.toRowW d [] (fun f vs=>PySem.call f vs):=by
 refine Att.Lj hn hdf fun w s₀ s₁ mg mb fa o pm cd doc a vs ns G Y ho hd hcd hmg hobj hints hlen hg=> ?_;have KX:=hY w _ Y;obtain ⟨fd,hb,hF⟩:=F w mg fa _ KX G.T.g hmg;exact Uz KX G.T.g G.T.b G.T.builtins G.T.nolimit hg hobj hints (Nat.le_trans hlen hn2) hr hF hb (fun H hO hS=>hsp w H a ns hlen hO hS) fun H e s'=>hCX w H s₁ e s'
end L2
namespace L2
open PySem PySem.Spec PyProof.Rows
def inClass (s:Stmt) (j:Nat):Stmt:=match s with
 | .ClassDef _ _ _ body _ _ _ _ _ _ _=>body.getD j (.Pass ⟨0,0,0,0⟩)
 | _=> .Pass ⟨0,0,0,0⟩
def aL (s:Stmt):Arguments:=match s with
 | .FunctionDef _ a _ _ _ _ _ _ _ _=>a
 | _=>{posonlyargs:=[],args:=[],vararg:=none,kwonlyargs:=[],kw_defaults:=[],kwarg:=none,defaults:=[]}
def aJ (s:Stmt):List Stmt:=match s with
 | .FunctionDef _ _ b _ _ _ _ _ _ _=>b
 | _=>[]
def aB (s:Stmt):Scope:=match s with
 | .FunctionDef _ _ _ _ _ _ sc _ _ _=>sc
 | _=>{kind:= .function,names:=[],isGenerator:=false,isCoroutine:=false}
abbrev tV:Sq:=fun _ _ _ _ _ _=>False
abbrev E0:XK:=fun _ _ _=>False
theorem Zb {X:Cx}:Passes tV X E0:=fun _ _ _ _ _ _ _ h=>h.elim
structure rm (K:PySem.W.Frag) (x qual:Str) (st:Stmt) (f:Addr) (fd:FuncData):Prop where
 ex:∃(oc:Value) (od:Option Addr) (kV doc pm:Value) (an:Option Addr) (cdv ct:Value) (osl:Array (Option Value)),
  fd=PySem.W.fnOf x qual (aL st) (aJ st) (aB st) .none kV doc pm an cdv ct/\K.lookup f=some ⟨oc,od,.func fd,osl⟩/\PySem.W.codeIn K cdv qual=true
 kp:PySem.W.keepIn K (.ref f)=true
section
variable {P:Program} {w:World} {K:PySem.W.Frag} {mg:Str->Option Value} {base:Heap}
theorem rm.ok {x qual:Str} {st:Stmt} {f:Addr} {fd:FuncData} {N ps:List Str} {k:Nat} {sp:Sp} (F:rm K x qual st f fd) (S:bH N ps (aB st)) (len:∀vs H Q E,sp vs H Q E->vs.length=ps.length)
 (hbody:∀(cdv:Value) (A:Around) (outer:List Env) (s:Shared) (H:Hp) (vs:List V) (Q:VK) (E:XK),lH k (A.deeper (envOfC qual (aB st) s.heap.objs.size f cdv))->sp vs H Q E ->
   ∃t,OD (xW tV P w K mg base N qual (aB st) f cdv A outer s H E).nox (aJ st) t/\t {nx:=fun _ H'=>Q .non H',rt:=Q} (start N vs) H):dM P w K mg base tV (k+1) f fd ps sp:=by
 obtain ⟨oc,od,kV,doc,pm,an,cdv,ct,osl,rfl,lk,hcd⟩:=F.ex;refine Zw lk hcd S len fun A outer s H vs Q E hr hsp=> ?_;obtain ⟨t,h,q⟩:=hbody cdv A outer s H vs Q E hr hsp;exact ⟨t,h.nox,q⟩
theorem rm.binds {x qual:Str} {st:Stmt} {f:Addr} {fd:FuncData} {ps:List Str} (F:rm K x qual st f fd)
 (h:∀(kV doc pm:Value) (an:Option Addr) (cdv ct:Value) (us:List Value),us.length=ps.length->bindArgs (PySem.W.fnOf x qual (aL st) (aJ st) (aB st) .none kV doc pm an cdv ct) ⟨us,[]⟩=pure (ps.zip us)):Binds K fd ps []:=by
 obtain ⟨oc,od,kV,doc,pm,an,cdv,ct,osl,rfl,lk,hcd⟩:=F.ex;exact .all (h kV doc pm an cdv ct)
theorem b_ {x qual:Str} {st:Stmt} {f:Addr} {oc:Value} {od an:Option Addr} {osl:Array (Option Value)} {kV doc pm cdv ct:Value} (l:K.lookup f=some ⟨oc,od,.func (PySem.W.fnOf x qual (aL st) (aJ st) (aB st) .none kV doc pm an cdv ct),osl⟩)
 (c:PySem.W.codeIn K cdv qual=true) (k:PySem.W.keepIn K (.ref f)=true):rm K x qual st f (PySem.W.fnOf x qual (aL st) (aJ st) (aB st) .none kV doc pm an cdv ct):=⟨⟨oc,od,kV,doc,pm,an,cdv,ct,osl,rfl,l,c⟩,k⟩
end
section
variable {X:Cx}
theorem pv (i:Nat) {x:Str} {pos:Pos} (hN:X.N[i]? = some x:=by rfl) (hv:Vis X.env.scope x:=by first |exact Or.inl rfl|exact Or.inr (Or.inl rfl)|exact Or.inr (Or.inr rfl)) (hd:(x==("__debug__" :Str))=false:=by decide)
 (hcd:(x==("__classdict__" :Str))=false:=by decide):PE X (.Name x pos) (Ti i):=aan hN hv hd hcd
end
theorem cP {A B:Prop} (h:B):if false=true then A else B:=by
 rw [if_neg Bool.false_ne_true];exact h
theorem dz {A B:Prop} (h:A):if true=true then A else B:=by
 rw [if_pos rfl];exact h
theorem cD {c A B:Prop} [Decidable c] (h1:c->A) (h2:¬c->B):if c then A else B:=by
 by_cases h:c
 ·rw [if_pos h]
  exact h1 h
 ·rw [if_neg h]
  exact h2 h
theorem acL {c A B:Prop} [Decidable c] (hc:c) (h:B):if (!decide c)=true then A else B:=by
 rw [decide_eq_true hc];exact cP h
def Same (H H':Hp):Prop:=∀b o,H b=some o->H' b=some o
theorem Same.refl (H:Hp):Same H H:=fun _ _ h=>h
theorem Same.trans {H H1 H2:Hp} (a:Same H H1) (b:Same H1 H2):Same H H2:=fun c o h=>b c o (a c o h)
theorem Same.free {H H':Hp} (e:Same H H') {l:Addr} (h:H' l=Option.none):H l=Option.none:=by
 cases q:H l with
 | none=>rfl
 | some o=>
   rw [e l o q] at h;cases h
theorem Same.seq {K:PySem.W.Frag} {H H':Hp} {a:Addr} {xs:List V} (e:Same H H') (h:bO K H a xs):bO K H' a xs:=by
 rcases h with (h|⟨o,h⟩)|h
 ·exact .inl (.inl (e _ _ h))
 ·exact .inl (.inr ⟨o,e _ _ h⟩)
 ·exact .inr h
section
variable {κ:Type} [DecidableEq κ]
end
end L2
set_option Elab.async false
set_option linter.all false
set_option maxRecDepth 100000
set_option maxHeartbeats 4000000
namespace L2
open PySem PySem.Spec PyProof.Rows
theorem Hj {a n:Addr} (h:a<n): @LT.lt Nat _ a n:=h
def wN (env:Env):List (Str×NameKind)->List (Str×Addr)->List (Str×Addr)
 | [],acc=>acc
 | (n,k)::r,acc=>if k == .free then wN env r ((n,(env.cells.lookup n).getD 0)::acc) else wN env r acc
theorem Oj {env:Env} {scope:Scope} (h:∀y∈scope.names,y.2 = .free->(env.cells.lookup y.1).isSome=true):closureFor scope env=pure (wN env scope.names []):=by
 have go:∀(ns:List (Str×NameKind)) (acc:List (Str×Addr)),(∀y∈ns,y.2 = .free->(env.cells.lookup y.1).isSome=true) ->
  (forIn ns acc (fun x cs=>match x with |(name,kind)=>if (kind == .free)=true then do let c ←cellOf env name;pure (ForInStep.yield ((name,c)::cs)) else pure (ForInStep.yield cs)):Sem (List (Str×Addr)))=pure (wN env ns acc):=by
  intro ns
  induction ns with
  | nil=>intro acc _;rfl
  | cons y r ih=>
    intro acc hy;obtain ⟨n,k⟩:=y;rw [List.forIn_cons]
    by_cases hk:k = .free
    ·subst hk
     have hs:=hy (n,.free) List.mem_cons_self rfl;obtain ⟨c,hc⟩:=Option.isSome_iff_exists.mp hs;have e:cellOf env n=pure c:=by unfold cellOf;rw [hc]
     show _=pure (wN env r ((n,(env.cells.lookup n).getD 0)::acc));rw [←ih _ fun y hm=>hy y (List.mem_cons_of_mem _ hm)];simp only [beq_self_eq_true,if_true,e,pure_bind,hc,Option.getD_some]
    ·have hb:(k==NameKind.free)=false:=by simpa using hk
     have hc:wN env ((n,k)::r) acc=wN env r acc:=by
      show (if (k==NameKind.free)=true then _ else _)=_;rw [if_neg (by rw [hb];decide)]
     rw [hc,←ih _ fun y hm=>hy y (List.mem_cons_of_mem _ hm)];simp only [hb,Bool.false_eq_true,if_false,pure_bind]
 have q:=go scope.names [] h;unfold closureFor;show (forIn scope.names [] _ >>= fun r=>pure r)=_;rw [bind_pure];exact q
theorem nZ {env:Env}:∀(ns:List (Str×NameKind)) (acc:List (Str×Addr)) (x:Str),(∀y∈ns,y.2 = .free->(env.cells.lookup y.1).isSome=true) ->
 (wN env ns acc).lookup x=if (x,NameKind.free)∈ns then env.cells.lookup x else acc.lookup x
 | [],acc,x,_=>by simp [wN]
 | (n,k)::r,acc,x,h=>by
   have hr:∀y∈r,y.2 = .free->(env.cells.lookup y.1).isSome=true:=fun y hm=>h y (List.mem_cons_of_mem _ hm)
   by_cases hk:k = .free
   ·subst hk
    show (wN env r ((n,(env.cells.lookup n).getD 0)::acc)).lookup x=_;rw [nZ r _ x hr];obtain ⟨c,hc⟩:=Option.isSome_iff_exists.mp (h (n,.free) List.mem_cons_self rfl);have hc:env.cells.lookup n=some c:=hc
    by_cases hm:(x,NameKind.free)∈r
    ·rw [if_pos hm,if_pos (List.mem_cons_of_mem _ hm)]
    ·rw [if_neg hm]
     by_cases e:x=n
     ·subst e
      rw [if_pos List.mem_cons_self,List.lookup_cons,hc];simp
     ·rw [if_neg (fun z=>(List.mem_cons.mp z).elim (fun q=>e (congrArg Prod.fst q)) hm),List.lookup_cons]
      have:(x==n)=false:=by simpa using e
      rw [this]
   ·have hb:(k==NameKind.free)=false:=by simpa using hk
    have hc:wN env ((n,k)::r) acc=wN env r acc:=by
     show (if (k==NameKind.free)=true then _ else _)=_;rw [if_neg (by rw [hb];decide)]
    rw [hc,nZ r acc x hr]
    have:((x,NameKind.free)∈(n,k)::r)↔(x,NameKind.free)∈r:=by
     constructor
     ·intro z
      rcases List.mem_cons.mp z with q|q
      ·exact absurd (congrArg Prod.snd q).symm hk
      ·exact q
     ·exact List.mem_cons_of_mem _
    simp only [this]
theorem qK (env:Env):∀(ns:List (Str×NameKind)) (x:Str),
 (ns.map fun (n,k)=>if (k == .free&&env.scope.kind == .function&&env.kindOf n==some .cell) then (n,NameKind.cell) else (n,k)).lookup x =
   (ns.lookup x).map fun k=>if (k == .free&&env.scope.kind == .function&&env.kindOf x==some .cell)=true then NameKind.cell else k
 | [],x=>rfl
 | (n,k)::r,x=>by
   show List.lookup x ((if (k==NameKind.free&&env.scope.kind == .function&&env.kindOf n==some .cell)=true then (n,NameKind.cell) else (n,k))::_)=_;cases hx:x==n with
   | true=>
     have e:x=n:=by simpa using hx
     subst e
     by_cases hc:(k==NameKind.free&&env.scope.kind == .function&&env.kindOf x==some .cell)=true
     ·rw [if_pos hc];simp only [List.lookup_cons,hx,Option.map_some,if_pos hc]
     ·rw [if_neg hc];simp only [List.lookup_cons,hx,Option.map_some,if_neg hc]
   | false=>
     have ih:=qK env r x
     by_cases hc:(k==NameKind.free&&env.scope.kind == .function&&env.kindOf n==some .cell)=true
     ·rw [if_pos hc];simp only [List.lookup_cons,hx];exact ih
     ·rw [if_neg hc];simp only [List.lookup_cons,hx];exact ih
structure bZ (N own:List Str) (caps:List Nat) (XN:List Str) (outer scope:Scope):Prop where
 kind:scope.kind = .function
 Ut:∀y∈scope.names,y.2 ≠ .cell
 names:∀y∈scope.names,y.2 = .local->scope.names.lookup y.1=some .local
 free:∀y∈scope.names,y.2 = .free->outer.names.lookup y.1=some .cell\/outer.names.lookup y.1=some .free
 nd:N.Nodup
 len:N.length=own.length+caps.length
 cap:∀(j:Nat),j<caps.length->N[own.length+j]? = XN[caps.getD j 0]? /\ ∃x,N[own.length+j]? = some x/\(x,NameKind.free)∈scope.names/\scope.names.lookup x=some .free
def st0 (own:List Str) (caps:List Nat) (σ:St):St:=own.map (fun _=>none)++caps.map (fun i=>(σ[i]?).join)
def fO (X:Cx) (scope:Scope) (C:Addr) (N:List Str) (s:Shared) (H:Hp) (fp:List Addr):Cx:=
 {X with N:=N,s₀:=s,H₀:=H,env:=compEnvC scope (wN X.env scope.names []) C X.env,outer:=X.stack,ex:=fp,fn:=fun _=>false,pn:=[],xe:=fun _ _=>False}
section
variable {X:Cx} {pins:List (Addr×Obj)} {σ:St} {H:Hp} {s:Shared} {scope:Scope} {N own:List Str} {caps:List Nat} {fp:List Addr} {C:Nat}
theorem bZ.V2 (S:bZ N own caps X.N X.env.scope scope) (ok:X.Ok):∀y∈scope.names,y.2 = .free->(X.env.cells.lookup y.1).isSome=true:=fun y hy hf=>by
 obtain ⟨c,e⟩:=ok.has y.1 (S.free y hy hf);rw [e];rfl
theorem bZ.csub (S:bZ N own caps X.N X.env.scope scope) (ok:X.Ok) {x:Str} {c:Addr} (h:(wN X.env scope.names []).lookup x=some c):X.env.cells.lookup x=some c:=by
 rw [nZ _ _ _ (S.V2 ok)] at h;split at h
 ·exact h
 ·simp at h
theorem bZ.Uw {S:bZ N own caps X.N X.env.scope scope} {x:Str} (h:(relabel scope X.env).names.lookup x=some .cell\/(relabel scope X.env).names.lookup x=some .free):(x,NameKind.free)∈scope.names:=by
 have e:=qK X.env scope.names x;have e':(relabel scope X.env).names.lookup x=(scope.names.lookup x).map fun k=>if (k == .free&&X.env.scope.kind == .function&&X.env.kindOf x==some .cell)=true then NameKind.cell else k:=e;rw [e'] at h;cases q:scope.names.lookup x with
 | none=>rw [q] at h;simp at h
 | some k=>
   have hm:=PySem.mem_of_lookup q
   by_cases hk:k = .free
   ·subst hk;exact hm
   ·rw [q] at h
    have hb:(k==NameKind.free)=false:=by simpa using hk
    simp only [Option.map_some,hb,Bool.false_and,Bool.false_eq_true,if_false] at h;rcases h with h|h
    ·exact absurd (Option.some.inj h) (S.Ut _ hm)
    ·exact absurd (Option.some.inj h) hk
theorem Inv.comp {h1:Heap} {D:Nat} (I:Inv X pins σ H s) (S:bZ N own caps X.N X.env.scope scope) (hfp:∀b∈fp,wY X pins H b) (hfo:∀b∈fp,∃o,s.heap.get? b=some o)
 (hD:D=s.heap.objs.size) (hC:C=s.heap.objs.size+1) (old:∀b o,s.heap.get? b=some o->h1.get? b=some o) (hns:h1.Ns C (fun _=>none)) (hl:h1.get? D=some {cls:= .type "list",data:= .seq #[]}) {t:Nat}:
 Inv (fO X scope C N s H fp) [] (st0 own caps σ) (upd H D (.lst [])) {s with heap:=h1,toks:=t}:=by
 have some':=S.V2 I.ok;have sub:∀{x c},(wN X.env scope.names []).lookup x=some c->X.env.cells.lookup x=some c:=fun h=>S.csub I.ok h;have freshD:H D=none:=I.hok.fresh (by rw [hD];exact Nat.le_refl _);have aaX:H C=none:=I.hok.fresh (by rw [hC];exact Nat.le_succ _)
 have aa6:∀x c,X.env.cells.lookup x=some c->c<s.heap.objs.size:=fun x c e=>by
  obtain ⟨v,z⟩:=I.cell x c e;exact z.lt
 have ai1:∀b∈fp,b<s.heap.objs.size:=fun b hb=>by
  obtain ⟨o,e⟩:=hfo b hb;exact Heap.lt_size e
 have DC:D≠C:=by omega
 refine ⟨⟨I.ok.mod,S.kind,I.ok.glob,I.ok.blt,by show s.heap.objs.size<=C;omega,fun x y c e1 e2=>I.ok.inj x y c (sub e1) (sub e2),fun x h=> ?_,fun x c h=>(by cases h),I.ok.hd,I.ok.frames,Or.inl rfl,fun b hb=>⟨?_,fun x c e=> ?_⟩,I.bs,Nat.le_trans I.ok.Ru I.sz,fun b o e hb=> ?_,fun b hb z=> ?_,I.stack,I.Ia⟩,
  rfl,I.bare,Un.laid old (by show s.heap.objs.size<=D;omega) freshD,⟨_,hns,fun j x v e1 e2 e3=> ?_⟩,fun x c e=> ?_, ?_,fun x c e=> ?_,fun p hp=> ?_,I.hok.laid old (by omega) ?_, ?_⟩
 ·have hm:=bZ.Uw (S:=S) (X:=X) h
  obtain ⟨c,e⟩:=Option.isSome_iff_exists.mp (some' _ hm rfl);exact ⟨c,by show (wN X.env scope.names []).lookup x=_;rw [nZ _ _ _ some',if_pos hm];exact e⟩
 ·exact Nat.ne_of_lt (show @LT.lt Nat _ b C by have:=Hj (ai1 b hb);omega)
 ·exact (hfp b hb).2.2.2.2.1 x c (sub e)
 ·rcases (hfp b hb).2.2.2.1 with z|z
  ·exact I.ok.Je b o e z
  ·exact absurd (Nat.lt_of_lt_of_le (Heap.lt_size e) (Nat.le_trans I.ok.Ru z)) (Nat.lt_irrefl _)
 ·rcases List.mem_cons.mp (I.Eb b z) with q|q
  ·exact (hfp b hb).2.1 q
  ·exact (hfp b hb).2.2.1 q
 ·have e1:N[j]? = some x:=e1
  have hj:own.length<=j:=by
   by_cases q:own.length<=j
   ·exact q
   ·exfalso
    unfold st0 at e2;rw [List.getElem?_append_left (by simp;omega),List.getElem?_map] at e2;cases r:own[j]? with
    | none=>rw [r] at e2;cases e2
    | some a=>rw [r] at e2;cases e2
  have hjl:j<N.length:=(List.getElem?_eq_some_iff.mp e1).1;have hjc:j - own.length<caps.length:=by have:=S.len;omega
  obtain ⟨c1,x',c2,c3,c4⟩:=S.cap (j - own.length) hjc;rw [show own.length+(j - own.length)=j by omega] at c1 c2;rw [e1] at c2;cases c2
  have e2':(σ[caps.getD (j - own.length) 0]?).join=some v:=by
   unfold st0 at e2;rw [List.getElem?_append_right (by simp;omega),List.getElem?_map,List.length_map] at e2;rw [List.getD_eq_getElem?_getD];cases r:caps[j - own.length]? with
   | none=>rw [r] at e2;cases e2
   | some a=>rw [r] at e2;exact Option.some.inj e2
  have ai9:σ[caps.getD (j - own.length) 0]? = some (some v):=by
   cases r:σ[caps.getD (j - own.length) 0]? with
   | none=>rw [r] at e2';cases e2'
   | some a=>rw [r] at e2';exact congrArg Option.some e2'
  have kx:X.env.kindOf x=some .cell\/X.env.kindOf x=some .free:=S.free _ c3 rfl;obtain ⟨m,hn,hl'⟩:=I.loc;obtain ⟨u,r,l⟩:=hl' _ x v (by rw [←c1];exact e1) ai9 (by rcases kx with z|z;exact .inr (.inl z);exact .inr (.inr z));refine ⟨u,r,.inr ⟨?_, ?_⟩⟩
  ·show (relabel scope X.env).names.lookup x=some .cell\/(relabel scope X.env).names.lookup x=some .free
   have e:(relabel scope X.env).names.lookup x=(scope.names.lookup x).map fun k=>if (k == .free&&X.env.scope.kind == .function&&X.env.kindOf x==some .cell)=true then NameKind.cell else k:=qK X.env scope.names x;rw [e,c4,Option.map_some];split
   ·exact .inl rfl
   ·exact .inr rfl
  ·rcases l with ⟨hk,_⟩|⟨_,c,hc,z⟩
   ·rcases kx with q|q<;>rw [hk] at q<;>cases q
   ·refine ⟨c, ?_, ?_⟩
    ·show (wN X.env scope.names []).lookup x=_
     rw [nZ _ _ _ some',if_pos c3];exact hc
    ·obtain ⟨o,ho,hd⟩:=z
     exact ⟨o,old c o ho,hd⟩
 ·obtain ⟨v,o,ho,hd⟩:=I.cell x c (sub e)
  exact ⟨v,o,old c o ho,hd⟩
 ·show upd H D (.lst []) C=none
  rw [aW DC.symm];exact aaX
 ·show upd H D (.lst []) c=none
  rw [aW (Nat.ne_of_lt (by have:=Hj (aa6 x c (sub e));omega))];exact I.mq x c (sub e)
 ·cases hp
 ·exact ⟨Nat.zero_le _,[],0,.nil,hl⟩
 ·show (own.map (fun _=>none)++caps.map _).length=N.length
  rw [List.length_append,List.length_map,List.length_map,S.len]
theorem Inv.Tc {vm:List (Addr×Obj)} {σ':St} {H':Hp} {s':Shared} {h':Heap} (I:Inv X pins σ H s) (hfp:∀b∈fp,wY X pins H b) (hC:s.heap.objs.size<=C) (J:Inv (fO X scope C N s H fp) vm σ' H' s') (hs:Heap.SameBut C s'.heap h'):
 Inv X pins σ H' {s' with heap:=h'}:=by
 have nC:∀b o,s.heap.get? b=some o->b≠C:=fun b o e=>Nat.ne_of_lt (by have:=Hj (Heap.lt_size e);omega);have u:=J.base;have frC:H' C=none:=J.free;refine I.call' (ch:=fp) (s':={s' with heap:=h'}) J.os ⟨fun b o e n hb hx=> ?_,fun b o e n hb hx=> ?_,u.free,fun b o e hx=> ?_,u.tups,u.zO,u.Ax⟩ (fun a o e=>(J.hok a o e).stay (fun b v hb q=> ?_) (fun _ q=>q) fun _ _ q=>q) J.bare fun b hb=> ?_
 ·exact (hs.2 b (nC b o e)).trans (u.keep b o e n hb hx)
 ·obtain ⟨sl,q⟩:=u.slot b o e n hb hx
  exact ⟨sl,(hs.2 b (nC b o e)).trans q⟩
 ·obtain ⟨o',q⟩:=u.there b o e hx
  exact ⟨o',(hs.2 b (nC b o e)).trans q⟩
 ·refine (hs.2 b ?_).trans q
  intro z;subst z;rcases hb with z|z
  ·subst z;rw [frC] at e;cases e
  ·rw [frC] at z;cases z
 ·exact ⟨(hfp b hb).2.2.2.1,(hfp b hb).2.1,(hfp b hb).2.2.2.2.1,(hfp b hb).2.2.2.2.2⟩
end
section
variable {prog:Program} {w:World} {A:Around} {R:Result->Shared->Prop} {s:Shared}
theorem Jx {elt target iter:Expr} {ifs:List Expr} {scope:Scope} {pos:Pos} {it acc:Value} {env:Env} (I:Nat->Shared->Prop)
 (turn:∀n s,I n s->wpAny (model prog w) A (pyNext it) (fun r s1=>match r with
   | none=>R (.ok .next) s1
   | some v=>wpAny (model prog w) A (letOwnedTupleGo target it v) (fun _ s1'=>wpAny (model prog w) A (assign target env v) (fun _ s2=>
      wpAny (model prog w) A (forIn ifs true fun c r=>if r=true then do let ok ←isTrue c env (eval c env);pure (ForInStep.yield ok) else pure (ForInStep.yield r)) (fun ok s3=>
       if ok=true then wpAny (model prog w) A (eval elt env) (fun x s4=>
        wpAny (model prog w) A (call (.builtin "list.append") [acc,x]) (fun _ s5=>∃m,m<n/\I m s5) (fun _ _=>False) s4) (fun _ _=>False) s3
       else ∃m,m<n/\I m s3) (fun _ _=>False) s2) (fun _ _=>False) s1') (fun _ _=>False) s1) (fun _ _=>False) s)
 (n:Nat) (h:I n s):
 codeAny (model prog w) A (.compLoop (.ListComp elt [⟨target,iter,ifs,0⟩] scope pos) 0 it acc env) R s:=by
 refine codeAny_loop rfl I (fun n s hI=> ?_) n h;show wpAny _ A ((compTurn (.ListComp elt [⟨target,iter,ifs,0⟩] scope pos) 0 it acc env).onRaise (fun x=>do noteFrame x env;theTreesLotGoes x)) _ _ s;refine wpAny_noted ?_;rw [compTurn_list];refine wpAny_bind (wpAny_standAt (wpAny_bind (wpAny_mono (turn n s hI) (fun r s1 h1=> ?_) fun _ _ h'=>h'.elim)));cases r with
 | none=>exact wpAny_pure h1
 | some v=>
   refine wpAny_bind (wpAny_mono h1 (fun _ s1' h1'=> ?_) fun _ _ h'=>h'.elim);refine wpAny_bind (wpAny_mono h1' (fun _ s2 h2=>wpAny_bind (wpAny_mono h2 (fun ok s3 h3=> ?_) fun _ _ h'=>h'.elim)) fun _ _ h'=>h'.elim);cases ok with
   | false=>exact wpAny_pure ⟨rfl,h3⟩
   | true=>
     exact wpAny_bind (wpAny_bind (wpAny_mono h3 (fun x s4 h4=>wpAny_bind (wpAny_mono h4 (fun _ s5 h5=>wpAny_pure (wpAny_pure ⟨rfl,h5⟩)) fun _ _ h'=>h'.elim)) fun _ _ h'=>h'.elim))
end
def PTs (X:Cx) (ifs:List Expr) (t:TT):Prop:=
 ∀(pins:List (Addr×Obj)) (s:Shared) (σ:St) (H:Hp) (Q:Bool->Hp->Prop),Inv X pins σ H s->t σ H Q ->
  wpAny (model X.prog X.w) X.A (forIn ifs true fun c r=>if r=true then do let ok ←isTrue c X.env (eval c X.env);pure (ForInStep.yield ok) else pure (ForInStep.yield r)) (TP X pins σ Q) X.xe s
def Qy:TT:=fun _ H Q=>Q true H
theorem rD {X:Cx}:PTs X [] Qy:=fun _ _ _ H _ I h=>wpAny_tests_nil ⟨H,I,h⟩
theorem Pr {X:Cx} {c:Expr} {t:TT} (h:PT X c t):PTs X [c] t:=fun pins s σ H Q I q=>wpAny_tests_one (h pins s σ H Q I q)
def tU (J:It) (g:TG) (tc:TT) (te:TE) (Q:VK) (D:Addr) (σ0:St) (H1:Hp):Prop:=
 ∃W:Nat->Nat->St->Hp->Prop,(∃m,W 0 m σ0 (upd H1 D (.lst []))) /\ ∀i m σ H,W i m σ H ->
  (J.stop i H/\Q (.ref D) H)\/(J.go i H /\ ∃N:St->Hp->Prop,(∀σ' H',N σ' H' -> ∃m',m'<m/\W (i+1) m' σ' H') /\ ∀x H',J.ZV i H x H'->g x σ H' fun σ2 H2=>tc σ2 H2 fun b H3=>
    if b=true then te σ2 H3 fun y H4=>∃acc,H4 D=some (.lst acc)/\acc.length<sizeLine/\N σ2 (upd H4 D (.lst (acc++[y]))) else N σ2 H3)
def Tj (own:List Str) (caps:List Nat) (wi:TI) (g:TG) (tc:TT) (te:TE):TE:=fun σ H Q=>wi σ H fun J H1=>∀D,H1 D=none->tU J g tc te Q D (st0 own caps σ) H1
section
variable {X:Cx} {elt tg iter:Expr} {ifs:List Expr} {scope:Scope} {pos:Pos} {N own:List Str} {caps:List Nat} {wi:TI} {g:TG} {tc:TT} {te:TE}
theorem Le {use:Option (Value->Sem Unit)} {Qv:Value->Shared->Prop} {pins:List (Addr×Obj)} {σ:St} {H:Hp} {s:Shared} {Q:VK} (hc:X.calm=true) (S:bZ N own caps X.N X.env.scope scope)
 (hg:∀C s H fp,PG (fO X scope C N s H fp) tg g) (hcs:∀C s H fp,PTs (fO X scope C N s H fp) ifs tc) (he:∀C s H fp,PE (fO X scope C N s H fp) elt te)
 (hi:PI X tg iter wi) (hs:∀x,foldedSetIterable iter X.env x=pure x)
 (I:Inv X pins σ H s) (h:Tj own caps wi g tc te σ H Q)
 (fin:∀(D C:Addr) (H':Hp) (s':Shared),(∃m,s'.heap.Ns C m)->Inv X pins σ H' s'->(∀h',Heap.SameBut C s'.heap h'->Inv X pins σ H' {s' with heap:=h'})->wY X pins H' C->Q (.ref D) H' ->
   compPost (model X.prog X.w) X.A X.xe use Qv (.ref D) C (.ok .next) s'):
 wpAny (model X.prog X.w) X.A (comprehension (.ListComp elt [⟨tg,iter,ifs,0⟩] scope pos) scope X.env (firstIterPos [⟨tg,iter,ifs,0⟩] pos) (newList []) false (eval iter X.env) use) Qv X.xe s:=by
 refine wpAny_comprehension_free (use:=use) rfl hs (Oj (S.V2 I.ok)) S.kind S.names (fu (hi pins s σ H _ I h) fun xv s1 h1=>fu h1 fun itv s2 h2=> ?_);obtain ⟨it,fp,tn,J,H2,e,I2,T,st2,f2,q2⟩:=h2;subst e;refine wpAny_newList ?_;refine wpAny_newFunctionEnv S.Ut (by intro y hy;simp at hy) (fun h1 acQ hsb1=> ?_) S.kind;dsimp only at acQ hsb1 ⊢;have hD:H2 s2.heap.objs.size=none:=I2.hok.fresh (Nat.le_refl _);have hsz:(s2.heap.push {cls:= .type "list",data:= .seq ([]:List Value).toArray}).objs.size=s2.heap.objs.size+1:=Heap.size_push ..
 have old:∀b o,s2.heap.get? b=some o->h1.get? b=some o:=fun b o e=>by
  refine hsb1.extBut b o (Nat.ne_of_lt (by have:=Hj (Heap.lt_size e);rw [hsz];omega)) (Heap.get?_push_of_some _ (Heap.get?_push_of_some _ e))
 have hl:h1.get? s2.heap.objs.size=some {cls:= .type "list",data:= .seq #[]}:=
  hsb1.extBut _ _ (Nat.ne_of_lt (by rw [hsz];omega)) (Heap.get?_push_of_some _ (Heap.get?_push_size _ rfl))
 have hfo:∀b∈fp,∃o,s2.heap.get? b=some o:=fun b hb=>let ⟨o,e,_⟩:=T.obj _ _ st2 b hb;⟨o,e⟩
 have I4:=Inv.comp (C:=(s2.heap.push {cls:= .type "list",data:= .seq ([]:List Value).toArray}).objs.size) (t:=s2.toks+([]:List (Str×Value)).length) I2 S f2 hfo rfl hsz old acQ hl;obtain ⟨W,⟨m0,w0⟩,turn⟩:=q2 _ hD;generalize hCe:(s2.heap.push {cls:= .type "list",data:= .seq ([]:List Value).toArray}).objs.size=C at *;generalize hDe:s2.heap.objs.size=D at *;have hDC:D≠C:=by omega
 have loop:∀s3:Shared,s3={s2 with heap:=h1,toks:=s2.toks+([]:List (Str×Value)).length} ->
  codeAny (model X.prog X.w) X.A (.compLoop (.ListComp elt [⟨tg,iter,ifs,0⟩] scope pos) 0 (.ref it) (.ref D) (fO X scope C N s2 H2 fp).env) (compPost (model X.prog X.w) X.A X.xe use Qv (.ref D) C) s3:=by
  rintro s3 rfl
  have K5:∀b∈fp,(upd H2 D (.lst [])) b=none:=fun b hb=>by
   obtain ⟨o,e⟩:=hfo b hb;rw [aW (Nat.ne_of_lt (by have:=Hj (Heap.lt_size e);omega))];exact (f2 b hb).1
  have stat:∀{H':Hp},(∀b∈fp,H' b=none) -> ∀b∈fp,wY (fO X scope C N s2 H2 fp) [] H' b:=fun hn b hb=>by
   obtain ⟨o,e⟩:=hfo b hb;have hlt:=Hj (Heap.lt_size e);refine ⟨hn b hb, ?_,fun z=> ?_,.inl hb,fun x c e'=>(f2 b hb).2.2.2.2.1 x c (S.csub I2.ok e'),fun p hp=>(by cases hp)⟩
   ·exact Nat.ne_of_lt (show @LT.lt Nat _ b C by omega)
   ·rcases List.mem_cons.mp (I2.Eb b z) with q|q
    ·exact (f2 b hb).2.1 q
    ·exact (f2 b hb).2.2.1 q
  refine Jx (fun n s'=>∃i σ' H',Inv (fO X scope C N s2 H2 fp) [] σ' H' s'/\tn i s'.heap/\(∀b∈fp,H' b=none)/\W i n σ' H') ?_ m0
   ⟨0,_,_,I4,T.keep _ _ _ st2 fun b _ o e=>old b o e,K5,w0⟩
  rintro n s3 ⟨i,σ3,H3,I3,st3,fr3,w3⟩;rcases turn i n σ3 H3 w3 with ⟨stop,qn⟩|⟨go,Nx,hNx,step⟩
  ·refine fu (T.done (fO X scope C N s2 H2 fp) rfl rfl rfl hc i [] s3 σ3 H3 _ I3 (stat fr3) st3 stop) fun r s4 ⟨hr,J4⟩=> ?_
   subst hr;obtain ⟨m4,hn4,_⟩:=J4.loc;exact fin D C H3 s4 ⟨m4,hn4⟩ (I2.Tc f2 (by omega) J4 (Heap.SameBut.refl _ _)) (fun h' hs'=>I2.Tc f2 (by omega) J4 hs') (I2.Gz (show s2.heap.objs.size<=C by omega) J4.free) qn
  ·refine fu (T.item (fO X scope C N s2 H2 fp) rfl rfl rfl hc i [] s3 σ3 H3 _ I3 (stat fr3) st3 go) fun r s4 ⟨u,hr,h4⟩=> ?_
   subst hr;refine fu h4 fun _ s5 ⟨x,H5,I5,r5,y5,Z9,fr5⟩=> ?_;have I5':=I5.pinned (stat fr5) (T.obj _ _ Z9);refine fu (hg C s2 H2 fp _ s5 σ3 H5 x u _ I5' r5 (step x H5 y5)) fun _ s6 ⟨σ6,H6,I6,q6⟩=> ?_;refine fu (hcs C s2 H2 fp _ s6 σ6 H6 _ I6 q6) fun ok s7 ⟨H7,I7,q7⟩=> ?_
   have again:∀{σ8:St} {H8:Hp} {s8:Shared},Inv (fO X scope C N s2 H2 fp) ([]++Ep fp s5.heap) σ8 H8 s8->Nx σ8 H8 -> ∃m,m<n /\ ∃i σ' H',Inv (fO X scope C N s2 H2 fp) [] σ' H' s8/\tn i s8.heap/\(∀b∈fp,H' b=none)/\W i m σ' H':=fun {σ8 H8 s8} I8 n8=>by
    obtain ⟨m',hm,w8⟩:=hNx _ _ n8;refine ⟨m',hm,i+1,σ8,H8,I8.zj,T.keep _ _ _ Z9 fun b hb o e=>(I8.pin (b,o) (List.mem_append_right _ (List.mem_append_right _ (uT hb e)))).1,fun b hb=> ?_,w8⟩;obtain ⟨o,e,d⟩:=T.obj _ _ Z9 b hb;exact (I8.pin (b,o) (List.mem_append_right _ (List.mem_append_right _ (uT hb e)))).2.1
   cases ok with
   | false=>
     rw [if_neg (by decide)] at q7;exact again I7 q7
   | true=>
     rw [if_pos rfl] at q7;refine fu (he C s2 H2 fp _ s7 σ6 H7 _ I7 q7) fun y s8 ⟨yv,H8,I8,r8,acc,ha,hlen,q8⟩=> ?_;exact fu (Hl _ s8 σ6 H8 (.ref D) [yv] (.ref D) [y] (fun v H9=>Nx σ6 H9) I8 rfl (.cons r8 .nil) ⟨D,acc,yv,rfl,rfl,ha,hlen,q8⟩) fun _ s9 ⟨_,H9,I9,_,q9⟩=>again I9 q9
 exact codeAny_compStart_list (loop _ rfl) (T.self _ 0 _ _ _ (T.keep _ _ _ st2 fun b _ o e=>old b o e) (loop _ rfl))
theorem uR (hc:X.calm=true) (S:bZ N own caps X.N X.env.scope scope) (hi:PI X tg iter wi)
 (hg:∀C s H fp,PG (fO X scope C N s H fp) tg g) (hcs:∀C s H fp,PTs (fO X scope C N s H fp) ifs tc) (he:∀C s H fp,PE (fO X scope C N s H fp) elt te)
 (hs:∀x,foldedSetIterable iter X.env x=pure x:=by intro _;rfl):PE X (.ListComp elt [⟨tg,iter,ifs,0⟩] scope pos) (Tj own caps wi g tc te):=by
 intro pins s σ H Q I h;rw [eval_ListComp];refine Le (use:=none) hc S hg hcs he hi hs I h ?_;intro D C H' s' hn I' hk _ q;obtain ⟨m,hn⟩:=hn;exact ⟨m,hn,fun h' hs'=>⟨.ref D,H',hk h' hs',rfl,q⟩⟩
theorem Iv {i:Nat} {x:Str} {px sp:Pos} (hc:X.calm=true) (hN:X.N.Nodup) (hx:X.N[i]? = some x) (hl:Loc X.env.scope x) (S:bZ N own caps X.N X.env.scope scope) (hi:PI X tg iter wi)
 (hg:∀C s H fp,PG (fO X scope C N s H fp) tg g) (hcs:∀C s H fp,PTs (fO X scope C N s H fp) ifs tc) (he:∀C s H fp,PE (fO X scope C N s H fp) elt te)
 (hsw:swapsWith (.ListComp elt [⟨tg,iter,ifs,0⟩] scope pos) (some (.Name x px)) sp.line X.env=pure true:=by rfl)
 (hs:∀x,foldedSetIterable iter X.env x=pure x:=by intro _;rfl) (hf:X.fn x=true\/X.env.scope.names.lookup x=some .local:=by first |exact .inl rfl|exact .inr rfl|assumption):
 PS X (.Assign [.Name x px] (.ListComp elt [⟨tg,iter,ifs,0⟩] scope pos) sp) (W0 (Tj own caps wi g tc te) (qO i)):=by
 intro pins s σ H D I h;rw [exec_Assign_Name_used _ _ _ _ hsw];refine wpAny_bind (wpAny_standAt (wpAny_bind ?_));show wpAny _ X.A (do let _ ←comprehension (.ListComp elt [⟨tg,iter,ifs,0⟩] scope pos) scope X.env (firstIterPos [⟨tg,iter,ifs,0⟩] pos) (newList []) false (eval iter X.env) (some (assign (.Name x px) X.env))) _ _ s;refine wpAny_bind (wpAny_mono (Le (use:=some (assign (.Name x px) X.env)) (Qv:=fun _ s'=>SP X pins D .next s') hc S hg hcs he hi hs I h ?_) (fun _ s' hq=>wpAny_pure (wpAny_pure hq)) fun _ _ e=>e);intro E C H' s' hn I' hk fC q;obtain ⟨m,hn⟩:=hn;obtain ⟨f0,f1,f2,f3,f4,f5⟩:=fC;show wpAny _ X.A (assign (.Name x px) X.env (.ref E)) _ _ _;refine wpAny_assign_Name (G7 I' hN hx hl (v:= .ref E) rfl (fun s2 I2 k=> ?_) hf);refine ⟨m, ?_,fun h' hs'=> ?_⟩
 ·obtain ⟨o,es,ep,ho,r⟩:=hn
  obtain ⟨a,ks,ka⟩:=k
  have hCa:C≠a:=fun z=>by
   rcases ka with q'|q'
   ·exact f1 (z.trans q')
   ·exact f4 x a q' z.symm
  exact ⟨o,es,ep,(ks.2 C hCa).trans ho,r⟩
 ·exact ⟨_,H',I2.turned (t':=s2.toks) (fun b o hb e=>(hs'.2 b hb).trans e) f0 f1 f3 f4 f5,q⟩
end
def V4 (N own:List Str) (caps:List Nat) (XN:List Str) (outer scope:Scope):Bool:=
 decide (scope.kind = .function)&&scope.names.all (fun y=>decide (y.2 ≠ .cell))&&scope.names.all (fun y=>decide (y.2 ≠ .local)||decide (scope.names.lookup y.1=some .local)) &&
 scope.names.all (fun y=>decide (y.2 ≠ .free)||decide (outer.names.lookup y.1=some .cell)||decide (outer.names.lookup y.1=some .free))&&decide N.Nodup&&decide (N.length=own.length+caps.length) &&
 (List.range caps.length).all (fun j=>match N[own.length+j]? with |some x=>decide (XN[caps.getD j 0]? = some x)&&decide ((x,NameKind.free)∈scope.names)&&decide (scope.names.lookup x=some .free)|none=>false)
theorem bZ.of {N own:List Str} {caps:List Nat} {XN:List Str} {outer scope:Scope} (h:V4 N own caps XN outer scope=true):bZ N own caps XN outer scope:=by
 unfold V4 at h;simp only [Bool.and_eq_true,decide_eq_true_eq,List.all_eq_true,Bool.or_eq_true] at h;obtain ⟨⟨⟨⟨⟨⟨h1,h2⟩,h3⟩,h4⟩,h5⟩,h6⟩,h7⟩:=h;refine ⟨h1,h2,fun y hy e=> ?_,fun y hy e=> ?_,h5,h6,fun j hj=> ?_⟩
 ·rcases h3 y hy with z|z
  ·exact absurd e z
  ·exact z
 ·rcases h4 y hy with (z|z)|z
  ·exact absurd e z
  ·exact .inl z
  ·exact .inr z
 ·have q:=h7 j (List.mem_range.mpr hj)
  cases e:N[own.length+j]? with
  | none=>rw [e] at q;cases q
  | some x=>
    rw [e] at q;simp only [Bool.and_eq_true,decide_eq_true_eq] at q;exact ⟨q.1.1.symm,x,rfl,q.1.2,q.2⟩
end L2
set_option Elab.async false
set_option linter.all false
set_option maxRecDepth 100000
set_option maxHeartbeats 4000000
namespace L2
open PySem PySem.Spec PyProof.Rows
mutual
def Dat (H:Hp):V->PyData->Prop
 | v,.none=>v = .non
 | v,.bool b=>v = .bl b
 | v,.int i=>v = .int i
 | v,.str x=>v = .str x
 | v,.list ds=>∃a vs,v = .ref a/\H a=some (.lst vs)/\aQ H vs ds
 | v,.tuple ds=>∃a vs,v = .ref a/\H a=some (.tup vs)/\aQ H vs ds
 | _,.dict _=>False
def aQ (H:Hp):List V->List PyData->Prop
 | [],[]=>True
 | v::vs,d::ds=>Dat H v d/\aQ H vs ds
 | [],_::_=>False
 | _::_,[]=>False
end
section
variable {H H':Hp}
theorem aQ.length:∀{vs:List V} {ds:List PyData},aQ H vs ds->vs.length=ds.length
 | [],[],_=>rfl
 | _::_,_::_,h=>by simp only [aQ] at h;simp [aQ.length h.2]
 | [],_::_,h=>by simp only [aQ] at h
 | _::_,[],h=>by simp only [aQ] at h
theorem aQ.get:∀{vs:List V} {ds:List PyData} {i:Nat} {v:V},aQ H vs ds->vs[i]? = some v -> ∃d,ds[i]? = some d/\Dat H v d
 | _::_,_::_,0,_,h,e=>by simp only [aQ] at h;simp at e;subst e;exact ⟨_,rfl,h.1⟩
 | _::_,_::_,i+1,_,h,e=>by simp only [aQ] at h;simp at e;obtain ⟨d,q,r⟩:=aQ.get h.2 e;exact ⟨d,by simpa using q,r⟩
 | [],[],_,_,_,e=>by simp at e
 | [],_::_,_,_,h,_=>by simp only [aQ] at h
 | _::_,[],_,_,h,_=>by simp only [aQ] at h
theorem aQ.append:∀{vs ws:List V} {ds es:List PyData},aQ H vs ds->aQ H ws es->aQ H (vs++ws) (ds++es)
 | [],_,[],_,_,g=>g
 | _::_,_,_::_,_,h,g=>by simp only [aQ,List.cons_append] at h ⊢;exact ⟨h.1,aQ.append h.2 g⟩
 | [],_,_::_,_,h,_=>by simp only [aQ] at h
 | _::_,_,[],_,h,_=>by simp only [aQ] at h
theorem aQ.ints (ns:List Int):aQ H (ns.map V.int) (ns.map PyData.int):=by
 induction ns with
 | nil=>simp only [List.map_nil,aQ]
 | cons n r ih=>simp only [List.map_cons,aQ,Dat];exact ⟨trivial,ih⟩
mutual
theorem Dat.mono (hl:∀a xs,H a=some (HO.lst xs)->H' a=some (HO.lst xs)) (ht:∀a xs,H a=some (HO.tup xs)->H' a=some (HO.tup xs)):∀(d:PyData) {v:V},Dat H v d->Dat H' v d
 | .none,_,h=>by simp only [Dat] at h ⊢;exact h
 | .bool _,_,h=>by simp only [Dat] at h ⊢;exact h
 | .int _,_,h=>by simp only [Dat] at h ⊢;exact h
 | .str _,_,h=>by simp only [Dat] at h ⊢;exact h
 | .list ds,_,h=>by simp only [Dat] at h ⊢;obtain ⟨a,vs,e,q,r⟩:=h;exact ⟨a,vs,e,hl _ _ q,aQ.mono hl ht ds r⟩
 | .tuple ds,_,h=>by simp only [Dat] at h ⊢;obtain ⟨a,vs,e,q,r⟩:=h;exact ⟨a,vs,e,ht _ _ q,aQ.mono hl ht ds r⟩
 | .dict _,_,h=>by simp only [Dat] at h
theorem aQ.mono (hl:∀a xs,H a=some (HO.lst xs)->H' a=some (HO.lst xs)) (ht:∀a xs,H a=some (HO.tup xs)->H' a=some (HO.tup xs)):∀(ds:List PyData) {vs:List V},aQ H vs ds->aQ H' vs ds
 | [],[],_=>by simp only [aQ]
 | d::ds,v::vs,h=>by simp only [aQ] at h ⊢;exact ⟨Dat.mono hl ht d h.1,aQ.mono hl ht ds h.2⟩
 | _::_,[],h=>by simp only [aQ] at h
 | [],_::_,h=>by simp only [aQ] at h
end
mutual
def xT:PyData->Bool
 | .tuple ds=>q_ ds
 | .list _ | .dict _=>false
 | .none | .bool _ | .int _ | .str _=>true
def q_:List PyData->Bool
 | []=>true
 | d::ds=>xT d&&q_ ds
end
mutual
theorem Dat.keep (ht:∀a xs,H a=some (HO.tup xs)->H' a=some (HO.tup xs)):∀(d:PyData) {v:V},xT d=true->Dat H v d->Dat H' v d
 | .none,_,_,h=>by simp only [Dat] at h ⊢;exact h
 | .bool _,_,_,h=>by simp only [Dat] at h ⊢;exact h
 | .int _,_,_,h=>by simp only [Dat] at h ⊢;exact h
 | .str _,_,_,h=>by simp only [Dat] at h ⊢;exact h
 | .list ds,_,i,h=>by simp only [xT] at i;cases i
 | .tuple ds,_,i,h=>by simp only [Dat] at h ⊢;simp only [xT] at i;obtain ⟨a,vs,e,q,r⟩:=h;exact ⟨a,vs,e,ht _ _ q,aQ.keep ht ds i r⟩
 | .dict _,_,_,h=>by simp only [Dat] at h
theorem aQ.keep (ht:∀a xs,H a=some (HO.tup xs)->H' a=some (HO.tup xs)):∀(ds:List PyData) {vs:List V},q_ ds=true->aQ H vs ds->aQ H' vs ds
 | [],[],_,_=>by simp only [aQ]
 | d::ds,v::vs,i,h=>by simp only [aQ] at h ⊢;simp only [q_,Bool.and_eq_true] at i;exact ⟨Dat.keep ht d i.1 h.1,aQ.keep ht ds i.2 h.2⟩
 | _::_,[],_,h=>by simp only [aQ] at h
 | [],_::_,_,h=>by simp only [aQ] at h
end
theorem nR {α:Type} (f:α->PyData) (h:∀x,xT (f x)=true):∀l:List α,q_ (l.map f)=true
 | []=>rfl
 | a::l=>by simp only [List.map_cons,q_,h a,nR f h l,Bool.and_self]
end
section
variable {X:Cx} {pins:List (Addr×Obj)} {σ:St} {H:Hp} {s:Shared}
mutual
theorem Inv.reads (I:Inv X pins σ H s):∀(d:PyData) {v:V} {u:Value},Dat H v d->RelV v u -> ∃as,Reads s.heap u d as
 | .none,v,u,h,r=>by
   simp only [Dat] at h;subst h;cases (show u=Value.none from r);exact ⟨_,.none⟩
 | .bool b,v,u,h,r=>by
   simp only [Dat] at h;subst h;cases (show u=Value.bool b from r);exact ⟨_,.bool b⟩
 | .int i,v,u,h,r=>by
   simp only [Dat] at h;subst h;obtain ⟨t,q⟩:=(show ∃t,u=Value.int i t from r);cases q;exact ⟨_,.int i t⟩
 | .str x,v,u,h,r=>by
   simp only [Dat] at h;subst h;obtain ⟨t,q⟩:=(show ∃t,u=Value.str x t from r);cases q;exact ⟨_,.str x t⟩
 | .list ds,v,u,h,r=>by
   simp only [Dat] at h;obtain ⟨a,vs,rfl,q,g⟩:=h;cases (show u=Value.ref a from r);obtain ⟨its,rv,p,hz⟩:=I.list (bO.of q);obtain ⟨o,ho,hc,n,hd⟩:=p.isList;obtain ⟨as,ra⟩:=Inv.readsAll I ds g rv;exact ⟨_,.list ho hc hd (by simpa using ra)⟩
 | .tuple ds,v,u,h,r=>by
   simp only [Dat] at h;obtain ⟨a,vs,rfl,q,g⟩:=h;cases (show u=Value.ref a from r);obtain ⟨its,rv,p,hz⟩:=I.tuple (eU.of q);obtain ⟨o,ho,hc,n,hd⟩:=p;obtain ⟨as,ra⟩:=Inv.readsAll I ds g rv;exact ⟨_,.tuple ho hc hd (by simpa using ra)⟩
 | .dict _,_,_,h,_=>by simp only [Dat] at h
theorem Inv.readsAll (I:Inv X pins σ H s):∀(ds:List PyData) {vs:List V} {us:List Value},aQ H vs ds->Vals vs us -> ∃as,ReadsAll s.heap us ds as
 | [],[],_,_,.nil=>⟨_,.nil⟩
 | d::ds,v::vs,_,h,.cons r rs=>by
   simp only [aQ] at h;obtain ⟨as,ra⟩:=Inv.reads I d h.1 r;obtain ⟨bs,rb⟩:=Inv.readsAll I ds h.2 rs;exact ⟨_,.cons ra rb⟩
 | _::_,[],_,h,_=>by simp only [aQ] at h
 | [],_::_,_,h,_=>by simp only [aQ] at h
end
def Xk (neg:Bool):R2:=fun x y H Q=>∃d e,Dat H x d/\Dat H y e/\SeqAt.shaped d=true/\SeqAt.shaped e=true/\Q (.bl (if neg then !PyData.eqv d e else PyData.eqv d e)) H
theorem aaq (hu:X.A.units+64<cLine):vp X (compareOp .Eq) (Xk false):=by
 intro pins s σ H x y v u Q I rx ry h;obtain ⟨d,e,h1,h2,s1,s2,q⟩:=h;obtain ⟨as,ra⟩:=I.reads d h1 rx;obtain ⟨bs,rb⟩:=I.reads e h2 ry;exact SeqAt.compareEq_shaped ra rb s1 s2 hu ⟨.bl _,H,I,rfl,q⟩
theorem aap (hu:X.A.units+64<cLine):vp X (compareOp .NotEq) (Xk true):=by
 intro pins s σ H x y v u Q I rx ry h;obtain ⟨d,e,h1,h2,s1,s2,q⟩:=h;obtain ⟨as,ra⟩:=I.reads d h1 rx;obtain ⟨bs,rb⟩:=I.reads e h2 ry;exact SeqAt.compareNe_shaped ra rb s1 s2 hu ⟨.bl _,H,I,rfl,q⟩
theorem V6 {c:Value} {cv:V} (rc:RelV cv c):jL X (.builtin "isinstance") (fun xs H Q=>∃x t b,xs=[x,cv]/\zW X.K H x t/\PySem.W.kitOne X.K t c=some b/\Q (.bl b) H):=by
 intro pins s σ H xs us Q I r h;obtain ⟨x,t,b,rfl,ty,e,q⟩:=h;obtain ⟨u,w',rfl,r1,r2⟩:=vals2 r
 have:w'=c:=by
  cases cv with
  | non=>exact (show w'=Value.none from r2).trans (show c=Value.none from rc).symm
  | bl b=>exact (show w'=Value.bool b from r2).trans (show c=Value.bool b from rc).symm
  | ref a=>exact (show w'=Value.ref a from r2).trans (show c=Value.ref a from rc).symm
  | ty n=>exact (show w'=Value.type n from r2).trans (show c=Value.type n from rc).symm
  | int i=>obtain ⟨t1,rfl⟩:=(show ∃t,c=Value.int i t from rc);unfold PySem.W.kitOne at e;exact absurd e (by cases ty<;>simp [PySem.W.kitCls])
  | str i=>obtain ⟨t1,rfl⟩:=(show ∃t,c=Value.str i t from rc);unfold PySem.W.kitOne at e;exact absurd e (by cases ty<;>simp [PySem.W.kitCls])
  | Lg i=>obtain ⟨t1,rfl⟩:=(show ∃t,c=Value.bytes i t from rc);unfold PySem.W.kitOne at e;exact absurd e (by cases ty<;>simp [PySem.W.kitCls])
  | flt i=>obtain ⟨t1,rfl⟩:=(show ∃t,c=Value.float i t from rc);unfold PySem.W.kitOne at e;exact absurd e (by cases ty<;>simp [PySem.W.kitCls])
 subst this;exact Q9 I r1 ty e fun tk=>⟨.bl b,H,I.tok _,rfl,q⟩
end
section
variable {prog:Program} {w:World} {A:Around}
theorem Mi (hh:A.handled=none) (it a:Addr) (hne:it≠a) (its:List Value):Walks prog w A it [it,a] [it] its.length (fun i v=>its[i]? = some v) (fun i h=>h.IsListIter it a i/\h.IsList a its.toArray) where
 sub:=by simp
 frame:=fun i h h' ⟨s1,o,ho,hc⟩ k=>⟨s1.at fun o e=>k it (by simp) o e,o,k a (by simp) o ho,hc⟩
 item:=fun i s Q E hi ⟨s1,s2⟩ hQ=>wpAny_pyNext_list_item s1 s2 (x:=its[i]) (by simp [hi]) fun h' st' sb=>
  hQ _ h' s.toks (by simp [hi]) ⟨st',s2.extBut sb.extBut hne.symm⟩ fun b o hb e=>(sb.2 b (by simpa using hb)).trans e
 done:=fun s Q E ⟨s1,s2⟩ hQ=>wpAny_pyNext_list_end hh s1 s2 (by simp) fun h' eb=>hQ h' s.toks fun b o hb e=>eb b o (by simpa using hb) e
 self:=fun i s Q E ⟨s1,_⟩ hQ=>wpAny_pyIter_listiter s1 hQ
end
section
variable {X:Cx}
theorem Gq (bs:List Bool):(List.range bs.length).all (fun i=>(bs[i]?).getD false)=bs.all id:=by
 rw [Bool.eq_iff_iff,List.all_eq_true,List.all_eq_true];constructor
 ·intro h b hb
  obtain ⟨i,hi,rfl⟩:=List.getElem_of_mem hb;have:=h i (by simpa using hi);simpa [hi] using this
 ·intro h i hi
  have hi':i<bs.length:=by simpa using hi
  simpa [hi'] using h bs[i] (List.getElem_mem hi')
theorem Ml {bs:List Bool}:∀{us:List Value},Vals (bs.map V.bl) us->us=bs.map Value.bool:=by
 induction bs with
 | nil=>intro us r;cases r;rfl
 | cons b bs ih=>
   intro us r;cases r with
   | cons r rs=>cases (show _=Value.bool b from r);rw [ih rs];rfl
theorem FP (hc:X.calm=true):jL X (.builtin "all") (fun xs H Q=>∃(p:Addr) (bs:List Bool),xs=[.ref p]/\bO X.K H p (bs.map V.bl)/\Q (.bl (bs.all id)) H):=by
 intro pins s σ H xs us Q I r h;obtain ⟨p,bs,rfl,hq,q⟩:=h;obtain ⟨u,rfl,rx⟩:=vals1 r;cases rx;obtain ⟨its,rv,pl,hz⟩:=I.list hq;have e:=Ml rv;have hlen:its.length=bs.length:=by rw [e,List.length_map]
 refine call_all_walk (wpAny_pyIter_list pl.isList ⟨s.heap.objs.size,[s.heap.objs.size,p],[s.heap.objs.size],its.length,_,_,fun i=>(bs[i]?).getD false,rfl,
  Mi (show X.A.in1.handled=none from I.ok.hd hc) s.heap.objs.size p ?_ its,⟨⟨_,Heap.get?_push_size _ rfl,rfl,rfl⟩, ?_⟩, ?_, ?_⟩)
 ·intro z
  obtain ⟨o,ho,_⟩:=pl.isList;have:=Heap.lt_size ho;rw [←z] at this;exact Nat.lt_irrefl _ this
 ·obtain ⟨o,ho,hcl⟩:=pl.isList
  exact ⟨o,Heap.get?_push_of_some _ ho,hcl⟩
 ·intro i v s1 Q1 E1 hP hQ
  rw [e,List.getElem?_map] at hP;cases r:bs[i]? with
  | none=>rw [r] at hP;cases hP
  | some b=>
    rw [r] at hP;cases hP;simp only [r,Option.getD_some] at hQ;exact wpAny_truthy_bool hQ
 ·intro h' tk k
  rw [hlen,Gq];have f:=I.Gz (H':=H) (b:=s.heap.objs.size) (Nat.le_refl _) (I.hok.fresh (Nat.le_refl _));have I2:Inv X pins σ H {s with heap:=h',toks:=tk}:=I.turned (h':=h') (t':=tk) (it:=s.heap.objs.size) (fun b o hb e=>k b o (by simpa using hb) (Heap.get?_push_of_some _ e)) f.1 f.2.1 f.2.2.2.1 f.2.2.2.2.1 f.2.2.2.2.2;exact ⟨.bl _,H,I2,rfl,q⟩
end
end L2
set_option Elab.async false
set_option linter.all false
set_option maxRecDepth 100000
set_option maxHeartbeats 4000000
namespace L2
open PySem PySem.Spec PyProof.Rows
def FnAt (P:Program) (w:World) (K:PySem.W.Frag) (mg:Str->Option Value) (base:Heap) (k:Nat) (x:Str) (ps:List Str) (sp:Sp):Prop:=
 ∃f fd,dM P w K mg base tV k f fd ps sp/\mg x=some (.ref f)/\PySem.W.keepIn K (.ref f)=true/\Binds K fd ps []
section
variable {X:Cx} {k j:Nat} {x:Str} {ps:List Str} {sp:Sp} {e:Expr} {es:List Expr} {t:TA} {p pos:Pos}
theorem bG (F:FnAt X.prog X.w X.K X.mg X.base k x ps sp) (hr:lH k X.A) (hg:Gl X x) (ha:PA X (e::es) t) (hd:(x==("__debug__" :Str))=false:=by decide)
 (he:starEach (e::es) X.env=(false,eval e X.env)::starEach es X.env:=by rfl) (hpl:(backTo pos (starEach es X.env)).any (·.1)=false:=by rfl):
 PE X (.Call (.Name x p) (e::es) [] pos) (Pb sp [] E0 t):=by
 obtain ⟨f,fd,G,hm,hk,hb⟩:=F;exact Xy G hr hg hm hk hb .nil Zb ha (hdb:=hd) (he:=he) (hpl:=hpl)
end
theorem Oo:bootBuiltins "all" = some (.builtin "all"):=by kernel_rfl
theorem cY:bootBuiltins "len" = some (.builtin "len"):=by kernel_rfl
theorem aa9:bootBuiltins "min" = some (.builtin "min"):=by kernel_rfl
theorem cI:bootBuiltins "isinstance" = some (.builtin "isinstance"):=by kernel_rfl
theorem o_:bootBuiltins "int" = some (.type "int"):=by kernel_rfl
theorem Yx:bootBuiltins "bool" = some (.type "bool"):=by kernel_rfl
theorem Yw:bootBuiltins "list" = some (.type "list"):=by kernel_rfl
theorem Lh:bootBuiltins "tuple" = some (.type "tuple"):=by kernel_rfl
theorem wQ:bootBuiltins "str" = some (.type "str"):=by kernel_rfl
section
variable {X:Cx}
theorem PJ:vp X (binaryOp .Mult) (rI IntMulOk fun i j=> .int (i*j)):=opI fun _ _ _ _ _ _ _ hc q=>mul_int q hc
end
def Kp (r:Addr) (H H':Hp):Prop:=∀b o,H b=some o->b≠r->H' b=some o
theorem Kp.of_same {r:Addr} {H H':Hp} (h:Same H H'):Kp r H H':=fun b o e _=>h b o e
theorem Kp.trans {r:Addr} {H H1 H2:Hp} (a:Kp r H H1) (b:Kp r H1 H2):Kp r H H2:=fun c o h n=>b c o (a c o h n) n
theorem Kp.refl (r:Addr) (H:Hp):Kp r H H:=fun _ _ h _=>h
theorem Kp.set {r:Addr} {H:Hp} {o:HO}:Kp r H (upd H r o):=fun b u e n=>by rw [aW n];exact e
theorem aF {H:Hp} {p:Addr} {o:HO} (h:H p=none):Same H (upd H p o):=fun b u e=>by rw [aW (bw e h)];exact e
theorem Same.tups {H H':Hp} (e:Same H H'):∀a xs,H a=some (HO.tup xs)->H' a=some (HO.tup xs):=fun a xs h=>e _ _ h
theorem Same.sqL {K:PySem.W.Frag} {H H':Hp} (e:Same H H'):∀a xs,bO K H a xs->bO K H' a xs:=fun a xs h=>e.seq h
theorem Kp.tups {H H':Hp} {r:Addr} {ys:List V} (e:Kp r H H') (hr:H r=some (.lst ys)):∀a xs,H a=some (HO.tup xs)->H' a=some (HO.tup xs):=fun a xs h=>e _ _ h (KD h hr (by intro z;cases z))
end L2
namespace L2
open PySem PySem.Spec PyProof.Rows
section
variable {X:Cx} {K:PySem.W.Frag}
theorem aU (h:X.K=K):IxR X (ace K):=by subst h;exact Ye
theorem bQ (h:X.K=K):IxR X (acd K):=by subst h;exact aaI
theorem k_ (h:X.K=K):SlR X (ab8 K):=by subst h;exact W8
theorem W7 (h:X.K=K):SlR X (ab7 K):=by subst h;exact aad
theorem qL (h:X.K=K):vp X (compareOp .In) (rIn K false):=by subst h;exact QS
theorem Gr (h:X.K=K):vp X (compareOp .NotIn) (rIn K true):=by subst h;exact Ja
def agl (K:PySem.W.Frag):List V->Hp->VK->Prop:=fun xs H Q=>∃(p:Addr) (ys:List V),xs=[.ref p]/\(bO K H p ys\/eU K H p ys)/\Q (.int ys.length) H
theorem bD (h:X.K=K):jL X (.builtin "len") (agl K):=by subst h;exact JB
def Xh (K:PySem.W.Frag):List V->Hp->VK->Prop:=fun xs H Q=>∃(p:Addr) (ys:List V),xs=[.ref p]/\(bO K H p ys\/eU K H p ys) /\ ∀l,H l=none->Q (.ref l) (upd H l (.lst ys))
theorem GF (h:X.K=K):jL X (.type "list") (Xh K):=by subst h;exact Jz
def acg (K:PySem.W.Frag):List V->Hp->VK->Prop:=fun xs H Q=>∃(p:Addr) (bs:List Bool),xs=[.ref p]/\bO K H p (bs.map V.bl)/\Q (.bl (bs.all id)) H
theorem o9 (h:X.K=K) (hc:X.calm=true):jL X (.builtin "all") (acg K):=by subst h;exact FP hc
theorem C_ (h:X.K=K) (hu:X.A.units+64<cLine):vp X (compareOp .Eq) (Xk false):=by subst h;exact aaq hu
theorem PB (h:X.K=K) (hu:X.A.units+64<cLine):vp X (compareOp .NotEq) (Xk true):=by subst h;exact aap hu
theorem nP {tg l:Expr} {tl:TE} (h:X.K=K) (hl:PE X l tl):PI X tg l (Zh K tl):=by subst h;exact Xv hl
theorem Xu {tg l:Expr} {tl:TE} (h:X.K=K) (hl:PE X l tl):PI X tg l (acN K tl):=by subst h;exact aal hl
def agn (K:PySem.W.Frag) (c:Value) (cv:V):List V->Hp->VK->Prop:=fun xs H Q=>∃x t b,xs=[x,cv]/\zW K H x t/\PySem.W.kitOne K t c=some b/\Q (.bl b) H
theorem BJ {c:Value} {cv:V} (h:X.K=K) (rc:RelV cv c):jL X (.builtin "isinstance") (agn K c cv):=by subst h;exact V6 rc
theorem m_ {o e:Expr} {to:TE} {t:TA} {apos cpos:Pos} (h:X.K=K) (ho:PE X o to) (ha:PA X [e] t)
 (hbase:attributeBase o "append" X.env (eval o X.env)=eval o X.env:=by rfl)
 (hfew:((backTo cpos (starEach [e] X.env)).all (fun x=> !x.1)&&(backToKw cpos (keywordEach [] X.env)).all (fun x=>x.1.isSome)
   && decide (([e]:List Expr).length+([]:List Keyword).length+(if ([]:List Keyword).isEmpty then 0 else 1)<30))=true:=by rfl)
 (hline:(apos.endLine==cpos.line)=true:=by rfl) (hs:starEach [e] X.env=(false,eval e X.env)::starEach [] X.env:=by rfl) (hplain:(backTo cpos (starEach [] X.env)).any (·.1)=false:=by rfl):
 PE X (.Call (.Attribute o "append" apos) [e] [] cpos) (tBM K "list" Pq to t):=by
 subst h;exact Za PySem.F.plainAttrs_list PySem.F.slot_list_append PySem.F.type_list_append Hl ho ha hbase hfew hline hs hplain
end
end L2
namespace L2
open PySem
section
variable {K:PySem.W.Frag} {a D:Addr} {xs:List V} {g:TG} {tc:TT} {te:TE} {Q:VK} {σ0:St} {H1:Hp}
theorem Rr (Pv:Nat->St->Hp->Prop) (h0:Pv 0 σ0 (upd H1 D (.lst []))) (hl:∀i σ H,i<=xs.length->Pv i σ H->bO K H a xs)
 (hs:∀i x σ H,xs[i]? = some x->Pv i σ H->g x σ H fun σ2 H2=>tc σ2 H2 fun b H3=>
   if b=true then te σ2 H3 fun y H4=>∃acc,H4 D=some (.lst acc)/\acc.length<sizeLine/\Pv (i+1) σ2 (upd H4 D (.lst (acc++[y]))) else Pv (i+1) σ2 H3)
 (hd:∀σ H,Pv xs.length σ H->Q (.ref D) H):tU (Itl K a) g tc te Q D σ0 H1:=by
 refine ⟨fun i m σ H=>m=xs.length - i/\i<=xs.length/\Pv i σ H,⟨xs.length,by simp,Nat.zero_le _,h0⟩, ?_⟩;rintro i m σ H ⟨rfl,hi,p⟩;have q:=hl i σ H hi p
 by_cases hlt:i<xs.length
 ·refine .inr ⟨⟨xs,xs[i],q,by simp [hlt]⟩,Pv (i+1),fun σ' H' p'=>⟨xs.length - (i+1),by omega,rfl,hlt,p'⟩,fun x H' y=> ?_⟩
  obtain ⟨e,y⟩:=y;subst e;exact hs i x σ _ (y xs q) p
 ·have e:i=xs.length:=by omega
  subst e;exact .inl ⟨⟨xs,q,Nat.le_refl _⟩,hd σ H p⟩
theorem yW {lo:Int} {n:Nat} (Pv:Nat->St->Hp->Prop) (h0:Pv 0 σ0 (upd H1 D (.lst [])))
 (hs:∀i σ H,i<n->Pv i σ H->g (.int (lo+i)) σ H fun σ2 H2=>tc σ2 H2 fun b H3=>
   if b=true then te σ2 H3 fun y H4=>∃acc,H4 D=some (.lst acc)/\acc.length<sizeLine/\Pv (i+1) σ2 (upd H4 D (.lst (acc++[y]))) else Pv (i+1) σ2 H3)
 (hd:∀σ H,Pv n σ H->Q (.ref D) H):tU (Wq lo n) g tc te Q D σ0 H1:=by
 refine ⟨fun i m σ H=>m=n - i/\i<=n/\Pv i σ H,⟨n,by simp,Nat.zero_le _,h0⟩, ?_⟩;rintro i m σ H ⟨rfl,hi,p⟩
 by_cases hlt:i<n
 ·refine .inr ⟨hlt,Pv (i+1),fun σ' H' p'=>⟨n - (i+1),by omega,rfl,hlt,p'⟩,fun x H' y=> ?_⟩
  obtain ⟨e,y⟩:=y;subst e y;exact hs i σ _ hlt p
 ·have e:i=n:=by omega
  subst e;exact .inl ⟨Nat.le_refl _,hd σ H p⟩
end
end L2
set_option Elab.async false
set_option linter.all false
set_option maxRecDepth 100000
set_option maxHeartbeats 4000000
namespace L2
open PySem PySem.Spec PyProof.Rows
section
variable {α:Type} (f:α->PyData)
theorem FN:∀(l:List α),(∀x∈l,(f x).canLay0=true)->PyData.canLayAll0 (l.map f)=true
 | [],_=>rfl
 | a::l,h=>by
   show (PyData.canLay0 (f a)&&PyData.canLayAll0 (l.map f))=true;rw [h a List.mem_cons_self,FN l fun x hx=>h x (List.mem_cons_of_mem _ hx)];rfl
theorem zR (k:Nat):∀(l:List α),(∀x∈l,(f x).depth<=k)->PyData.depthAll (l.map f)<=k
 | [],_=>Nat.zero_le _
 | a::l,h=>by
   show max (PyData.depth (f a)) (PyData.depthAll (l.map f))<=k;exact Nat.max_le.mpr ⟨h a List.mem_cons_self,zR k l fun x hx=>h x (List.mem_cons_of_mem _ hx)⟩
theorem Ke {l:List α} (k:Nat) (hk:k<64) (h1:∀x∈l,(f x).canLay0=true) (h2:∀x∈l,(f x).depth<=k):SeqAt.shaped (.list (l.map f))=true:=by
 unfold SeqAt.shaped;have e1:PyData.canLay0 (.list (l.map f))=true:=FN f l h1
 have e2:PyData.depth (.list (l.map f))<=64:=by
  show PyData.depthAll (l.map f)+1<=64;have:=zR f k l h2;omega
 rw [e1,decide_eq_true e2];rfl
theorem Ft [DecidableEq α] (h:∀x y,PyData.eqv (f x) (f y)=decide (x=y)):∀(l m:List α),PyData.eqvAll (l.map f) (m.map f)=decide (l=m)
 | [],[]=>rfl
 | [],_::_=>by simp only [List.map_nil,List.map_cons,PyData.eqvAll];exact (decide_eq_false (by intro z;cases z)).symm
 | _::_,[]=>by simp only [List.map_nil,List.map_cons,PyData.eqvAll];exact (decide_eq_false (by intro z;cases z)).symm
 | a::l,b::m=>by
   simp only [List.map_cons,PyData.eqvAll];rw [h a b,Ft h l m]
   by_cases e1:a=b
   ·subst e1
    by_cases e2:l=m
    ·subst e2;simp
    ·simp [e2]
   ·simp [e1]
theorem zQ [DecidableEq α] (h:∀x y,PyData.eqv (f x) (f y)=decide (x=y)) (l m:List α):PyData.eqv (.list (l.map f)) (.list (m.map f))=decide (l=m):=by
 simp only [PyData.eqv];exact Ft f h l m
end
theorem Fv {H:Hp} {a:Addr} {vs:List V} {ds:List PyData} (h:H a=some (.lst vs)) (d:aQ H vs ds):Dat H (.ref a) (.list ds):=by
 simp only [Dat];exact ⟨a,vs,rfl,h,d⟩
theorem K1 (K:PySem.W.Frag):PySem.W.kitOne K (.type "int") (.type "int")=some true:=rfl
theorem Jk (K:PySem.W.Frag):PySem.W.kitOne K (.type "int") (.type "bool")=some false:=by kernel_rfl
theorem Cq (K:PySem.W.Frag):PySem.W.kitOne K (.type "tuple") (.type "tuple")=some true:=rfl
end L2
namespace L2
open PySem
theorem V1 (xs:List V) (k:Nat):wM xs none (some (k:Int))=xs.take k:=by
 unfold wM;rw [HT.Em,HT.CV,List.drop_zero,Nat.sub_zero]
 by_cases h:k<=xs.length
 ·rw [Nat.min_eq_left h]
 ·rw [Nat.min_eq_right (by omega),List.take_of_length_le (Nat.le_refl _),List.take_of_length_le (by omega)]
theorem zT (xs:List V) (k:Nat):wM xs (some (k:Int)) none=xs.drop k:=by
 unfold wM;rw [HT.Em,HT.CV]
 by_cases h:k<=xs.length
 ·rw [Nat.min_eq_left h,List.take_of_length_le (by rw [List.length_drop];exact Nat.le_refl _)]
 ·rw [Nat.min_eq_right (by omega),Nat.sub_self,List.take_zero,List.drop_of_length_le (by omega)]
end L2
set_option Elab.async false
set_option linter.all false
set_option maxRecDepth 100000
set_option maxHeartbeats 4000000
namespace PySem.W
open PySem PySem.Spec PySem.Calls PyProof.Rows
theorem Yn:builtinKind "BaseException.__getattribute__" = some .slot:=by decide +kernel
theorem Va:splitId "BaseException.__getattribute__" = some ("BaseException","__getattribute__"):=by decide +kernel
section
variable {prog:Program} {w:World} {A:Around} {E:Value->Shared->Prop} {s:Shared} {K:Frag} {x D:Addr} {ox:Obj} {odo:Option Obj} {name:Str}
theorem Hs {M:Model} {nameV:Value} {Q:Unit->Shared->Prop} (X:K.In s.heap) (I:InstAt s.heap x ox D odo) (hB:mroIn K D (.type "BaseException")=some true) (hq:Q () s):
 wpAny M A (checkBuiltinCall "BaseException.__getattribute__" ⟨[.ref x,nameV],[]⟩) Q E s:=by
 obtain ⟨hh,g,d,t,os⟩:=s;have L0:=I.type (M:=M);have L3:=looks_mroIn (M:=M) X hB;have ha:=F.args_bexc_ga (.ref x) nameV;simp only [checkBuiltinCall,Yn,Va];unfold isInstance
 repeat (first |lk|wp_step)
 all_goals first |exact hq|trace_state
theorem VJ {Q:Option Value->Shared->Prop} {gv a:Value} (X:K.In s.heap) (I:InstAt s.heap x ox D odo) (hga:findIn K (.ref D) "__getattribute__" = some (some (.builtin "BaseException.__getattribute__")))
 (hk:findIn K (.ref D) "__getattr__" = some none) (hB:mroIn K D (.type "BaseException")=some true) (hf:findObj K D odo name=some (.bind gv a))
 (FB:Slot "Exception" "__getattribute__" "BaseException.__getattribute__")
 (h:∀A',codeAny (model prog w) A' (.call gv ⟨[a,.ref x,.ref D],[]⟩) (fun r s'=>match r with | .ok (.ret v)=>wpAny (model prog w) A (handedOut v) (fun v s''=>Q (some v) s'') (fun _ _=>False) s'|_=>False) {s with toks:=s.toks+1}):
 wpAny (model prog w) A (getAttr? (.ref x) name) Q E s:=by
 obtain ⟨hh,g,d,t,os⟩:=s;have L0:=I.type (M:=model prog w);have L1:=looks_findIn (M:=model prog w) X hga;have L2:=looks_findIn (M:=model prog w) X hk;have L4:=looks_find (M:=model prog w) X I hf;have hx2:(Value.builtin "BaseException.__getattribute__" == Value.builtin "object.__getattribute__")=false:=by decide +kernel
 have f3:=FB.bind (.ref x);unfold getAttr? getAttrBy? getAttrBy;refine wpAny_bind (wpAny_mkText (wpAny_bind (wpAny_attempt (wpAny_holding (wpAny_bind (L0.at (wpAny_bind (L1.at ?_))))))));simp only [hx2,Bool.and_false,Bool.false_eq_true,if_false];unfold getAttrByItsOwn hookBefore;show wpAny _ _ (typeLookup (.ref D) "__getattr__" >>= _) _ _ _;refine wpAny_bind (L2.at ?_);refine wpAny_bind (wpAny_attempt (wpAny_holding ?_));unfold callGetattribute boundAndCalled;rw [if_neg (by decide)];refine wpAny_bind (wpAny_of_eq f3 ?_);refine wpAny_call (codeAny_call_builtin FB.plain F.entry_bexc_ga (Hs (s:=⟨hh,g,d,t+1,os⟩) X I hB ?_));show wpAny _ _ (Builtin.«object.__getattribute__» ⟨[.ref x,.str name t],[]⟩) _ _ _;unfold Builtin.«object.__getattribute__»;refine wpAny_bind (wpAny_pure ?_);refine wpAny_bind (wpAny_pure ?_);refine wpAny_bind (L0.at (wpAny_bind (L4.at ?_)));show wpAny _ _ (Builtin.ObjectAttr.bindTo gv a (.ref x) (.ref D)) _ _ _;unfold Builtin.ObjectAttr.bindTo;show wpAny _ _ (holding [a] (call gv [a,.ref x,.ref D]) >>= fun v=>ret v) _ _ _;refine wpAny_bind (wpAny_holding (wpAny_call (codeAny_mono (h _) fun r s' hr=> ?_)))
 match r,hr with
 | .ok (.ret v),hr=>
   refine wpAny_pure ?_;exact wpAny_mono hr (fun v s'' q=>wpAny_pure q) fun _ _ z=>z.elim
end
theorem VH:Slot "Exception" "__getattribute__" "BaseException.__getattribute__" :=F.attr_Exception.ga
theorem GC {K:Frag} {C:Addr} {od:Option Obj} {name:Str} {a g:Value} (hc:(clsIn K C).isSome=true) (ha:findIn K (.ref C) name=some (some a)) (hg:specialIn K a "__get__" = some (some g)) (ht:takesIn K a=some true):findObj K C od name=some (.bind g a):=by
 obtain ⟨cd,hc⟩:=Option.isSome_iff_exists.mp hc;unfold findObj;rw [hc,Option.bind_some,ha,Option.bind_some];simp [hg,ht]
theorem Ri {prog:Program} {w:World} {A:Around} {E:Value->Shared->Prop} {s:Shared} {K:Frag} {x D:Addr} {ox:Obj} {odo:Option Obj} {Q:Option Value->Shared->Prop} (X:K.In s.heap) (I:InstAt s.heap x ox D odo)
 (hga:findIn K (.ref D) "__getattribute__" = some (some (.builtin "BaseException.__getattribute__"))) (hk:findIn K (.ref D) "__getattr__" = some none) (hB:mroIn K D (.type "BaseException")=some true)
 (hc:(clsIn K D).isSome=true) (ha:findIn K (.ref D) "__class__" = some (some (.builtin "object.__class__")))
 (hn:specialIn K (.builtin "object.__class__") "__get__" = some (some (.builtin "getset_descriptor.__get__"))) (htk:takesIn K (.builtin "object.__class__")=some true) (hm:mroIn K D (.type "object")=some true)
 (h:Q (some (.ref D)) {s with toks:=s.toks+1}):wpAny (model prog w) A (getAttr? (.ref x) "__class__") Q E s:=by
 have hf:findObj K D odo "__class__" = some (.bind (.builtin "getset_descriptor.__get__") (.builtin "object.__class__")):=GC hc ha hn htk;exact VJ X I hga hk hB hf VH fun A'=>class_get (s:={s with toks:=s.toks+1}) X I hm (handed_on rfl h)
structure RL (K:Frag) (D:Addr):Prop where
 hga:findIn K (.ref D) "__getattribute__" = some (some (.builtin "BaseException.__getattribute__"))
 hk:findIn K (.ref D) "__getattr__" = some none
 hB:mroIn K D (.type "BaseException")=some true
 hc:(clsIn K D).isSome=true
 ha:findIn K (.ref D) "__class__" = some (some (.builtin "object.__class__"))
 hn:specialIn K (.builtin "object.__class__") "__get__" = some (some (.builtin "getset_descriptor.__get__"))
 htk:takesIn K (.builtin "object.__class__")=some true
 hm:mroIn K D (.type "object")=some true
theorem KY {K:Frag} {x D:Addr} (c:RL K D):KitX K (.ref x) (.ref D) (fun h=>∃ox odo,InstAt h x ox D odo) where
 ty:=fun _ _ _ ⟨_,_,I⟩=>I.type
 it:=fun _ _ X _=>by
  have hc:=c.hc;unfold clsIn at hc;split at hc
  ·rename_i c' d' cd' sl' ho
   intro A' Q' E' s' k q;unfold isType loadHead;exact wpAny_bind (wpAny_loadPart (k _ _ (X _ _ ho)) (wpAny_pure q))
  ·cases hc
 ne:=fun h tp dd its n sl X htp=>by
  have hc:=c.hc;refine Bool.eq_false_iff.mpr fun q=> ?_;have e:D=tp:=Value.ref.inj (beq_iff_eq.mp q);subst e;unfold clsIn at hc;split at hc
  ·rename_i c' d' cd' sl' ho
   have z:=(X _ _ ho).symm.trans htp;cases z
  ·cases hc
 ca:=fun X ⟨_,_,I⟩ k=>Ri X I c.hga c.hk c.hB c.hc c.ha c.hn c.htk c.hm k
end PySem.W
set_option Elab.async false
set_option linter.all false
set_option maxRecDepth 100000
set_option maxHeartbeats 4000000
namespace L2
open PySem PySem.Spec PyProof.Rows
def BW (h:Heap) (e:Addr) (cls:Value) (dx:Option Addr) (lo:Addr->Prop):Option Value->Prop
 | none=>∃oe vs,h.get? e=some oe/\oe.cls=cls/\oe.dict=dx/\oe.data = .fields vs/\vs[1]? = some .none
 | some f=>∃oe vs T oT ts,h.get? e=some oe/\oe.cls=cls/\oe.dict=dx/\oe.data = .fields vs/\vs[1]? = some (.ref T)/\lo T/\T≠e/\h.get? T=some oT/\oT.data = .fields ts/\ts[3]? = some f
theorem BW.there {h:Heap} {e:Addr} {cls:Value} {dx:Option Addr} {lo:Addr->Prop} {f:Option Value} (x:BW h e cls dx lo f):∃oe vs,h.get? e=some oe/\oe.cls=cls/\oe.dict=dx/\oe.data = .fields vs:=by
 cases f with
 | none=>obtain ⟨oe,vs,a,b,c,d,_⟩:=x;exact ⟨oe,vs,a,b,c,d⟩
 | some f=>obtain ⟨oe,vs,_,_,_,a,b,c,d,_⟩:=x;exact ⟨oe,vs,a,b,c,d⟩
section
variable {M:Model} {A:Around} {E:Value->Shared->Prop} {s:Shared} {base:Heap} {env:Env} {outer:List Env} {L e:Addr}
structure wX (fr:List Addr) (e:Addr) (lo:Addr->Prop) (h h':Heap):Prop where
 keep:∀b o,h.get? b=some o->b∉fr->b≠e -> ¬lo b->h'.get? b=some o
 slot:∀b o,h.get? b=some o->b∈fr->b≠e -> ¬lo b -> ∃sl,h'.get? b=some {o with slots:=sl}
 there:∀b o,h.get? b=some o -> ∃o',h'.get? b=some o'
theorem wX.trans {fr:List Addr} {lo:Addr->Prop} {h h1 h2:Heap} (a:wX fr e lo h h1) (b:wX fr e lo h1 h2):wX fr e lo h h2 where
 keep:=fun c o q n1 n2 n3=>b.keep c o (a.keep c o q n1 n2 n3) n1 n2 n3
 slot:=fun c o q n1 n2 n3=>by
  obtain ⟨sl,q1⟩:=a.slot c o q n1 n2 n3;obtain ⟨sl2,q2⟩:=b.slot c _ q1 n1 n2 n3;exact ⟨sl2,q2⟩
 there:=fun c o q=>by
  obtain ⟨o1,q1⟩:=a.there c o q;exact b.there c o1 q1
theorem uI {h:Heap} {a:Addr} {o:Obj} {vs:Array Value} (q:h.get? a=some o) (d:o.data = .fields vs) (i:Nat) (v:Value):
 (h.update a (Obj.mapFields (·.setIfInBounds i v))).get? a=some (Obj.mapFields (·.setIfInBounds i v) o)/\(Obj.mapFields (·.setIfInBounds i v) o).data = .fields (vs.setIfInBounds i v) /\
   (Obj.mapFields (·.setIfInBounds i v) o).cls=o.cls/\(Obj.mapFields (·.setIfInBounds i v) o).dict=o.dict:=by
 have d2:=Obj.data_mapFields d (·.setIfInBounds i v);refine ⟨Heap.get?_update_self _ q (Obj.isFreed_of_fields d2),d2,Obj.cls_mapFields _ _, ?_⟩;obtain ⟨c,dd,dt,sl⟩:=o;simp only at d;subst d;rfl
theorem S6 {oe:Obj} {vs:Array Value} {head:Value} {hadNext:Bool} {cls:Value} {dx:Option Addr} {lo:Addr->Prop} {Q:Unit->Shared->Prop} (hfr:A.frames=some (env::outer)) (hl:s.heap.FunFrames base (env::outer)) (hf:env.frame=some L)
 (he:s.heap.get? e=some oe) (hd:oe.data = .fields vs) (hsz:1<vs.size) (hc:oe.cls=cls) (hdx:oe.dict=dx) (hlo:∀T,s.heap.get? T=none->lo T)
 (h:∀h',wX (frs (env::outer)) e lo s.heap h'->BW h' e cls dx lo (some (rawInt L))->Q () {s with heap:=h'}):
 wpAny M A (do let a ←frameOf env;let pl ←entryPlaceOf L hadNext;let b ←EntryCells.newEntry head a .none (rawInt L) .none pl;setField (.ref e) 1 b) Q E s:=by
 have nfr:e∉frs (env::outer):=fun hm=>by
  obtain ⟨_,o,q,nf⟩:=hl.mem hm;rw [he] at q;cases q;exact nf vs hd
 refine wpAny_bind (wpAny_frameOf_fun hfr hl hf fun h1 hs1=> ?_);refine wpAny_bind (wpAny_entryPlaceOf fun pl hpl=> ?_);unfold EntryCells.newEntry newFields;refine wpAny_bind (wpAny_newObj_type ?_ (hpl.sizeOk5 _ _ _ _ _));generalize hob:({cls:= .type "traceback",dict:=none,data:= .fields ([head,.ref L,.none,rawInt L,.none]++(if pl.isEmpty then List.replicate 6 Value.none else pl)).toArray}:Obj)=ob;have q1:h1.get? e=some oe:=(hs1.2.1 e nfr).trans he;have q2:=Heap.get?_push_of_some (h:=h1) ob q1;have nTe:h1.objs.size≠e:=Nat.ne_of_gt (Heap.lt_size q1);have sizes:h1.objs.size=s.heap.objs.size:=hs1.1;have newT:s.heap.get? h1.objs.size=none:=Heap.get?_none_of_le (by rw [sizes];exact Nat.le_refl _);refine wpAny_setField q2 hd hsz (h _ ⟨fun b o q n1 n2 n3=> ?_,fun b o q n1 n2 n3=> ?_,fun b o q=> ?_⟩ ?_)
 ·rw [Heap.get?_update_other _ _ (Ne.symm n2)]
  exact Heap.get?_push_of_some _ ((hs1.2.1 b n1).trans q)
 ·obtain ⟨sl,q3⟩:=hs1.2.2 b o q
  refine ⟨sl, ?_⟩;rw [Heap.get?_update_other _ _ (Ne.symm n2)];exact Heap.get?_push_of_some _ q3
 ·obtain ⟨sl,q3⟩:=hs1.2.2 b o q
  by_cases hb:b=e
  ·subst hb
   exact ⟨_,(uI q2 hd 1 _).1⟩
  ·refine ⟨{o with slots:=sl}, ?_⟩
   rw [Heap.get?_update_other _ _ (Ne.symm hb)];exact Heap.get?_push_of_some _ q3
 ·obtain ⟨u1,u2,u3,u4⟩:=uI q2 hd 1 (Value.ref h1.objs.size)
  refine ⟨_,_,h1.objs.size,ob,_,u1,u3.trans hc,u4.trans hdx,u2,by simp [hsz],hlo _ newT,nTe, ?_,by rw [←hob], ?_⟩
  ·rw [Heap.get?_update_other _ _ (Ne.symm nTe)]
   exact Heap.get?_push_size _ (by rw [←hob];rfl)
  ·first |(simp;done)|(rcases hpl with rfl|⟨_,_,_,_,_,_,_,rfl⟩<;>simp)
theorem YZ {cls:Value} {dx:Option Addr} {lo:Addr->Prop} {Q:Unit->Shared->Prop} {fl:Option Value} (hfl:fl=none\/fl=some .none) (hfr:A.frames=some (env::outer)) (hl:s.heap.FunFrames base (env::outer)) (hf:env.frame=some L)
 (x:BW s.heap e cls dx lo fl) (hlo:∀T,s.heap.get? T=none->lo T)
 (h:∀h',wX (frs (env::outer)) e lo s.heap h'->BW h' e cls dx lo (some (rawInt L))->Q () {s with heap:=h'}):wpAny M A (noteFrame (.ref e) env) Q E s:=by
 unfold noteFrame;simp only [hf];rcases hfl with rfl|rfl
 ·obtain ⟨oe,vs,he,hc,hdx,hd,h1⟩:=x
  refine wpAny_bind (wpAny_field he hd h1 ?_);rw [if_neg (by decide)];exact S6 hfr hl hf he hd (Array.getElem?_eq_some_iff.mp h1).1 hc hdx hlo h
 ·obtain ⟨oe,vs,T,oT,ts,he,hc,hdx,hd,h1,hT,nT,Wz,hdT,h3⟩:=x
  refine wpAny_bind (wpAny_field he hd h1 ?_);rw [if_pos (show (Value.ref T != Value.none)=true from by simp)];refine wpAny_bind (wpAny_field Wz hdT h3 ?_);rw [if_neg (show ¬((Value.none==rawInt L)=true) from by simp [rawInt])];have hs3:3<ts.size:=(Array.getElem?_eq_some_iff.mp h3).1;refine wpAny_bind (wpAny_setField Wz hdT hs3 ?_);have oth:∀b,b≠T->(s.heap.update T (Obj.mapFields (·.setIfInBounds 3 Value.none))).get? b=s.heap.get? b:=fun b hb=>Heap.get?_update_other _ _ (Ne.symm hb);obtain ⟨u1,u2,u3,u4⟩:=uI Wz hdT 3 Value.none
  have n0:wX (frs (env::outer)) e lo s.heap (s.heap.update T (Obj.mapFields (·.setIfInBounds 3 Value.none))):=by
   have nb:∀b,¬lo b->b≠T:=fun b hb z=>hb (by rw [z];exact hT);refine ⟨fun b o q _ _ n3=>(oth b (nb b n3)).trans q,fun b o q _ _ n3=>⟨o.slots,(oth b (nb b n3)).trans q⟩,fun b o q=> ?_⟩
   by_cases hb:b=T
   ·subst hb;exact ⟨_,u1⟩
   ·exact ⟨o,(oth b hb).trans q⟩
  have ffs:(s.heap.update T (Obj.mapFields (·.setIfInBounds 3 Value.none))).FunFrames base (env::outer):=hl.of_keeps fun b o q nf=>by
   by_cases hb:b=T
   ·subst hb;rw [Wz] at q;cases q;exact absurd hdT (nf ts)
   ·exact ⟨o,(oth b hb).trans q,rfl⟩
  refine S6 (s:={s with heap:=s.heap.update T (Obj.mapFields (·.setIfInBounds 3 Value.none))}) hfr ffs hf ((oth e (Ne.symm nT)).trans he) hd (Array.getElem?_eq_some_iff.mp h1).1 hc hdx (fun T' z=> ?_) fun h' n1 x1=>h h' (n0.trans n1) x1
  by_cases hb:T'=T
  ·rw [hb];exact hT
  ·exact hlo T' ((oth T' hb).symm.trans z)
theorem SN {cls:Value} {dx:Option Addr} {lo:Addr->Prop} {Q:Unit->Shared->Prop} {fr:List Addr} {f:Value} (x:BW s.heap e cls dx lo (some f))
 (h:∀h',wX fr e lo s.heap h'->BW h' e cls dx lo (some .none)->Q () {s with heap:=h'}):wpAny M A (setFlight (.ref e) none) Q E s:=by
 obtain ⟨oe,vs,T,oT,ts,he,hc,hdx,hd,h1,hT,nT,Wz,hdT,h3⟩:=x;have hs3:3<ts.size:=(Array.getElem?_eq_some_iff.mp h3).1;unfold setFlight;refine wpAny_bind (wpAny_field he hd h1 ?_);rw [if_pos (show (Value.ref T != Value.none)=true from by simp)];have oth:∀b,b≠T->(s.heap.update T (Obj.mapFields (·.setIfInBounds 3 Value.none))).get? b=s.heap.get? b:=fun b hb=>Heap.get?_update_other _ _ (Ne.symm hb);obtain ⟨u1,u2,u3,u4⟩:=uI Wz hdT 3 Value.none;have nb:∀b,¬lo b->b≠T:=fun b hb z=>hb (by rw [z];exact hT);refine wpAny_setField Wz hdT hs3 (h _ ⟨fun b o q _ _ n3=>(oth b (nb b n3)).trans q,fun b o q _ _ n3=>⟨o.slots,(oth b (nb b n3)).trans q⟩,fun b o q=> ?_⟩ ?_)
 ·by_cases hb:b=T
  ·subst hb;exact ⟨_,u1⟩
  ·exact ⟨o,(oth b hb).trans q⟩
 ·exact ⟨oe,vs,T,_,_,(oth e (Ne.symm nT)).trans he,hc,hdx,hd,h1,hT,nT,u1,u2,by simp [hs3]⟩
end
section
variable {X:Cx} {pins:List (Addr×Obj)} {σ:St} {H:Hp} {s:Shared} {e:Addr}
theorem eO.there {P:Program} {w:World} {H:Hp} {h:Heap} {a:Addr} {o:HO} (x:eO P w H h a o):∃ob,h.get? a=some ob:=by
 induction o with
 | lst xs=>obtain ⟨_,_,_,_,q⟩:=x;exact ⟨_,q⟩
 | tup xs=>obtain ⟨_,_,_,ob,q,_⟩:=x;exact ⟨ob,q⟩
 | dK kvs=>obtain ⟨_,_,_,_,ob,_,_,q,_⟩:=x;exact ⟨ob,q⟩
 | dT kvs=>obtain ⟨_,_,_,_,ob,_,_,q,_⟩:=x;exact ⟨ob,q⟩
 | set S n=>obtain ⟨ob,_,_,_,q,_⟩:=x;exact ⟨ob,q⟩
 | ins C dx fs=>obtain ⟨_,_,_,q,_⟩:=x;exact ⟨_,q⟩
 | own y=>exact x
 | xd fs=>obtain ⟨_,⟨ob,_,_,q,_⟩,_⟩:=x;exact ⟨ob,q⟩
 | rng lo hi=>obtain ⟨_,_,_,q⟩:=x;exact ⟨_,q⟩
 | K5 ob u ih=>exact ⟨ob,x.1⟩
 | Y4 ps=>exact ⟨_,x⟩
 | met f y=>exact ⟨_,x⟩
 | ext φ=>exact x.2.1
def Hz (X:Cx) (pins:List (Addr×Obj)) (H:Hp) (b:Addr):Prop:=
 H b=none/\b≠X.env.locals/\b∉X.fs/\X.s₀.heap.get? b=none/\(∀x c,X.env.cells.lookup x=some c->c≠b) /\ ∀p∈X.pn++pins,p.1≠b
theorem Inv.xfp (I:Inv X pins σ H s) (hx:X.ex=[]) {b:Addr} (hb:s.heap.get? b=none):Hz X pins H b:=by
 refine ⟨?_,fun z=> ?_,fun z=> ?_, ?_,fun x c q z=> ?_,fun p hp z=> ?_⟩
 ·cases q:H b with
  | none=>rfl
  | some o=>
    obtain ⟨ob,r⟩:=(I.hok b o q).there;rw [hb] at r;cases r
 ·obtain ⟨m,⟨o,_,_,r,_⟩,_⟩:=I.loc
  rw [←z,hb] at r;cases r
 ·obtain ⟨_,o,r,_⟩:=I.wK.mem z
  rw [hb] at r;cases r
 ·cases q:X.s₀.heap.get? b with
  | none=>rfl
  | some o=>
    obtain ⟨o',r⟩:=I.base.there b o q (by rw [hx];simp);rw [hb] at r;cases r
 ·obtain ⟨v,o,r,_⟩:=I.cell x c q
  rw [z,hb] at r;cases r
 ·obtain ⟨r,_⟩:=I.pin p hp
  rw [z,hb] at r;cases r
theorem Inv.noted {lo:Addr->Prop} {h':Heap} (I:Inv X pins σ H s) (n:wX (frs X.stack) e lo s.heap h') (hlo:∀b,(b=e\/lo b)->Hz X pins H b\/s.heap.get? b=none):Inv X pins σ H {s with heap:=h'}:=by
 have off:∀b o,s.heap.get? b=some o->(¬Hz X pins H b)->b≠e /\ ¬lo b:=fun b o q nx=>
  ⟨fun z=>(hlo b (.inl z)).elim nx fun r=>(by rw [r] at q;cases q),fun z=>(hlo b (.inr z)).elim nx fun r=>(by rw [r] at q;cases q)⟩
 have any:∀b o,s.heap.get? b=some o->(¬Hz X pins H b) -> ∃sl,h'.get? b=some {o with slots:=sl}:=fun b o q nx=>by
  obtain ⟨n1,n2⟩:=off b o q nx
  by_cases hb:b∈frs X.stack
  ·exact n.slot b o q hb n1 n2
  ·exact ⟨o.slots,n.keep b o q hb n1 n2⟩
 have s0:∀b o,X.s₀.heap.get? b=some o -> ¬Hz X pins H b:=fun b o q x=>by rw [x.2.2.2.1] at q;cases q
 have Zc:∀b o,X.s₀.heap.get? b=some o->b≠X.env.locals:=fun b o q=>Nat.ne_of_lt (Nat.lt_of_lt_of_le (Heap.lt_size q) I.ok.above);have nst:∀b,b≠X.env.locals->b∉X.fs->b∉frs X.stack:=fun b n1 n2 z=>(List.mem_cons.mp (I.Eb b z)).elim n1 n2;have Wx:∀b o,H b=some o -> ¬Hz X pins H b:=fun b o q x=>by rw [x.1] at q;cases q
 have abQ:∀b o,H b=some o->b∉frs X.stack:=fun b o q z=>by rw [I.Ia b z] at q;cases q
 have cl:∀x c,X.env.cells.lookup x=some c -> ∀v,s.heap.IsCell c v->h'.IsCell c v:=fun x c q v ⟨o,ho,hd⟩=>by
  obtain ⟨sl,r⟩:=any c o ho fun z=>z.2.2.2.2.1 x c q rfl;exact ⟨_,r,hd⟩
 refine ⟨I.ok,I.os,I.bare,⟨fun b o q nn hb hx=> ?_,fun b o q nn hb hx=> ?_,I.base.free,fun b o q hx=> ?_,I.base.tups,I.base.zO,I.base.Ax⟩, ?_,fun x c q=> ?_,I.free,I.mq,fun p hp=> ?_,fun a o q=> ?_,I.len⟩
 ·have q1:=I.base.keep b o q nn hb hx
  obtain ⟨n1,n2⟩:=off b o q1 (s0 b o q);exact n.keep b o q1 (nst b (Zc b o q) hb) n1 n2
 ·obtain ⟨sl,q1⟩:=I.base.slot b o q nn hb hx
  obtain ⟨sl2,q2⟩:=any b _ q1 (s0 b o q);exact ⟨sl2,q2⟩
 ·obtain ⟨o1,q1⟩:=I.base.there b o q hx
  exact n.there b o1 q1
 ·obtain ⟨m,⟨ob,es,ep,ho,r⟩,hl⟩:=I.loc
  obtain ⟨sl,q1⟩:=any _ ob ho fun z=>z.2.1 rfl;refine ⟨m,⟨_,es,ep,q1,r⟩,fun i x v e1 e2 e3=> ?_⟩;obtain ⟨u,ru,l⟩:=hl i x v e1 e2 e3;refine ⟨u,ru, ?_⟩;rcases l with l|⟨k,c,hc,z⟩
  ·exact .inl l
  ·exact .inr ⟨k,c,hc,cl x c hc _ z⟩
 ·obtain ⟨v,z⟩:=I.cell x c q
  exact ⟨v,cl x c q v z⟩
 ·obtain ⟨q,nn,n1,n2,d⟩:=I.pin p hp
  obtain ⟨m1,m2⟩:=off p.1 p.2 q fun z=>z.2.2.2.2.2 p hp rfl;exact ⟨n.keep p.1 p.2 q (nst p.1 n1 n2) m1 m2,nn,n1,n2,d⟩
 ·refine (I.hok a o q).stay (fun b u hb r=> ?_) (fun _ z=>z) fun _ _ z=>z
  rcases hb with rfl|hb
  ·obtain ⟨m1,m2⟩:=off b u r (Wx b o q)
   exact n.keep b u r (abQ b o q) m1 m2
  ·obtain ⟨m1,m2⟩:=off b u r (Wx b _ hb)
   exact n.keep b u r (abQ b _ hb) m1 m2
def JZ (P:Program) (w:World):Sq:=fun outer H s E ev s'=>∃(e:Addr) (cls:Value) (dx:Option Addr) (H':Hp),ev = .ref e/\s'.os=s.os/\AllBare s'.gens/\Un (frs outer) [] H H' s.heap s'.heap/\Ck P w H' s'.heap /\
 s.heap.get? e=none/\H' e=none/\BW s'.heap e cls dx (fun T=>s.heap.get? T=none/\H' T=none) (some .none)/\E cls dx H'
def Rz (X:Cx) (E:St->XK):Prop:=∀(pins:List (Addr×Obj)) (σ:St) (H:Hp) (s:Shared) (e:Addr) (cls:Value) (dx:Option Addr) (fl:Option Value),(fl=none\/fl=some .none)->Inv X pins σ H s->Hz X pins H e ->
 BW s.heap e cls dx (Hz X pins H) fl->E σ cls dx H->X.xe (.ref e) s
theorem BW.imp {h:Heap} {e:Addr} {cls:Value} {dx:Option Addr} {lo lo':Addr->Prop} {f:Option Value} (x:BW h e cls dx lo f) (k:∀T,(∃o,h.get? T=some o)->lo T->lo' T):BW h e cls dx lo' f:=by
 cases f with
 | none=>exact x
 | some f=>
   obtain ⟨oe,vs,T,oT,ts,he,hc,hdx,hd,h1,hT,nT,Wz,r⟩:=x;exact ⟨oe,vs,T,oT,ts,he,hc,hdx,hd,h1,k T ⟨oT,Wz⟩ hT,nT,Wz,r⟩
theorem Xz {E:St->XK} {σ:St} (hx:X.ex=[]) (R:Rz X E) {pins:List (Addr×Obj)} {H:Hp} {s s':Shared} {ev:Value} (I:Inv X pins σ H s) (c:JZ X.prog X.w X.stack H s (E σ) ev s'):X.xe ev s':=by
 obtain ⟨e,cls,dx,H',rfl,ho,hg,u,hok,ne,he,x,q⟩:=c;have I':Inv X pins σ H' s':=I.call' (ch:=[]) ho u hok hg (fun b hb=>by cases hb)
 have fp:∀T,s.heap.get? T=none->H' T=none->Hz X pins H' T:=fun T h1 h2=>by
  obtain ⟨_,a2,a3,a4,a5,a6⟩:=I.xfp hx h1;exact ⟨h2,a2,a3,a4,a5,a6⟩
 exact R pins σ H' s' e cls dx _ (.inr rfl) I' (fp e ne he) (x.imp fun T _ z=>fp T z.1 z.2) q
theorem TQ {P:Program} {w:World} {K:PySem.W.Frag} {mg:Str->Option Value} {base:Heap} {N:List Str} {qual:Str} {scope:Scope} {f:Addr} {cd:Value} {A:Around} {outer:List Env} {s:Shared} {H:Hp} {E:XK}:
 Rz (xW (JZ P w) P w K mg base N qual scope f cd A outer s H E) (fun _=>E):=by
 intro pins σ H1 s1 e cls dx fl hfl I fe x q;show wpAny (model P w) _ (leaving _ (.ref e)) _ _ s1;unfold leaving;have lo1:∀b,(b=e\/(Hz (xW (JZ P w) P w K mg base N qual scope f cd A outer s H E) pins H1 b\/s1.heap.get? b=none))->Hz (xW (JZ P w) P w K mg base N qual scope f cd A outer s H E) pins H1 b\/s1.heap.get? b=none:=fun b z=>z.elim (fun z=> .inl (by rw [z];exact fe)) fun z=>z;have stk:(xW (JZ P w) P w K mg base N qual scope f cd A outer s H E).A.frames=some ((xW (JZ P w) P w K mg base N qual scope f cd A outer s H E).env::outer):=I.ok.frames;refine wpAny_bind (YZ (base:=base) (lo:=fun T=>Hz (xW (JZ P w) P w K mg base N qual scope f cd A outer s H E) pins H1 T\/s1.heap.get? T=none) hfl stk I.stack rfl (x.imp fun T _ z=> .inl z) (fun T z=> .inr z) fun h1 n1 x1=> ?_);refine SN (fr:=frs ((xW (JZ P w) P w K mg base N qual scope f cd A outer s H E).env::outer)) x1 fun h2 n2 x2=> ?_;have I2:Inv (xW (JZ P w) P w K mg base N qual scope f cd A outer s H E) pins σ H1 {s1 with heap:=h2}:=I.noted (n1.trans n2) lo1;refine ⟨e,cls,dx,H1,rfl,I2.os,I2.bare,I2.base,I2.hok,fe.2.2.2.1,fe.1,x2.imp fun T _ z=> ?_,q⟩;rcases z with z|z
 ·exact ⟨z.2.2.2.1,z.1⟩
 ·have y:=I.xfp rfl z
  exact ⟨y.2.2.2.1,y.1⟩
end
end L2
set_option Elab.async false
set_option linter.all false
set_option maxRecDepth 100000
set_option maxHeartbeats 4000000
namespace L2
open PySem PySem.Spec PyProof.Rows
def wZ (P:Program) (w:World) (K:PySem.W.Frag) (mg:Str->Option Value) (base:Heap) (k:Nat) (x:Str) (ps:List Str) (sp:Sp):Prop:=
 ∃f fd,dM P w K mg base (JZ P w) k f fd ps sp/\mg x=some (.ref f)/\PySem.W.keepIn K (.ref f)=true/\Binds K fd ps []
def Z8 (sp:Sp) (E:St->XK) (t:TA):TE:=fun σ H Q=>t σ H fun vs H1=>sp vs H1 Q (E σ)
section
variable {X:Cx} {k:Nat} {x:Str} {ps:List Str} {sp:Sp} {e:Expr} {es:List Expr} {t:TA} {p pos:Pos} {E:St->XK}
theorem Es (F:wZ X.prog X.w X.K X.mg X.base k x ps sp) (hx:X.ex=[]) (R:Rz X E) (hr:lH k X.A) (hg:Gl X x) (ha:PA X (e::es) t) (hd:(x==("__debug__" :Str))=false:=by decide)
 (he:starEach (e::es) X.env=(false,eval e X.env)::starEach es X.env:=by rfl) (hpl:(backTo pos (starEach es X.env)).any (·.1)=false:=by rfl):
 PE X (.Call (.Name x p) (e::es) [] pos) (Z8 sp E t):=by
 obtain ⟨f,fd,G,hm,hk,hb⟩:=F;intro pins s σ H Q I h;refine wpAny_Call_Name_kw (xP I hg hm ?_ hd);refine PySem.W.callWith_K (h₀:=X.base) I.ok.mod.kin hk (fu (ha pos pins s σ H _ I h) fun us s1 ⟨vs,H1,I1,r,q⟩=>⟨I1.xR, ?_⟩) he hpl;have hlen:us.length=ps.length:=by rw [←r.length];exact G.len _ _ _ _ q
 have hbd:=hb s1 us I1.xR (by rw [List.append_nil];exact hlen);rw [List.append_nil] at hbd;refine wpAny_call (codeAny_mono (G.run X.A X.stack s1 H1 ⟨us,[]⟩ us vs Q (E σ) hr I1.env0 hbd r q) fun res s' hq=> ?_)
 match res,hq with
 | .error ev,hq=>exact Xz hx R I1 hq
 | .ok (.ret u),hq=>exact I1.after hq
end
section
variable {P:Program} {w:World} {K:PySem.W.Frag} {mg:Str->Option Value} {base:Heap}
theorem rm.okX {x qual:Str} {st:Stmt} {f:Addr} {fd:FuncData} {N ps:List Str} {k:Nat} {sp:Sp} (F:rm K x qual st f fd) (S:bH N ps (aB st)) (len:∀vs H Q E,sp vs H Q E->vs.length=ps.length)
 (hbody:∀(cdv:Value) (A:Around) (outer:List Env) (s:Shared) (H:Hp) (vs:List V) (Q:VK) (E:XK),lH k (A.deeper (envOfC qual (aB st) s.heap.objs.size f cdv))->sp vs H Q E ->
   Rz (xW (JZ P w) P w K mg base N qual (aB st) f cdv A outer s H E) (fun _=>E) ->
   ∃t,OD (xW (JZ P w) P w K mg base N qual (aB st) f cdv A outer s H E) (aJ st) t/\t {nx:=fun _ H'=>Q .non H',rt:=Q} (start N vs) H):dM P w K mg base (JZ P w) (k+1) f fd ps sp:=by
 obtain ⟨oc,od,kV,doc,pm,an,cdv,ct,osl,rfl,lk,hcd⟩:=F.ex;exact Zw lk hcd S len fun A outer s H vs Q E hr hsp=>hbody cdv A outer s H vs Q E hr hsp TQ
end
section
variable {X:Cx} {E:St->XK} {x:Str} {C:Addr} {B newId initId:String} {bmB:List Value} {e0:Expr} {rest:List Expr} {ta:TA} {np cpos pos:Pos}
end
def XO (C:Addr) (dx:Option Addr) (e:Addr):HO:= .ext fun h=>∃oe vs,h.get? e=some oe/\oe.cls = .ref C/\oe.dict=dx/\oe.data = .fields vs
def Jv (X:Cx) (e:Addr):Cx:={X with A:=X.A.mark (some (.ref e)),calm:=false,xe:=fun _ _=>False}
def Fx (X:Cx) (pins:List (Addr×Obj)) (xe:Value->Shared->Prop):Cx:={X with pn:=X.pn++pins,xe:=xe}
section
variable {X:Cx} {pins:List (Addr×Obj)} {σ:St} {H:Hp} {s:Shared}
theorem Inv.abR (I:Inv X pins σ H s) (xe:Value->Shared->Prop):Inv (Fx X pins xe) [] σ H s:=
 ⟨⟨I.ok.mod,I.ok.kind,I.ok.glob,I.ok.blt,I.ok.above,I.ok.inj,I.ok.has,I.ok.cab,I.ok.hd,I.ok.frames,I.ok.stk,I.ok.exf,I.ok.bs,I.ok.Ru,I.ok.Je,I.ok.K8,I.ok.wK,I.ok.Vb⟩,I.os,I.bare,I.base,I.loc,I.cell,I.free,I.mq,
   fun p hp=>I.pin p (by rw [List.append_nil] at hp;exact hp),I.hok,I.len⟩
theorem Inv.Hi {xe:Value->Shared->Prop} {vm:List (Addr×Obj)} (I:Inv (Fx X pins xe) vm σ H s):Inv X pins σ H s:=
 ⟨⟨I.ok.mod,I.ok.kind,I.ok.glob,I.ok.blt,I.ok.above,I.ok.inj,I.ok.has,I.ok.cab,I.ok.hd,I.ok.frames,I.ok.stk,I.ok.exf,I.ok.bs,I.ok.Ru,I.ok.Je,I.ok.K8,I.ok.wK,I.ok.Vb⟩,I.os,I.bare,I.base,I.loc,I.cell,I.free,I.mq,
   fun p hp=>I.pin p (List.mem_append_left _ hp),I.hok,I.len⟩
theorem Inv.Tg (I:Inv X pins σ H s) (e:Addr):Inv (Jv X e) pins σ H s:=
 ⟨⟨I.ok.mod,I.ok.kind,I.ok.glob,I.ok.blt,I.ok.above,I.ok.inj,I.ok.has,I.ok.cab,fun z=>(by cases z),I.ok.frames,I.ok.stk,I.ok.exf,I.ok.bs,I.ok.Ru,I.ok.Je,I.ok.K8,I.ok.wK,I.ok.Vb⟩,I.os,I.bare,I.base,I.loc,I.cell,I.free,I.mq,
   I.pin,I.hok,I.len⟩
theorem Inv.Jd {e:Addr} (I:Inv (Jv X e) pins σ H s) (hd:X.calm=true->X.A.handled=none):Inv X pins σ H s:=
 ⟨⟨I.ok.mod,I.ok.kind,I.ok.glob,I.ok.blt,I.ok.above,I.ok.inj,I.ok.has,I.ok.cab,hd,I.ok.frames,I.ok.stk,I.ok.exf,I.ok.bs,I.ok.Ru,I.ok.Je,I.ok.K8,I.ok.wK,I.ok.Vb⟩,I.os,I.bare,I.base,I.loc,I.cell,I.free,I.mq,
   I.pin,I.hok,I.len⟩
theorem Inv.track {e C:Addr} {dx:Option Addr} {lo:Addr->Prop} {fl:Option Value} (I:Inv X pins σ H s) (hx:X.ex=[]) (fe:Hz X pins H e) (x:BW s.heap e (.ref C) dx lo fl):Inv X pins σ (upd H e (XO C dx e)) s:=by
 obtain ⟨f1,f2,f3,f4,f5,f6⟩:=fe;obtain ⟨oe,vs,q,hc,hdx,hd⟩:=x.there;have ne:∀b o,H b=some o->b≠e:=fun b o r=>bw r f1;refine ⟨I.ok,I.os,I.bare,⟨I.base.keep,I.base.slot,fun b o r n hh=> ?_,I.base.there,fun b xs r=> ?_,fun b o u r=> ?_,fun b ps r=> ?_⟩,I.loc,I.cell, ?_,fun y c r=> ?_,fun p hp=> ?_,fun a o r=> ?_,I.len⟩
 ·rw [aW (fun z=>by rw [z,f4] at r;cases r)]
  exact I.base.free b o r n hh
 ·have r2:=I.base.tups b xs r
  rw [aW (ne b _ r2)];exact r2
 ·have r2:=I.base.zO b o u r
  rw [aW (ne b _ r2)];exact r2
 ·obtain ⟨m,r2⟩:=I.base.Ax b ps r
  exact ⟨m,by rw [aW (ne b _ r2)];exact r2⟩
 ·rw [aW (Ne.symm f2)];exact I.free
 ·rw [aW (f5 y c r)];exact I.mq y c r
 ·obtain ⟨a1,a2,a3⟩:=I.pin p hp
  exact ⟨a1,by rw [aW (f6 p hp)];exact a2,a3⟩
 ·by_cases ha:a=e
  ·subst ha
   rw [aq] at r;cases r;exact ⟨⟨oe,vs,q,hc,hdx,hd⟩,⟨oe,q⟩,fun h1 h2 ⟨o1,v1,p1,p2⟩ k=>⟨o1,v1,k _ p1,p2⟩⟩
  ·rw [aW ha] at r
   refine (I.hok a o r).stay (fun _ _ _ z=>z) (fun b z=>by rw [aW (ne b _ z)];exact z) fun b ys z=>by rw [aW (ne b _ z)];exact z
end
section
variable {M:Model} {A:Around} {Er:Value->Shared->Prop} {s:Shared} {K:PySem.W.Frag} {e C D:Addr}
theorem KH {oe:Obj} {b:Bool} {Q:Bool->Shared->Prop} (X:K.In s.heap) (he:s.heap.get? e=some oe) (hc:oe.cls = .ref C) (hD:(PySem.W.clsIn K D).isSome=true) (hty:PySem.W.typeIn K (.ref D)=some (.type "type"))
 (hB:PySem.W.subIn K (.ref D) (.type "BaseException")=some true) (hs:PySem.W.subIn K (.ref C) (.ref D)=some b) (hq:Q b s):wpAny M A (excMatches (.ref e) (.ref D)) Q Er s:=by
 obtain ⟨hh,g,d,t,os⟩:=s;have L1:PySem.W.Looks M hh (typeOf (.ref D)) (.type "type"):=PySem.W.looks_typeIn X hty;have L2:PySem.W.Looks M hh (isSubtype (.ref D) (.type "BaseException")) true:=PySem.W.looks_subIn X hB;have L3:PySem.W.Looks M hh (isSubtype (.ref C) (.ref D)) b:=PySem.W.looks_subIn X hs
 have L4:PySem.W.Looks M hh (isType (.ref D)) true:=by
  unfold PySem.W.clsIn at hD;split at hD
  ·rename_i c' d' cd' sl' ho
   intro A' Q' E' s' k q;unfold isType loadHead;exact wpAny_bind (wpAny_loadPart (k _ _ (X _ _ ho)) (wpAny_pure q))
  ·cases hD
 have f:=tc_notTuple;unfold excMatches isExcClass isInstance;refine wpAny_bind (wpAny_bind (L1.at ?_));refine wpAny_of_eq f ?_;rw [if_neg (by decide)];refine wpAny_bind (wpAny_pure ?_);simp only [List.forIn_cons,List.forIn_nil];refine wpAny_bind (wpAny_bind (wpAny_bind (wpAny_bind (L4.at ?_))));rw [if_pos rfl];refine L2.at ?_;simp only [Bool.not_true,Bool.false_eq_true,if_false];refine wpAny_pure (wpAny_pure ?_)
 have L0:PySem.W.Looks M hh (typeOf (.ref e)) (.ref C):=by
  intro A' Q' E' s' k q;unfold typeOf;refine wpAny_bind (wpAny_loadPart (k _ _ he) ?_);rw [hc];exact wpAny_pure q
 refine wpAny_bind (L0.at ?_);refine wpAny_bind (wpAny_bind (wpAny_bind (L3.at ?_)));cases b with
 | true=>exact wpAny_pure (wpAny_pure (wpAny_pure hq))
 | false=>exact wpAny_pure (wpAny_pure (wpAny_pure hq))
end
end L2
set_option Elab.async false
set_option linter.all false
set_option maxRecDepth 100000
set_option maxHeartbeats 4000000
namespace L2
open PySem PySem.Spec PyProof.Rows
section
variable {X:Cx} {pins:List (Addr×Obj)} {σ:St} {H:Hp} {s:Shared}
theorem Inv.gone {i:Nat} {n:Str} {m:Str->Option Value} {v:Option Value} {h':Heap} {t:Nat} (I:Inv X pins σ H s) (hN:X.N.Nodup) (hi:X.N[i]? = some n)
 (hm:∀(j:Nat) (x:Str) (u:V),X.N[j]? = some x->σ[j]? = some (some u)->Vis X.env.scope x -> ∃w',RelV u w'/\Look X.env s.heap m x w')
 (hn:h'.Ns X.env.locals (fun x=>if x=n then v else m x)) (sb:Heap.SameBut X.env.locals s.heap h'):Inv X pins (σ.set i none) H {s with heap:=h',toks:=t}:=by
 have Zc:∀b o,X.s₀.heap.get? b=some o->b≠X.env.locals:=fun b o q=>Nat.ne_of_lt (Nat.lt_of_lt_of_le (Heap.lt_size q) I.ok.above);have cl:∀x c,X.env.cells.lookup x=some c -> ∀w',s.heap.IsCell c w'->h'.IsCell c w':=fun x c q w' ⟨o,ho,hd⟩=>⟨o,(sb.2 c (I.ZD x c q)).trans ho,hd⟩;have Wx:∀b o,H b=some o->b≠X.env.locals:=fun b o q=>bw q I.free;refine ⟨I.ok,I.os,I.bare,⟨fun b o q nn hb hx=>(sb.2 b (Zc b o q)).trans (I.base.keep b o q nn hb hx),fun b o q nn hb hx=> ?_,I.base.free,fun b o q hx=> ?_,I.base.tups,I.base.zO,I.base.Ax⟩,⟨_,hn,fun j x u e1 e2 e3=> ?_⟩,fun x c q=> ?_,I.free,I.mq,fun p hp=> ?_,fun a o q=> ?_, ?_⟩
 ·obtain ⟨sl,r⟩:=I.base.slot b o q nn hb hx
  exact ⟨sl,(sb.2 b (Zc b o q)).trans r⟩
 ·obtain ⟨o',r⟩:=I.base.there b o q hx
  exact ⟨o',(sb.2 b (Zc b o q)).trans r⟩
 ·have hji:j≠i:=by
   rintro rfl
   by_cases hlt:j<σ.length
   ·rw [List.getElem?_set_self hlt] at e2
    cases e2
   ·rw [List.getElem?_eq_none (by rw [List.length_set];omega)] at e2
    cases e2
  rw [List.getElem?_set_ne (Ne.symm hji)] at e2;obtain ⟨w',r,l⟩:=hm j x u e1 e2 e3;refine ⟨w',r, ?_⟩;have hxn:x≠n:=fun z=>hji (Ew hN e1 (by rw [z];exact hi));rcases l with ⟨k,q⟩|⟨k,c,hc,z⟩
  ·exact .inl ⟨k,by show (if x=n then v else m x)=some w';rw [if_neg hxn];exact q⟩
  ·exact .inr ⟨k,c,hc,cl x c hc _ z⟩
 ·obtain ⟨w',z⟩:=I.cell x c q
  exact ⟨w',cl x c q w' z⟩
 ·obtain ⟨q,nn,n1,r⟩:=I.pin p hp
  exact ⟨(sb.2 p.1 n1).trans q,nn,n1,r⟩
 ·refine (I.hok a o q).stay (fun b u hb r=> ?_) (fun _ z=>z) fun _ _ z=>z
  rcases hb with rfl|hb
  ·exact (sb.2 b (Wx b o q)).trans r
  ·exact (sb.2 b (Wx b _ hb)).trans r
 ·show (σ.set i none).length=X.N.length
  rw [List.length_set];exact I.len
theorem xO {M:Model} {A:Around} {E:Value->Shared->Prop} {i:Nat} {n:Str} {pos:Pos} {Q:Unit->Shared->Prop} (I:Inv X pins σ H s) (hN:X.N.Nodup) (hi:X.N[i]? = some n) (hl:X.env.kindOf n=some .local)
 (h:∀s',Inv X pins (σ.set i none) H s'->Q () s'):wpAny M A (do bindName X.env n .none;unbindBehindTheSuite X.env n pos) Q E s:=by
 obtain ⟨m,hn,hm⟩:=I.loc;exact wpAny_nameGoes_keeps hl hn (by rw [I.ok.kind];rfl) fun h' v hn' sb=>h _ (I.gone hN hi hm hn' sb)
end
def adv (D:Ends) (i:Nat):Ends:={nx:=fun σ H=>D.nx (σ.set i none) H,rt:=D.rt,bk:=fun σ H=>D.bk (σ.set i none) H,ct:=fun σ H=>D.ct (σ.set i none) H}
def afA (K:PySem.W.Frag) (i:Nat) (Dc:Addr) (tb:(St->XK)->TS) (th:TS):TS:=fun D σ H=>
 tb (fun σ1 cls dx H1=>∃C,cls = .ref C/\PySem.W.subIn K (.ref C) (.ref Dc)=some true /\ ∀e,H1 e=none->th (adv D i) (σ1.set i (some (.ref e))) (upd H1 e (XO C dx e))) D σ H
structure XHd (K:PySem.W.Frag) (D:Addr):Prop where
 cl:(PySem.W.clsIn K D).isSome=true
 ty:PySem.W.typeIn K (.ref D)=some (.type "type")
 bs:PySem.W.subIn K (.ref D) (.type "BaseException")=some true
section
variable {X:Cx} {body suite:List Stmt} {b0:Stmt} {n cn:Str} {i:Nat} {Dc:Addr} {tb:(St->XK)->TS} {th:TS} {cp hpos pos:Pos}
theorem aaj (hc:X.calm=true) (hx:X.ex=[]) (hst:X.stack=X.env::X.outer) (hfm:X.env.frame=some X.env.locals) (hN:X.N.Nodup) (hi:X.N[i]? = some n) (hl:X.env.kindOf n=some .local) (hg:Gl X cn) (hm:X.mg cn=some (.ref Dc)) (hD:XHd X.K Dc)
 (hb:∀(pn:List (Addr×Obj)) (xe:Value->Shared->Prop) (E:St->XK),PassesOwn (model X.prog X.w) X.A X.env xe->Rz {X with pn:=pn,xe:=xe} E->OD {X with pn:=pn,xe:=xe} body (tb E))
 (hh:∀e,OD (Jv X e) (b0::suite) th) (hd:(cn==("__debug__" :Str))=false:=by decide):
 PS X (.Try body [.ExceptHandler (some (.Name cn cp)) (some n) (b0::suite) hpos] [] [] pos) (afA X.K i Dc tb th):=by
 intro pins s σ H D I h;refine wpAny_Try_except ?_
 refine wpAny_mono (hb (X.pn++pins) (fun e s₁=>wpAny (model X.prog X.w) X.A (noteFrame e X.env) (fun _ s₂=>wpAny (model X.prog X.w) X.A (setFlight e none) (fun _ s₃=>wpAny (model X.prog X.w) X.A (handleBy e X.env [.ExceptHandler (some (.Name cn cp)) (some n) (b0::suite) hpos]) (SP X pins D) X.xe s₃) X.xe s₂) X.xe s₁) _
  PassesOwn.looking ?_ [] s σ H D (I.abR _) h) (fun f s1 q=> ?_) fun _ _ q=>q
 ·
  intro vm σ1 H1 s1 e cls dx fl hfl I1 fe x hE;obtain ⟨C,rfl,hsub,hth⟩:=hE;have lo1:∀b,(b=e\/(Hz (Fx X pins X.xe) vm H1 b\/s1.heap.get? b=none))->Hz (Fx X pins X.xe) vm H1 b\/s1.heap.get? b=none:=fun b z=>z.elim (fun z=> .inl (by rw [z];exact fe)) fun z=>z;have hfr:X.A.frames=some (X.env::X.outer):=by rw [←hst];exact I.ok.frames
  have hff:s1.heap.FunFrames X.base (X.env::X.outer):=by rw [←hst];exact I1.stack
  refine YZ (base:=X.base) (lo:=fun T=>Hz (Fx X pins X.xe) vm H1 T\/s1.heap.get? T=none) hfl hfr hff hfm (x.imp fun T _ z=> .inl z) (fun T z=> .inr z) fun h1 n1 x1=> ?_;refine SN (fr:=frs (X.env::X.outer)) x1 fun h2 n2 x2=> ?_;have n12:wX (frs X.stack) e (fun T=>Hz (Fx X pins X.xe) vm H1 T\/s1.heap.get? T=none) s1.heap h2:=by rw [hst];exact n1.trans n2
  have I2:Inv X pins σ1 H1 {s1 with heap:=h2}:=(I1.noted n12 lo1).Hi;refine wpAny_handleBy_cons (codeAny_handlers_test (xP (I2.Tg e) hg hm ?_ hd)) (by intro z;cases z);obtain ⟨oe,vs,q1,q2,q3,q4⟩:=x2.there;refine KH (K:=X.K) I2.xR q1 q2 hD.cl hD.ty hD.bs hsub ?_;rw [if_pos rfl];refine codeAny_handlers_suite_as ?_;refine SN (fr:=frs (X.env::X.outer)) x2 fun h3 n3 x3=> ?_;have n13:wX (frs X.stack) e (fun T=>Hz (Fx X pins X.xe) vm H1 T\/s1.heap.get? T=none) s1.heap h3:=by rw [hst];exact (n1.trans n2).trans n3
  have I3:Inv X pins σ1 H1 {s1 with heap:=h3}:=(I1.noted n13 lo1).Hi;have feX:Hz X pins H1 e:=⟨fe.1,fe.2.1,fe.2.2.1,fe.2.2.2.1,fe.2.2.2.2.1,fun p hp=>fe.2.2.2.2.2 p (List.mem_append_left _ hp)⟩;have I4:Inv X pins σ1 (upd H1 e (XO C dx e)) {s1 with heap:=h3}:=I3.track hx feX x3;refine zp (X:=Jv X e) (I4.Tg e) hN hi (.inl hl) (v:= .ref e) rfl (fun s5 I5=> ?_) (.inr hl);refine wpAny_mono (hh e pins s5 _ _ (adv D i) I5 (hth e fe.1)) (fun f s6 q6=> ?_) fun _ _ z=>z.elim;cases f with
  | next=>
    obtain ⟨σ6,H6,J6,r6⟩:=q6;exact xO (J6.Jd I.ok.hd) hN hi hl fun s7 J7=>⟨_,H6,J7,r6⟩
  | brk=>
    obtain ⟨σ6,H6,J6,r6⟩:=q6;exact xO (J6.Jd I.ok.hd) hN hi hl fun s7 J7=>⟨_,H6,J7,r6⟩
  | cont=>
    obtain ⟨σ6,H6,J6,r6⟩:=q6;exact xO (J6.Jd I.ok.hd) hN hi hl fun s7 J7=>⟨_,H6,J7,r6⟩
  | ret u=>
    obtain ⟨v6,σ6,H6,J6,rv,r6⟩:=q6;exact xO (J6.Jd I.ok.hd) hN hi hl fun s7 J7=>⟨v6,_,H6,J7,rv,r6⟩
 ·cases f with
  | next=>obtain ⟨σ1,H1,J,r⟩:=q;exact wpAny_execs_nil ⟨σ1,H1,J.Hi,r⟩
  | brk=>obtain ⟨σ1,H1,J,r⟩:=q;exact ⟨σ1,H1,J.Hi,r⟩
  | cont=>obtain ⟨σ1,H1,J,r⟩:=q;exact ⟨σ1,H1,J.Hi,r⟩
  | ret u=>obtain ⟨v,σ1,H1,J,rv,r⟩:=q;exact ⟨v,σ1,H1,J.Hi,rv,r⟩
end
section
variable {X:Cx} {K:PySem.W.Frag}
theorem xY {o:Obj} {vs:Array Value} (h:o.data = .fields vs):PySem.W.notCls o=true:=by
 obtain ⟨c,d,dt,sl⟩:=o;simp only at h;subst h;rfl
theorem WL {C e:Addr} {P:Program} {w:World} {H:Hp} {h:Heap} (x:eO P w H h e (XO C none e)):∃ox odo,PySem.W.InstAt h e ox C odo:=by
 obtain ⟨⟨oe,vs,q,hc,hd,hf⟩,_⟩:=x;exact ⟨oe,none,⟨q,hc,xY hf,by rw [hd];trivial⟩⟩
theorem Qt {cs:List Addr}:∀{us:List Value},Vals (cs.map V.ref) us->us=cs.map Value.ref:=by
 induction cs with
 | nil=>intro us r;cases r;rfl
 | cons c cs ih=>
   intro us r;cases r with
   | cons r rs=>cases (show _=Value.ref c from r);rw [ih rs];rfl
end
end L2
set_option Elab.async false
set_option linter.all false
set_option maxRecDepth 100000
set_option maxHeartbeats 4000000
namespace L2
open PySem PySem.Spec PyProof.Rows
section
variable {X:Cx} {K:PySem.W.Frag}
end
structure aP (K:PySem.W.Frag) (C D:Addr) (b:Bool):Prop where
 ne:(Value.ref C==Value.ref D)=false
 sub:PySem.W.subIn K (.ref C) (.ref D)=some b
theorem aZ {K:PySem.W.Frag} {C D:Addr} {b:Bool} (h:XHd K D) (p:aP K C D b):PySem.W.kitOne K (.ref C) (.ref D)=some b:=by
 unfold PySem.W.kitOne;rw [if_neg (by rw [p.ne];decide)];show (if ((PySem.W.clsIn K D).isSome&&PySem.W.typeIn K (.ref D)==some (.type "type"))=true then PySem.W.subIn K (.ref C) (.ref D) else none)=some b;rw [if_pos (by rw [h.cl,h.ty];rfl)];exact p.sub
theorem zL {K:PySem.W.Frag} {C:Addr}:PySem.W.kitOne K (.ref C) (.ref C)=some true:=by
 unfold PySem.W.kitOne;rw [if_pos (by simp)]
theorem xQ {K:PySem.W.Frag} {C:Addr} {b:Bool} (h:PySem.W.subIn K (.ref C) (.type "ValueError")=some b):PySem.W.kitOne K (.ref C) (.type "ValueError")=some b:=by
 unfold PySem.W.kitOne;rw [if_neg (by intro z;cases beq_iff_eq.mp z)];show (if PySem.W.kitMeta "ValueError" = true then PySem.W.subIn K (.ref C) (.type "ValueError") else none)=some b;rw [if_pos (by decide +kernel)];exact h
theorem wG {K:PySem.W.Frag} {C:Addr}:∀{cs:List Addr},(∀D∈cs,PySem.W.kitOne K (.ref C) (.ref D)=some false)->PySem.W.kitAny K (.ref C) (cs.map Value.ref)=some false
 | [],_=>rfl
 | D::cs,h=>by
   show PySem.W.kitAny K (.ref C) (.ref D::cs.map Value.ref)=some false;unfold PySem.W.kitAny;rw [h D List.mem_cons_self];exact wG fun D' hD=>h D' (List.mem_cons_of_mem _ hD)
theorem GJ:bootBuiltins "ValueError" = some (.type "ValueError"):=by kernel_rfl
end L2
namespace L2
open PySem
structure Xo (K:PySem.W.Frag) (mg:Str->Option Value) (C D:Addr) (nm:Str) (b:Bool):Prop where
 bd:mg nm=some (.ref D)
 hd:XHd K D
 pr:aP K C D b
theorem Xo.kit {K:PySem.W.Frag} {mg:Str->Option Value} {C D:Addr} {nm:Str} {b:Bool} (x:Xo K mg C D nm b):PySem.W.kitOne K (.ref C) (.ref D)=some b:=aZ x.hd x.pr
end L2
set_option Elab.async false
set_option linter.all false
set_option maxRecDepth 100000
set_option maxHeartbeats 4000000
namespace L2
open PySem PySem.Spec PyProof.Rows
section
variable {X:Cx} {pins:List (Addr×Obj)} {σ:St} {H:Hp} {s:Shared} {h':Heap}
theorem Inv.xJ {t':Nat} {fp:List Addr} (I:Inv X pins σ H s) (hf:∀b∈fp,wY X pins H b) (k:∀b o,b∉fp->s.heap.get? b=some o->h'.get? b=some o):Inv X pins σ H {s with heap:=h',toks:=t'}:=by
 have nit:∀b u,H b=some u->b∉fp:=fun b u e z=>by rw [(hf b z).1] at e;cases e
 refine I.step (g':=s.gens) (d':=s.drawn) (ch:=fp) (fun b hb=> ?_) (fun b o _ _ hc e _=>k b o hc e) (fun b o _ _ hc e _=>⟨o.slots,k b o hc e⟩) (fun _ _ _ _ n=>n)
  (fun b o hc e=>⟨o,k b o hc e⟩) (fun _ _ e=>e) (fun _ _ _ e=>e) (fun b ps e=>⟨#[],by rw [e];simp⟩) (fun m hm=> ?_) (fun b u e=> ?_) I.bare
 ·obtain ⟨f0,f1,f2,f3,f4,f5⟩:=hf b hb
  exact ⟨f3,f1,f4,f5⟩
 ·obtain ⟨o,es,ep,ho,r⟩:=hm
  exact ⟨o,es,ep,k _ o (fun z=>(hf _ z).2.1 rfl) ho,r⟩
 ·refine (I.hok b u e).stay (fun c v hc q=>k c v ?_ q) (fun _ q=>q) fun _ _ q=>q
  rcases hc with z|z
  ·rw [z];exact nit b u e
  ·exact nit c _ z
theorem wY.upd {b p:Addr} {o:HO} (h:wY X pins H b) (n:b≠p):wY X pins (upd H p o) b:=by
 obtain ⟨f0,r⟩:=h;exact ⟨by rw [aW n];exact f0,r⟩
theorem E_ {h:Heap} {o u:Obj} {b:Addr} (ho:o.isFreed=false) (e:(h.push o).get? b=some u):(b=h.objs.size/\u=o)\/h.get? b=some u:=by
 by_cases hb:b=h.objs.size
 ·subst hb
  rw [Heap.get?_push_size _ ho] at e;exact .inl ⟨rfl,(Option.some.inj e).symm⟩
 ·refine .inr ?_
  have lt:=Heap.lt_size e
  have lt2:b<h.objs.size:=by
   have:(h.push o).objs.size=h.objs.size+1:=by simp [Heap.push]
   rw [this] at lt;exact Nat.lt_of_le_of_ne (Nat.le_of_lt_succ lt) hb
  have:(h.push o).get? b=h.get? b:=by
   simp only [Heap.get?,Heap.push];rw [Array.getElem?_push_lt lt2,Array.getElem?_eq_getElem lt2]
  rw [←this];exact e
end
section
variable {X:Cx}
theorem JC:bootBuiltins "enumerate" = some (.type "enumerate"):=by kernel_rfl
end
def Itz (K:PySem.W.Frag) (l1 l2:Addr):It:=
 ⟨fun i H=>∃xs ys x y,bO K H l1 xs/\bO K H l2 ys/\xs[i]? = some x/\ys[i]? = some y,
  fun i H x H'=>∃(p:Addr) (y z:V),x = .ref p/\H p=none/\(∀xs,bO K H l1 xs->xs[i]? = some y)/\(∀ys,bO K H l2 ys->ys[i]? = some z)/\H'=upd H p (.tup [y,z]),
  fun i H=>∃xs ys,bO K H l1 xs/\bO K H l2 ys/\(xs.length<=i\/ys.length<=i)⟩
theorem Td {P:Program} {w:World} {K:PySem.W.Frag} {elts:List Expr} {x1:Nat} {pos:Pos} (z TI TO i1 i2 l1 l2:Addr) (ap:ZipApart z TI TO i1 i2 l1 l2):Turn P w K (.Tuple elts x1 pos) (Itz K l1 l2) [z,TI,TO,i1,i2] z
 (fun i h=>IsZip h z TI TO .none/\IsPair h TI (.ref i1) (.ref i2)/\(∃a b,IsPair h TO a b)/\h.IsListIter i1 l1 i/\h.IsListIter i2 l2 i) where
 mem:=by simp
 obj:=fun i h st b hb=>by
  obtain ⟨hz,hTI,⟨a,c,hTO⟩,⟨o1,h1,c1,d1⟩,⟨o2,h2,c2,d2⟩⟩:=st;have hb':b=z\/b=TI\/b=TO\/b=i1\/b=i2:=by simpa using hb
  rcases hb' with rfl|rfl|rfl|rfl|rfl
  ·exact ⟨_,hz,fun v z=>by cases z⟩
  ·exact ⟨_,hTI,fun v z=>by cases z⟩
  ·exact ⟨_,hTO,fun v z=>by cases z⟩
  ·exact ⟨_,h1,fun v z=>by rw [d1] at z;cases z⟩
  ·exact ⟨_,h2,fun v z=>by rw [d2] at z;cases z⟩
 keep:=fun i h h' st k=>by
  obtain ⟨hz,hTI,⟨a,c,hTO⟩,⟨o1,h1,c1,d1⟩,⟨o2,h2,c2,d2⟩⟩:=st;exact ⟨k z (by simp) _ hz,k TI (by simp) _ hTI,⟨a,c,k TO (by simp) _ hTO⟩,⟨o1,k i1 (by simp) _ h1,c1,d1⟩,⟨o2,k i2 (by simp) _ h2,c2,d2⟩⟩
 item:=by
  intro X hP hw hK hc i pins s σ H E I hf st hg;subst hP hw hK;obtain ⟨xs,ys,x,y,hq1,hq2,hx,hy⟩:=hg;obtain ⟨KZ,Xd,p1,hz1⟩:=I.list hq1;obtain ⟨its2,Y9,p2,hz2⟩:=I.list hq2;obtain ⟨u1,hu1,ru1⟩:=Xd.get hx;obtain ⟨u2,hu2,ru2⟩:=Y9.get hy;obtain ⟨hz,hTI,⟨a,c,hTO⟩,hi1,hi2⟩:=st;have zlt:=Heap.lt_size hz;have abj:=Heap.lt_size hTI;have abh:=Heap.lt_size hTO;have aaN:i1<s.heap.objs.size:=by obtain ⟨o,ho,_⟩:=id hi1;exact Heap.lt_size ho
  have aaM:i2<s.heap.objs.size:=by obtain ⟨o,ho,_⟩:=id hi2;exact Heap.lt_size ho
  refine wpAny_pyNext_zip_item ap hz hTI hTO hi1 hi2 p1.isList p2.isList (x:=u1) (y:=u2) (by simpa using hu1) (by simpa using hu2) fun h' hz' aaS aaR hi2' hnew hsz hk=> ?_;refine ⟨_,rfl, ?_⟩;refine wpAny_letOwnedTupleGo_zip hz' fun h2 aaO sb=> ?_;have hfr:H s.heap.objs.size=none:=I.hok.fresh (Nat.le_refl _)
  have I0:Inv X pins σ (upd H s.heap.objs.size (.tup [x,y])) {s with heap:=s.heap.push {cls:= .type "tuple",data:= .seq #[u1,u2]}}:=
   I.laid (t':=s.toks) (fun b u e=>Heap.get?_push_of_some _ e) (Nat.le_refl _) ⟨by show 2<=sizeLine;decide,[u1,u2],.cons ru1 (.cons ru2 .nil),⟨_,Heap.get?_push_size _ rfl,rfl,_,rfl⟩⟩
  have Zi:∀b∈[z,TI,TO,i1,i2],wY X pins (upd H s.heap.objs.size (.tup [x,y])) b:=fun b hb=>by
   refine (hf b hb).upd ?_;have hb':b=z\/b=TI\/b=TO\/b=i1\/b=i2:=by simpa using hb
   rcases hb' with rfl|rfl|rfl|rfl|rfl
   ·exact Nat.ne_of_lt zlt
   ·exact Nat.ne_of_lt abj
   ·exact Nat.ne_of_lt abh
   ·exact Nat.ne_of_lt aaN
   ·exact Nat.ne_of_lt aaM
  have I1:=I0.xJ (h':=h2) (t':=s.toks) Zi (fun b o hb eb=>by
   have b1:b≠z:=fun e=>hb (by simp [e]);have b2:b≠TO:=fun e=>hb (by simp [e]);have b3:b≠i1:=fun e=>hb (by simp [e]);have b4:b≠i2:=fun e=>hb (by simp [e]);rw [sb.2 b b1];rcases E_ rfl eb with ⟨rfl,rfl⟩|eb
   ·exact hnew
   ·exact hk b o b1 b2 b3 b4 eb)
  refine ⟨.ref s.heap.objs.size,_,I1,rfl,⟨s.heap.objs.size,x,y,rfl,hfr,fun ys hy=>by rw [I.wD hy hq1];exact hx,fun ys' hy'=>by rw [I.wD hy' hq2];exact hy,rfl⟩, ?_,fun b hb=>(Zi b hb).1⟩;obtain ⟨o1,ho1,c1,d1⟩:=aaR;obtain ⟨o2,ho2,c2,d2⟩:=hi2';exact ⟨aaO,(sb.2 TI ap.TIz).trans (hk TI _ ap.TIz ap.TITO ap.TIi1 ap.TIi2 hTI),⟨_,_,(sb.2 TO ap.TOz).trans aaS⟩,⟨o1,(sb.2 i1 ap.i1z).trans ho1,c1,d1⟩,⟨o2,(sb.2 i2 ap.i2z).trans ho2,c2,d2⟩⟩
 done:=by
  intro X hP hw hK hc i pins s σ H E I hf st hg;subst hP hw hK;obtain ⟨xs,ys,hq1,hq2,hx⟩:=hg;obtain ⟨KZ,Xd,p1,hz1⟩:=I.list hq1;obtain ⟨its2,Y9,p2,hz2⟩:=I.list hq2;obtain ⟨hz,hTI,⟨a,c,hTO⟩,hi1,hi2⟩:=st;have hl1:=Xd.length;have hl2:=Y9.length;refine wpAny_pyNext_zip_end (I.ok.hd hc) ap hz hTI hTO hi1 hi2 p1.isList p2.isList ?_ fun h' eb=>⟨rfl,I.xJ (t':=s.toks) hf (fun b o hb e=>eb b o (fun z=>hb (by simp [z])) (fun z=>hb (by simp [z])) (fun z=>hb (by simp [z])) (fun z=>hb (by simp [z])) e)⟩;rcases hx with hx|hx
  ·exact .inl (by simp;omega)
  ·exact .inr (by simp;omega)
 self:=fun _ _ _ _ _ st h=>wpAny_pyIter_zip st.1 h
section
variable {X:Cx}
def aiT (K:PySem.W.Frag) (ta:TA):TI:=fun σ H R=>ta σ H fun vs H1=>∃l1 l2 xs ys,vs=[.ref l1,.ref l2]/\bO K H1 l1 xs/\bO K H1 l2 ys/\R (Itz K l1 l2) H1
theorem Xr {K:PySem.W.Frag} {a b:Expr} {ta:TA} {p pos:Pos} {elts:List Expr} {x1:Nat} {tpos:Pos} (hK:X.K=K) (hg:Gl X "zip") (hm:X.mg "zip" = none) (ha:PA X [a,b] ta) (hs:starEach [a,b] X.env=[(false,eval a X.env),(false,eval b X.env)]:=by rfl) (hs2:starEach [b] X.env=[(false,eval b X.env)]:=by rfl):PI X (.Tuple elts x1 tpos) (.Call (.Name "zip" p) [a,b] [] pos) (aiT K ta):=by
 subst hK;intro pins s σ H R I h;refine Call_ (wF I hg hm boot_zip (PyProof.Rows.callWith_type1 (fu (ha pos pins s σ H _ I h) fun us s1 ⟨vs,H1,I1,r1,q1⟩=> ?_) (by rw [hs,hs2]) (by rw [hs2];rfl)));obtain ⟨l1,l2,xs,ys,e,hq1,hq2,q⟩:=q1;subst e;cases r1 with
 | cons r rr=>
   cases rr with
   | cons r' rr=>
     cases rr;cases r;cases r';obtain ⟨KZ,Xd,pl1,hz1⟩:=I1.list hq1;obtain ⟨its2,Y9,pl2,hz2⟩:=I1.list hq2;have lt1:l1<s1.heap.objs.size:=by obtain ⟨o,ho,_⟩:=pl1.isList;exact Heap.lt_size ho
     have lt2:l2<s1.heap.objs.size:=by obtain ⟨o,ho,_⟩:=pl2.isList;exact Heap.lt_size ho
     refine call_zip_2 pl1.isList pl2.isList fun h' hZ hTI hTO hi1 hi2 hsz hk=> ?_;refine wpAny_pyIter_zip hZ ?_;have I2:Inv X pins σ H1 {s1 with heap:=h'}:=I1.kept (t':=s1.toks) hk;refine ⟨s1.heap.objs.size+4,[s1.heap.objs.size+4,s1.heap.objs.size+2,s1.heap.objs.size+3,s1.heap.objs.size,s1.heap.objs.size+1],_,_,H1,rfl,I2,Td _ _ _ _ _ l1 l2 (zipApart_new lt1 lt2),⟨hZ,hTI,⟨_,_,hTO⟩,hi1,hi2⟩,fun b hb=> ?_,q⟩
     have hb':s1.heap.objs.size<=b:=by
      have:b=s1.heap.objs.size+4\/b=s1.heap.objs.size+2\/b=s1.heap.objs.size+3\/b=s1.heap.objs.size\/b=s1.heap.objs.size+1:=by simpa using hb
      rcases this with rfl|rfl|rfl|rfl|rfl
      ·exact Nat.le_add_right _ _
      ·exact Nat.le_add_right _ _
      ·exact Nat.le_add_right _ _
      ·exact Nat.le_refl _
      ·exact Nat.le_add_right _ _
     exact I1.Gz hb' (I1.hok.fresh hb')
end
end L2
set_option Elab.async false
set_option linter.all false
set_option maxRecDepth 100000
set_option maxHeartbeats 4000000
namespace L2
open PySem PySem.Spec PyProof.Rows
section
variable {K:PySem.W.Frag} {a l1 l2 D:Addr} {xs ys:List V} {g:TG} {tc:TT} {te:TE} {Q:VK} {σ0:St} {H1:Hp}
theorem V3 {n:Nat} (hn1:xs.length=n) (hn2:ys.length=n) (Pv:Nat->St->Hp->Prop) (h0:Pv 0 σ0 (upd H1 D (.lst []))) (hl:∀i σ H,i<=n->Pv i σ H->bO K H l1 xs/\bO K H l2 ys)
 (hs:∀i x y σ H p,xs[i]? = some x->ys[i]? = some y->Pv i σ H->H p=none->g (.ref p) σ (upd H p (.tup [x,y])) fun σ2 H2=>tc σ2 H2 fun b H3=>
   if b=true then te σ2 H3 fun y H4=>∃acc,H4 D=some (.lst acc)/\acc.length<sizeLine/\Pv (i+1) σ2 (upd H4 D (.lst (acc++[y]))) else Pv (i+1) σ2 H3)
 (hd:∀σ H,Pv n σ H->Q (.ref D) H):tU (Itz K l1 l2) g tc te Q D σ0 H1:=by
 refine ⟨fun i m σ H=>m=n - i/\i<=n/\Pv i σ H,⟨n,by simp,Nat.zero_le _,h0⟩, ?_⟩;rintro i m σ H ⟨rfl,hi,p⟩;obtain ⟨q1,q2⟩:=hl i σ H hi p
 by_cases hlt:i<n
 ·refine .inr ⟨⟨xs,ys,xs[i],ys[i],q1,q2,by simp [hn1,hlt],by simp [hn2,hlt]⟩,Pv (i+1),fun σ' H' p'=>⟨n - (i+1),by omega,rfl,hlt,p'⟩,fun x H' y=> ?_⟩
  obtain ⟨t,z,u,rfl,ht,hz,hu,rfl⟩:=y;exact hs i z u σ _ t (hz xs q1) (hu ys q2) p ht
 ·have e:i=n:=by omega
  subst e;exact .inl ⟨⟨xs,ys,q1,q2,.inl (by omega)⟩,hd σ H p⟩
end
section
variable {K:PySem.W.Frag} {a l1 l2:Addr} {xs ys:List V} {g:TG} {tb:TS} {D:Ends} {σ:St} {H:Hp}
end
section
variable {X:Cx}
theorem eX {K:PySem.W.Frag} {T name id:String} {r:V->List V->Hp->VK->Prop} {o e:Expr} {es:List Expr} {to:TE} {t:TA} {apos cpos:Pos} (h:X.K=K) (pa:PlainAttrs T) (slot:Slot T name id) (hty:typeOf (.builtin id)=pure (.type "method_descriptor")) (hm:ZP X id r) (ho:PE X o to) (ha:PA X (e::es) t)
 (hbase:attributeBase o name X.env (eval o X.env)=eval o X.env:=by rfl)
 (hfew:((backTo cpos (starEach (e::es) X.env)).all (fun x=> !x.1)&&(backToKw cpos (keywordEach [] X.env)).all (fun x=>x.1.isSome)
   && decide ((e::es).length+([]:List Keyword).length+(if ([]:List Keyword).isEmpty then 0 else 1)<30))=true:=by rfl)
 (hline:(apos.endLine==cpos.line)=true:=by rfl) (hs:starEach (e::es) X.env=(false,eval e X.env)::starEach es X.env:=by rfl) (hplain:(backTo cpos (starEach es X.env)).any (·.1)=false:=by rfl):
 PE X (.Call (.Attribute o name apos) (e::es) [] cpos) (tBM K T r to t):=by
 subst h;exact Za pa slot hty hm ho ha hbase hfew hline hs hplain
theorem IV {K:PySem.W.Frag} {es:List Expr} {k:Nat} {t:ZL} {n:Nat} {pos:Pos} (hK:X.K=K) (hc:X.calm=true) (h:PGs X es t)
 (hn:(assignEach es X.env).length=n:=by rfl) (hst:(assignEach es X.env).findIdx? (·.1)=none:=by rfl):PG X (.Tuple es k pos) (Yo K n t):=by subst hK;exact aam hc h hn hst
end
end L2
set_option Elab.async false
set_option linter.all false
set_option maxRecDepth 100000
set_option maxHeartbeats 4000000
namespace L2
open PySem
section
variable {K:PySem.W.Frag} {a D:Addr} {xs:List V} {tc:TT} {te:TE} {Q:VK} {rest:St} {H1:Hp}
theorem qg {α:Type} (f:Nat->Option α) (n:Nat):(List.range (n+1)).filterMap f=(List.range n).filterMap f++(f n).toList:=by
 rw [List.range_succ,List.filterMap_append];cases h:f n<;>simp [h]
theorem Jt {α:Type} (f:Nat->Option α) (n:Nat):((List.range n).filterMap f).length<=n:=by
 have:=List.length_filterMap_le f (List.range n);simpa using this
theorem Same.newly {H H1:Hp} {D:Addr} {o:HO} (h:Same H H1) (n:H D=none):Same H (upd H1 D o):=fun b u e=>by rw [aW (bw e n)];exact h b u e
theorem FJ (f:Nat->Option V) (hD:H1 D=none) (hq:bO K H1 a xs) (hx:xs.length<=100000)
 (hs:∀i x H (G:Hp->Prop) (F:VK),xs[i]? = some x->Same H1 H->(∀H',Same H H'->f i=none->G H')->(∀y H',Same H H'->f i=some y->F y H')->tc (some x::rest) H fun b H3=>if b=true then te (some x::rest) H3 F else G H3)
 (hd:∀H,Same H1 H->H D=some (.lst ((List.range xs.length).filterMap f))->Q (.ref D) H):tU (Itl K a) (qO 0) tc te Q D (none::rest) H1:=by
 refine Rr (K:=K) (xs:=xs) (fun i σ H=>(∃v,σ=v::rest)/\Same H1 H/\H D=some (.lst ((List.range i).filterMap f))) ⟨⟨none,rfl⟩,aF hD,aq⟩ (fun i σ H _ ⟨_,sm,_⟩=>sm.sqL _ _ hq) ?_ (fun σ H ⟨_,sm,e⟩=>hd H sm e);rintro i x σ H hi ⟨⟨v,rfl⟩,sm,e⟩;have hil:i<xs.length:=(List.getElem?_eq_some_iff.mp hi).1;refine hs i x H _ _ hi sm (fun H3 s3 ef=>⟨⟨_,rfl⟩,sm.trans s3,by rw [s3 _ _ e,qg,ef];simp⟩) (fun y H4 s4 ef=> ?_);refine ⟨_,s4 _ _ e, ?_,⟨_,rfl⟩,(sm.trans s4).newly hD, ?_⟩
 ·have:=Jt f i
  rw [sizeLine_eq];omega
 ·rw [aq,qg,ef];rfl
theorem Rn {n:Nat} (f:Nat->Option V) (hD:H1 D=none) (hx:n<=100000)
 (hs:∀i H (G:Hp->Prop) (F:VK),i<n->Same H1 H->(∀H',Same H H'->f i=none->G H')->(∀y H',Same H H'->f i=some y->F y H')->tc (some (.int (0+i))::rest) H fun b H3=>if b=true then te (some (.int (0+i))::rest) H3 F else G H3)
 (hd:∀H,Same H1 H->H D=some (.lst ((List.range n).filterMap f))->Q (.ref D) H):tU (Wq 0 n) (qO 0) tc te Q D (none::rest) H1:=by
 refine yW (lo:=0) (n:=n) (fun i σ H=>(∃v,σ=v::rest)/\Same H1 H/\H D=some (.lst ((List.range i).filterMap f))) ⟨⟨none,rfl⟩,aF hD,aq⟩ ?_ (fun σ H ⟨_,sm,e⟩=>hd H sm e);rintro i σ H hi ⟨⟨v,rfl⟩,sm,e⟩;refine hs i H _ _ hi sm (fun H3 s3 ef=>⟨⟨_,rfl⟩,sm.trans s3,by rw [s3 _ _ e,qg,ef];simp⟩) (fun y H4 s4 ef=> ?_);refine ⟨_,s4 _ _ e, ?_,⟨_,rfl⟩,(sm.trans s4).newly hD, ?_⟩
 ·have:=Jt f i
  rw [sizeLine_eq];omega
 ·rw [aq,qg,ef];rfl
theorem Rm {l1 l2:Addr} {ys:List V} {n:Nat} (hn1:xs.length=n) (hn2:ys.length=n) (f:Nat->Option V) (hD:H1 D=none) (hq1:bO K H1 l1 xs) (hq2:bO K H1 l2 ys) (hx:n<=100000)
 (hs:∀i x y H (G:Hp->Prop) (F:VK),xs[i]? = some x->ys[i]? = some y->Same H1 H->(∀H',Same H H'->f i=none->G H')->(∀y H',Same H H'->f i=some y->F y H')->tc (some x::some y::rest) H fun b H3=>if b=true then te (some x::some y::rest) H3 F else G H3)
 (hd:∀H,Same H1 H->H D=some (.lst ((List.range n).filterMap f))->Q (.ref D) H):tU (Itz K l1 l2) (Yo K 2 (K4 (qO 0) (K4 (qO 1) aaW))) tc te Q D (none::none::rest) H1:=by
 refine V3 (K:=K) (xs:=xs) (ys:=ys) hn1 hn2 (fun i σ H=>(∃u v,σ=u::v::rest)/\Same H1 H/\H D=some (.lst ((List.range i).filterMap f))) ⟨⟨none,none,rfl⟩,aF hD,aq⟩ (fun i σ H _ ⟨_,sm,_⟩=>⟨sm.sqL _ _ hq1,sm.sqL _ _ hq2⟩) ?_ (fun σ H ⟨_,sm,e⟩=>hd H sm e);rintro i x y σ H p hix hiy ⟨⟨u,v,rfl⟩,sm,e⟩ hp;have sp:=aF (o:=HO.tup [x,y]) hp;refine ⟨p,[x,y],rfl,eU.of aq,rfl,_,_,rfl,_,_,rfl,rfl, ?_⟩;have hil:i<xs.length:=(List.getElem?_eq_some_iff.mp hix).1;refine hs i x y _ _ _ hix hiy (sm.trans sp) (fun H3 s3 ef=>⟨⟨_,_,rfl⟩,(sm.trans sp).trans s3,by rw [s3 _ _ (sp _ _ e),qg,ef];simp⟩) (fun y H4 s4 ef=> ?_);refine ⟨_,s4 _ _ (sp _ _ e), ?_,⟨_,_,rfl⟩,((sm.trans sp).trans s4).newly hD, ?_⟩
 ·have:=Jt f i
  rw [sizeLine_eq];omega
 ·rw [aq,qg,ef];rfl
theorem K6 {α β:Type} {f g:α->Option β}:∀(l:List α) (_:True) (h:∀x∈l,f x=g x),l.filterMap f=l.filterMap g
 | [],_,_=>rfl
 | x::l,_,h=>by
   rw [List.filterMap_cons,List.filterMap_cons,h x (by simp),K6 l trivial fun y hy=>h y (by simp [hy])]
theorem snocInd {α:Type} {P:List α->Prop} (h0:P []) (hs:∀xs x,P xs->P (xs++[x])) (xs:List α):P xs:=by
 rw [←List.reverse_reverse xs]
 induction xs.reverse with
 | nil=>exact h0
 | cons x l ih=>rw [List.reverse_cons];exact hs _ _ ih
theorem zP {α β:Type} (xs:List α) (g:α->β):(List.range xs.length).filterMap (fun i=>(xs[i]?).map g)=xs.map g:=by
 refine snocInd (P:=fun xs=>(List.range xs.length).filterMap (fun i=>(xs[i]?).map g)=xs.map g) rfl (fun xs x ih=> ?_) xs
 ·show (List.range (xs++[x]).length).filterMap (fun i=>((xs++[x])[i]?).map g)=(xs++[x]).map g
  rw [List.length_append,List.length_singleton,qg,List.map_append];congr 1
  ·rw [←ih]
   refine K6 _ trivial fun i hi=> ?_;have:i<xs.length:=by simpa using hi
   rw [List.getElem?_append_left this]
  ·simp
end
end L2
namespace L2
open PySem
section
variable {X:Cx} {K:PySem.W.Frag}
end
end L2
namespace L2
open PySem
theorem Im {a b:TS} {D:Ends} {σ:St} {H:Hp} (P:St->Hp->Prop) (h1:∀D':Ends,(∀σ' H',P σ' H'->D'.nx σ' H')->D'.rt=D.rt->a D' σ H) (h2:∀σ' H',P σ' H'->b D σ' H'):Z6 a b D σ H:=h1 _ h2 rfl
end L2
namespace L2
open PySem PySem.Spec PyProof.Rows
section
variable {X:Cx} {K:PySem.W.Frag} {a:Expr} {ta:TE} {pos:Pos}
def afB (K:PySem.W.Frag) (ta:TE):TT:=fun σ H Q=>ta σ H fun x H'=>∃k,abf K x H' k/\Q k H'
theorem Hf (h:X.K=K) (ha:PE X a ta) (he:∀whole,isTrue a X.env whole=(do let v ←whole;standAt a.pos;holding [v] (truthy v)):=by intro _;rfl):PT X a (afB K ta):=by
 subst h;exact T4 ha he
end
end L2
set_option Elab.async false
set_option linter.all false
set_option maxRecDepth 100000
set_option maxHeartbeats 4000000
namespace L2
open PySem PySem.Spec PyProof.Rows
section
variable {X:Cx} {K:PySem.W.Frag}
end
section
variable {K:PySem.W.Frag} {a D:Addr} {xs:List V} {te:TE} {Q:VK} {rest:St} {H1:Hp}
theorem Bx {H:Hp} {vs:List V} {ds:List PyData} {v:V} {d:PyData} (h:aQ H vs ds) (hd:Dat H v d):aQ H (vs++[v]) (ds++[d]):=aQ.append h (by simp only [aQ,and_true];exact hd)
end
end L2
set_option Elab.async false
set_option linter.all false
namespace L2
open PySem
def Gv (mg:Str->Option Value) (x:Str) (v:V):Prop:=∃u,mg x=some u/\RelV v u
end L2
set_option Elab.async false
set_option linter.all false
set_option maxRecDepth 100000
set_option maxHeartbeats 4000000
namespace L2
open PySem PySem.Spec PyProof.Rows
section
variable {prog:Program} {w:World} {K:Type} [DecidableEq K] {knd:HeapKind prog w K}
end
section
variable {X:Cx} {o e f:Expr} {td ty tx:TE} {apos cpos:Pos}
end
end L2
namespace L2
open PySem PySem.Spec PyProof.Rows
section
variable {X:Cx} {K:PySem.W.Frag}
end
end L2
namespace L2
open PySem
end L2
set_option Elab.async false
set_option linter.all false
set_option maxRecDepth 100000
set_option maxHeartbeats 4000000
namespace L2
open PySem PySem.Spec PyProof.Rows
section
variable {X:Cx} {K:PySem.W.Frag}
theorem J9:∀{ys:List Str} {us:List Value},Vals (ys.map V.str) us->StrsAre us ys
 | [],us,r=>by cases r;exact .nil
 | y::ys,us,r=>by
   cases r with
   | cons r rs=>
     obtain ⟨t,rfl⟩:=r;exact .cons y t (J9 rs)
def rJoin (K:PySem.W.Frag):V->List V->Hp->VK->Prop:=fun x vs H Q=>∃(sep:Str) (l:Addr) (ys:List Str),x = .str sep/\vs=[.ref l]/\bO K H l (ys.map V.str)/\(ys.map (·.length)).sum+ys.length*sep.length<=16777216/\Q (.str (Txt.join sep ys)) H
theorem tG (h:X.K=K):ZP X "str.join" (rJoin K):=by
 subst h;intro pins s σ H x vs v us Q I rx rv h;obtain ⟨sep,l,ys,rfl,rfl,hq,hz,q⟩:=h;obtain ⟨t,rfl⟩:=rx;obtain ⟨u,rfl,ru⟩:=rv.one;cases ru;obtain ⟨its,r',pl,hz'⟩:=I.list hq;exact join_list pl.isList (by simpa using J9 r') hz fun t' k=>⟨.str _,H,I.tok _,⟨_,rfl⟩,q⟩
end
def cat:List Str->Str
 | []=>Str.empty
 | x::xs=>x++cat xs
theorem Ay (a:Str):a++Str.empty=a:=by
 cases a;show (⟨_ ++ #[]⟩:Str)=_;simp
theorem glued_cons (sep x:Str) (xs:List Str):Txt.join sep (x::xs)=x++cat (xs.map (sep ++ ·)):=by
 have key:∀(xs:List Str) (a:Str),(⟨xs.foldl (fun acc p=>acc++sep.cps++p.cps) a.cps⟩:Str)=a++cat (xs.map (sep ++ ·)):=by
  intro xs
  induction xs with
  | nil=>intro a;exact (Ay a).symm
  | cons y ys ih=>
    intro a;have:=ih ⟨a.cps++sep.cps++y.cps⟩;rw [List.foldl_cons,this,List.map_cons,cat,←Str.append_assoc,←Str.append_assoc];rfl
 exact key xs x
theorem rE:∀n:Fin 1001,(Str.ofString (toString (n.val:Int))).length<=4:=by decide +kernel
theorem zK {i:Int} (h0:0<=i) (h1:i<=1000):(Str.ofString (toString i)).length<=4:=by
 have:=rE ⟨i.toNat,by omega⟩;simp only at this;rwa [show ((i.toNat:Nat):Int)=i by omega] at this
theorem Df {i:Int} (h0:0<=i) (h1:i<=1000):i.natAbs.log2<1920:=by
 have:i.natAbs.log2<=i.natAbs:=Nat.log2_le_self _;omega
end L2
set_option Elab.async false
set_option linter.all false
set_option maxRecDepth 100000
set_option maxHeartbeats 4000000
namespace L2
open PySem PySem.Spec PyProof.Rows
section
variable {X:Cx} {body suite:List Stmt} {b0:Stmt} {cn:Str} {Dc:Addr} {tb:(St->XK)->TS} {th:TS} {cp hpos pos:Pos}
end
end L2
namespace L2
open PySem PySem.Spec PyProof.Rows
section
variable {X:Cx}
def aec (i j:Int):Prop:=0<j/\j<1329227995784915872903807060280344576
theorem Kz:vp X (binaryOp .FloorDiv) (rI aec fun i j=> .int (i / j)):=opI fun i j _ _ _ _ _ hc q=>by
 have h1:(0:Int)<j:=hc.1;have h2:j<1329227995784915872903807060280344576:=hc.2;refine floordiv_int (by omega) (by rw [Int.fdiv_eq_ediv_of_nonneg i (by omega)];exact q) (.inl ?_);unfold Builtin.divisionGoesByPylong;have hn:j.natAbs<2 ^ 120:=by omega
 have hl:j.natAbs.log2<120:=(Nat.log2_lt (by omega)).mpr hn
 have hz:(j==0)=false:=by
  rw [beq_eq_false_iff_ne];omega
 simp only [hz,Bool.false_eq_true,if_false];have:¬j.natAbs.log2 / 30+1>300:=by omega
 rw [decide_eq_false this,Bool.false_and]
end
end L2
set_option Elab.async false
set_option linter.all false
set_option maxRecDepth 100000
set_option maxHeartbeats 4000000
namespace L2
open PySem PySem.Spec PyProof.Rows
section
variable {X:Cx} {pins:List (Addr×Obj)} {σ:St} {H:Hp} {s:Shared} {d:Addr} {u u':HO}
end
section
variable {X:Cx} {tg:Expr}
end
section
variable {d D:Addr} {o:Obj} {kvs:List (Key×V)} {tc:TT} {te:TE} {Q:VK} {rest:St} {H1:Hp}
end
end L2
set_option Elab.async false
set_option linter.all false
set_option maxRecDepth 100000
set_option maxHeartbeats 4000000
namespace L2
open PySem PySem.Spec PyProof.Rows
section
variable {X:Cx} {tg:Expr}
end
end L2
set_option Elab.async false
set_option linter.all false
set_option maxRecDepth 100000
set_option maxHeartbeats 4000000
namespace L2
open PySem PySem.Spec PyProof.Rows
section
variable {X:Cx} {tg:Expr}
end
end L2
set_option Elab.async false
set_option linter.all false
set_option maxRecDepth 100000
set_option maxHeartbeats 4000000
namespace L2
open PySem PySem.Spec PyProof.Rows
def ago (K:PySem.W.Frag) (neg:Bool):R2:=fun x y H Q=>∃(p:Addr) (vs:List V) (d:PyData) (ds:List PyData),y = .ref p/\bO K H p vs/\aQ H vs ds/\Dat H x d/\SeqAt.shaped d=true/\(∀e∈ds,SeqAt.shaped e=true)/\Q (.bl (if neg then !(ds.any fun e=>PyData.eqv e d) else ds.any fun e=>PyData.eqv e d)) H
section
variable {X:Cx}
theorem O9 {H:Hp} {pins:List (Addr×Obj)} {σ:St} {s:Shared} (I:Inv X pins σ H s):∀{vs:List V} {us:List Value} {ds:List PyData},Vals vs us->aQ H vs ds -> ∀u∈us,∃e∈ds,∃as,Reads s.heap u e as
 | [],_,_,.nil,_=>fun u hu=>by cases hu
 | v::vs,_,d::ds,.cons r rs,h=>fun u hu=>by
   simp only [aQ] at h;rcases List.mem_cons.mp hu with rfl|hu
   ·obtain ⟨as,ra⟩:=I.reads d h.1 r
    exact ⟨d,by simp,as,ra⟩
   ·obtain ⟨e,he,q⟩:=O9 I rs h.2 u hu
    exact ⟨e,by simp [he],q⟩
 | _::_,_,[],.cons _ _,h=>by simp only [aQ] at h
theorem O8 {H:Hp} {pins:List (Addr×Obj)} {σ:St} {s:Shared} (I:Inv X pins σ H s):∀{vs:List V} {us:List Value} {ds:List PyData},Vals vs us->aQ H vs ds -> ∀e∈ds,∃u∈us,∃as,Reads s.heap u e as
 | [],_,[],.nil,_=>fun e he=>by cases he
 | [],_,_::_,.nil,h=>by simp only [aQ] at h
 | v::vs,_,d::ds,.cons r rs,h=>fun e he=>by
   simp only [aQ] at h;rcases List.mem_cons.mp he with rfl|he
   ·obtain ⟨as,ra⟩:=I.reads e h.1 r
    exact ⟨_,by simp,as,ra⟩
   ·obtain ⟨u,hu,q⟩:=O8 I rs h.2 e he
    exact ⟨u,by simp [hu],q⟩
 | _::_,_,[],.cons _ _,h=>by simp only [aQ] at h
open Classical in
noncomputable def Wy (s:Shared) (ds:List PyData) (d:PyData) (u:Value):Bool:=decide (∃e∈ds,(∃as,Reads s.heap u e as)/\PyData.eqv e d=true)
open Classical in
theorem Dh {s:Shared} {ds:List PyData} {d:PyData} {u:Value}:Wy s ds d u=true ↔ ∃e∈ds,(∃as,Reads s.heap u e as)/\PyData.eqv e d=true:=by unfold Wy;exact decide_eq_true_iff
theorem aaK {A:Around} {s:Shared} {ds:List PyData} {d:PyData} {u v:Value} {bs:List Addr} (hd:SeqAt.shaped d=true) (hds:∀e∈ds,SeqAt.shaped e=true) (hu:A.units+64<cLine) (rv:Reads s.heap v d bs) (h:∃e∈ds,∃as,Reads s.heap u e as):SeqAt.EqAt A s u v (Wy s ds d u):=by
 by_cases q:∃e∈ds,(∃as,Reads s.heap u e as)/\PyData.eqv e d=true
 ·have:Wy s ds d u=true:=Dh.mpr q
  rw [this];obtain ⟨e,he,⟨as,ra⟩,ee⟩:=q;have:=SeqAt.eqAt_reads e d A s u v as bs ra rv (SeqAt.canLay_of_shaped (hds e he)) (SeqAt.canLay_of_shaped hd) (SeqAt.room_of_shaped (hds e he) hu);rwa [ee] at this
 ·have:Wy s ds d u=false:=by
   cases z:Wy s ds d u with
   | false=>rfl
   | true=>exact absurd (Dh.mp z) q
  rw [this];obtain ⟨e,he,as,ra⟩:=h
  have ee:PyData.eqv e d=false:=by
   cases z:PyData.eqv e d with
   | false=>rfl
   | true=>exact absurd ⟨e,he,⟨as,ra⟩,z⟩ q
  have:=SeqAt.eqAt_reads e d A s u v as bs ra rv (SeqAt.canLay_of_shaped (hds e he)) (SeqAt.canLay_of_shaped hd) (SeqAt.room_of_shaped (hds e he) hu);rwa [ee] at this
theorem Yj {H:Hp} {pins:List (Addr×Obj)} {σ:St} {s:Shared} (I:Inv X pins σ H s) {vs:List V} {us:List Value} {ds:List PyData} {d:PyData} (r:Vals vs us) (h:aQ H vs ds):us.toArray.any (Wy s ds d)=ds.any fun e=>PyData.eqv e d:=by
 rw [show us.toArray.any (Wy s ds d)=us.any (Wy s ds d) by simp,Bool.eq_iff_iff,List.any_eq_true,List.any_eq_true];constructor
 ·rintro ⟨u,hu,e⟩
  obtain ⟨e,he,_,ee⟩:=Dh.mp e;exact ⟨e,he,ee⟩
 ·rintro ⟨e,he,ee⟩
  obtain ⟨u,hu,q⟩:=O8 I r h e he;exact ⟨u,hu,Dh.mpr ⟨e,he,q,ee⟩⟩
theorem XD {K:PySem.W.Frag} (hK:X.K=K) (hu:X.A.in1.units+64<cLine):vp X (compareOp .In) (ago K false):=by
 subst hK;intro pins s σ H x y v u Q I rx ry h;obtain ⟨p,vs,d,ds,rfl,hq,hds,hd,s1,s2,q⟩:=h;cases ry;obtain ⟨its,r,pl,hz⟩:=I.list hq;obtain ⟨bs,rv⟩:=I.reads d hd rx;refine SeqAt.in_listAt (Wy s ds d) pl.isList (fun w hw=>aaK s1 s2 hu rv (O9 I r hds w (by simpa using hw))) ⟨.bl _,H,I,rfl, ?_⟩;rw [Yj I r hds];exact q
end
end L2
set_option Elab.async false
set_option linter.all false
set_option maxRecDepth 100000
set_option maxHeartbeats 4000000
namespace L2
open PySem PySem.Spec PyProof.Rows
section
variable {H H':Hp}
mutual
theorem Dat.same (k:Same H H'):∀(d:PyData) {v:V},Dat H v d->Dat H' v d
 | .none,_,h=>by simp only [Dat] at h ⊢;exact h
 | .bool _,_,h=>by simp only [Dat] at h ⊢;exact h
 | .int _,_,h=>by simp only [Dat] at h ⊢;exact h
 | .str _,_,h=>by simp only [Dat] at h ⊢;exact h
 | .list ds,_,h=>by simp only [Dat] at h ⊢;obtain ⟨a,vs,e,q,r⟩:=h;exact ⟨a,vs,e,k _ _ q,aQ.same k ds r⟩
 | .tuple ds,_,h=>by simp only [Dat] at h ⊢;obtain ⟨a,vs,e,q,r⟩:=h;exact ⟨a,vs,e,k _ _ q,aQ.same k ds r⟩
 | .dict _,_,h=>by simp only [Dat] at h
theorem aQ.same (k:Same H H'):∀(ds:List PyData) {vs:List V},aQ H vs ds->aQ H' vs ds
 | [],[],_=>by simp only [aQ]
 | d::ds,v::vs,h=>by simp only [aQ] at h ⊢;exact ⟨Dat.same k d h.1,aQ.same k ds h.2⟩
 | _::_,[],h=>by simp only [aQ] at h
 | [],_::_,h=>by simp only [aQ] at h
end
end
section
variable {X:Cx} {K:PySem.W.Frag}
end
section
variable {K:PySem.W.Frag} {a D:Addr} {xs:List V} {tc:TT} {te:TE} {Q:VK} {rest:St} {H1:Hp}
end
section
variable {X:Cx}
end
end L2
set_option Elab.async false
set_option linter.all false
set_option maxRecDepth 100000
set_option maxHeartbeats 4000000
namespace L2
open PySem PySem.Spec PyProof.Rows
theorem lH.Z2 {k:Nat} {A:Around} (r:lH k A):A.in1.units+64<cLine:=by have:=r.un;show A.units+1+64<_;omega
section
variable {X:Cx} {K:PySem.W.Frag} {e st:Expr} {te tk:TE} {pos p2:Pos}
end
end L2
set_option Elab.async false
set_option linter.all false
set_option maxRecDepth 100000
set_option maxHeartbeats 4000000
namespace L2
open PySem PySem.Spec PyProof.Rows
section
variable {H:Hp}
mutual
theorem Dat.fn:∀(d e:PyData) {v:V},Dat H v d->Dat H v e->d=e
 | .none,e,v,h,g=>by cases e<;>simp only [Dat] at h g<;>first |rfl|(subst h;first |(obtain ⟨_,_,z,_⟩:=g;cases z;done)|(cases g;done))
 | .bool _,e,v,h,g=>by cases e<;>simp only [Dat] at h g<;>first |(subst h;first |(injection g with g;rw [g];done)|(obtain ⟨_,_,z,_⟩:=g;cases z;done)|(cases g;done))
 | .int _,e,v,h,g=>by cases e<;>simp only [Dat] at h g<;>first |(subst h;first |(injection g with g;rw [g];done)|(obtain ⟨_,_,z,_⟩:=g;cases z;done)|(cases g;done))
 | .str _,e,v,h,g=>by cases e<;>simp only [Dat] at h g<;>first |(subst h;first |(injection g with g;rw [g];done)|(obtain ⟨_,_,z,_⟩:=g;cases z;done)|(cases g;done))
 | .list ds,.list es,v,h,g=>by
   simp only [Dat] at h g;obtain ⟨a,vs,rfl,ha,da⟩:=h;obtain ⟨b,ws,e,hb,db⟩:=g;injection e with e
   subst e;rw [ha] at hb;injection hb with hb
   injection hb with hb
   subst hb;rw [aQ.fn ds es da db]
 | .tuple ds,.tuple es,v,h,g=>by
   simp only [Dat] at h g;obtain ⟨a,vs,rfl,ha,da⟩:=h;obtain ⟨b,ws,e,hb,db⟩:=g;injection e with e
   subst e;rw [ha] at hb;injection hb with hb
   injection hb with hb
   subst hb;rw [aQ.fn ds es da db]
 | .list ds,.tuple es,v,h,g=>by
   simp only [Dat] at h g;obtain ⟨a,vs,rfl,ha,da⟩:=h;obtain ⟨b,ws,e,hb,db⟩:=g;injection e with e
   subst e;rw [ha] at hb;injection hb with hb
   cases hb
 | .tuple ds,.list es,v,h,g=>by
   simp only [Dat] at h g;obtain ⟨a,vs,rfl,ha,da⟩:=h;obtain ⟨b,ws,e,hb,db⟩:=g;injection e with e
   subst e;rw [ha] at hb;injection hb with hb
   cases hb
 | .list ds,.none,v,h,g=>by simp only [Dat] at h g;obtain ⟨a,vs,rfl,_⟩:=h;cases g
 | .list ds,.bool _,v,h,g=>by simp only [Dat] at h g;obtain ⟨a,vs,rfl,_⟩:=h;cases g
 | .list ds,.int _,v,h,g=>by simp only [Dat] at h g;obtain ⟨a,vs,rfl,_⟩:=h;cases g
 | .list ds,.str _,v,h,g=>by simp only [Dat] at h g;obtain ⟨a,vs,rfl,_⟩:=h;cases g
 | .tuple ds,.none,v,h,g=>by simp only [Dat] at h g;obtain ⟨a,vs,rfl,_⟩:=h;cases g
 | .tuple ds,.bool _,v,h,g=>by simp only [Dat] at h g;obtain ⟨a,vs,rfl,_⟩:=h;cases g
 | .tuple ds,.int _,v,h,g=>by simp only [Dat] at h g;obtain ⟨a,vs,rfl,_⟩:=h;cases g
 | .tuple ds,.str _,v,h,g=>by simp only [Dat] at h g;obtain ⟨a,vs,rfl,_⟩:=h;cases g
 | .list ds,.dict _,v,h,g=>by simp only [Dat] at g
 | .tuple ds,.dict _,v,h,g=>by simp only [Dat] at g
 | .dict _,_,v,h,g=>by simp only [Dat] at h
theorem aQ.fn:∀(ds es:List PyData) {vs:List V},aQ H vs ds->aQ H vs es->ds=es
 | [],[],_,_,_=>rfl
 | d::ds,e::es,v::vs,h,g=>by
   simp only [aQ] at h g;rw [Dat.fn d e h.1 g.1,aQ.fn ds es h.2 g.2]
 | [],_::_,[],_,g=>by simp only [aQ] at g
 | [],_::_,_::_,h,_=>by simp only [aQ] at h
 | _::_,[],[],h,_=>by simp only [aQ] at h
 | _::_,[],_::_,_,g=>by simp only [aQ] at g
 | _::_,_::_,[],h,_=>by simp only [aQ] at h
end
end
section
variable {X:Cx}
end
end L2
set_option Elab.async false
set_option linter.all false
set_option maxRecDepth 100000
set_option maxHeartbeats 4000000
namespace L2
open PySem PySem.Spec PyProof.Rows
section
variable {X:Cx} {K:PySem.W.Frag} {e e1 e2 l:Expr} {te t1 t2 tl:TE} {pos:Pos} {tg:Expr}
end
section
variable {X:Cx}
def T3:List V->Hp->VK->Prop:=fun xs H Q=>(∃i:Int,xs=[.int i]/\i.natAbs.log2<1920/\Q (.str (toString i)) H) \/ ∃x:Str,xs=[.str x]/\Q (.str x) H
theorem jw:jL X (.type "str") T3:=by
 intro pins s σ H xs us Q I r h;rcases h with h|h
 ·exact zU pins s σ H xs us Q I r h
 ·obtain ⟨x,rfl,q⟩:=h
  obtain ⟨u,rfl,t,rfl⟩:=vals1 r;exact PySem.P.str_of_str ⟨.str _,H,I,⟨_,rfl⟩,q⟩
end
theorem Gu (K:PySem.W.Frag):PySem.W.kitOne K (.type "str") (.type "tuple")=some false:=by kernel_rfl
theorem Gw (K:PySem.W.Frag):PySem.W.kitOne K (.type "int") (.type "tuple")=some false:=by kernel_rfl
theorem Fw {H:Hp} {v:V} {d e:PyData} (h:Dat H v (.tuple [d,e])):∃t a b,v = .ref t/\H t=some (.tup [a,b])/\Dat H a d/\Dat H b e:=by
 simp only [Dat] at h;obtain ⟨t,vs,e,q,dd⟩:=h
 match vs,dd with
 | [a,b],dd=>simp only [aQ,and_true] at dd;exact ⟨t,a,b,e,q,dd.1,dd.2⟩
 | [],dd=>simp only [aQ] at dd
 | [_],dd=>simp only [aQ,and_false] at dd
 | _::_::_::_,dd=>simp only [aQ,and_false] at dd
theorem Ld {H:Hp} {v:V} {d e f:PyData} (h:Dat H v (.tuple [d,e,f])):∃t a b c,v = .ref t/\H t=some (.tup [a,b,c])/\Dat H a d/\Dat H b e/\Dat H c f:=by
 simp only [Dat] at h;obtain ⟨t,vs,e,q,dd⟩:=h
 match vs,dd with
 | [a,b,c],dd=>simp only [aQ,and_true] at dd;exact ⟨t,a,b,c,e,q,dd.1,dd.2.1,dd.2.2⟩
 | [],dd=>simp only [aQ] at dd
 | [_],dd=>simp only [aQ,and_false] at dd
 | [_,_],dd=>simp only [aQ,and_false] at dd
 | _::_::_::_::_,dd=>simp only [aQ,and_false] at dd
theorem jJ {H:Hp} {v:V} {ds:List PyData} (h:Dat H v (.tuple ds)):∃t vs,v = .ref t/\H t=some (.tup vs)/\aQ H vs ds:=by
 simp only [Dat] at h;exact h
theorem eF {H:Hp} {v:V} {x:Str} (h:Dat H v (.str x)):v = .str x:=by simp only [Dat] at h;exact h
theorem rG {H:Hp} {v:V} {x:Int} (h:Dat H v (.int x)):v = .int x:=by simp only [Dat] at h;exact h
end L2
set_option Elab.async false
set_option linter.all false
set_option maxRecDepth 100000
set_option maxHeartbeats 4000000
namespace L2
open PySem PySem.Spec PyProof.Rows PySem.Builtin PySem.Builtin.Str
section
variable {X:Cx} {K:PySem.W.Frag}
def aai:V->List V->Hp->VK->Prop:=fun x vs H Q=>∃a y:Str,x = .str a/\vs=[.str y]/\(y.length==0)=false/\a.length+2<=sizeLine /\ ∀q,H q=none->Q (.ref q) (upd H q (.lst ((Txt.split a y).map V.str)))
theorem G3:∀l:List (Str×Tok),Vals ((l.map (·.1)).map V.str) (strValues l)
 | []=> .nil
 | p::r=> .cons ⟨p.2,rfl⟩ (G3 r)
theorem split_len {x y:Str}:(Txt.split x y).length<=x.length+2:=by
 unfold Txt.split;split
 ·simp
 ·split
  ·simp
  ·have e1:=StrLaws.occ_length_le x y 0 x.length (x.length+1)
   rw [length_partsBetween];omega
theorem lG:ZP X "str.split" aai:=by
 intro pins s σ H x vs v us Q I rx rv h;obtain ⟨a,y,rfl,rfl,hy,hz,q⟩:=h;obtain ⟨t,rfl⟩:=rx;obtain ⟨u,rfl,ru⟩:=rv.one;obtain ⟨t2,rfl⟩:=ru;have sl:=split_len (x:=a) (y:=y)
 have fin:∀(l:List (Str×Tok)) (k:Nat),l.map (·.1)=Txt.split a y->EP X pins σ Q (.ref s.heap.objs.size) {s with heap:=s.heap.push {cls:= .type "list",data:= .seq (strValues l).toArray},toks:=k}:=by
  intro l k e;refine ⟨.ref s.heap.objs.size,_,I.laid (t':=k) (o:= .lst ((Txt.split a y).map V.str)) (fun b ob q=>Heap.get?_push_of_some _ q) (Nat.le_refl _) ?_,rfl,q _ (I.hok.fresh (Nat.le_refl _))⟩;exact ⟨by rw [List.length_map];omega,_,0,by rw [←e];exact G3 l,Heap.get?_push_size _ rfl⟩
 have hn:(partsBetween a (occurrences a y 0 a.length (a.length+1)) y.length).length<=sizeLine:=by
  have e1:=StrLaws.occ_length_le a y 0 a.length (a.length+1);rw [length_partsBetween];omega
 cases h1:(decide (a.length<y.length)||decide (strKind a<strKind y))
 ·cases hf:(occurrences a y 0 a.length (a.length+1)).isEmpty
  ·refine call_meets PySem.F.slot_str_split (typeIs_str _ _ _) PySem.F.entry_str_split (PySem.F.args_str_split_2 _ _) (meets_str_split_sep a y t t2 h1 hy hf (by omega) hn) ?_
   show wants (EP X pins σ Q) X.xe _ {s with toks:=_,heap:=s.heap.push {cls:= .type "list",data:= .seq (strsFrom s.toks (partsBetween a (occurrences a y 0 a.length (a.length+1)) y.length)).toArray}};rw [strsFrom_eq];exact fin (numbered s.toks _) _ ((numbered_texts _ _).trans ((if_neg (ne_true_of_eq_false h1)).trans (if_neg (ne_true_of_eq_false hf))).symm)
  ·exact call_meets PySem.F.slot_str_split (typeIs_str _ _ _) PySem.F.entry_str_split (PySem.F.args_str_split_2 _ _) (meets_str_split_not_found a y t t2 h1 hy hf)
    (fin [(a,t)] s.toks ((if_neg (ne_true_of_eq_false h1)).trans (if_pos hf)).symm)
 ·exact call_meets PySem.F.slot_str_split (typeIs_str _ _ _) PySem.F.entry_str_split (PySem.F.args_str_split_2 _ _) (meets_str_split_cannot_occur a y t t2 h1)
   (fin [(a,t)] s.toks (if_pos h1).symm)
def ab_:V->List V->Hp->VK->Prop:=fun x vs H Q=>∃a y:Str,x = .str a/\vs=[.str y]/\(y.length==0)=false/\a.length<=sizeLine /\ ∀q,H q=none->Q (.ref q) (upd H q (.tup [.str (Txt.partition a y).1,.str (Txt.partition a y).2.1,.str (Txt.partition a y).2.2]))
theorem P0:ZP X "str.partition" ab_:=by
 intro pins s σ H x vs v us Q I rx rv h;obtain ⟨a,y,rfl,rfl,hy,hz,q⟩:=h;obtain ⟨t,rfl⟩:=rx;obtain ⟨u,rfl,ru⟩:=rv.one;obtain ⟨t2,rfl⟩:=ru
 have fin:∀(ta tb tc:Tok) (k:Nat),EP X pins σ Q (.ref s.heap.objs.size) {s with heap:=s.heap.push {cls:= .type "tuple",data:= .seq [.str (Txt.partition a y).1 ta,.str (Txt.partition a y).2.1 tb,.str (Txt.partition a y).2.2 tc].toArray},toks:=k}:=by
  intro ta tb tc k;refine ⟨.ref s.heap.objs.size,_,I.laid (t':=k) (o:= .tup [.str (Txt.partition a y).1,.str (Txt.partition a y).2.1,.str (Txt.partition a y).2.2]) (fun b ob q=>Heap.get?_push_of_some _ q) (Nat.le_refl _) ?_,rfl,q _ (I.hok.fresh (Nat.le_refl _))⟩;exact ⟨by show 3<=sizeLine;decide,_,.cons ⟨ta,rfl⟩ (.cons ⟨tb,rfl⟩ (.cons ⟨tc,rfl⟩ .nil)),IsTup.new _ _⟩
 refine call_meets PySem.F.slot_str_partition (typeIs_str _ _ _) PySem.F.entry_str_partition (PySem.F.args_str_partition_2 _ _) (meets_str_partition a y t t2 hy hz) ?_;unfold Txt.partition at fin;revert fin;cases occurrences a y 0 a.length 1 with
 | nil=>intro fin;exact fin _ _ _ _
 | cons i r=>intro fin;exact fin _ _ _ _
def Its (x:Str):It:=⟨fun i _=>i<x.cps.size,fun i H v H'=>H'=H /\ ∃c,x.cps[i]? = some c/\v = .str ⟨#[c]⟩,fun i _=>x.cps.size<=i⟩
theorem Te {P:Program} {w:World} {K:PySem.W.Frag} {tg:Expr} (x:Str) (t:Tok) (it:Addr):Turn P w K tg (Its x) [it] it (fun i h=>i<=x.cps.size/\(h.IsStrIter it "str_ascii_iterator" x t i\/h.IsStrIter it "str_iterator" x t i)) where
 mem:=by simp
 obj:=fun i h st b hb=>by
  have e:b=it:=by simpa using hb
  subst e;rcases st.2 with ⟨o,e,c,d⟩|⟨o,e,c,d⟩
  ·exact ⟨o,e,fun v z=>by rw [d] at z;cases z⟩
  ·exact ⟨o,e,fun v z=>by rw [d] at z;cases z⟩
 keep:=fun i h h' st k=>⟨st.1,st.2.imp (fun ⟨o,e,r⟩=>⟨o,k it (by simp) o e,r⟩) (fun ⟨o,e,r⟩=>⟨o,k it (by simp) o e,r⟩)⟩
 item:=by
  intro X hP hw hK hc i pins s σ H E I hf st hg;subst hP hw hK;have hi:i<x.cps.size:=hg;have hx:x.cps[i]? = some x.cps[i]:=by simp [hi]
  obtain ⟨f0,f1,f2,f3,f4,f5⟩:=hf it (by simp);rcases st.2 with st|st
  ·refine wpAny_pyNext_ascii_item st hx fun h' st' sb=> ?_
   have I1:Inv X pins σ H {s with heap:=h',toks:=s.toks+1}:=I.turned (t':=s.toks+1) (fun b o hb e=>(sb.2 b hb).trans e) f0 f1 f3 f4 f5;obtain ⟨o,e,c,d⟩:=id st';exact ⟨_,rfl,K3 (s:={s with heap:=h',toks:=s.toks+1}) e c d (by decide) ⟨.str ⟨#[x.cps[i]]⟩,H,I1,⟨_,rfl⟩,⟨rfl,_,hx,rfl⟩,⟨hi,.inl st'⟩,fun b hb=>(hf b hb).1⟩⟩
  ·refine wpAny_pyNext_wide_item st hx fun h' st' sb=> ?_
   have I1:Inv X pins σ H {s with heap:=h',toks:=s.toks+1}:=I.turned (t':=s.toks+1) (fun b o hb e=>(sb.2 b hb).trans e) f0 f1 f3 f4 f5;obtain ⟨o,e,c,d⟩:=id st';exact ⟨_,rfl,K3 (s:={s with heap:=h',toks:=s.toks+1}) e c d (by decide) ⟨.str ⟨#[x.cps[i]]⟩,H,I1,⟨_,rfl⟩,⟨rfl,_,hx,rfl⟩,⟨hi,.inr st'⟩,fun b hb=>(hf b hb).1⟩⟩
 done:=by
  intro X hP hw hK hc i pins s σ H E I hf st hg;subst hP hw hK;have hx:x.cps[i]? = none:=by simpa using (show x.cps.size<=i from hg)
  obtain ⟨f0,f1,f2,f3,f4,f5⟩:=hf it (by simp);rcases st.2 with st|st
  ·exact wpAny_pyNext_ascii_end (I.ok.hd hc) st hx fun h' eb=>⟨rfl,I.turned (t':=s.toks) (fun b o hb e=>eb b o hb e) f0 f1 f3 f4 f5⟩
  ·exact wpAny_pyNext_wide_end (I.ok.hd hc) st hx fun h' eb=>⟨rfl,I.turned (t':=s.toks) (fun b o hb e=>eb b o hb e) f0 f1 f3 f4 f5⟩
 self:=fun _ _ _ _ _ st h=>st.2.elim (fun st=>wpAny_pyIter_striter_ascii st h) (fun st=>wpAny_pyIter_striter_wide st h)
def aiU (tl:TE):TI:=fun σ H R=>tl σ H fun x H1=>∃a,x = .str a/\R (Its a) H1
theorem T8 {tg l:Expr} {tl:TE} (hl:PE X l tl):PI X tg l (aiU tl):=by
 intro pins s σ H R I h;refine fu (hl pins s σ H _ I h) fun v s1 ⟨x,H1,I1,r1,q1⟩=> ?_;obtain ⟨a,rfl,q⟩:=q1;obtain ⟨t,rfl⟩:=r1
 have fin:∀o,(s1.heap.push o).IsStrIter s1.heap.objs.size "str_ascii_iterator" a t 0\/(s1.heap.push o).IsStrIter s1.heap.objs.size "str_iterator" a t 0->PIE X pins σ tg R (.ref s1.heap.objs.size) {s1 with heap:=s1.heap.push o}:=by
  intro o st;refine ⟨s1.heap.objs.size,[s1.heap.objs.size],_,_,H1,rfl,I1.kept (t':=s1.toks) fun b o e=>Heap.get?_push_of_some _ e,Te a t _,⟨Nat.zero_le _,st⟩,fun b hb=> ?_,q⟩;have e:b=s1.heap.objs.size:=by simpa using hb
  subst e;exact I1.Gz (Nat.le_refl _) (I1.hok.fresh (Nat.le_refl _))
 cases ha:a.cps.all (· < 128)
 ·exact wpAny_pyIter_wide ha (fin _ (.inr ⟨_,Heap.get?_push_size _ rfl,rfl,rfl⟩))
 ·exact wpAny_pyIter_ascii ha (fin _ (.inl ⟨_,Heap.get?_push_size _ rfl,rfl,rfl⟩))
end
section
variable {K:PySem.W.Frag} {D:Addr} {tc:TT} {te:TE} {Q:VK} {rest:St} {H1:Hp}
theorem Rq {x:Str} {g:TG} {σ0:St} (Pv:Nat->St->Hp->Prop) (h0:Pv 0 σ0 (upd H1 D (.lst [])))
 (hs:∀i c σ H,x.cps[i]? = some c->Pv i σ H->g (.str ⟨#[c]⟩) σ H fun σ2 H2=>tc σ2 H2 fun b H3=>
   if b=true then te σ2 H3 fun y H4=>∃acc,H4 D=some (.lst acc)/\acc.length<sizeLine/\Pv (i+1) σ2 (upd H4 D (.lst (acc++[y]))) else Pv (i+1) σ2 H3)
 (hd:∀σ H,Pv x.cps.size σ H->Q (.ref D) H):tU (Its x) g tc te Q D σ0 H1:=by
 refine ⟨fun i m σ H=>m=x.cps.size - i/\i<=x.cps.size/\Pv i σ H,⟨x.cps.size,by simp,Nat.zero_le _,h0⟩, ?_⟩;rintro i m σ H ⟨rfl,hi,p⟩
 by_cases hlt:i<x.cps.size
 ·refine .inr ⟨hlt,Pv (i+1),fun σ' H' p'=>⟨x.cps.size - (i+1),by omega,rfl,hlt,p'⟩,fun y H' e=> ?_⟩
  obtain ⟨e,c,hc,rfl⟩:=e;subst e;exact hs i c σ _ hc p
 ·have e:i=x.cps.size:=by omega
  subst e;exact .inl ⟨Nat.le_refl _,hd σ H p⟩
theorem Ht {x:Str} (f:Nat->Option V) (hD:H1 D=none) (hx:x.cps.size<=100000)
 (hs:∀i c H (G:Hp->Prop) (F:VK),x.cps[i]? = some c->Same H1 H->(∀H',Same H H'->f i=none->G H')->(∀y H',Same H H'->f i=some y->F y H')->tc (some (.str ⟨#[c]⟩)::rest) H fun b H3=>if b=true then te (some (.str ⟨#[c]⟩)::rest) H3 F else G H3)
 (hd:∀H,Same H1 H->H D=some (.lst ((List.range x.cps.size).filterMap f))->Q (.ref D) H):tU (Its x) (qO 0) tc te Q D (none::rest) H1:=by
 refine Rq (fun i σ H=>(∃v,σ=v::rest)/\Same H1 H/\H D=some (.lst ((List.range i).filterMap f))) ⟨⟨none,rfl⟩,aF hD,aq⟩ ?_ (fun σ H ⟨_,sm,e⟩=>hd H sm e);rintro i c σ H hi ⟨⟨v,rfl⟩,sm,e⟩;have hil:i<x.cps.size:=(Array.getElem?_eq_some_iff.mp hi).1;refine hs i c H _ _ hi sm (fun H3 s3 ef=>⟨⟨_,rfl⟩,sm.trans s3,by rw [s3 _ _ e,qg,ef];simp⟩) (fun y H4 s4 ef=> ?_);refine ⟨_,s4 _ _ e, ?_,⟨_,rfl⟩,(sm.trans s4).newly hD, ?_⟩
 ·have:=Jt f i
  rw [sizeLine_eq];omega
 ·rw [aq,qg,ef];rfl
end
section
variable {X:Cx}
def ab':List V->Hp->VK->Prop:=fun xs H Q=>∃x:Str,xs=[.str x]/\x.length<=sizeLine/\Q (.int x.length) H
theorem fH:jL X (.builtin "len") ab':=by
 intro pins s σ H xs us Q I r h;obtain ⟨x,rfl,hz,q⟩:=h;exact V5 pins s σ H _ us Q I r ⟨.str x,x.length,rfl,⟨hz,rfl⟩,q⟩
def acf:List V->Hp->VK->Prop:=fun xs H Q=>∃(x:Str) (n:Int),xs=[.str x]/\PySem.intText? x=some n/\x.length<=640/\Q (.int n) H
theorem qt:jL X (.type "int") acf:=by
 intro pins s σ H xs us Q I r h;obtain ⟨x,n,rfl,hn,hl,q⟩:=h;obtain ⟨u,rfl,rx⟩:=vals1 r;obtain ⟨t,rfl⟩:=rx;exact PySem.W.KIN.call_text hn hl ⟨.int n,H,I.tok _,⟨_,rfl⟩,q⟩
end
end L2
set_option Elab.async false
set_option linter.all false
set_option maxRecDepth 100000
set_option maxHeartbeats 4000000
namespace L2
open PySem PySem.Spec PyProof.Rows PySem.Builtin PySem.Builtin.Str
def jn (c:Nat):List (List Nat)->List Nat
 | []=>[]
 | [x]=>x
 | x::y::r=>x++c::jn c (y::r)
theorem Qq {c:Nat}:∀{a b:List Nat} {s t:List Nat},c∉a->c∉b->a++c::s=b++c::t->a=b/\s=t
 | [],[],s,t,_,_,h=>⟨rfl,by simpa using h⟩
 | [],y::b,s,t,_,hb,h=>by
   have:c=y:=by simpa using (List.cons.inj h).1
   exact absurd (by rw [this];simp) hb
 | x::a,[],s,t,ha,_,h=>by
   have:x=c:=by simpa using (List.cons.inj h).1
   exact absurd (by rw [this];simp) ha
 | x::a,y::b,s,t,ha,hb,h=>by
   obtain ⟨e,h⟩:=List.cons.inj h;obtain ⟨e2,h2⟩:=Qq (fun z=>ha (by simp [z])) (fun z=>hb (by simp [z])) h;exact ⟨by rw [e,e2],h2⟩
theorem UJ {c:Nat} {x y:List Nat} {r:List (List Nat)}:c∈jn c (x::y::r):=by simp [jn]
theorem UW {c:Nat}:∀{l m:List (List Nat)},l≠[]->m≠[]->(∀p∈l,c∉p)->(∀p∈m,c∉p)->jn c l=jn c m->l=m
 | [],_,h,_,_,_,_=>absurd rfl h
 | _,[],_,h,_,_,_=>absurd rfl h
 | [x],[y],_,_,_,_,h=>by simpa [jn] using h
 | [x],y::z::r,_,_,hx,_,h=>by
   have h:x=jn c (y::z::r):=h;exact absurd (h▸UJ) (hx x (by simp))
 | x::z::r,[y],_,_,_,hy,h=>by
   have h:jn c (x::z::r)=y:=h;exact absurd (h▸UJ) (hy y (by simp))
 | x::z::r,x'::z'::r',_,_,hx,hy,h=>by
   obtain ⟨e1,e2⟩:=Qq (hx x (by simp)) (hy x' (by simp)) h;have:=UW (l:=z::r) (m:=z'::r') (by simp) (by simp) (fun p hp=>hx p (by simp [hp])) (fun p hp=>hy p (by simp [hp])) e2;rw [e1,this]
theorem Ji (c:Nat):∀l:List Str,(Str.join ⟨#[c]⟩ l).cps.toList=jn c (l.map fun p=>p.cps.toList)
 | []=>rfl
 | [x]=>rfl
 | x::y::r=>by
   show (x++⟨#[c]⟩++Str.join ⟨#[c]⟩ (y::r)).cps.toList=_;rw [Str.cps_append,Str.cps_append];simp only [Array.toList_append,List.map_cons,jn];rw [Ji c (y::r)];simp
theorem str_of_list {a b:Str} (h:a.cps.toList=b.cps.toList):a=b:=by
 cases a;cases b;simp only at h;rw [Array.toList_inj.mp h]
theorem map_inj {l m:List Str} (h:(l.map fun p=>p.cps.toList)=m.map fun p=>p.cps.toList):l=m:=by
 induction l generalizing m with
 | nil=>cases m with
   | nil=>rfl
   | cons=>cases h
 | cons x l ih=>cases m with
   | nil=>cases h
   | cons y m=>
     simp only [List.map_cons] at h;obtain ⟨e,h⟩:=List.cons.inj h;rw [str_of_list e,ih h]
theorem qI (x y:Str):Txt.split x y≠[]:=by
 unfold Txt.split;split
 ·simp
 ·split
  ·simp
  ·intro e
   have:=length_partsBetween x (occurrences x y 0 x.length (x.length+1)) y.length;rw [e] at this;simp at this
theorem Kc (c:Nat) {l:List Str} (hne:l≠[]) (hf:∀p∈l,c∉p.cps.toList):Txt.split (Txt.join ⟨#[c]⟩ l) ⟨#[c]⟩=l:=by
 have e:Txt.join ⟨#[c]⟩ l=Str.join ⟨#[c]⟩ l:=StrLaws.glued_eq_join _ _;rw [e];have h1:=StrLaws.join_split (Str.join ⟨#[c]⟩ l) ⟨#[c]⟩;have h2:=StrLaws.split_free (Str.join ⟨#[c]⟩ l) c;have h3:=congrArg (fun x:Str=>x.cps.toList) h1;simp only [Ji] at h3;refine map_inj (UW (by simpa using qI _ _) (by simpa using hne) ?_ ?_ h3)
 ·intro p hp
  obtain ⟨q,hq,rfl⟩:=List.mem_map.mp hp;exact h2 q hq
 ·intro p hp
  obtain ⟨q,hq,rfl⟩:=List.mem_map.mp hp;exact hf q hq
def dH (x:Str):Bool:=decide (1<=x.length)&&decide (x.length<=3)&&x.cps.toList.all (fun c=>decide (48<=c)&&decide (c<=57))&&(decide (x.length<=1) || !decide (x.cps[0]? = some 48))
theorem aau:∀n:Fin 1000,dH (Str.ofString (toString (n.val:Int)))=true:=by decide +kernel
theorem Yb {i:Int} (h0:0<=i) (h1:i<1000):dH (Str.ofString (toString i))=true:=by
 have:=aau ⟨i.toNat,by omega⟩;simpa [Int.toNat_of_nonneg h0] using this
theorem dH.sign {x:Str} (h:dH x=true) {c:Nat} (hc:c∈x.cps.toList):48<=c/\c<=57:=by
 simp only [dH,Bool.and_eq_true,List.all_eq_true,decide_eq_true_eq] at h;exact h.1.2 c hc
theorem Wj {x:Str} {c i:Nat}:StrLaws.At x ⟨#[c]⟩ x.length i↔x.cps.toList[i]? = some c:=by
 unfold StrLaws.At;rw [StrLaws.subAt_eq];have l1:(⟨#[c]⟩:Str).length=1:=rfl;have l2:x.length=x.cps.toList.length:=by simp [Str.length]
 rw [l1,l2];generalize x.cps.toList=l;constructor
 ·rintro ⟨h1,h2⟩
  have hi:i<l.length:=by omega
  rw [List.drop_eq_getElem_cons hi] at h2;rw [List.take_succ_cons,List.take_zero] at h2;have h2:l[i]=c:=List.singleton_inj.mp (beq_iff_eq.mp h2);rw [List.getElem?_eq_getElem hi,h2]
 ·intro h
  obtain ⟨hi,e⟩:=List.getElem?_eq_some_iff.mp h;refine ⟨by omega, ?_⟩;rw [List.drop_eq_getElem_cons hi];simp [e]
theorem part_of {c:Nat} {a b:Str} (ha:c∉a.cps.toList):Txt.partition (a++⟨#[c]⟩++b) ⟨#[c]⟩=(a,⟨#[c]⟩,b):=by
 have el:(a++⟨#[c]⟩++b).cps.toList=a.cps.toList++c::b.cps.toList:=by
  rw [Str.cps_append,Str.cps_append];simp
 have hl:a.length=a.cps.toList.length:=by simp [Str.length]
 have hat:StrLaws.At (a++⟨#[c]⟩++b) ⟨#[c]⟩ (a++⟨#[c]⟩++b).length a.length:=by
  rw [Wj,el,hl];simp
 have key:∃r,occurrences (a++⟨#[c]⟩++b) ⟨#[c]⟩ 0 (a++⟨#[c]⟩++b).length 1=a.length::r:=by
  rcases StrLaws.occ_head (a++⟨#[c]⟩++b) ⟨#[c]⟩ 1 (Nat.le_refl 1) with ⟨_,hn⟩|⟨i,r,e,hi,hn⟩
  ·exact absurd hat (hn _)
  ·refine ⟨r, ?_⟩
   rw [e];congr 1;rcases Nat.lt_trichotomy i a.length with h|h|h
   ·exfalso
    rw [Wj,el,List.getElem?_append_left (by omega)] at hi;exact ha (List.mem_of_getElem? hi)
   ·exact h
   ·exact absurd hat (hn _ h)
 obtain ⟨r,e⟩:=key;unfold Txt.partition;rw [e];have lx:(a++⟨#[c]⟩++b).length=a.length+1+b.length:=by rw [Str.length_append,Str.length_append];rfl
 show (strSub (a++⟨#[c]⟩++b) 0 a.length,(⟨#[c]⟩:Str),strSub (a++⟨#[c]⟩++b) (a.length+1) (a++⟨#[c]⟩++b).length)=_;refine Prod.ext (str_of_list ?_) (Prod.ext rfl (str_of_list ?_))
 ·show (strSub (a++⟨#[c]⟩++b) 0 a.length).cps.toList=_
  rw [StrLaws.strSub_toList,el,List.drop_zero,Nat.sub_zero,hl,List.take_left]
 ·show (strSub (a++⟨#[c]⟩++b) (a.length+1) (a++⟨#[c]⟩++b).length).cps.toList=_
  rw [StrLaws.strSub_toList,el,lx,hl];rw [show a.cps.toList++c::b.cps.toList=(a.cps.toList++[c])++b.cps.toList by simp,List.drop_left' (by simp)];exact List.take_of_length_le (by simp [Str.length])
end L2
set_option Elab.async false
set_option linter.all false
set_option maxRecDepth 100000
set_option maxHeartbeats 4000000
namespace L2
open PySem PySem.Spec PyProof.Rows
section
variable (P:Program) (w:World) (K:PySem.W.Frag) (mg:Str->Option Value) (base:Heap)
end
section
variable {P:Program} {w:World} {K:PySem.W.Frag} {mg:Str->Option Value} {base:Heap} {k:Nat} {C:Addr} {m x:Str} {ps:List Str} {sp:Sp} {Sd:List V}
end
section
variable {X:Cx} {k:Nat} {C:Addr} {x m:Str} {ps:List Str} {sp:Sp} {Sd:List V} {e o:Expr} {es:List Expr} {ta:TE} {t:TA} {p pos apos:Pos} {E:St->XK}
end
end L2
namespace L2
open PySem PySem.Spec PyProof.Rows PySem.Builtin PySem.Builtin.Str
section
variable {X:Cx} {K:PySem.W.Frag} {o e value:Expr} {f:Str} {pos pos' tpos:Pos} {ta tv:TE}
end
section
variable {P:Program} {w:World} {K:PySem.W.Frag} {mg:Str->Option Value} {base:Heap}
end
section
variable {X:Cx} {k:Nat} {C:Addr} {x kn:Str} {ps:List Str} {sp:Sp} {e ke:Expr} {es:List Expr} {te:TE} {t:TA} {p pos kpos:Pos} {E:St->XK}
end
end L2
set_option Elab.async false
set_option linter.all false
set_option maxRecDepth 100000
set_option maxHeartbeats 4000000
namespace L2
open PySem PySem.Spec PyProof.Rows
section
variable {prog:Program} {w:World} {A:Around} {E:Value->Shared->Prop} {s:Shared}
end
section
variable {X:Cx} {pos:Pos}
end
end L2
set_option Elab.async false
set_option linter.all false
set_option maxRecDepth 100000
set_option maxHeartbeats 4000000
namespace L2
open PySem PySem.Spec PyProof.Rows
section
variable {prog:Program} {w:World} {A:Around} {R:Result->Shared->Prop} {it:Addr} {rd wt:List Addr} {n:Nat} {P:Nat->Value->Prop} {St:Nat->Heap->Prop}
end
end L2
set_option Elab.async false
set_option linter.all false
set_option maxRecDepth 100000
set_option maxHeartbeats 4000000
namespace L2
open PySem PySem.Spec PyProof.Rows
section
variable {X:Cx} {K:PySem.W.Frag} {a dE:Expr} {ta:TA} {td:TE} {p pos kp:Pos}
end
end L2
set_option Elab.async false
set_option linter.all false
set_option maxRecDepth 100000
set_option maxHeartbeats 4000000
namespace L2
open PySem
end L2
set_option Elab.async false
set_option linter.all false
set_option maxRecDepth 100000
set_option maxHeartbeats 4000000
namespace Prf
open PySem L2
inductive HD where
 | num (n:Int)
 | box (b:Nat)
 deriving DecidableEq
inductive GX where
 | one (x:HD)
 | two (p:Bool) (x y:HD)
 deriving DecidableEq
inductive Rw where
 | load (b c:Nat)
 | store (c:Nat) (e:GX)
 | swap (b c:Nat) (e:GX)
 | uX (b:Nat) (e:GX)
 | say (e:GX)
 | go (k:Nat)
 | xH (q:Bool) (e f:GX) (k:Nat)
 deriving DecidableEq
def BK (b:Nat):Str:=⟨#[97+b]⟩
def Gf:HD->PyData
 | .num n=> .tuple [.str "number",.int n]
 | .box b=> .tuple [.str "box",.str (BK b)]
def Gj:GX->PyData
 | .one x=>Gf x
 | .two p x y=> .tuple [.str (if p then "plus" else "minus"),Gf x,Gf y]
def Gg:Rw->PyData
 | .load b c=> .tuple [.str "load",.str (BK b),.int c]
 | .store c e=> .tuple [.str "store",.int c,Gj e]
 | .swap b c e=> .tuple [.str "swap",.str (BK b),.int c,Gj e]
 | .uX b e=> .tuple [.str "let",.str (BK b),Gj e]
 | .say e=> .tuple [.str "say",Gj e]
 | .go k=> .tuple [.str "go",.int k]
 | .xH q e f k=> .tuple [.str "unless",.str (if q then "=" else "<"),Gj e,Gj f,.int k]
def J3:HD->Prop
 | .num n=>0<=n/\n<1000
 | .box b=>b<8
def Cv:GX->Prop
 | .one x=>J3 x
 | .two _ x y=>J3 x/\J3 y
def Kg (m:Nat):Rw->Prop
 | .load b c=>b<8/\c<m
 | .store c e=>c<m/\Cv e
 | .swap b c e=>b<8/\c<m/\Cv e
 | .uX b e=>b<8/\Cv e
 | .say e=>Cv e
 | .go _=>True
 | .xH _ e f _=>Cv e/\Cv f
theorem Bo:∀x:HD,xT (Gf x)=true
 | .num _=>rfl
 | .box _=>rfl
theorem o8:∀e:GX,xT (Gj e)=true
 | .one x=>Bo x
 | .two p x y=>by simp only [Gj,xT,q_,Bo,Bool.and_self]
theorem Bp:∀r:Rw,xT (Gg r)=true
 | .load _ _=>rfl
 | .store _ e=>by simp only [Gg,xT,q_,o8,Bool.and_self]
 | .swap _ _ e=>by simp only [Gg,xT,q_,o8,Bool.and_self]
 | .uX _ e=>by simp only [Gg,xT,q_,o8,Bool.and_self]
 | .say e=>by simp only [Gg,xT,q_,o8,Bool.and_self]
 | .go _=>rfl
 | .xH _ e f _=>by simp only [Gg,xT,q_,o8,Bool.and_self]
section
variable {H:Hp} {v:V}
theorem ad5 {x:HD} (h:Dat H v (Gf x)):∃t,v = .ref t/\H t=some (.tup (match x with | .num n=>[.str "number",.int n] | .box b=>[.str "box",.str (BK b)])):=by
 cases x<;>simp only [Gf,Dat] at h<;>obtain ⟨t,vs,rfl,e,d⟩:=h<;>refine ⟨t,rfl, ?_⟩<;>rw [e] <;>
 ·match vs,d with
  | [a,b],d=>
    simp only [aQ,Dat,and_true] at d;obtain ⟨rfl,rfl⟩:=d;rfl
def Parts (H:Hp) (vs:List V):Rw->Prop
 | .load b c=>vs=[.str "load",.str (BK b),.int c]
 | .store c e=>∃x,vs=[.str "store",.int c,x]/\Dat H x (Gj e)
 | .swap b c e=>∃x,vs=[.str "swap",.str (BK b),.int c,x]/\Dat H x (Gj e)
 | .uX b e=>∃x,vs=[.str "let",.str (BK b),x]/\Dat H x (Gj e)
 | .say e=>∃x,vs=[.str "say",x]/\Dat H x (Gj e)
 | .go k=>vs=[.str "go",.int k]
 | .xH q e f k=>∃x y,vs=[.str "unless",.str (if q then "=" else "<"),x,y,.int k]/\Dat H x (Gj e)/\Dat H y (Gj f)
theorem ZJ {r:Rw} (h:Dat H v (Gg r)):∃t vs,v = .ref t/\H t=some (.tup vs)/\Parts H vs r:=by
 cases r<;>simp only [Gg,Dat] at h<;>obtain ⟨t,vs,rfl,e,d⟩:=h<;>refine ⟨t,vs,rfl,e, ?_⟩
 ·match vs,d with
  | [a,b,c],d=>
    simp only [aQ,Dat,and_true] at d;obtain ⟨rfl,rfl,rfl⟩:=d;rfl
 ·match vs,d with
  | [a,b,c],d=>
    simp only [aQ,Dat,and_true] at d;obtain ⟨rfl,rfl,d⟩:=d;exact ⟨_,rfl,d⟩
 ·match vs,d with
  | [a,b,c,x],d=>
    simp only [aQ,Dat,and_true] at d;obtain ⟨rfl,rfl,rfl,d⟩:=d;exact ⟨_,rfl,d⟩
 ·match vs,d with
  | [a,b,c],d=>
    simp only [aQ,Dat,and_true] at d;obtain ⟨rfl,rfl,d⟩:=d;exact ⟨_,rfl,d⟩
 ·match vs,d with
  | [a,b],d=>
    simp only [aQ,Dat,and_true] at d;obtain ⟨rfl,d⟩:=d;exact ⟨_,rfl,d⟩
 ·match vs,d with
  | [a,b],d=>
    simp only [aQ,Dat,and_true] at d;obtain ⟨rfl,rfl⟩:=d;rfl
 ·match vs,d with
  | [a,b,c,x,y],d=>
    simp only [aQ,Dat,and_true] at d;obtain ⟨rfl,rfl,d1,d2,rfl⟩:=d;exact ⟨_,_,rfl,d1,d2⟩
end
def v1 (bs:List Int):HD->Int
 | .num n=>n % 1000
 | .box b=>(bs[b]?).getD 0
def vx (bs:List Int):GX->Int
 | .one x=>v1 bs x
 | .two true x y=>(v1 bs x+v1 bs y) % 1000
 | .two false x y=>(v1 bs x - v1 bs y) % 1000
structure Cj where
 (rws:List Rw) (pos:Nat) (bs sy:List Int) (st:Str)
def touch:Rw->Bool
 | .load _ _=>true
 | .store _ _=>true
 | .swap _ _ _=>true
 | _=>false
def aaQ (bs:List Int):Rw->Bool
 | .xH true e f _=>decide (vx bs e=vx bs f)
 | .xH false e f _=>decide (vx bs e<vx bs f)
 | _=>false
def ady (s:Cj):Rw->Cj
 | .uX b e=>{s with pos:=s.pos+1,bs:=s.bs.set b (vx s.bs e)}
 | .say e=>{s with pos:=s.pos+1,sy:=s.sy++[vx s.bs e]}
 | .go k=>{s with pos:=k}
 | .xH q e f k=>{s with pos:=if aaQ s.bs (.xH q e f k) then s.pos+1 else k}
 | _=>s
def led:Nat->Cj->Cj
 | 0,s=>match s.rws[s.pos]? with
   | none=>{s with st:= "ends" }
   | some r=>if touch r then {s with st:= "waits" } else {s with st:= "lost" }
 | n+1,s=>match s.rws[s.pos]? with
   | none=>{s with st:= "ends" }
   | some r=>if touch r then {s with st:= "waits" } else led n (ady s r)
def lead (s:Cj):Cj:=led 60 s
def Ck (s:Cj):Prop:=s.st = "waits" -> ∃r,s.rws[s.pos]? = some r/\touch r=true
def new (rws:List Rw):Cj:=⟨rws,0,List.replicate 8 0,[],"waits"⟩
def ZF:Rw->Nat
 | .load _ c=>c
 | .store c _=>c
 | .swap _ c _=>c
 | _=>0
def S_:Rw->Str
 | .load _ _=> "load"
 | .store _ _=> "store"
 | .swap _ _ _=> "swap"
 | .uX _ _=> "let"
 | .say _=> "say"
 | .go _=> "go"
 | .xH _ _ _ _=> "unless"
def oD:Option Int->PyData
 | none=> .none
 | some i=> .int i
end Prf
namespace L2
open PySem Prf
end L2
set_option Elab.async false
set_option linter.all false
set_option maxRecDepth 100000
set_option maxHeartbeats 4000000
namespace L2
open PySem PySem.Spec PyProof.Rows
section
variable {X:Cx} {k:Nat} {C:Addr} {sp:Sp}
end
end L2
set_option Elab.async false
set_option linter.all false
set_option maxRecDepth 100000
set_option maxHeartbeats 4000000
namespace L2
open PySem PySem.Spec PyProof.Rows
section
variable {prog:Program} {w:World} {A:Around} {E:Value->Shared->Prop} {s:Shared}
theorem nxT {it t:Addr} {i:Nat} {its:Array Value} {x:Value} {Q:Value->Shared->Prop} (hi:s.heap.IsTupleIter it t i) (ht:s.heap.IsTuple t its) (hx:its[i]? = some x)
 (k:∀h',h'.IsTupleIter it t (i+1)->Heap.SameBut it s.heap h'->Q x {s with heap:=h'}):wpAny (model prog w) A (Builtin.SmallTypes.nextOf (.ref it)) Q E s:=by
 obtain ⟨ob,e1,e2,e3⟩:=id hi;obtain ⟨ot,f1,_,nn,f3⟩:=ht;unfold Builtin.SmallTypes.nextOf;refine wpAny_bind (wpAny_callSpecial?_slot (name:=Str.ofString "__next__") hi.typeIs PySem.F.slot_tuple_iterator_next (wpAny_call_entry PySem.F.slot_tuple_iterator_next hi.typeIs PySem.F.entry_tuple_iterator_next ?_ (PySem.F.args_tuple_iterator_next_1 _)));show wpAny _ _ (field (.ref it) 0 >>= _) _ _ s;refine wpAny_bind (wpAny_field e1 e3 (x:= .ref t) rfl ?_);show wpAny _ _ (if (Value.ref t==Value.none)=true then _ else _) _ _ s;rw [if_neg (show ¬((Value.ref t==Value.none)=true) from Bool.false_ne_true)];show wpAny _ _ (field (.ref it) 1 >>= _) _ _ s;refine wpAny_bind (wpAny_field e1 e3 (x:= .int i 0) rfl ?_);show wpAny _ _ (seqItems? (.ref t) >>= _) _ _ s;refine wpAny_bind (wpAny_seqItems f1 f3 ?_);simp only [Int.toNat_natCast,hx];refine wpAny_bind (wpAny_setField e1 e3 (by simp) (wpAny_pure ⟨x,rfl,wpAny_pure (k _ ?_ (Heap.SameBut.update ..))⟩));refine ⟨_,Heap.get?_update_self _ e1 (Obj.isFreed_of_fields (Obj.data_mapFields e3 _)),(Obj.cls_mapFields ..).trans e2, ?_⟩;rw [Obj.data_mapFields e3];simp [rawInt]
theorem ahL {it t:Addr} {i:Nat} {its:Array Value} {Q:Value->Shared->Prop} (hh:A.handled=none) (hi:s.heap.IsTupleIter it t i) (ht:s.heap.IsTuple t its) (hx:its[i]? = none)
 (k:∀h' e,Heap.ExtBut it s.heap h'->(∃o,h'.get? e=some o/\o.cls = .type "StopIteration")->E (.ref e) {s with heap:=h'}):wpAny (model prog w) A (Builtin.SmallTypes.nextOf (.ref it)) Q E s:=by
 obtain ⟨ob,e1,e2,e3⟩:=id hi;obtain ⟨ot,f1,_,nn,f3⟩:=ht;unfold Builtin.SmallTypes.nextOf;refine wpAny_bind (wpAny_callSpecial?_slot (name:=Str.ofString "__next__") hi.typeIs PySem.F.slot_tuple_iterator_next (wpAny_call_entry PySem.F.slot_tuple_iterator_next hi.typeIs PySem.F.entry_tuple_iterator_next ?_ (PySem.F.args_tuple_iterator_next_1 _)));show wpAny _ _ (field (.ref it) 0 >>= _) _ _ s;refine wpAny_bind (wpAny_field e1 e3 (x:= .ref t) rfl ?_);show wpAny _ _ (if (Value.ref t==Value.none)=true then _ else _) _ _ s;rw [if_neg (show ¬((Value.ref t==Value.none)=true) from Bool.false_ne_true)];show wpAny _ _ (field (.ref it) 1 >>= _) _ _ s;refine wpAny_bind (wpAny_field e1 e3 (x:= .int i 0) rfl ?_);show wpAny _ _ (seqItems? (.ref t) >>= _) _ _ s;refine wpAny_bind (wpAny_seqItems f1 f3 ?_);simp only [Int.toNat_natCast,hx];refine wpAny_bind (wpAny_rule (wpAny_bind (wpAny_setField e1 e3 (by simp) ?_)));show wpAny _ _ (newExc (.type "StopIteration") [] >>= _) _ _ _;refine wpAny_bind ?_;simp only [newExc,newTuple];refine wpAny_bind (wpAny_newObj_type ?_ (by size_fits));refine wpAny_bind (m:=firstArgMember _ _) (wpAny_of_eq (a:=Value.none) (by first |rfl|(simp only [firstArgMember];rfl)) ?_);refine wpAny_newObj_type ?_ (by size_fits);simp only [raiseNew];refine wpAny_bind (wpAny_handled ?_)
 first |rw [show A.in1.handled=none from hh]|rw [hh]
 refine wpAny_bind (wpAny_pure (wpAny_throw (k _ _ (((Heap.SameBut.update ..).extBut.push _).push _) ⟨_,Heap.get?_push_size _ rfl,rfl⟩)))
end
end L2
set_option Elab.async false
set_option linter.all false
set_option maxRecDepth 100000
set_option maxHeartbeats 4000000
namespace L2
open PySem PySem.Spec PyProof.Rows
abbrev ZQ (l:Addr):Obj:={cls:= .type "tuple_iterator",data:= .fields #[.ref l,.int 0 0]}
section
variable {prog:Program} {w:World} {A:Around} {E:Value->Shared->Prop} {s:Shared}
end
section
variable {X:Cx}
end
section
variable {K:PySem.W.Frag} {D:Addr} {xs:List V} {tc:TT} {te:TE} {Q:VK} {rest:St} {H1:Hp}
end
end L2
set_option Elab.async false
set_option linter.all false
set_option maxRecDepth 100000
set_option maxHeartbeats 4000000
namespace Prf
open PySem L2
def inR (x:Int):Prop:=0<=x/\x<1000
def allR (l:List Int):Prop:=∀x∈l,inR x
theorem V8:∀b:Fin 8,PyData.strOk (BK b.val)=true:=by decide +kernel
theorem Ol {x:HD} (h:J3 x):(Gf x).canLay0=true/\(Gf x).depth<=1:=by
 cases x with
 | num n=>exact ⟨by show (PyData.strOk (Str.ofString "number")&&(true&&true))=true;decide +kernel,by show (max 0 (max 0 0))+1<=1;decide⟩
 | box b=>
   refine ⟨?_,by show (max 0 (max 0 0))+1<=1;decide⟩;show (PyData.strOk (Str.ofString "box")&&(PyData.strOk (BK b)&&true))=true;rw [show PyData.strOk (BK b)=true from V8 ⟨b,h⟩];decide +kernel
theorem aa8 {e:GX} (h:Cv e):(Gj e).canLay0=true/\(Gj e).depth<=2:=by
 cases e with
 | one x=>obtain ⟨a,b⟩:=Ol (x:=x) h;exact ⟨a,by show (Gf x).depth<=2;omega⟩
 | two p x y=>
   obtain ⟨a1,b1⟩:=Ol h.1;obtain ⟨a2,b2⟩:=Ol h.2;refine ⟨?_, ?_⟩
   ·show (PyData.strOk (if p then Str.ofString "plus" else Str.ofString "minus")&&(PyData.canLay0 (Gf x)&&(PyData.canLay0 (Gf y)&&true)))=true
    rw [a1,a2];cases p<;>decide +kernel
   ·show max 0 (max (Gf x).depth (max (Gf y).depth 0))+1<=2
    omega
mutual
theorem K9:∀d:PyData,d.canLay0=true->PyData.eqv d d=true
 | .none,_=>rfl
 | .bool b,_=>by simp [PyData.eqv]
 | .int i,_=>by simp [PyData.eqv]
 | .str x,_=>by simp [PyData.eqv]
 | .list ds,h=>by simp only [PyData.eqv];exact Bu ds (by simpa [PyData.canLay0] using h)
 | .tuple ds,h=>by simp only [PyData.eqv];exact Bu ds (by simpa [PyData.canLay0] using h)
 | .dict _,h=>by simp [PyData.canLay0] at h
theorem Bu:∀ds:List PyData,PyData.canLayAll0 ds=true->PyData.eqvAll ds ds=true
 | [],_=>rfl
 | d::ds,h=>by
   simp only [PyData.canLayAll0,Bool.and_eq_true] at h;simp only [PyData.eqvAll,Bool.and_eq_true];exact ⟨K9 d h.1,Bu ds h.2⟩
end
theorem aa2 {d:PyData} (h:SeqAt.shaped d=true):PyData.eqv d d=true:=by
 unfold SeqAt.shaped at h;rw [Bool.and_eq_true] at h;exact K9 d h.1
def isLoad:Rw->Bool
 | .load _ _=>true
 | _=>false
def apart (r q:Rw):Prop:=ZF r≠ZF q\/(isLoad r=true/\isLoad q=true)
end Prf
set_option Elab.async false
set_option linter.all false
set_option maxRecDepth 100000
set_option maxHeartbeats 4000000
namespace L2
open PySem
section
variable {K:PySem.W.Frag} {a D:Addr} {xs:List V} {te:TE} {Q:VK} {rest:St} {H1:Hp}
end
end L2
set_option Elab.async false
set_option linter.all false
set_option maxRecDepth 100000
set_option maxHeartbeats 4000000
namespace PySem.W
open PySem PySem.Spec PySem.Calls PyProof.Rows
def Od (K:Frag) (C:Addr):Bool:=match K.lookup C with
 | some ⟨.type "type",_,.cls cd,sl⟩=>(match cd.mro,sl.toList with
   | .ref C'::bm,[_,_,_,_,some (.builtin n),_]=>C'==C&&(n == "ValueError.__new__" && (!cd.hasDel&&(bm.contains (.type "ValueError")&&(bm.contains (.type "BaseException")&&(!bm.contains (.type "AttributeError") && !bm.contains (.type "NameError"))))))
   | _,_=>false)
 | _=>false
structure XJ (h:Heap) (C:Addr) (ob:Obj) (bm:List Value):Prop where
 at_:h.get? C=some ob
 ex:∃nm q N bs hdct sn sub ab col dd k0 k1 k2 k3 k5,ob=excClassObj nm q C N bs bm hdct sn sub ab col dd k0 k1 k2 k3 k5 "ValueError.__new__"
 v:bm.contains (.type "ValueError")=true
 b:bm.contains (.type "BaseException")=true
 a:bm.contains (.type "AttributeError")=false
 n:bm.contains (.type "NameError")=false
theorem Y0 {K:Frag} {h:Heap} {C:Addr} (X:K.In h) (q:Od K C=true):∃ob bm,XJ h C ob bm:=by
 unfold Od at q;split at q
 ·rename_i d0 c0 s0 lk
  split at q
  ·rename_i C1 tl a0 a1 a2 a3 nn a5 em es
   simp only [Bool.and_eq_true,beq_iff_eq,Bool.not_eq_true'] at q;obtain ⟨e1,e2,e3,e4,e5,e6,e7⟩:=q;subst e1 e2;obtain ⟨f1,f2,f3,f4,f5,f6,f7,f8,f9,f10,f11⟩:=c0;dsimp only at em e3;subst em e3
   have ez:s0 = #[a0,a1,a2,a3,some (.builtin "ValueError.__new__"),a5]:=by
    obtain ⟨l⟩:=s0;simp only at es;rw [es]
   subst ez;exact ⟨_,tl,X _ _ lk,⟨_,_,_,_,_,_,_,_,_,_,_,_,_,_,_,rfl⟩,e4,e5,e6,e7⟩
  ·cases q
 ·cases q
section
variable {prog:Program} {w:World} {A:Around} {h:Heap} {g:Array GenState} {d:Drawn} {t:Nat} {os:OsState} {C:Addr} {ob:Obj} {bm:List Value}
abbrev zc (rest:List Value):Obj:={cls:= .type "tuple",data:= .seq rest.toArray}
abbrev xNew (C T:Addr):Obj:={cls:= .ref C,data:= .fields #[.ref T,.none,.none,.none,.bool false,.none]}
theorem SX {M:Model} {E:Value->Shared->Prop} (J:XJ h C ob bm) {rest:List Value} {Q:Unit->Shared->Prop} (hq:Q () ⟨h,g,d,t,os⟩):
 wpAny M A (checkBuiltinCall "ValueError.__new__" ⟨.ref C::rest,[]⟩) Q E ⟨h,g,d,t,os⟩:=by
 have Fn:=PySem.F.excBase_ValueError;obtain ⟨hC,⟨nm,q,N,bs,hdct,sn,sub,ab,col,dd,k0,k1,k2,k3,k5,rfl⟩,hv,hb,ha,hn⟩:=J;have yes:(Value.ref C::bm).contains (.type "ValueError")=true:=by rw [List.contains_cons,hv,Bool.or_true]
 have star:=Fn.noStar;simp only [checkBuiltinCall,Fn.newKind,Fn.newSplit,Fn.newRow]
 repeat (first
  | refine wpAny_loadPart_at hC ?_
  | (refine wpAny_isSubtype_exc hC ?_;rw [yes])
  | refine wpAny_staticBase_exc hC ?_
  | refine wpAny_madeBy_exc hC ?_
  | simp only [bne_self_eq_false,Bool.false_eq_true,if_false]
  | wp_step)
 exact hq
theorem ZX {R:Result->Shared->Prop} (J:XJ h C ob bm) {rest:List Value}
 (hq:R (.ok (.ret (.ref (h.objs.size+1)))) ⟨(h.push (zc rest)).push (xNew C h.objs.size),g,d,t,os⟩) (hrest:rest.length<=sizeLine):
 codeAny (model prog w) A (.builtin "ValueError.__new__" ⟨.ref C::rest,[]⟩) R ⟨h,g,d,t,os⟩:=by
 have Fn:=PySem.F.excBase_ValueError;obtain ⟨hC,⟨nm,q,N,bs,hdct,sn,sub,ab,col,dd,k0,k1,k2,k3,k5,rfl⟩,hv,hb,ha,hn⟩:=J;have ends:=Fn.ends;have y1:(Value.ref C::bm).contains (.type "ValueError")=true:=by rw [List.contains_cons,hv,Bool.or_true]
 have y2:(Value.ref C::bm).contains (.type "AttributeError")=false:=by rw [List.contains_cons,ha];rfl
 have y3:(Value.ref C::bm).contains (.type "NameError")=false:=by rw [List.contains_cons,hn];rfl
 refine codeAny_builtinAt Fn.entry ?_;unfold Builtin.«BaseException.__new__»;refine wpAt_bind ?_;show wpAt _ _ _ (stack >>= _) _ _ _;refine wpAt_bind (wpAt_stack fun p below=>wpAt_of_wpAny ?_)
 wp_walk
 refine wpAt_of_wpAny ?_;rw [Fn.owner]
 repeat (first
  | with_reducible refine wpAny_madeHere_exc Fn.canon hC ?_
  | with_reducible refine wpAny_loadPart_at hC ?_
  | (with_reducible refine wpAny_isSubtype_exc hC ?_;first |rw [y1]|rw [y2]|rw [y3])
  | wp_step)
 show R _ _;rw [Heap.size_push];exact hq
theorem WM {R:Result->Shared->Prop} {f:Addr} (J:XJ h C ob bm) {rest:List Value} (hi:Looks (model prog w) h (typeLookup (.ref C) "__init__") (some (.ref f)))
 (hb:∀self,Looks (model prog w) h (bindSpecial (.ref f) self) (.ref f,[self])) (hrest:rest.length<=sizeLine)
 (hq:codeAny (model prog w) (A.under (.builtin "type.__call__" ⟨.ref C::rest,[]⟩)) (.call (.ref f) ⟨.ref (h.objs.size+1)::rest,[]⟩) (InitBack (h.objs.size+1) R) ⟨(h.push (zc rest)).push (xNew C h.objs.size),g,d,t,os⟩):
 codeAny (model prog w) A (.call (.ref C) ⟨rest,[]⟩) R ⟨h,g,d,t,os⟩:=by
 have J':=J;obtain ⟨hC,⟨nm,q,N,bs,hdct,sn,sub,ab,col,dd,k0,k1,k2,k3,k5,rfl⟩,hv,hbs,ha,hn⟩:=J;have f1:=tc_lookup;have f2:=tc_bind (.ref C);have ty:(⟨h,g,d,t,os⟩:Shared).TypeIs (.ref C) "type" :=⟨_,hC,rfl⟩;refine codeAny_of_tree ?_;show wpAny _ _ (callAny (.ref C) _) _ _ _
 repeat (any_goals (first
  | assumption
  | with_reducible refine wpAny_loadPart_at hC ?_
  | wp_step))
 refine ⟨rfl, ?_⟩;refine codeAny_call_builtin_at (Code.quiet_builtin _ (by decide +kernel)) entry_typeCall (wpAny_check_type_call_sub hC ?_)
 repeat (first
  | with_reducible refine wpAny_loadPart_at hC ?_
  | with_reducible refine wpAny_madeBy_exc hC ?_
  | wp_step)
 refine codeAny_call_builtin_code (Code.quiet_builtin _ PySem.F.excBase_ValueError.quiet) (SX J' ?_);refine ZX J' ?_ hrest;show wpAny _ _ _ _ _ _;have kp:∀b o,h.get? b=some o->((h.push (zc rest)).push (xNew C h.objs.size)).get? b=some o:=fun b o e=>Heap.get?_push_of_some _ (Heap.get?_push_of_some _ e);have hx:((h.push (zc rest)).push (xNew C h.objs.size)).get? (h.objs.size+1)=some (xNew C h.objs.size):=by heap_get
 have hC1:=kp _ _ hC;have self:(Value.ref C::bm).contains (.ref C)=true:=by simp
 have i1:=hi.keeps kp;have b1:=(hb (.ref (h.objs.size+1))).keeps kp;have t1:Looks (model prog w) ((h.push (zc rest)).push (xNew C h.objs.size)) (typeOf (.ref (h.objs.size+1))) (.ref C):=(Looks.ld hx).andThen .now
 have s1:Looks (model prog w) ((h.push (zc rest)).push (xNew C h.objs.size)) (isSubtype (.ref C) (.ref C)) true:=fun A' Q' E' s' k z=>by
  obtain ⟨hh,g',d',t',os'⟩:=s';refine wpAny_isSubtype_exc (k _ _ hC1) ?_;rw [self];exact z
 show wpAny _ _ (isInstance (.ref (h.objs.size+1)) (.ref C) >>= _) _ _ ⟨(h.push (zc rest)).push (xNew C h.objs.size),g,d,t,os⟩;unfold isInstance;refine wpAny_bind (wpAny_bind (t1.here (s1.here ?_)));simp only [Bool.not_true,Bool.false_eq_true,if_false];refine wpAny_bind (wpAny_holding ?_);show wpAny _ _ (callSpecial? (.ref (h.objs.size+1)) "__init__" rest []) _ _ _;unfold callSpecial? specialOf;refine wpAny_bind (wpAny_bind (t1.here (i1.here ?_)));refine wpAny_holding (wpAny_bind (b1.here ?_));refine wpAny_bind (wpAny_call ?_);refine codeAny_mono (show codeAny (model prog w) (A.under (.builtin "type.__call__" ⟨.ref C::rest,[]⟩)) (.call (.ref f) ⟨.ref (h.objs.size+1)::rest,[]⟩) (InitBack (h.objs.size+1) R) ⟨(h.push (zc rest)).push (xNew C h.objs.size),g,d,t,os⟩ from hq) fun r s' z=> ?_;cases r with
 | error e=>exact z
 | ok fl=>
   cases fl with
   | ret v=>
     obtain ⟨rfl,z⟩:=z;exact wpAny_pure (wpAny_pure z)
   | next=>exact z.elim
   | brk=>exact z.elim
   | cont=>exact z.elim
theorem SQ {M:Model} {E:Value->Shared->Prop} {s:Shared} {env:Env} {x:Sem Value} {Q:Flow->Shared->Prop} (hh:A.handled=none)
 (h:wpAny M A x (fun v s₁=>∃e oe ob bm vs,v = .ref e/\XJ s₁.heap C ob bm/\s₁.heap.get? e=some oe/\oe.cls = .ref C/\oe.data = .fields vs/\vs[1]? = some .none/\E (.ref e) s₁) E s):
 wpAny M A (raiseStmt env (some x) none) Q E s:=by
 unfold raiseStmt;refine wpAny_bind (wpAny_mono h (fun v s₁ h₁=> ?_) fun _ _ x=>x);obtain ⟨e,oe,ob,bm,vs,rfl,⟨hC,⟨nm,q,N,bs,hdct,sn,sub,ab,col,dd,k0,k1,k2,k3,k5,rfl⟩,hv,hb,ha,hn⟩,he,hc,hd,h1,hE⟩:=h₁;obtain ⟨hp,g,d,tk,os⟩:=s₁;obtain ⟨oc,od,odt,osl⟩:=oe;simp only at hc hd;subst hc hd;have yes:(Value.ref C::bm).contains (.type "BaseException")=true:=by rw [List.contains_cons,hb,Bool.or_true]
 repeat (first
  | with_reducible refine wpAny_loadPart_at he ?_
  | with_reducible refine wpAny_loadPart_at hC ?_
  | (with_reducible refine wpAny_isSubtype_exc hC ?_;rw [yes])
  | wp_step)
 rw [h1];refine wpAny_pure ?_;rw [if_neg (by decide)];exact wpAny_pure (wpAny_raiseNew_none hh hE)
end
end PySem.W
set_option Elab.async false
set_option linter.all false
set_option maxRecDepth 100000
set_option maxHeartbeats 4000000
namespace PySem.W
open PySem PySem.Spec PySem.Calls PyProof.Rows Builtin Builtin.ObjectAttr
def uP:List Value->Bool
 | .ref _::r=>uP r
 | l=>l==[.type "ValueError",.type "Exception",.type "BaseException",.type "object"]
theorem Nb (self:Value) {l:List Value} (e:uP l=true):refuseLoop self "__setattr__" l=pure ():=by
 induction l with
 | nil=>cases e
 | cons v r ih=>
   cases v<;>first
    | (rw [refuseLoop_ref];exact ih e)
    | (cases (beq_iff_eq.mp e:(_:List Value)=_);done)
    | (rw [(beq_iff_eq.mp e:(_:List Value)=_)];exact PySem.F.store_ValueError.passes self)
structure XSa (K:Frag) (C:Addr):Prop where
 sa:findIn K (.ref C) "__setattr__" = some (some (.builtin "object.__setattr__"))
 mo:mroIn K C (.type "object")=some true
 cl:((clsIn K C).any fun cd=>cd.hasDict&&uP cd.mro)=true
section
variable {prog:Program} {w:World} {A:Around} {E:Value->Shared->Prop} {s:Shared} {K:Frag} {e C:Addr} {oe:Obj} {vs:Array Value} {name:Str} {v:Value}
theorem ZW {Q:Unit->Shared->Prop} (X:K.In s.heap) (x:XSa K C) (ht:findIn K (.ref C) name=some none) (he:s.heap.get? e=some oe) (hc:oe.cls = .ref C) (hd:oe.dict=none) (hf:oe.data = .fields vs)
 (h:∀h',h'.get? e=some {oe with dict:=some s.heap.objs.size}->h'.Ns1 s.heap.objs.size (fun y=>if y=name then some v else none)->(∀b o,b≠e->s.heap.get? b=some o->h'.get? b=some o)->Q () {s with heap:=h',toks:=s.toks+2}):
 wpAny (model prog w) A (setAttr (.ref e) name v) Q E s:=by
 have I:InstAt s.heap e oe C none:=⟨he,hc,by
  obtain ⟨c0,d0,dt,sl⟩:=oe;simp only at hf;subst hf;rfl,by rw [hd];trivial⟩
 refine set_plain X I x.sa ?_;have SF:=PySem.F.store_object;obtain ⟨cd,hcd,hh⟩:=any_some x.cl;obtain ⟨hD,hR⟩:=Bool.and_eq_true_iff.mp hh;have sub:Looks (model prog w) s.heap (isInstance (.ref e) (.type "object")) true:=I.type.andThen (looks_mroIn X x.mo);refine codeAny_call_builtin SF.slot.plain SF.entry (@check_slot (model prog w) _ _ {s with toks:=s.toks+1} "object.__setattr__" "object" "__setattr__" (.ref e) [.str name s.toks,v] [] _ SF.kind SF.split sub (SF.args (.ref e) (.str name s.toks) v) ?_);have hm:Looks (model prog w) s.heap (mroOf (.ref C)) cd.mro:=(looks_clsIn X hcd).andThen .now;rw [osa_eq,refuse_eq];refine wpAny_bind (wpAny_bind (Looks.here (s:={s with toks:=s.toks+1}) I.type (wpAny_bind (Looks.here (s:={s with toks:=s.toks+1}) hm ?_))));rw [Nb _ hR];refine wpAny_pure (wpAny_bind (Looks.here (s:={s with toks:=s.toks+1}) I.type (wpAny_bind (Looks.here (s:={s with toks:=s.toks+1}) (looks_findIn X ht) ?_))));refine wpAny_bind (Looks.here (s:={s with toks:=s.toks+1}) (.now:Looks (model prog w) s.heap (storeTaker? none) none) ?_);obtain ⟨c0,d0,dt,sl⟩:=oe;simp only at hc hd hf;subst hc hd hf;refine wpAny_bind (wpAny_pure (wpAny_bind (wpAny_bind (wpAny_loadPart he (wpAny_bind (Looks.here (s:={s with toks:=s.toks+1}) (looks_clsIn X hcd) ?_))))));rw [hD];have hxs:e≠s.heap.objs.size:=Nat.ne_of_lt (Heap.lt_size he);have he1:=Heap.get?_push_of_some {cls:= .type "dict",data:= .dict #[]} he;refine wpAny_bind (wpAny_alloc' ?_);refine wpAny_bind (wpAny_update' he1 ?_);refine wpAny_pure ?_;show wpAny _ _ (storeInDict s.heap.objs.size (.str name s.toks) name v) _ _ _;unfold storeInDict newKeyGuard;generalize hG:((s.heap.push {cls:= .type "dict",data:= .dict #[]}).update e fun o=>{cls:=o.cls,dict:=some s.heap.objs.size,data:=o.data,slots:=o.slots})=G
 have gd:G.get? s.heap.objs.size=some {cls:= .type "dict",data:= .dict #[]}:=by
  rw [←hG];exact (Heap.get?_update_ne _ _ _ _ hxs.symm).trans (Heap.get?_push_at rfl rfl)
 have ge:G.get? e=some {cls:= .ref C,dict:=some s.heap.objs.size,data:= .fields vs,slots:=sl}:=by
  rw [←hG];exact Heap.get?_update_self _ he1 rfl
 have go:∀b o,b≠e->s.heap.get? b=some o->G.get? b=some o:=fun b o nb q=>by
  rw [←hG];exact (Heap.get?_update_ne _ _ _ _ nb).trans (Heap.get?_push_of_some _ q)
 have hnd:G.Ns s.heap.objs.size (fun _=>none):=⟨_, #[],_,gd,rfl,fun e he=>absurd he (by simp),fun _=>rfl⟩;refine wpAny_bind (wpAny_pure (wpAny_bind (wpAny_nsSet1 (Heap.Ns1.of_empty hnd) fun h' hn' hs=> ?_)));obtain ⟨oD,esD,epD,hoD,hdD,hcD⟩:=hn'.count (Within.cons name v Within.nil);refine wpAny_bind (wpAny_lookBehind hoD (by rw [hdD];exact pastItsLine_dict (Nat.le_trans hcD (by rw [List.length_cons,List.length_nil,sizeLine_eq];omega))) ?_);exact wpAny_pure (h h' ((hs.2 e hxs).trans ge) hn' fun b o nb q=>(hs.2 b (Nat.ne_of_lt (Heap.lt_size q))).trans (go b o nb q))
theorem Z0 {expr:Bool} {odo:Option Obj} {Q:Value->Shared->Prop} (X:K.In s.heap) (I:InstAt s.heap e oe C odo) (hga:findIn K (.ref C) "__getattribute__" = some (some (.builtin "BaseException.__getattribute__")))
 (hk:findIn K (.ref C) "__getattr__" = some none) (hB:mroIn K C (.type "BaseException")=some true) (hf:findObj K C odo name=some (.value v)) (hv:handedIn v=true) (h:Q v {s with toks:=s.toks+1}):
 wpAny (model prog w) A (getAttr (.ref e) name expr) Q E s:=by
 obtain ⟨hh,g,d,t,os⟩:=s;have L0:=I.type (M:=model prog w);have L1:=looks_findIn (M:=model prog w) X hga;have L2:=looks_findIn (M:=model prog w) X hk;have L4:=looks_find (M:=model prog w) X I hf;have hx2:(Value.builtin "BaseException.__getattribute__" == Value.builtin "object.__getattribute__")=false:=by decide +kernel
 have f3:=(F.attr_Exception.ga).bind (.ref e);have hx0:(expr&&onTheHeap (Value.builtin "BaseException.__getattribute__"))=false:=by cases expr<;>rfl
 unfold getAttr getAttrBy;refine wpAny_bind (wpAny_mkText (wpAny_holding (wpAny_bind (L0.at (wpAny_bind (L1.at ?_))))));simp only [hx2,Bool.and_false,Bool.false_eq_true,if_false];unfold getAttrByItsOwn hookBefore;show wpAny _ _ (typeLookup (.ref C) "__getattr__" >>= _) _ _ _;refine wpAny_bind (L2.at ?_);refine wpAny_bind (wpAny_attempt (wpAny_holding ?_));unfold callGetattribute boundAndCalled;rw [hx0,if_neg (by decide)];refine wpAny_bind (wpAny_of_eq f3 ?_);refine wpAny_call (codeAny_call_builtin (F.attr_Exception.ga).plain F.entry_bexc_ga (Hs (s:=⟨hh,g,d,t+1,os⟩) X I hB ?_));show wpAny _ _ (Builtin.«object.__getattribute__» ⟨[.ref e,.str name t],[]⟩) _ _ _;unfold Builtin.«object.__getattribute__»;refine wpAny_bind (wpAny_pure ?_);refine wpAny_bind (wpAny_pure ?_);refine wpAny_bind (L0.at (wpAny_bind (L4.at ?_)));refine wpAny_pure ?_;exact handed_on hv h
end
end PySem.W
set_option Elab.async false
set_option linter.all false
set_option maxRecDepth 100000
set_option maxHeartbeats 4000000
namespace L2
open PySem PySem.Spec PyProof.Rows
def Ma (C:Addr) (dx:Option Addr) (e:Addr):HO:= .ext fun h=>∃oe vs,h.get? e=some oe/\oe.cls = .ref C/\oe.dict=dx/\oe.data = .fields vs/\vs[1]? = some .none
theorem Um {P:Program} {w:World} {H:Hp} {h:Heap} {C e:Addr} {dx:Option Addr} (x:∃oe vs,h.get? e=some oe/\oe.cls = .ref C/\oe.dict=dx/\oe.data = .fields vs/\vs[1]? = some .none):eO P w H h e (Ma C dx e):=by
 obtain ⟨oe,vs,q,r⟩:=x;exact ⟨⟨oe,vs,q,r⟩,⟨oe,q⟩,fun h1 h2 ⟨o1,v1,p1,p2⟩ k=>⟨o1,v1,k _ p1,p2⟩⟩
section
variable {X:Cx} {pins:List (Addr×Obj)} {σ:St} {H:Hp} {s:Shared} {e C:Addr} {dx:Option Addr}
theorem Inv.WW {φ:Heap->Prop} (I:Inv X pins σ (upd H e (.ext φ)) s) (he:H e=none):Inv X pins σ H s:=by
 have nn:∀b o,(upd H e (.ext φ)) b=some o->(∀ψ,o ≠ .ext ψ)->H b=some o:=fun b o q n=>by
  by_cases z:b=e
  ·rw [z,aq] at q;exact absurd (Option.some.inj q).symm (n φ)
  ·rw [aW z] at q;exact q
 have no:∀b,(upd H e (.ext φ)) b=none->H b=none:=fun b q=>by
  by_cases z:b=e
  ·rw [z,aq] at q;cases q
  ·rw [aW z] at q;exact q
 refine ⟨I.ok,I.os,I.bare,⟨I.base.keep,I.base.slot,fun b o q n hh=>no b (I.base.free b o q n hh),I.base.there,fun b xs q=>nn _ _ (I.base.tups b xs q) (by intro ψ z;cases z),fun b o u q=>nn _ _ (I.base.zO b o u q) (by intro ψ z;cases z),fun b ps q=> ?_⟩,I.loc,I.cell,no _ I.free,fun x c q=>no _ (I.mq x c q),fun p hp=> ?_,fun a o q=> ?_,I.len⟩
 ·obtain ⟨more,r⟩:=I.base.Ax b ps q
  exact ⟨more,nn _ _ r (by intro ψ z;cases z)⟩
 ·obtain ⟨a1,a2,a3⟩:=I.pin p hp
  exact ⟨a1,no _ a2,a3⟩
 ·have na:a≠e:=bw q he
  refine (I.hok a o (by rw [aW na];exact q)).stay (fun _ _ _ z=>z) (fun b z=>nn _ _ z (by intro ψ z;cases z)) fun b ys z=>nn _ _ z (by intro ψ z;cases z)
end
def ab4 (K:PySem.W.Frag) (ta tv:TE) (f:Str):TS:=fun D σ H=>tv σ H fun y H1=>ta σ H1 fun x H2=>∃e C,x = .ref e/\H2 e=some (Ma C none e)/\PySem.W.XSa K C/\BX K C f /\ ∀d,H2 d=none->D.nx σ (upd (upd H2 d (.xd [(f,y)])) e (Ma C (some d) e))
section
variable {X:Cx} {K:PySem.W.Frag} {o e value:Expr} {f:Str} {pos pos':Pos} {ta tv:TE}
theorem Xm (hK:X.K=K) (ha:PE X o ta) (hv:PE X value tv) (hs:swapsWith value (some (.Attribute o f pos')) pos.line X.env=pure false):PS X (.Assign [.Attribute o f pos'] value pos) (ab4 K ta tv f):=by
 subst hK;intro pins s σ H D I h;refine plainObj_wpAny_Assign_Attribute (fu (hv pins s σ H _ I h) fun u s1 ⟨y,H1,I1,ry,q⟩=>fu (ha pins s1 σ H1 _ I1 q) fun ov s2 ⟨x,H2,I2,rx,e,C,ex,ee,xs,na,q2⟩=> ?_) hs;subst ex;obtain rfl:ov=Value.ref e:=rx;obtain ⟨⟨oe,vs,he,hc,hd,hf,h1⟩,_⟩:=(show eO X.prog X.w H2 s2.heap e (Ma C none e) from I2.hok e _ ee);refine PySem.W.ZW I2.xR xs na he hc hd hf fun h' ge gn go=> ?_;have nd:=I2.hok.fresh (Nat.le_refl s2.heap.objs.size);have hxs:e≠s2.heap.objs.size:=Nat.ne_of_lt (Heap.lt_size he);refine ⟨σ,_, ?_,q2 _ nd⟩;obtain ⟨od,es,ep,god,r⟩:=id gn
 have fz:od.isFreed=false:=by
  cases q:od.isFreed with
  | false=>rfl
  | true=>exact absurd ((Heap.get?_some_iff.mp god).2) (by rw [q];decide)
 have p1:(s2.heap.push od).get? s2.heap.objs.size=some od:=Heap.get?_push_size _ fz
 have J1:=I2.laid (a:=s2.heap.objs.size) (o:= .xd [(f,y)]) (h':=s2.heap.push od) (t':=s2.toks) (fun b u q=>Heap.get?_push_of_some _ q) (Nat.le_refl _) ⟨_,⟨od,es,ep,p1,r⟩,fun g=>by
  show Lr (List.lookup g [(f,y)]) (if g=f then some u else none)
  by_cases z:g=f
  ·subst z
   rw [if_pos rfl,show List.lookup g [(g,y)]=some y by simp [List.lookup]];exact ry
  ·rw [if_neg z]
   have:(g==f)=false:=by simpa using z
   simp only [List.lookup,this];trivial⟩
 have J2:=J1.write (x:=e) (e:=e) (o:=Ma C (some s2.heap.objs.size) e) (h':=h') (t':=s2.toks+2) (by rw [aW hxs,ee];exact True.intro) (.inl rfl) (fun b u nb q=> ?_) ⟨_,ge⟩ (Um ⟨_,vs,ge,hc,rfl,hf,h1⟩)
 ·exact J2
 ·rcases Heap.get?_push_cases q with ⟨rfl,rfl⟩|q
  ·exact god
  ·exact go b u nb q
end
def wU (P:Program) (w:World) (K:PySem.W.Frag) (mg:Str->Option Value) (base:Heap) (k:Nat) (C:Addr) (x:Str) (ps:List Str) (sp:Sp):Prop:=
 ∃f fd,dM P w K mg base tV k f fd ps sp/\PySem.W.findIn K (.ref C) "__init__" = some (some (.ref f))/\PySem.W.typeIn K (.ref f)=some (.type "function")/\PySem.W.Od K C=true/\mg x=some (.ref C)/\PySem.W.keepIn K (.ref C)=true/\Binds K fd ps []
section
variable {X:Cx} {k:Nat} {C:Addr} {x:Str} {ps:List Str} {sp:Sp} {pins:List (Addr×Obj)} {σ:St} {H:Hp} {s:Shared}
theorem QG {us:List Value} {vs:List V} {G:Addr->Hp->Prop} (M:wU X.prog X.w X.K X.mg X.base k C x ps sp) (hx:X.ex=[]) (hr:lH (k+1) X.A) (I:Inv X pins σ H s) (r:Vals vs us) (hl:vs.length<=sizeLine)
 (h:∀e,H e=none->sp (.ref e::vs) (upd H e (Ma C none e)) (fun v H2=>v = .non/\G e H2) E0):
 wpAny (model X.prog X.w) X.A (call (.ref C) us) (fun v s2=>∃e H2,v = .ref e/\Hz X pins H e/\Inv X pins σ H2 s2/\G e H2) X.xe s:=by
 obtain ⟨f,fd,F,hi,hf,hj,hm,hk,hb⟩:=M;have fr:s.heap.get? (s.heap.objs.size+1)=none:=Heap.get?_none_of_le (Nat.le_succ _);have fp:=I.xfp hx fr;have q:=h _ fp.1;have kp:∀b o,s.heap.get? b=some o->((s.heap.push (PySem.W.zc us)).push (PySem.W.xNew C s.heap.objs.size)).get? b=some o:=fun b o e=>Heap.get?_push_of_some _ (Heap.get?_push_of_some _ e)
 have gx:((s.heap.push (PySem.W.zc us)).push (PySem.W.xNew C s.heap.objs.size)).get? (s.heap.objs.size+1)=some (PySem.W.xNew C s.heap.objs.size):=by
  have:=Heap.get?_push_size (s.heap.push (PySem.W.zc us)) (o:=PySem.W.xNew C s.heap.objs.size) rfl;rwa [Heap.size_push] at this
 have I1:Inv X pins σ H {s with heap:=s.heap.push (PySem.W.zc us)}:=I.kept (t':=s.toks) fun b o e=>Heap.get?_push_of_some _ e
 have I2:Inv X pins σ (upd H (s.heap.objs.size+1) (Ma C none (s.heap.objs.size+1))) {s with heap:=(s.heap.push (PySem.W.zc us)).push (PySem.W.xNew C s.heap.objs.size)}:=
  I1.laid (a:=s.heap.objs.size+1) (o:=Ma C none (s.heap.objs.size+1)) (t':=s.toks) (fun b o e=>Heap.get?_push_of_some _ e) (Nat.le_of_eq (Heap.size_push _ _)) (Um ⟨_,_,gx,rfl,rfl,rfl,rfl⟩)
 have r2:Vals (V.ref (s.heap.objs.size+1)::vs) (Value.ref (s.heap.objs.size+1)::us):= .cons rfl r;have hlen:(Value.ref (s.heap.objs.size+1)::us).length=ps.length:=by rw [←r2.length];exact F.len _ _ _ _ q
 have hbd:=hb {s with heap:=(s.heap.push (PySem.W.zc us)).push (PySem.W.xNew C s.heap.objs.size)} (Value.ref (s.heap.objs.size+1)::us) I2.xR (by rw [List.append_nil];exact hlen);rw [List.append_nil] at hbd;obtain ⟨ob,bm,J⟩:=PySem.W.Y0 I.xR hj;obtain ⟨hh,g,d,t,os⟩:=s;refine wpAny_call (PySem.W.WM J (PySem.W.looks_findIn I.xR hi) (fun self=>PySem.W.bind_fn I.xR self hf) (by rw [←r.length];exact hl) (codeAny_mono (F.run _ X.stack _ _ ⟨Value.ref (hh.objs.size+1)::us,[]⟩ (Value.ref (hh.objs.size+1)::us) _ _ E0 (hr.make C us []) (I2.env0.make C us []) hbd r2 q) fun res s' hq=> ?_))
 match res,hq with
 | .error ev,hq=>exact hq.elim
 | .ok (.ret u),hq=>
   obtain ⟨v,H',I3,rv,ev,q3⟩:=I2.after hq;subst ev;exact ⟨rv,⟨_,H',rfl,fp,I3,q3⟩⟩
end
def Pa (C:Addr) (sp:Sp) (E:St->XK) (t:TA):TS:=fun _ σ H=>t σ H fun vs H1=>vs.length<=sizeLine /\ ∀e,H1 e=none->sp (.ref e::vs) (upd H1 e (Ma C none e)) (fun v H2=>v = .non /\ ∃d H3,H2=upd H3 e (Ma C (some d) e)/\H3 e=none/\E σ (.ref C) (some d) H3) E0
section
variable {X:Cx} {k:Nat} {C:Addr} {x:Str} {ps:List Str} {sp:Sp} {e:Expr} {es:List Expr} {t:TA} {p pos cpos:Pos} {E:St->XK}
theorem jF (M:wU X.prog X.w X.K X.mg X.base k C x ps sp) (hx:X.ex=[]) (hc:X.calm=true) (R:Rz X E) (hr:lH (k+1) X.A) (hg:Gl X x) (ha:PA X (e::es) t) (hdb:(x==("__debug__" :Str))=false:=by decide)
 (he:starEach (e::es) X.env=(false,eval e X.env)::starEach es X.env:=by rfl) (hpl:(backTo cpos (starEach es X.env)).any (·.1)=false:=by rfl):
 PS X (.Raise (some (.Call (.Name x p) (e::es) [] cpos)) none pos) (Pa C sp E t):=by
 have hm:=M;obtain ⟨f,fd,F,hi,hf,hj,hmg,hk,hb⟩:=hm;intro pins s σ H D I h;rw [arm_exec_Raise];refine wpAny_bind (wpAny_standAt ?_);simp only [evalOpt,Option.map];refine PySem.W.SQ (C:=C) (I.ok.hd hc) (wpAny_bind (wpAny_mono (Q:=fun v s1=>∃e oe ob bm vs,v = .ref e/\PySem.W.XJ s1.heap C ob bm/\s1.heap.get? e=some oe/\oe.cls = .ref C/\oe.data = .fields vs/\vs[1]? = some .none/\X.xe (.ref e) s1) ?_ (fun v s1 z=>wpAny_bind (wpAny_standAt (wpAny_pure z))) fun _ _ z=>z));refine wpAny_Call_Name_kw (xP I hg hmg ?_ hdb);refine PySem.W.callWith_K (h₀:=X.base) I.ok.mod.kin hk (fu (ha cpos pins s σ H _ I h) fun us s1 ⟨vs,H1,I1,r,hl,q⟩=>⟨I1.xR, ?_⟩) he hpl;refine wpAny_mono (QG (G:=fun e H2=>∃d H3,H2=upd H3 e (Ma C (some d) e)/\H3 e=none/\E σ (.ref C) (some d) H3) M hx hr I1 r hl q) (fun v s2 ⟨e,H2,ev,fp,I2,d,H3,eH,fe,q3⟩=> ?_) fun _ _ z=>z;subst ev eH;obtain ⟨⟨oe,vs',g1,g2,g3,g4,g5⟩,_⟩:=(show eO X.prog X.w _ s2.heap e (Ma C (some d) e) from I2.hok e _ aq);obtain ⟨ob,bm,J⟩:=PySem.W.Y0 I2.xR hj;have I3:=I2.WW fe;exact ⟨e,oe,ob,bm,vs',rfl,J,g1,g2,g4,g5,R pins σ H3 s2 e (.ref C) (some d) none (.inl rfl) I3 ⟨fe,fp.2⟩ ⟨oe,vs',g1,g2,g3,g4,g5⟩ q3⟩
end
def XAt (H:Hp) (e C:Addr) (fs:List (Str×V)):Prop:=(H e=some (XO C none e)/\fs=[]) \/ ∃d,H e=some (XO C (some d) e)/\H d=some (.xd fs)
def abS (K:PySem.W.Frag) (ta:TE) (f:Str):TE:=fun σ H Q=>ta σ H fun x H1=>∃e C d fs v,x = .ref e/\H1 e=some (XO C (some d) e)/\H1 d=some (.xd fs)/\PySem.W.RL K C/\PySem.W.hasDictIn K C=true/\BX K C f/\fs.lookup f=some v/\Q v H1
section
variable {X:Cx} {K:PySem.W.Frag} {e:Expr} {f:Str} {pos:Pos} {ta:TE} {pins:List (Addr×Obj)} {σ:St} {H:Hp} {s:Shared}
theorem O6 {e' C d:Addr} {fs:List (Str×V)} (I:Inv X pins σ H s) (he:H e'=some (XO C (some d) e')) (hd:H d=some (.xd fs)):∃(ox od:Obj) (mA:Str->Option Value),PySem.W.InstAt s.heap e' ox C (some od)/\(∀f,Lr (fs.lookup f) (mA f)) /\ ∀name,PySem.W.lookIn name od=some (mA name):=by
 obtain ⟨⟨oe,vs,q,hc,hdx,hf⟩,_⟩:=(show eO X.prog X.w H s.heap e' (XO C (some d) e') from I.hok e' _ he);obtain ⟨mA,n1,r⟩:=(show eO X.prog X.w H s.heap d (.xd fs) from I.hok d _ hd);obtain ⟨od,ho,hl⟩:=Ho n1;exact ⟨oe,od,mA,⟨q,hc,xY hf,by rw [hdx];exact ho⟩,r,hl⟩
theorem Xw (hK:X.K=K) (he:PE X e ta) (hb:attributeBase e f X.env (eval e X.env)=eval e X.env):PE X (.Attribute e f pos) (abS K ta f):=by
 subst hK;intro pins s σ H Q I h;refine YF hb (fu (he pins s σ H _ I h) fun u s1 ⟨x,H1,I1,rx,a,C,d,fs,v,ex,ea,ed,xc,hd,n,l,q⟩=> ?_);subst ex;obtain rfl:u=Value.ref a:=rx;obtain ⟨ox,od,mA,J,r,hl⟩:=O6 I1 ea ed;obtain ⟨u',hu,ru⟩:=Lr.some_of (v:=v) (o:=mA f) (by rw [←l];exact r f);exact PySem.W.Z0 I1.xR J xc.hga xc.hk xc.hB (PySem.W.findObj_own hd n rfl (by rw [hl,hu])) (Rf ru) ⟨v,H1,I1.tok _,ru,q⟩
theorem J0 {e' C:Addr} {fs:List (Str×V)} (I:Inv X pins σ H s) (x:XAt H e' C fs):∃ox odo,PySem.W.InstAt s.heap e' ox C odo:=by
 rcases x with ⟨h,_⟩|⟨d,h,hd⟩
 ·exact WL (I.hok e' _ h)
 ·obtain ⟨ox,od,_,J,_⟩:=O6 I h hd
  exact ⟨ox,some od,J⟩
theorem tO {c:Value} {cv:V} (hk:X.K=K) (rc:∀u,RelV cv u->u=c):jL X (.builtin "isinstance") (fun xs H Q=>∃(e C:Addr) (fs:List (Str×V)) (b:Bool),xs=[.ref e,cv]/\XAt H e C fs/\PySem.W.RL K C/\PySem.W.kitOne K (.ref C) c=some b/\Q (.bl b) H):=by
 subst hk;intro pins s σ H xs us Q I r h;obtain ⟨e,C,fs,b,rfl,he,xc,hb,q⟩:=h;obtain ⟨u,w',rfl,r1,r2⟩:=vals2 r;cases (show u=Value.ref e from r1);have:=rc _ r2;subst this;exact PySem.W.kia_one (PySem.W.KY xc) I.xR (J0 I he) hb (by intro z;cases z) fun tk=>⟨.bl b,H,I.tok _,rfl,q⟩
theorem Hu (hk:X.K=K):jL X (.builtin "isinstance") (fun xs H Q=>∃(e t C:Addr) (fs:List (Str×V)) (cs:List Addr) (b:Bool),xs=[.ref e,.ref t]/\XAt H e C fs/\PySem.W.RL K C/\H t=some (.tup (cs.map V.ref)) /\
 PySem.W.kitAny K (.ref C) (cs.map Value.ref)=some b/\Q (.bl b) H):=by
 subst hk;intro pins s σ H xs us Q I r h;obtain ⟨e,t,C,fs,cs,b,rfl,he,xc,ht,hb,q⟩:=h;obtain ⟨u,w',rfl,r1,r2⟩:=vals2 r;cases (show u=Value.ref e from r1);cases (show w'=Value.ref t from r2);obtain ⟨its,rv,⟨o,ho,hc,m,hd⟩,hz⟩:=I.tuple (eU.of ht);have ei:=Qt rv;subst ei;obtain ⟨c0,d0,dt,sl⟩:=o;simp only at hc hd;subst hc hd;exact PySem.W.kia_tup (PySem.W.KY xc) I.xR (J0 I he) ho hb (by intro z;cases z) fun tk=>⟨.bl b,H,I.tok _,rfl,q⟩
end
structure Xf (K:PySem.W.Frag) (mg:Str->Option Value) (C:Addr) (nm f:Str):Prop where
 bd:mg nm=some (.ref C)
 hd:XHd K C
 xc:PySem.W.RL K C
 ve:PySem.W.subIn K (.ref C) (.type "ValueError")=some true
 sa:PySem.W.XSa K C
 dc:PySem.W.hasDictIn K C=true
 na:BX K C f
end L2
set_option Elab.async false
set_option linter.all false
set_option maxRecDepth 100000
set_option maxHeartbeats 4000000
namespace L2
open PySem PySem.Spec PyProof.Rows
theorem Og {prog:Program} {w:World} {A:Around} {it:Addr} {fp:List Addr} {n:Nat} {P:Nat->Value->Prop} {St:Nat->Heap->Prop} (c:Nat) (D:Draws prog w A it fp n P St):
 Draws prog w A it fp (n+c) (fun i v=>P (i - c) v) (fun i h=>c<=i/\St (i - c) h) where
 live:=fun i h st=>D.live _ h st.2
 frame:=fun i h h' st k=>⟨st.1,D.frame _ h h' st.2 k⟩
 item:=fun i s Q E hi st hQ=>D.item (i - c) s Q E (by have:=st.1;omega) st.2 fun x h' tk p st' sb=>hQ x h' tk p ⟨by have:=st.1;omega,by rw [show i+1 - c=i - c+1 by have:=st.1;omega];exact st'⟩ sb
 done:=fun s Q E st hE=>D.done s Q E (by have:=st.2;rwa [Nat.add_sub_cancel] at this) hE
def Wr (K:PySem.W.Frag) (l:Addr):It:=
 ⟨fun i H=>∃xs x,bO K H l xs/\xs[i]? = some x,fun i H x H'=>∃(p:Addr) (y:V),x = .ref p/\H p=none/\(∀xs,bO K H l xs->xs[i]? = some y)/\H'=upd H p (.tup [.int ((i:Int)+1),y]),fun i H=>∃xs,bO K H l xs/\xs.length<=i⟩
theorem Ms {P:Program} {w:World} {K:PySem.W.Frag} {elts:List Expr} {x1:Nat} {pos:Pos} (l e it:Addr) (hne:e≠it) (hli:l≠it) (hle:l≠e):Turn P w K (.Tuple elts x1 pos) (Wr K l) [e,it] e (fun i h=>(∃old,IsEnum h e it ((i+1:Nat):Int) old)/\h.IsListIter it l i) where
 mem:=by simp
 obj:=fun i h st b hb=>by
  obtain ⟨⟨old,he⟩,o,ho,c,d⟩:=st;have hb':b=e\/b=it:=by simpa using hb
  rcases hb' with rfl|rfl
  ·exact ⟨_,he,fun v z=>by cases z⟩
  ·exact ⟨o,ho,fun v z=>by rw [d] at z;cases z⟩
 keep:=fun i h h' st k=>by
  obtain ⟨⟨old,he⟩,o,ho,c,d⟩:=st;exact ⟨⟨old,k e (by simp) _ he⟩,o,k it (by simp) _ ho,c,d⟩
 item:=by
  intro X hP hw hK hc i pins s σ H E I hf st hg;subst hP hw hK;obtain ⟨xs,x,hq,hx⟩:=hg;obtain ⟨its,rv,p,hz⟩:=I.list hq;obtain ⟨u,hu,ru⟩:=rv.get hx;obtain ⟨⟨old,he⟩,hi⟩:=st;have elt:=Heap.lt_size he;have ilt:it<s.heap.objs.size:=by obtain ⟨o,ho,_⟩:=id hi;exact Heap.lt_size ho
  have il:i<its.length:=(List.getElem?_eq_some_iff.mp hu).1;refine wpAny_pyNext_enum_itemD (Og 1 (Draws.list (A:=X.A.in1) (show X.A.in1.handled=none from I.ok.hd hc) it l hli its.toArray)) he ⟨by omega,by rw [Nat.add_sub_cancel];exact hi,p.isList⟩ (by simp;omega) hne (by simp [hne,Ne.symm hle]) fun v h' tk pv hout st' htup hsz hk=> ?_
  have ev:v=u:=by
   have:its.toArray[i+1 - 1]? = some v:=pv;rw [Nat.add_sub_cancel] at this;have e2:its.toArray[i]? = some u:=by simpa using hu
   rw [e2] at this;exact (Option.some.inj this).symm
  subst ev;obtain ⟨_,hit,_⟩:=st';rw [Nat.add_sub_cancel] at hit;refine ⟨_,rfl, ?_⟩;refine wpAny_letOwnedTupleGo_enum hout fun h2 he2 sb=> ?_;have hfr:H s.heap.objs.size=none:=I.hok.fresh (Nat.le_refl _)
  have I0:Inv X pins σ (upd H s.heap.objs.size (.tup [.int ((i:Int)+1),x])) {s with heap:=s.heap.push {cls:= .type "tuple",data:= .seq #[.int ((i+1:Nat):Int) tk,v]}}:=
   I.laid (t':=s.toks) (fun b o e=>Heap.get?_push_of_some _ e) (Nat.le_refl _) ⟨by show 2<=sizeLine;decide,[.int ((i+1:Nat):Int) tk,v],.cons ⟨tk,rfl⟩ (.cons ru .nil),⟨_,Heap.get?_push_size _ rfl,rfl,_,rfl⟩⟩
  have ne1:e≠s.heap.objs.size:=Nat.ne_of_lt elt;have ne2:it≠s.heap.objs.size:=Nat.ne_of_lt ilt
  have Zi:∀b∈[e,it],wY X pins (upd H s.heap.objs.size (.tup [.int ((i:Int)+1),x])) b:=fun b hb=>by
   have hb':b=e\/b=it:=by simpa using hb
   rcases hb' with rfl|rfl
   ·exact (hf _ (by simp)).upd ne1
   ·exact (hf _ (by simp)).upd ne2
  have I1:=I0.xJ (h':=h2) (t':=tk+1) Zi (fun b o hb eb=>by
   have b1:b≠e:=fun z=>hb (by simp [z]);have b2:b≠it:=fun z=>hb (by simp [z]);rw [sb.2 b b1];rcases E_ rfl eb with ⟨rfl,rfl⟩|eb
   ·exact htup
   ·exact hk b o b1 b2 eb)
  refine ⟨.ref s.heap.objs.size,_,I1,rfl,⟨s.heap.objs.size,x,rfl,hfr,fun ys hy=>by rw [I.wD hy hq];exact hx,rfl⟩,⟨⟨v,he2⟩, ?_⟩,fun b hb=>(Zi b hb).1⟩;obtain ⟨o,ho,c,d⟩:=hit;exact ⟨o,(sb.2 it (Ne.symm hne)).trans ho,c,d⟩
 done:=by
  intro X hP hw hK hc i pins s σ H E I hf st hg;subst hP hw hK;obtain ⟨xs,hq,hx⟩:=hg;obtain ⟨its,rv,p,hz⟩:=I.list hq;obtain ⟨⟨old,he⟩,hi⟩:=st;have hl:=rv.length
  have D:Draws X.prog X.w X.A.in1 it [it,l] 0 (fun _ _=>False) (fun _ h=>h.IsListIter it l i/\h.IsList l its.toArray):=
   ⟨fun _ _ st=>let ⟨o,ho,_⟩:=st.1;⟨o,ho⟩,fun _ _ _ st k=>⟨st.1.at fun o e=>k it (by simp) o e,st.2.at fun o e=>k l (by simp) o e⟩,fun _ _ _ _ z=>absurd z (by omega),fun t Q E' st hE=>wpAny_nextOf_list_end (show X.A.in1.handled=none from I.ok.hd hc) st.1 st.2 (by simp;omega) hE⟩
  refine wpAny_pyNext_enum_endD D he ⟨hi,p.isList⟩ fun h' eb=>⟨rfl,I.xJ (t':=s.toks) hf (fun b o hb e=>eb b o (fun z=>hb (by simp [z])) e)⟩
 self:=fun _ _ _ _ _ st h=>by
  obtain ⟨⟨old,he⟩,_⟩:=st;exact wpAny_pyIter_enum he h
end L2
set_option Elab.async false
set_option linter.all false
set_option maxRecDepth 100000
set_option maxHeartbeats 4000000
namespace PySem
open Sem (wp)
open AutoSeq1 (wpAny_loadPart')
theorem Q7 (l:Addr) (items:Array Value) (n:Nat) (dct:Option Addr) (sl:Array (Option Value)) (t:Tok):
 Meets (Builtin.«enumerate.__new__» ⟨[.type "enumerate",.ref l],[("start",.int 1 t)]⟩) (fun _ R s=>s.heap.get? l=some {cls:= .type "list",dict:=dct,data:= .seq items n,slots:=sl} /\
  R (.ok (.ret (.ref (s.heap.objs.size+1))))
   {s with heap:=(s.heap.push {cls:= .type "list_iterator",data:= .fields #[.ref l,.int 0 0]}).push {cls:= .type "enumerate",data:= .fields #[.none,.bool false,.ref s.heap.objs.size,rawInt 1,.none,.none]}}):=
 .of_wp fun prog w A R s h=>by
  obtain ⟨hp,g,d,tk,os⟩:=s;obtain ⟨hl,h⟩:=h;have hsub:=sub_enumerate;have hL:Heap.IsList (Shared.heap ⟨hp,g,d,tk,os⟩) l items:=⟨_,hl,rfl,n,rfl⟩
  wp_walk using wpAny_loadPart' hl
  refine wpAny_stack_any fun st=>wpAny_pure ?_;have hz:(hp.push {cls:= .type "list_iterator",data:= .fields #[.ref l,.int 0 0]}).objs.size=hp.objs.size+1:=Heap.size_push ..;rw [←hz] at h;split
  ·rename_i c _ _ _ _ _
   cases (c==Value.type "enumerate")
   ·wp_walk using wpAny_loadPart' hl,wpAny_pyIter_list hL
    exact ⟨_,rfl,h⟩
   ·wp_walk using wpAny_loadPart' hl,wpAny_pyIter_list hL
    exact ⟨_,rfl,h⟩
  ·wp_walk using wpAny_loadPart' hl,wpAny_pyIter_list hL
   exact ⟨_,rfl,h⟩
theorem U3 {self a v:Value} {k:Str} (T newId:String) (hl:typeLookup (.type T) "__init__" = pure (some (.builtin "object.__init__"))) (hm:Bind.madeBy (.type T)=pure (some newId)) (hne:(some newId != some "object.__new__")=true):
 Meets (Builtin.«object.__init__» ⟨[self,a],[(k,v)]⟩) (fun _ R s=>s.TypeIs self T/\R (.ok (.ret .none)) s):=by
 refine Meets.of_wp fun prog w A R s hs=> ?_;obtain ⟨hT,hq⟩:=hs
 repeat (any_goals (first |assumption|wp_step))
 exact ⟨_,rfl,hq⟩
section
variable {prog:Program} {w:World} {A:Around} {E:Value->Shared->Prop} {s:Shared}
theorem Om {l:Addr} {items:Array Value} {t:Tok} {Q:Value->Shared->Prop} (hL:s.heap.IsList l items)
 (h:∀h',IsEnum h' (s.heap.objs.size+1) s.heap.objs.size 1 .none->h'.IsListIter s.heap.objs.size l 0 ->
   (∀b o,s.heap.get? b=some o->h'.get? b=some o)->Q (.ref (s.heap.objs.size+1)) {s with heap:=h'}):
 wpAny (model prog w) A (call (.type "enumerate") [.ref l] [("start",.int 1 t)]) Q E s:=by
 obtain ⟨⟨c,dct,dt,sl⟩,hl,hc,n,hd⟩:=hL
 replace hc:c = .type "list" :=hc
 replace hd:dt = .seq items n:=hd
 subst hc hd;have ft:=F.called_enumerate;obtain ⟨cc,tl,hmro⟩:=ft.mro;have hmade:=ft.made;have hsub:=ft.sub;have hct:checkTypeCall "enumerate" ⟨[.ref l],[("start",.int 1 t)]⟩=pure ():=by kernel_rfl
 have hcn:checkBuiltinCall "enumerate.__new__" ⟨[.type "enumerate",.ref l],[("start",.int 1 t)]⟩=pure ():=by kernel_rfl
 refine wpAny_call (codeAny_of_tree ?_);show wpAny _ _ (callAny (.type "enumerate") _) _ _ _;refine wpAny_pure ⟨Code.quiet_builtin _ (by decide +kernel),codeAny_builtin F.entry_type_call ?_⟩;rw [Around.under_plain (weight_type_call_type "enumerate" [.ref l] [("start",.int 1 t)]) (units_type_call_type "enumerate" [.ref l] [("start",.int 1 t)])];have h1:=ft.notType;have h2:=ft.canCreate
 repeat (any_goals (first |assumption|wp_step))
 have hz:(s.heap.push {cls:= .type "list_iterator",data:= .fields #[.ref l,.int 0 0]}).objs.size=s.heap.objs.size+1:=Heap.size_push ..;generalize hh:(s.heap.push {cls:= .type "list_iterator",data:= .fields #[.ref l,.int 0 0]}).push {cls:= .type "enumerate",data:= .fields #[.none,.bool false,.ref s.heap.objs.size,rawInt 1,.none,.none]}=h'
 have he:IsEnum h' (s.heap.objs.size+1) s.heap.objs.size 1 .none:=by
  rw [←hh,←hz];exact Heap.get?_push_size _ rfl
 have hi:h'.IsListIter s.heap.objs.size l 0:=by
  rw [←hh];exact ⟨_,Heap.get?_push_of_some _ (Heap.get?_push_size _ rfl),rfl,rfl⟩
 have hk:∀b o,s.heap.get? b=some o->h'.get? b=some o:=fun b o e=>by
  rw [←hh];exact Heap.get?_push_of_some _ (Heap.get?_push_of_some _ e)
 have fin:=h h' he hi hk;have hT:Shared.TypeIs {s with heap:=h'} (.ref (s.heap.objs.size+1)) "enumerate" :=⟨_,he,rfl⟩
 have acB:codeAny (model prog w) A.in1 (Code.call (.builtin "enumerate.__new__") ⟨[.type "enumerate",.ref l],[("start",.int 1 t)]⟩) (fun r s₁=>r = .ok (.ret (.ref (s.heap.objs.size+1)))/\s₁={s with heap:=h'}) s:=
  codeAny_call_builtin ft.plain F.entry_enumerate_new (wpAny_of_eq hcn (Q7 l items n dct sl t prog w A.in1 (fun r s₁=>r = .ok (.ret (.ref (s.heap.objs.size+1)))/\s₁={s with heap:=h'}) s (And.intro hl (And.intro rfl (by rw [hh])))))
 refine codeAny_mono acB fun r s₁ hr=> ?_;obtain ⟨rfl,rfl⟩:=hr;have hli:=ft.init.lookup;have hbi:=ft.init.bind (.ref (s.heap.objs.size+1))
 repeat (any_goals (first |assumption|wp_step))
 have hok:argsOk "object.__init__" ⟨[.ref (s.heap.objs.size+1),.ref l],[("start",.int 1 t)]⟩:=by unfold argsOk;kernel_rfl
 have acA:codeAny (model prog w) A.in1 (Code.call (.builtin "object.__init__") ⟨[.ref (s.heap.objs.size+1),.ref l],[("start",.int 1 t)]⟩) (fun r s₂=>r = .ok (.ret .none)/\s₂={s with heap:=h'}) {s with heap:=h'}:=
  codeAny_call_builtin ft.init.plain F.entry_object_init (ft.init.check _ _ _ _ _ _ _ _ hT hok (U3 "enumerate" "enumerate.__new__" ft.init.lookup ft.made (by decide) prog w A.in1 (fun r s₂=>r = .ok (.ret .none)/\s₂={s with heap:=h'}) {s with heap:=h'} (And.intro hT (And.intro rfl rfl))))
 refine codeAny_mono acA fun r₂ s₂ hr₂=> ?_;obtain ⟨rfl,rfl⟩:=hr₂
 repeat (any_goals (first |assumption|wp_step))
end
end PySem
namespace L2
open PySem PySem.Spec PyProof.Rows
section
variable {X:Cx}
def aaL (K:PySem.W.Frag) (ta:TA):TI:=fun σ H R=>ta σ H fun vs H1=>∃l xs,vs=[.ref l]/\bO K H1 l xs/\R (Wr K l) H1
theorem QM {K:PySem.W.Frag} {a ke:Expr} {ta:TA} {p pos kp:Pos} {elts:List Expr} {x1:Nat} {tpos:Pos} (hK:X.K=K) (hg:Gl X "enumerate") (hm:X.mg "enumerate" = none) (ha:PA X [a] ta) (hk:PE X ke (tC (V.int 1)))
 (he:backTo pos (starEach [a] X.env)=(false,eval a X.env)::backTo pos (starEach [] X.env):=by rfl)
 (hplain:((backTo pos (starEach [a] X.env)).any (·.1)||(backToKw pos (keywordEach [⟨some "start",ke,kp⟩] X.env)).any (·.1.isNone))=false:=by rfl)
 (hall:(backToKw pos (keywordEach [⟨some "start",ke,kp⟩] X.env)).all (·.1.isSome)=true:=by rfl):PI X (.Tuple elts x1 tpos) (.Call (.Name "enumerate" p) [a] [⟨some "start",ke,kp⟩] pos) (aaL K ta):=by
 subst hK;intro pins s σ H R I h;refine wpAny_Call_Name_kw (wF I hg hm JC ?_ (by decide) (by decide));refine PySem.W.callWith_of (P:=fun _=>True) hplain (fun _ _=>⟨.machine,.inr (.inl rfl),PySem.W.Looks.of_pure rfl⟩) ?_;rw [he];refine PyProof.Rows.evalArgs_kwB hall ?_;rw [←he];refine fu (ha pos pins s σ H _ I h) fun us s1 ⟨vs,H1,I1,r1,q1⟩=> ?_;refine PyProof.Rows.kws_cons (fu (hk pins s1 σ H1 (fun x H2=>x=V.int 1/\H2=H1) I1 ⟨rfl,rfl⟩) fun dv s2 ⟨x,H2,I2,r2,q2⟩=>PyProof.Rows.kws_nil ⟨trivial, ?_⟩);obtain ⟨rfl,rfl⟩:=q2;obtain ⟨t,rfl⟩:=r2;obtain ⟨l,xs,e,hq,q⟩:=q1;subst e;cases r1 with
 | cons r rr=>
   cases rr;cases r;obtain ⟨its,rv,pl,hz⟩:=I2.list hq;have llt:l<s2.heap.objs.size:=by obtain ⟨o,ho,_⟩:=pl.isList;exact Heap.lt_size ho
   show wpAny (model X.prog X.w) X.A (call (.type "enumerate") [.ref l] [(Str.ofString "start",.int 1 t)]) _ _ s2;refine Om pl.isList fun h' hE hI hk'=> ?_;refine wpAny_pyIter_enum hE ?_;have I3:Inv X pins σ H2 {s2 with heap:=h'}:=I2.kept (t':=s2.toks) hk';refine ⟨s2.heap.objs.size+1,[s2.heap.objs.size+1,s2.heap.objs.size],_,_,H2,rfl,I3,Ms l _ _ (by simp) (Nat.ne_of_lt llt) (Nat.ne_of_lt (Nat.lt_succ_of_lt llt)),⟨⟨_,hE⟩,hI⟩,fun b hb=> ?_,q⟩;have hb':b=s2.heap.objs.size+1\/b=s2.heap.objs.size:=by simpa using hb
   rcases hb' with rfl|rfl
   ·exact I2.Gz (Nat.le_succ _) (I2.hok.fresh (Nat.le_succ _))
   ·exact I2.Gz (Nat.le_refl _) (I2.hok.fresh (Nat.le_refl _))
end
section
variable {K:PySem.W.Frag} {a l1 l2:Addr} {xs ys:List V} {g:TG} {tb:TS} {D:Ends} {σ:St} {H:Hp}
theorem Rh (Pv:Nat->St->Hp->Prop) (h0:Pv 0 σ H) (hl:∀i σ H,i<=xs.length->Pv i σ H->bO K H a xs)
 (hs:∀i x σ H p,xs[i]? = some x->Pv i σ H->H p=none->g (.ref p) σ (upd H p (.tup [.int ((i:Int)+1),x])) fun σ2 H2=>tb {D with nx:=Pv (i+1),ct:=Pv (i+1),bk:=D.nx} σ2 H2) (hd:∀σ H,Pv xs.length σ H->D.nx σ H):
 ∃W:Nat->Nat->St->Hp->Prop,(∃m,W 0 m σ H) /\ ∀i m σ H,W i m σ H ->
  ((Wr K a).stop i H/\D.nx σ H)\/((Wr K a).go i H /\ ∃N:St->Hp->Prop,(∀σ' H',N σ' H' -> ∃m',m'<m/\W (i+1) m' σ' H') /\ ∀x H',(Wr K a).ZV i H x H'->g x σ H' fun σ2 H2=>tb {D with nx:=N,ct:=N,bk:=D.nx} σ2 H2):=by
 refine ⟨fun i m σ H=>m=xs.length - i/\i<=xs.length/\Pv i σ H,⟨xs.length,by simp,Nat.zero_le _,h0⟩, ?_⟩;rintro i m σ H ⟨rfl,hi,p⟩;have q:=hl i σ H hi p
 by_cases hlt:i<xs.length
 ·refine .inr ⟨⟨xs,xs[i],q,by simp [hlt]⟩,Pv (i+1),fun σ' H' p'=>⟨xs.length - (i+1),by omega,rfl,hlt,p'⟩,fun x H' y=> ?_⟩
  obtain ⟨t,z,rfl,ht,hz,rfl⟩:=y;exact hs i z σ _ t (hz xs q) p ht
 ·have e:i=xs.length:=by omega
  subst e;exact .inl ⟨⟨xs,q,Nat.le_refl _⟩,hd σ H p⟩
end
end L2
set_option Elab.async false
set_option linter.all false
set_option maxRecDepth 100000
set_option maxHeartbeats 4000000
namespace L2
open PySem PySem.Spec PyProof.Rows
def Rk (e:DictEntry):Option (Str×Addr):=match e.key,e.val with
 | .str x _,.ref b=>some (x,b)
 | _,_=>none
def Ea:Value->Option Str
 | .str x _=>some x
 | _=>none
def TxT (K:PySem.W.Frag) (a:Addr) (D:List (Str×Addr)):Prop:=(a==sysModules)=false /\ ∃es ep sl,K.lookup a=some ⟨.type "dict",none,.dict es ep,sl⟩/\es.toList.map Rk=D.map some
theorem Lb {e:DictEntry} {x:Str} {b:Addr} (h:Rk e=some (x,b)):(∃t,e.key = .str x t)/\e.val = .ref b:=by
 unfold Rk at h;split at h
 ·rename_i y t c e1 e2
  cases h;exact ⟨⟨t,e1⟩,e2⟩
 ·cases h
def look (x:Str):List (Str×Addr)->Option Addr
 | []=>none
 | (y,b)::D=>if x=y then some b else look x D
theorem La (x:Str):∀{l:List DictEntry} {D:List (Str×Addr)},l.map Rk=D.map some->(l.find? fun e=>e.key.isStr x).map (·.val)=(look x D).map Value.ref
 | [],[],_=>rfl
 | [],_::_,h=>by cases h
 | _::_,[],h=>by cases h
 | e::l,(y,b)::D,h=>by
   simp only [List.map_cons,List.cons.injEq] at h;obtain ⟨⟨t,hk⟩,hv⟩:=Lb h.1;have ks:e.key.isStr x=decide (x=y):=KTD.key_is hk x;rw [List.find?_cons,ks];unfold look
   by_cases q:x=y
   ·rw [decide_eq_true q,if_pos q]
    simp [hv]
   ·rw [decide_eq_false q,if_neg q]
    exact La x h.2
theorem K_:∀{l:List DictEntry} {D:List (Str×Addr)},l.map Rk=D.map some->(l.all fun e=>isExactStrKey e.key)=true
 | [],_,_=>rfl
 | _::_,[],h=>by cases h
 | e::l,(y,b)::D,h=>by
   simp only [List.map_cons,List.cons.injEq] at h;obtain ⟨⟨t,hk⟩,hv⟩:=Lb h.1;rw [List.all_cons,K_ h.2,hk];rfl
section
variable {prog:Program} {w:World} {A:Around} {E:Value->Shared->Prop} {s:Shared}
theorem Nr {K:PySem.W.Frag} {a:Addr} {D:List (Str×Addr)} {x:Str} {tk:Tok} (T:TxT K a D):MeetsIn prog w (Builtin.«dict.get» ⟨[.ref a,.str x tk],[]⟩) (fun _ R s=>K.In s.heap/\R (.ok (.ret (((look x D).map Value.ref).getD .none))) {s with toks:=s.toks+1}):=
 .of_wp fun A R s ⟨KX,h⟩=>by
  obtain ⟨hl,es,ep,sl,lk,et⟩:=T;have ho:=KX _ _ lk;show wpAny _ _ (dictGet a (.str x tk) >>= _) _ _ s;refine wpAny_bind ?_;unfold dictGet
  try with_reducible refine wpAny_holding ?_
  refine wpAny_bind (wpAny_pyHash_str (wpAny_bind (KTD.kt_dictFind_strs (s:={s with toks:=s.toks+1}) ho rfl (by obtain ⟨l⟩:=es;simpa using K_ et) ?_)))
  have hf:findBy (fun k v=>v.isStr k) es x=(look x D).map Value.ref:=by
   rw [←La x et];obtain ⟨l⟩:=es;simp [findBy]
  rw [findBy_of_findIdx?] at hf;cases hi:es.findIdx? fun e=>e.key.isStr x with
  | none=>
    rw [hi] at hf;refine wpAny_pure ?_;cases q:look x D with
    | some b=>rw [q] at hf;cases hf
    | none=>
      rw [q] at h;show wpAny _ _ (Builtin.Dict.missed a (.str x tk) >>= _) _ _ _;exact wpAny_bind (wpAny_missed_other hl (wpAny_pure ⟨.none,rfl,h⟩))
  | some i=>
    rw [hi] at hf;refine wpAny_bind (wpAny_dictEntries (s:={s with toks:=s.toks+1}) ho rfl (wpAny_pure ?_));cases q:look x D with
    | none=>
      rw [q] at hf;have hf:Option.map (fun x=>x.val) es[i]? = none:=hf;obtain ⟨hlt,_,_⟩:=Array.findIdx?_eq_some_iff_getElem.mp hi;rw [Array.getElem?_eq_getElem hlt] at hf;cases hf
    | some b=>
      rw [q] at hf h;have hf:Option.map (fun x=>x.val) es[i]? = some (.ref b):=hf;rw [hf];exact wpAny_pure ⟨_,rfl,h⟩
end
section
variable {X:Cx} {o e:Expr} {apos cpos:Pos} {ty:TE}
def abY (D:List (Str×Addr)) (ty:TE):TE:=fun σ H Q=>ty σ H fun y H1=>∃x:Str,y = .str x/\Q (((look x D).map V.ref).getD .non) H1
theorem Xx {a:Addr} {D:List (Str×Addr)} (T:TxT X.K a D) (ho:PE X o (tC (.ref a))) (he:PE X e ty) (m:M1 X o "get" apos e cpos):PE X (.Call (.Attribute o "get" apos) [e] [] cpos) (abY D ty):=by
 intro pins s σ H Q I h;refine wpAny_Call_method m.base m.few m.line PySem.F.plainAttrs_dict PySem.F.slot_dict_get PySem.F.type_dict_get (fu (ho pins s σ H (fun x H1=>x = .ref a/\H1=H) I ⟨rfl,rfl⟩) fun u s1 ⟨x,H1,I1,rx,ex,eH⟩=> ?_);subst ex eH;obtain rfl:u=Value.ref a:=rx;have T':=T;obtain ⟨hl,es,ep,sl,lk,et⟩:=T';have ha:=I1.xR _ _ lk;refine ⟨⟨_,ha,rfl⟩,fun b q=>by cases q;exact ⟨_,ha,rfl⟩, ?_⟩;rw [m.trees];refine Calls.callWith_builtin rfl (Calls.evalArgs_plain (Calls.spliced_cons (fu (he pins s1 σ H1 _ I1 h) fun iv s2 ⟨y,H2,I2,ry,z,ez,q2⟩=>Calls.spliced_nil ?_)));subst ez;obtain ⟨tk,rfl⟩:=(show ∃tk,iv=Value.str z tk from ry);refine call_meetsIn PySem.F.slot_dict_get ⟨_,I2.xR _ _ lk,rfl⟩ PySem.F.entry_dict_get (PySem.F.args_dict_get_2 _ _) (Nr T) ⟨I2.xR, ?_⟩;refine ⟨_,H2,I2.tok _, ?_,q2⟩;cases look z D with
 | none=>exact rfl
 | some b=>exact rfl
end
def Sg (K:PySem.W.Frag) (b:Addr) (ss:List Str):Prop:=∃od its n sl,K.lookup b=some ⟨.type "tuple",od,.seq its n,sl⟩/\its.toList.map Ea=ss.map some/\its.size<=sizeLine
theorem Sg.sq {K:PySem.W.Frag} {b:Addr} {ss:List Str} (h:Sg K b ss) (H:Hp):eU K H b (ss.map V.str):=by
 obtain ⟨od,its,n,sl,lk,e,z⟩:=h;refine .inr ⟨_,its,n,lk,rfl,rfl,z, ?_⟩
 have gen:∀{l:List Value} {ss:List Str},l.map Ea=ss.map some->Vals (ss.map V.str) l:=by
  intro l
  induction l with
  | nil=>
    intro ss h;cases ss with
    | nil=>exact .nil
    | cons x y=>cases h
  | cons v l ih=>
    intro ss h;cases ss with
    | nil=>cases h
    | cons x ss=>
      simp only [List.map_cons,List.cons.injEq] at h;refine .cons ?_ (ih h.2);cases v with
      | str y t=>
        have:y=x:=Option.some.inj h.1;subst this;exact ⟨t,rfl⟩
      | _=>cases h.1
 exact gen e
end L2
set_option Elab.async false
set_option linter.all false
set_option maxRecDepth 100000
set_option maxHeartbeats 4000000
namespace L2
open PySem PySem.Spec PyProof.Rows
section
variable {prog:Program} {w:World} {A:Around} {E:Value->Shared->Prop} {s:Shared}
theorem ZR {z TI TO i1 i2 l1 l2:Addr} {k1 k2:Nat} {xs ys:Array Value} {x y a b:Value} {Q:Option Value->Shared->Prop} (D:ZipApart z TI TO i1 i2 l1 l2) (hz:IsZip s.heap z TI TO .none) (hI:IsPair s.heap TI (.ref i1) (.ref i2)) (hO:IsPair s.heap TO a b)
 (h1:s.heap.IsTupleIter i1 l1 k1) (h2:s.heap.IsListIter i2 l2 k2) (m1:s.heap.IsTuple l1 xs) (m2:s.heap.IsList l2 ys) (hx:xs[k1]? = some x) (hy:ys[k2]? = some y)
 (k:∀h',IsZip h' z TI TO (rawInt s.heap.objs.size)->IsPair h' TO x y->h'.IsTupleIter i1 l1 (k1+1)->h'.IsListIter i2 l2 (k2+1)->IsPair h' s.heap.objs.size x y->h'.objs.size=s.heap.objs.size+1->(∀c o,c≠z->c≠TO->c≠i1->c≠i2->s.heap.get? c=some o->h'.get? c=some o)->Q (some (.ref s.heap.objs.size)) {s with heap:=h'}):
 wpAny (model prog w) A (pyNext (.ref z)) Q E s:=by
 have tz:s.TypeIs (.ref z) "zip" :=⟨_,hz,rfl⟩;unfold pyNext;refine wpAny_bind (wpAny_attempt (wpAny_callSpecial?_slot (name:=Str.ofString "__next__") tz PySem.F.slot_zip_next (wpAny_call_entry PySem.F.slot_zip_next tz PySem.F.entry_zip_next ?_ (PySem.F.args_zip_next_1 _))));show wpAny _ _ (field (.ref z) 2 >>= _) _ _ _;refine wpAny_bind (wpAny_field hz rfl (x:= .bool false) rfl ?_);show wpAny _ _ (field (.ref z) 3 >>= _) _ _ _;refine wpAny_bind (wpAny_field hz rfl (x:= .ref TI) rfl ?_);refine wpAny_bind (wpAny_seqItems hI rfl ?_);show wpAny _ _ (Builtin.SmallTypes.ownedTupleIsFree (.ref z) >>= _) _ _ _;refine wpAny_bind ?_;unfold Builtin.SmallTypes.ownedTupleIsFree;refine wpAny_bind (wpAny_field hz rfl (x:= .none) rfl (wpAny_pure ?_));simp only [if_true];refine wpAny_bind (wpAny_rule (wpAny_bind (wpAny_field hz rfl (x:= .ref TO) rfl ?_)));refine wpAny_bind (wpAny_setField_rec hz (by simp) fun g1 z1 s1=> ?_)
 replace z1:IsZip g1 z TI TO .ellipsis:=z1
 refine wpAny_bind ?_;simp only [List.zipIdx_cons,List.zipIdx_nil,List.forIn_cons,List.forIn_nil];refine wpAny_bind (wpAny_bind (wpAny_onRaise ?_));show wpAny _ _ (Builtin.SmallTypes.nextOf (.ref i1) >>= _) _ _ _
 refine wpAny_bind (nxT (h1.extBut s1.extBut D.i1z) (m1.extBut s1.extBut D.l1z) hx fun g2 j1 s2=>wpAny_pure ?_);have O2:IsPair g2 TO a b:=s2.extBut _ _ D.TOi1 (s1.extBut _ _ D.TOz hO);refine wpAny_bind (wpAny_seqItems O2 rfl ?_);refine wpAny_bind (wpAny_updateSeq_pair O2 fun g3 O3 s3=> ?_)
 replace O3:IsPair g3 TO x b:=O3
 refine wpAny_bind (wpAny_letGo (wpAny_pure (wpAny_bind (wpAny_bind (wpAny_onRaise ?_)))));show wpAny _ _ (Builtin.SmallTypes.nextOf (.ref i2) >>= _) _ _ _
 refine wpAny_bind (wpAny_nextOf_list_item (((h2.extBut s1.extBut D.i2z).extBut s2.extBut D.i12.symm).extBut s3.extBut D.TOi2.symm) (((m2.extBut s1.extBut D.l2z).extBut s2.extBut D.l2i1).extBut s3.extBut D.l2TO) hy fun g4 j2 s4=>wpAny_pure ?_);have O4:IsPair g4 TO x b:=s4.extBut _ _ D.TOi2 O3;refine wpAny_bind (wpAny_seqItems O4 rfl ?_);refine wpAny_bind (wpAny_updateSeq_pair O4 fun g5 O5 s5=> ?_)
 replace O5:IsPair g5 TO x y:=O5
 refine wpAny_bind (wpAny_letGo (wpAny_pure (wpAny_pure (wpAny_bind (wpAny_seqItems O5 rfl (wpAny_bind (wpAny_newTuple ?_)))))));have sz:g5.objs.size=s.heap.objs.size:=by rw [s5.1,s4.1,s3.1,s2.1,s1.1]
 have z5:IsZip g5 z TI TO .ellipsis:=s5.extBut _ _ D.TOz.symm (s4.extBut _ _ D.i2z.symm (s3.extBut _ _ D.TOz.symm (s2.extBut _ _ D.i1z.symm z1)));have k5:∀c o,c≠z->c≠TO->c≠i1->c≠i2->s.heap.get? c=some o->g5.get? c=some o:=fun c o n1 n2 n3 n4 e=>s5.extBut _ _ n2 (s4.extBut _ _ n4 (s3.extBut _ _ n2 (s2.extBut _ _ n3 (s1.extBut _ _ n1 e))));have p1:g5.IsTupleIter i1 l1 (k1+1):=((j1.extBut s3.extBut D.TOi1.symm).extBut s4.extBut D.i12).extBut s5.extBut D.TOi1.symm;have p2:g5.IsListIter i2 l2 (k2+1):=j2.extBut s5.extBut D.TOi2.symm;have zlt:z<g5.objs.size:=Heap.lt_size z5;show wpAny _ _ (Builtin.SmallTypes.ownedTupleHandOut (.ref z) (.ref g5.objs.size) >>= _) _ _ _;refine wpAny_bind ?_;unfold Builtin.SmallTypes.ownedTupleHandOut;have z6:IsZip (g5.push {cls:= .type "tuple",data:= .seq #[x,y]}) z TI TO .ellipsis:=Heap.get?_push_of_some _ z5;refine wpAny_bind (wpAny_setField_rec z6 (by simp) fun g7 z7 s7=> ?_)
 replace z7:IsZip g7 z TI TO (rawInt g5.objs.size):=z7
 refine wpAny_setField_rec z7 (by simp) fun g8 z8 s8=> ?_
 replace z8:IsZip g8 z TI TO (rawInt g5.objs.size):=z8
 have up:∀c o,c≠z->g5.get? c=some o->g8.get? c=some o:=fun c o n1 e=>s8.extBut _ _ n1 (s7.extBut _ _ n1 (Heap.get?_push_of_some _ e));have t8:IsPair g8 g5.objs.size x y:=s8.extBut _ _ (Nat.ne_of_gt zlt) (s7.extBut _ _ (Nat.ne_of_gt zlt) (Heap.get?_push_size _ rfl));have e8:g8.objs.size=g5.objs.size+1:=by rw [s8.1,s7.1,Heap.size_push]
 rw [sz] at z8 t8 e8;refine wpAny_pure ⟨_,rfl,wpAny_pure ?_⟩;show Q (some (.ref g5.objs.size)) _;rw [sz];refine k g8 z8 (up _ _ D.TOz O5) ?_ ?_ t8 e8 fun c o n1 n2 n3 n4 e=>up c o n1 (k5 c o n1 n2 n3 n4 e)
 ·obtain ⟨o,e,r⟩:=p1;exact ⟨o,up _ _ D.i1z e,r⟩
 ·obtain ⟨o,e,r⟩:=p2;exact ⟨o,up _ _ D.i2z e,r⟩
theorem abN {z TI TO i1 i2 l1 l2:Addr} {k1 k2:Nat} {xs ys:Array Value} {a b:Value} {Q:Option Value->Shared->Prop} (hh:A.handled=none) (D:ZipApart z TI TO i1 i2 l1 l2) (hz:IsZip s.heap z TI TO .none) (hI:IsPair s.heap TI (.ref i1) (.ref i2)) (hO:IsPair s.heap TO a b)
 (h1:s.heap.IsTupleIter i1 l1 k1) (h2:s.heap.IsListIter i2 l2 k2) (m1:s.heap.IsTuple l1 xs) (m2:s.heap.IsList l2 ys) (hx:xs[k1]? = none)
 (k:∀h',(∀c o,c≠z->c≠TO->c≠i1->c≠i2->s.heap.get? c=some o->h'.get? c=some o)->Q none {s with heap:=h'}):wpAny (model prog w) A (pyNext (.ref z)) Q E s:=by
 have tz:s.TypeIs (.ref z) "zip" :=⟨_,hz,rfl⟩
 have stop:∀(h':Heap) (e:Addr),(∀c o,c≠z->c≠TO->c≠i1->c≠i2->s.heap.get? c=some o->h'.get? c=some o)->(∃o,h'.get? e=some o/\o.cls = .type "StopIteration")->wpAny (model prog w) A (do if ←isInstance (.ref e) (.type "StopIteration") then pure none else throw (.ref e)) Q E {s with heap:=h'}:=fun h' e hk he=>by
  obtain ⟨o,ho,hc⟩:=he;exact wpAny_bind (wpAny_isInstance (T:= "StopIteration") (b:=true) ⟨o,ho,hc⟩ isSubtype_stop (wpAny_pure (k _ hk)))
 unfold pyNext;refine wpAny_bind (wpAny_attempt (wpAny_callSpecial?_slot (name:=Str.ofString "__next__") tz PySem.F.slot_zip_next (wpAny_call_entry PySem.F.slot_zip_next tz PySem.F.entry_zip_next ?_ (PySem.F.args_zip_next_1 _))));show wpAny _ _ (field (.ref z) 2 >>= _) _ _ _;refine wpAny_bind (wpAny_field hz rfl (x:= .bool false) rfl ?_);show wpAny _ _ (field (.ref z) 3 >>= _) _ _ _;refine wpAny_bind (wpAny_field hz rfl (x:= .ref TI) rfl ?_);refine wpAny_bind (wpAny_seqItems hI rfl ?_);show wpAny _ _ (Builtin.SmallTypes.ownedTupleIsFree (.ref z) >>= _) _ _ _;refine wpAny_bind ?_;unfold Builtin.SmallTypes.ownedTupleIsFree;refine wpAny_bind (wpAny_field hz rfl (x:= .none) rfl (wpAny_pure ?_));simp only [if_true];refine wpAny_bind (wpAny_rule (wpAny_bind (wpAny_field hz rfl (x:= .ref TO) rfl ?_)));refine wpAny_bind (wpAny_setField_rec hz (by simp) fun g1 z1 s1=> ?_)
 replace z1:IsZip g1 z TI TO .ellipsis:=z1
 refine wpAny_bind ?_;simp only [List.zipIdx_cons,List.zipIdx_nil,List.forIn_cons,List.forIn_nil];refine wpAny_bind (wpAny_bind (wpAny_onRaise ?_));show wpAny _ _ (Builtin.SmallTypes.nextOf (.ref i1) >>= _) _ _ _
 refine wpAny_bind (ahL hh (h1.extBut s1.extBut D.i1z) (m1.extBut s1.extBut D.l1z) hx fun g2 e s2 he=> ?_);obtain ⟨oe,hoe,hce⟩:=he;have z2:IsZip g2 z TI TO .ellipsis:=s2 _ _ D.i1z.symm z1;have nez:e≠z:=fun q=>by subst q;rw [z2] at hoe;cases hoe;simp at hce
 refine wpAny_setField_rec z2 (by simp) fun g3 _ s3=> ?_;obtain st:=stop g3 e (fun c o n1 _ n3 _ q=>s3.extBut _ _ n1 (s2 _ _ n3 (s1.extBut _ _ n1 q))) ⟨oe,s3.extBut _ _ nez hoe,hce⟩;exact st
end
abbrev zmI (l:Addr):Obj:={cls:= .type "list_iterator",data:= .fields #[.ref l,.int 0 0]}
abbrev zm3 (h:Heap) (l1 l2:Addr):Heap:=((h.push (ZQ l1)).push (zmI l2)).push {cls:= .type "tuple",data:= .seq #[.ref h.objs.size,.ref (h.push (ZQ l1)).objs.size]}
abbrev zm4 (h:Heap) (l1 l2:Addr):Heap:=(zm3 h l1 l2).push {cls:= .type "tuple",data:= .seq #[.none,.none]}
abbrev zm5 (h:Heap) (l1 l2:Addr):Heap:=(zm4 h l1 l2).push {cls:= .type "zip",data:= .fields #[.none,.bool false,.bool false,.ref ((h.push (ZQ l1)).push (zmI l2)).objs.size,.ref (zm3 h l1 l2).objs.size]}
theorem abM (l1 l2:Addr) (xs ys:Array Value):Meets (Builtin.«zip.__new__» ⟨[.type "zip",.ref l1,.ref l2],[]⟩) (fun _ R s=>s.heap.IsTuple l1 xs/\s.heap.IsList l2 ys/\R (.ok (.ret (.ref (zm4 s.heap l1 l2).objs.size))) {s with heap:=zm5 s.heap l1 l2}):=
 .of_wp fun prog w A R s h=>by
  obtain ⟨hp,g,d,tk,os⟩:=s;obtain ⟨m1,m2,h⟩:=h;have sub:=sub_zip;have M1:Heap.IsTuple (Shared.heap ⟨hp,g,d,tk,os⟩) l1 xs:=m1;have M2:Heap.IsList (Shared.heap ⟨hp.push {cls:= .type "tuple_iterator",data:= .fields #[.ref l1,.int 0 0]},g,d,tk,os⟩) l2 ys:=Heap.IsList.push m2 _
  wp_walk using wpAny_pyIter_tuple M1,wpAny_pyIter_list M2
  exact ⟨_,rfl,h⟩
section
variable {prog:Program} {w:World} {A:Around} {E:Value->Shared->Prop} {s:Shared}
theorem ZS {l1 l2:Addr} {xs ys:Array Value} {Q:Value->Shared->Prop} (m1:s.heap.IsTuple l1 xs) (m2:s.heap.IsList l2 ys)
 (k:∀h',IsZip h' (s.heap.objs.size+4) (s.heap.objs.size+2) (s.heap.objs.size+3) .none->IsPair h' (s.heap.objs.size+2) (.ref s.heap.objs.size) (.ref (s.heap.objs.size+1))->IsPair h' (s.heap.objs.size+3) .none .none->h'.IsTupleIter s.heap.objs.size l1 0->h'.IsListIter (s.heap.objs.size+1) l2 0 ->
   (∀c o,s.heap.get? c=some o->h'.get? c=some o)->Q (.ref (s.heap.objs.size+4)) {s with heap:=h'}):wpAny (model prog w) A (call (.type "zip") [.ref l1,.ref l2]) Q E s:=by
 refine callType_new PySem.F.called_zip (by decide) (PySem.F.typeCall_zip_2 _ _) (PySem.F.newCall_zip_2 _ _) (fun obj=>PySem.F.args_object_init_3 obj _ _) PySem.F.entry_zip_new (abM l1 l2 xs ys) ⟨m1,m2, ?_⟩;have n1:(s.heap.push (ZQ l1)).objs.size=s.heap.objs.size+1:=Heap.size_push ..;have n2:((s.heap.push (ZQ l1)).push (zmI l2)).objs.size=s.heap.objs.size+2:=by rw [Heap.size_push,n1]
 have n3:(zm3 s.heap l1 l2).objs.size=s.heap.objs.size+3:=by rw [Heap.size_push,n2]
 have n4:(zm4 s.heap l1 l2).objs.size=s.heap.objs.size+4:=by rw [Heap.size_push,n3]
 have e5:(zm5 s.heap l1 l2).get? (zm4 s.heap l1 l2).objs.size=some _:=Heap.get?_push_size _ rfl;have e4:(zm5 s.heap l1 l2).get? (zm3 s.heap l1 l2).objs.size=some _:=Heap.get?_push_of_some _ (Heap.get?_push_size _ rfl);have e3:(zm5 s.heap l1 l2).get? ((s.heap.push (ZQ l1)).push (zmI l2)).objs.size=some _:=Heap.get?_push_of_some _ (Heap.get?_push_of_some _ (Heap.get?_push_size _ rfl));have e2:(zm5 s.heap l1 l2).get? (s.heap.push (ZQ l1)).objs.size=some _:=Heap.get?_push_of_some _ (Heap.get?_push_of_some _ (Heap.get?_push_of_some _ (Heap.get?_push_size _ rfl)));have e1:(zm5 s.heap l1 l2).get? s.heap.objs.size=some _:=Heap.get?_push_of_some _ (Heap.get?_push_of_some _ (Heap.get?_push_of_some _ (Heap.get?_push_of_some _ (Heap.get?_push_size _ rfl))));show _/\_;rw [n2,n3,n4] at e5;rw [n1,n2] at e3;rw [n3] at e4;rw [n1] at e2;rw [n4];refine ⟨⟨_,e5,rfl⟩,k _ e5 e3 e4 ⟨_,e1,rfl,rfl⟩ ⟨_,e2,rfl,rfl⟩ fun c o q=> ?_⟩
 iterate 5 refine Heap.get?_push_of_some _ ?_
 exact q
end
def abl (K:PySem.W.Frag) (l1 l2:Addr):It:=
 ⟨fun i H=>∃xs ys x y,eU K H l1 xs/\bO K H l2 ys/\xs[i]? = some x/\ys[i]? = some y,
  fun i H x H'=>∃(p:Addr) (y z:V),x = .ref p/\H p=none/\(∀xs,eU K H l1 xs->xs[i]? = some y)/\(∀ys,bO K H l2 ys->ys[i]? = some z)/\H'=upd H p (.tup [y,z]),
  fun i H=>∃xs ys,eU K H l1 xs/\bO K H l2 ys/\xs.length<=i⟩
theorem Qw {P:Program} {w:World} {K:PySem.W.Frag} {elts:List Expr} {x1:Nat} {pos:Pos} (z TI TO i1 i2 l1 l2:Addr) (ap:ZipApart z TI TO i1 i2 l1 l2):Turn P w K (.Tuple elts x1 pos) (abl K l1 l2) [z,TI,TO,i1,i2] z
 (fun i h=>IsZip h z TI TO .none/\IsPair h TI (.ref i1) (.ref i2)/\(∃a b,IsPair h TO a b)/\h.IsTupleIter i1 l1 i/\h.IsListIter i2 l2 i) where
 mem:=by simp
 obj:=fun i h st b hb=>by
  obtain ⟨hz,hTI,⟨a,c,hTO⟩,⟨o1,h1,c1,d1⟩,⟨o2,h2,c2,d2⟩⟩:=st;have hb':b=z\/b=TI\/b=TO\/b=i1\/b=i2:=by simpa using hb
  rcases hb' with rfl|rfl|rfl|rfl|rfl
  ·exact ⟨_,hz,fun v z=>by cases z⟩
  ·exact ⟨_,hTI,fun v z=>by cases z⟩
  ·exact ⟨_,hTO,fun v z=>by cases z⟩
  ·exact ⟨_,h1,fun v z=>by rw [d1] at z;cases z⟩
  ·exact ⟨_,h2,fun v z=>by rw [d2] at z;cases z⟩
 keep:=fun i h h' st k=>by
  obtain ⟨hz,hTI,⟨a,c,hTO⟩,⟨o1,h1,c1,d1⟩,⟨o2,h2,c2,d2⟩⟩:=st;exact ⟨k z (by simp) _ hz,k TI (by simp) _ hTI,⟨a,c,k TO (by simp) _ hTO⟩,⟨o1,k i1 (by simp) _ h1,c1,d1⟩,⟨o2,k i2 (by simp) _ h2,c2,d2⟩⟩
 item:=by
  intro X hP hw hK hc i pins s σ H E I hf st hg;subst hP hw hK;obtain ⟨xs,ys,x,y,hq1,hq2,hx,hy⟩:=hg;obtain ⟨KZ,Xd,p1,hz1⟩:=I.tuple hq1;obtain ⟨its2,Y9,p2,hz2⟩:=I.list hq2;obtain ⟨u1,hu1,ru1⟩:=Xd.get hx;obtain ⟨u2,hu2,ru2⟩:=Y9.get hy;obtain ⟨hz,hTI,⟨a,c,hTO⟩,hi1,hi2⟩:=st;have zlt:=Heap.lt_size hz;have abj:=Heap.lt_size hTI;have abh:=Heap.lt_size hTO;have aaN:i1<s.heap.objs.size:=by obtain ⟨o,ho,_⟩:=id hi1;exact Heap.lt_size ho
  have aaM:i2<s.heap.objs.size:=by obtain ⟨o,ho,_⟩:=id hi2;exact Heap.lt_size ho
  refine ZR ap hz hTI hTO hi1 hi2 (show s.heap.IsTuple l1 KZ.toArray from p1) p2.isList (x:=u1) (y:=u2) (by simpa using hu1) (by simpa using hu2) fun h' hz' aaS aaR hi2' hnew hsz hk=> ?_;refine ⟨_,rfl, ?_⟩;refine wpAny_letOwnedTupleGo_zip hz' fun h2 aaO sb=> ?_;have hfr:H s.heap.objs.size=none:=I.hok.fresh (Nat.le_refl _)
  have I0:Inv X pins σ (upd H s.heap.objs.size (.tup [x,y])) {s with heap:=s.heap.push {cls:= .type "tuple",data:= .seq #[u1,u2]}}:=
   I.laid (t':=s.toks) (fun b u e=>Heap.get?_push_of_some _ e) (Nat.le_refl _) ⟨by show 2<=sizeLine;decide,[u1,u2],.cons ru1 (.cons ru2 .nil),⟨_,Heap.get?_push_size _ rfl,rfl,_,rfl⟩⟩
  have Zi:∀b∈[z,TI,TO,i1,i2],wY X pins (upd H s.heap.objs.size (.tup [x,y])) b:=fun b hb=>by
   refine (hf b hb).upd ?_;have hb':b=z\/b=TI\/b=TO\/b=i1\/b=i2:=by simpa using hb
   rcases hb' with rfl|rfl|rfl|rfl|rfl
   ·exact Nat.ne_of_lt zlt
   ·exact Nat.ne_of_lt abj
   ·exact Nat.ne_of_lt abh
   ·exact Nat.ne_of_lt aaN
   ·exact Nat.ne_of_lt aaM
  have I1:=I0.xJ (h':=h2) (t':=s.toks) Zi (fun b o hb eb=>by
   have b1:b≠z:=fun e=>hb (by simp [e]);have b2:b≠TO:=fun e=>hb (by simp [e]);have b3:b≠i1:=fun e=>hb (by simp [e]);have b4:b≠i2:=fun e=>hb (by simp [e]);rw [sb.2 b b1];rcases E_ rfl eb with ⟨rfl,rfl⟩|eb
   ·exact hnew
   ·exact hk b o b1 b2 b3 b4 eb)
  refine ⟨.ref s.heap.objs.size,_,I1,rfl,⟨s.heap.objs.size,x,y,rfl,hfr,fun ys hy=>by rw [I.G5 hy hq1];exact hx,fun ys' hy'=>by rw [I.wD hy' hq2];exact hy,rfl⟩, ?_,fun b hb=>(Zi b hb).1⟩;obtain ⟨o1,ho1,c1,d1⟩:=aaR;obtain ⟨o2,ho2,c2,d2⟩:=hi2';exact ⟨aaO,(sb.2 TI ap.TIz).trans (hk TI _ ap.TIz ap.TITO ap.TIi1 ap.TIi2 hTI),⟨_,_,(sb.2 TO ap.TOz).trans aaS⟩,⟨o1,(sb.2 i1 ap.i1z).trans ho1,c1,d1⟩,⟨o2,(sb.2 i2 ap.i2z).trans ho2,c2,d2⟩⟩
 done:=by
  intro X hP hw hK hc i pins s σ H E I hf st hg;subst hP hw hK;obtain ⟨xs,ys,hq1,hq2,hx⟩:=hg;obtain ⟨KZ,Xd,p1,hz1⟩:=I.tuple hq1;obtain ⟨its2,Y9,p2,hz2⟩:=I.list hq2;obtain ⟨hz,hTI,⟨a,c,hTO⟩,hi1,hi2⟩:=st;have hl1:=Xd.length;refine abN (I.ok.hd hc) ap hz hTI hTO hi1 hi2 (show s.heap.IsTuple l1 KZ.toArray from p1) p2.isList (by simp;omega) fun h' eb=>⟨rfl,I.xJ (t':=s.toks) hf (fun b o hb e=>eb b o (fun z=>hb (by simp [z])) (fun z=>hb (by simp [z])) (fun z=>hb (by simp [z])) (fun z=>hb (by simp [z])) e)⟩
 self:=fun _ _ _ _ _ st h=>wpAny_pyIter_zip st.1 h
section
variable {X:Cx}
def acM (K:PySem.W.Frag) (ta:TA):TI:=fun σ H R=>ta σ H fun vs H1=>∃l1 l2 xs ys,vs=[.ref l1,.ref l2]/\eU K H1 l1 xs/\bO K H1 l2 ys/\R (abl K l1 l2) H1
theorem Xq {K:PySem.W.Frag} {a b:Expr} {ta:TA} {p pos:Pos} {elts:List Expr} {x1:Nat} {tpos:Pos} (hK:X.K=K) (hg:Gl X "zip") (hm:X.mg "zip" = none) (ha:PA X [a,b] ta) (hs:starEach [a,b] X.env=[(false,eval a X.env),(false,eval b X.env)]:=by rfl) (hs2:starEach [b] X.env=[(false,eval b X.env)]:=by rfl):PI X (.Tuple elts x1 tpos) (.Call (.Name "zip" p) [a,b] [] pos) (acM K ta):=by
 subst hK;intro pins s σ H R I h;refine Call_ (wF I hg hm boot_zip (PyProof.Rows.callWith_type1 (fu (ha pos pins s σ H _ I h) fun us s1 ⟨vs,H1,I1,r1,q1⟩=> ?_) (by rw [hs,hs2]) (by rw [hs2];rfl)));obtain ⟨l1,l2,xs,ys,e,hq1,hq2,q⟩:=q1;subst e
 obtain ⟨u1,us',rfl,r,rr⟩:∃u1 us',us=u1::us'/\RelV (.ref l1) u1/\Vals [.ref l2] us':=by
  cases r1 with
  | cons r rr=>exact ⟨_,_,rfl,r,rr⟩
 obtain ⟨u2,rfl,r'⟩:=rr.one;cases r;cases r'
 have acy:∀b∈[s1.heap.objs.size+4,s1.heap.objs.size+2,s1.heap.objs.size+3,s1.heap.objs.size,s1.heap.objs.size+1],s1.heap.objs.size<=b:=fun b hb=>by
  have:b=s1.heap.objs.size+4\/b=s1.heap.objs.size+2\/b=s1.heap.objs.size+3\/b=s1.heap.objs.size\/b=s1.heap.objs.size+1:=by simpa using hb
  rcases this with rfl|rfl|rfl|rfl|rfl
  ·exact Nat.le_add_right _ _
  ·exact Nat.le_add_right _ _
  ·exact Nat.le_add_right _ _
  ·exact Nat.le_refl _
  ·exact Nat.le_add_right _ _
 obtain ⟨KZ,Xd,pl1,hz1⟩:=I1.tuple hq1;obtain ⟨its2,Y9,pl2,hz2⟩:=I1.list hq2;have m1:s1.heap.IsTuple l1 KZ.toArray:=pl1;have lt1:l1<s1.heap.objs.size:=by obtain ⟨o,ho,_⟩:=id m1;exact Heap.lt_size ho
 have lt2:l2<s1.heap.objs.size:=by obtain ⟨o,ho,_⟩:=pl2.isList;exact Heap.lt_size ho
 refine ZS m1 pl2.isList fun h' hZ hTI hTO hi1 hi2 hk=> ?_;refine wpAny_pyIter_zip hZ ?_;have I2:Inv X pins σ H1 {s1 with heap:=h'}:=I1.kept (t':=s1.toks) hk;exact ⟨s1.heap.objs.size+4,[s1.heap.objs.size+4,s1.heap.objs.size+2,s1.heap.objs.size+3,s1.heap.objs.size,s1.heap.objs.size+1],_,_,H1,rfl,I2,Qw _ _ _ _ _ l1 l2 (zipApart_new lt1 lt2),⟨hZ,hTI,⟨_,_,hTO⟩,hi1,hi2⟩,fun b hb=>I1.Gz (acy b hb) (I1.hok.fresh (acy b hb)),q⟩
end
section
variable {K:PySem.W.Frag} {D:Addr} {xs:List V} {tc:TT} {te:TE} {Q:VK} {rest:St} {H1:Hp}
theorem Oi {l1 l2:Addr} {ys:List V} {n:Nat} (hn1:xs.length=n) (hn2:ys.length=n) (f:Nat->PyData) (hf:∀i,xT (f i)=true) (hD:H1 D=none) (hq1:∀H,Same H1 H->eU K H l1 xs) (hq2:H1 l2=some (.lst ys)) (hx:n<=100000)
 (hs:∀i x y H (F:VK),xs[i]? = some x->ys[i]? = some y->Same H1 H->(∀v H',Same H H'->Dat H' v (f i)->F v H')->te (some x::some y::rest) H F)
 (hd:∀H vs,Same H1 H->H D=some (.lst vs)->aQ H vs ((List.range n).map f)->Q (.ref D) H):tU (abl K l1 l2) (Yo K 2 (K4 (qO 0) (K4 (qO 1) aaW))) Qy te Q D (none::none::rest) H1:=by
 refine ⟨fun i m σ H=>m=n - i/\i<=n/\(∃u v,σ=u::v::rest)/\Same H1 H /\ ∃vs,H D=some (.lst vs)/\aQ H vs ((List.range i).map f),⟨n,by simp,Nat.zero_le _,⟨none,none,rfl⟩,aF hD,[],aq,by simp [aQ]⟩, ?_⟩;rintro i m σ H ⟨rfl,hi,⟨u,v,rfl⟩,sm,vs,e,dv⟩
 by_cases hlt:i<n
 ·have q1:eU K H l1 xs:=hq1 H sm
  have q2:bO K H l2 ys:=bO.of (sm _ _ hq2);have hx1:xs[i]? = some (xs[i]'(by omega)):=List.getElem?_eq_getElem _;have hy1:ys[i]? = some (ys[i]'(by omega)):=List.getElem?_eq_getElem _;refine .inr ⟨⟨xs,ys,_,_,q1,q2,hx1,hy1⟩,fun σ' H'=>(∃u v,σ'=u::v::rest)/\Same H1 H' /\ ∃vs,H' D=some (.lst vs)/\aQ H' vs ((List.range (i+1)).map f),fun σ' H' p'=>⟨n - (i+1),by omega,rfl,hlt,p'⟩, ?_⟩;rintro x H' ⟨p,y,z,rfl,hp,e1,e2,rfl⟩;have sp:=aF (o:=HO.tup [y,z]) hp;refine ⟨p,[y,z],rfl,eU.of aq,rfl,_,_,rfl,_,_,rfl,rfl, ?_⟩;dsimp only [Qy];rw [if_pos rfl];refine hs i y z _ _ (e1 _ q1) (e2 _ q2) (sm.trans sp) (fun v H4 s4 dvv=> ?_);have eD:=s4 _ _ (sp _ _ e);have hl:vs.length=i:=by rw [dv.length];simp
  have tu:∀x ys,H4 x=some (.tup ys)->(upd H4 D (.lst (vs++[v]))) x=some (.tup ys):=fun x ys e'=>by rw [aW (KD e' eD (by intro z;cases z))];exact e'
  refine ⟨_,eD,by rw [sizeLine_eq];omega,⟨_,_,rfl⟩,((sm.trans sp).trans s4).newly hD,vs++[v],aq, ?_⟩;rw [List.range_succ,List.map_append];exact Bx (dv.keep (fun x ys e=>tu _ _ (s4 _ _ (sp _ _ e))) _ (nR f hf _)) (dvv.keep tu _ (hf i))
 ·have ei:i=n:=by omega
  subst ei;exact .inl ⟨⟨xs,ys,hq1 H sm,bO.of (sm _ _ hq2),by omega⟩,hd H vs sm e dv⟩
end
end L2
set_option Elab.async false
set_option linter.all false
set_option maxRecDepth 100000
set_option maxHeartbeats 4000000
namespace Prf
open PySem L2
def Ey (i:Int):Str:=Str.ofString (toString i)
theorem ajd:∀a:Fin 10,(⟨#[48+a.val]⟩:Str)=Ey (a.val:Nat):=by decide +kernel
theorem ajc:∀a b:Fin 10,a.val≠0->(⟨#[48+a.val,48+b.val]⟩:Str)=Ey ((10*a.val+b.val:Nat):Int):=by decide +kernel
theorem ajb:∀a b c:Fin 10,a.val≠0->(⟨#[48+a.val,48+b.val,48+c.val]⟩:Str)=Ey ((100*a.val+10*b.val+c.val:Nat):Int):=by decide +kernel
theorem str_list (x:Str):x=⟨x.cps.toList.toArray⟩:=by cases x;simp
theorem Bv {c:Nat} (h:48<=c/\c<=57):∃a:Fin 10,c=48+a.val:=⟨⟨c - 48,by omega⟩,by show c=48+(c - 48);omega⟩
theorem tE {x:Str} (h:dH x=true):∃n:Nat,n<1000/\x=Ey n:=by
 have hs:=fun c (hc:c∈x.cps.toList)=>dH.sign h hc;simp only [dH,Bool.and_eq_true,decide_eq_true_eq,Bool.or_eq_true,Bool.not_eq_true',decide_eq_false_iff_not] at h;obtain ⟨⟨⟨l1,l3⟩,_⟩,nz⟩:=h;have sz:x.length=x.cps.toList.length:=by simp [Str.length]
 have e0:x.cps[0]? = x.cps.toList[0]? :=by simp
 rw [e0] at nz;rw [sz] at l1 l3 nz;have ex:=str_list x;generalize x.cps.toList=l at hs l1 l3 nz ex
 match l,l1,l3 with
 | [a],_,_=>
   obtain ⟨a',rfl⟩:=Bv (hs a (by simp));exact ⟨a'.val,by omega,by rw [ex];exact ajd a'⟩
 | [a,b],_,_=>
   obtain ⟨a',rfl⟩:=Bv (hs a (by simp));obtain ⟨b',rfl⟩:=Bv (hs b (by simp));have:a'.val≠0:=fun z=>by rcases nz with q|q<;>simp [z] at q
   exact ⟨10*a'.val+b'.val,by omega,by rw [ex];exact ajc a' b' this⟩
 | [a,b,c],_,_=>
   obtain ⟨a',rfl⟩:=Bv (hs a (by simp));obtain ⟨b',rfl⟩:=Bv (hs b (by simp));obtain ⟨c',rfl⟩:=Bv (hs c (by simp));have:a'.val≠0:=fun z=>by rcases nz with q|q<;>simp [z] at q
   exact ⟨100*a'.val+10*b'.val+c'.val,by omega,by rw [ex];exact ajb a' b' c' this⟩
 | _::_::_::_::_,_,l3=>simp at l3
theorem Uu {n:Nat} (h:n<1000):dH (Ey n)=true:=Yb (by omega) (by omega)
theorem nQ {n:Nat} (h:n<1000):PySem.intText? (Ey n)=some (n:Int):=PySem.W.KIN.num_reads (by omega) (by omega)
def dj (x:Str):Option Nat:=if dH x=true then some ((PySem.intText? x).getD 0).toNat else none
theorem Dg {n:Nat} (h:n<1000):dj (Ey n)=some n:=by unfold dj;rw [if_pos (Uu h),nQ h];rfl
theorem jH {x:Str} {n:Nat} (h:dj x=some n):n<1000/\x=Ey n:=by
 unfold dj at h;split at h
 ·rename_i hk
  obtain ⟨m,m1,rfl⟩:=tE hk;rw [nQ m1] at h;cases h;exact ⟨m1,rfl⟩
 ·cases h
theorem Bk {x:Str} (h:dH x=false):dj x=none:=by unfold dj;rw [h];rfl
def fG (x:Str):Option Nat:=match x.cps.toList with
 | [c]=>if 97<=c/\c<=104 then some (c - 97) else none
 | _=>none
theorem jK {x:Str} {b:Nat} (h:fG x=some b):b<8/\x=BK b:=by
 unfold fG at h;split at h
 ·rename_i c e
  split at h
  ·rename_i hc
   cases h;refine ⟨by omega, ?_⟩;rw [str_list x,e];show (⟨#[c]⟩:Str)=⟨#[97+(c - 97)]⟩;rw [show 97+(c - 97)=c by omega]
  ·cases h
 ·cases h
theorem JD (x:Str):(fG x).isSome=(decide (x.length=1) && !(Builtin.Str.occurrences (Str.ofString "abcdefgh") x 0 (Str.ofString "abcdefgh").length 1).isEmpty):=by
 have sz:x.length=x.cps.toList.length:=by simp [Str.length]
 have ex:=str_list x;unfold fG;rw [sz]
 match e:x.cps.toList with
 | []=>simp
 | [c]=>
   rw [e] at ex;have fo:(!(Builtin.Str.occurrences (Str.ofString "abcdefgh") x 0 (Str.ofString "abcdefgh").length 1).isEmpty)=decide (c∈(Str.ofString "abcdefgh").cps.toList):=by rw [ex];exact StrLaws.found_one _ c
   rw [fo];have il:(Str.ofString "abcdefgh").cps.toList=[97,98,99,100,101,102,103,104]:=by decide
   rw [il];show (if 97<=c/\c<=104 then some (c - 97) else none).isSome=_
   by_cases hc:97<=c/\c<=104
   ·rw [if_pos hc]
    have:c∈[97,98,99,100,101,102,103,104]:=by
     have:c=97\/c=98\/c=99\/c=100\/c=101\/c=102\/c=103\/c=104:=by omega
     simpa using this
    simp [this]
   ·rw [if_neg hc]
    have:c∉[97,98,99,100,101,102,103,104]:=fun z=>by
     simp only [List.mem_cons,List.not_mem_nil,or_false] at z;omega
    simp [this]
 | _::_::_=>simp
def vU (x:Str):Option HD:=match fG x with
 | some b=>some (.box b)
 | none=>match dj x with
   | some n=>some (.num n)
   | none=>none
def xX (q:Bool) (p:Str×Str×Str):Option GX:=match vU p.1,vU p.2.2 with
 | some a,some b=>some (.two q a b)
 | _,_=>none
def cQ (x:Str):Option GX:=
 if 43∈x.cps.toList then xX true (Txt.partition x ⟨#[43]⟩) else if 45∈x.cps.toList then xX false (Txt.partition x ⟨#[45]⟩) else (vU x).map .one
theorem Mh {x:Str} {e:HD} (h:vU x=some e):J3 e:=by
 unfold vU at h;cases b:fG x with
 | some c=>rw [b] at h;cases h;exact (jK b).1
 | none=>
   rw [b] at h;cases n:dj x with
   | some c=>
     rw [n] at h;cases h;have:=(jH n).1;exact ⟨by omega,by omega⟩
   | none=>rw [n] at h;cases h
theorem Kv {q:Bool} {p:Str×Str×Str} {e:GX} (h:xX q p=some e):Cv e:=by
 unfold xX at h;cases a:vU p.1 with
 | none=>rw [a] at h;cases h
 | some u=>
   cases b:vU p.2.2 with
   | none=>rw [a,b] at h;cases h
   | some v=>rw [a,b] at h;cases h;exact ⟨Mh a,Mh b⟩
theorem W2 {x:Str} {e:GX} (h:cQ x=some e):Cv e:=by
 unfold cQ at h;split at h
 ·exact Kv h
 ·split at h
  ·exact Kv h
  ·cases a:vU x with
   | none=>rw [a] at h;cases h
   | some u=>rw [a] at h;cases h;exact Mh a
inductive Ln where
 | cells (n:Nat)
 | hand
 | row (r:Rw)
def Zf:Ln->PyData
 | .cells n=> .tuple [.str "cells",.int n]
 | .hand=> .tuple [.str "hand"]
 | .row r=>Gg r
def lnO:Option Ln->PyData
 | some l=>Zf l
 | none=> .none
inductive Kd where
 | num|sum|box|sign|go
def kdS:Kd->Str
 | .num=> "number"
 | .sum=> "sum"
 | .box=> "box"
 | .sign=> "sign"
 | .go=> "go"
def formOf (x:Str):Option (List Kd):=
 if x = "cells" then some [.num] else if x = "hand" then some [] else if x = "load" then some [.box,.num] else if x = "store" then some [.num,.sum] else if x = "swap" then some [.box,.num,.sum] else if x = "let" then some [.box,.sum] else if x = "say" then some [.sum] else if x = "go" then some [.num] else if x = "unless" then some [.sum,.sign,.sum,.go,.num] else none
def G8 (x:Str):Option Bool:=if x = "=" then some true else if x = "<" then some false else none
def wA:Option Nat->PyData
 | some n=> .int n
 | none=> .none
def rY:Option GX->PyData
 | some e=>Gj e
 | none=> .none
def BL:Option Nat->PyData
 | some b=> .str (BK b)
 | none=> .none
def W_:Option Bool->PyData
 | some q=> .str (if q then "=" else "<")
 | none=> .none
def eY:Kd->Str->PyData
 | .num,w=>wA (dj w)
 | .sum,w=>rY (cQ w)
 | .box,w=>BL (fG w)
 | .sign,w=>W_ (G8 w)
 | .go,w=>if w = "go" then .str "go" else .none
def Bm:PyData->Bool
 | .none=>true
 | _=>false
def Kh (w0:Str) (ks:List Kd) (ws:List Str):PyData:=
 let ds:=(ks.zip ws).map fun p=>eY p.1 p.2
 if ds.any Bm=true then .none else match ds with
  | [d0,d1,d2,d3,d4]=>if w0 = "unless" then .tuple [.str "unless",d1,d0,d2,d4] else .tuple (.str w0::ds)
  | ds=> .tuple (.str w0::ds)
def bh:List Str->Option Ln
 | [w0]=>if w0 = "hand" then some .hand else none
 | [w0,a]=>if w0 = "cells" then (dj a).map .cells else if w0 = "say" then (cQ a).map fun e=> .row (.say e) else if w0 = "go" then (dj a).map fun n=> .row (.go n) else none
 | [w0,a,b]=>if w0 = "load" then (fG a).bind fun x=>(dj b).map fun n=> .row (.load x n) else if w0 = "store" then (dj a).bind fun n=>(cQ b).map fun e=> .row (.store n e) else if w0 = "let" then (fG a).bind fun x=>(cQ b).map fun e=> .row (.uX x e) else none
 | [w0,a,b,c]=>if w0 = "swap" then (fG a).bind fun x=>(dj b).bind fun n=>(cQ c).map fun e=> .row (.swap x n e) else none
 | [w0,a,b,c,d,e]=>if w0 = "unless" then (cQ a).bind fun x=>(G8 b).bind fun q=>(cQ c).bind fun y=>if d = "go" then (dj e).map fun n=> .row (.xH q x y n) else none else none
 | _=>none
theorem En {w0:Str} {ks:List Kd} {ws:List Str} (h:formOf w0=some ks) (hl:ws.length=ks.length):Kh w0 ks ws=lnO (bh (w0::ws)):=by
 unfold formOf at h;split at h
 ·rename_i e
  subst e;cases h
  match ws,hl with
  | [a],_=>
    have r:bh [Str.ofString "cells",a]=(dj a).map .cells:=by unfold bh;exact if_pos rfl
    rw [r];show (if [wA (dj a)].any Bm=true then PyData.none else .tuple [.str (Str.ofString "cells"),wA (dj a)])=_;rcases dj a with _|n<;>rfl
 split at h
 ·rename_i e
  subst e;cases h
  match ws,hl with
  | [],_=>
    have r:bh [Str.ofString "hand"]=some .hand:=by unfold bh;exact if_pos rfl
    rw [r];rfl
 split at h
 ·rename_i e
  subst e;cases h
  match ws,hl with
  | [a,b],_=>
    have r:bh [Str.ofString "load",a,b]=(fG a).bind fun x=>(dj b).map fun n=> .row (.load x n):=by unfold bh;exact if_pos rfl
    rw [r];show (if [BL (fG a),wA (dj b)].any Bm=true then PyData.none else .tuple [.str (Str.ofString "load"),BL (fG a),wA (dj b)])=_;rcases fG a with _|n<;>rcases dj b with _|n<;>rfl
 split at h
 ·rename_i e
  subst e;cases h
  match ws,hl with
  | [a,b],_=>
    have r:bh [Str.ofString "store",a,b]=(dj a).bind fun n=>(cQ b).map fun e=> .row (.store n e):=by unfold bh;exact (if_neg (by decide)).trans (if_pos rfl)
    rw [r];show (if [wA (dj a),rY (cQ b)].any Bm=true then PyData.none else .tuple [.str (Str.ofString "store"),wA (dj a),rY (cQ b)])=_;rcases dj a with _|n<;>rcases cQ b with _|((_|_)|_)<;>rfl
 split at h
 ·rename_i e
  subst e;cases h
  match ws,hl with
  | [a,b,c],_=>
    have r:bh [Str.ofString "swap",a,b,c]=(fG a).bind fun x=>(dj b).bind fun n=>(cQ c).map fun e=> .row (.swap x n e):=by unfold bh;exact if_pos rfl
    rw [r];show (if [BL (fG a),wA (dj b),rY (cQ c)].any Bm=true then PyData.none else .tuple [.str (Str.ofString "swap"),BL (fG a),wA (dj b),rY (cQ c)])=_;rcases fG a with _|n<;>rcases dj b with _|n<;>rcases cQ c with _|((_|_)|_)<;>rfl
 split at h
 ·rename_i e
  subst e;cases h
  match ws,hl with
  | [a,b],_=>
    have r:bh [Str.ofString "let",a,b]=(fG a).bind fun x=>(cQ b).map fun e=> .row (.uX x e):=by unfold bh;exact (if_neg (by decide)).trans ((if_neg (by decide)).trans (if_pos rfl))
    rw [r];show (if [BL (fG a),rY (cQ b)].any Bm=true then PyData.none else .tuple [.str (Str.ofString "let"),BL (fG a),rY (cQ b)])=_;rcases fG a with _|n<;>rcases cQ b with _|((_|_)|_)<;>rfl
 split at h
 ·rename_i e
  subst e;cases h
  match ws,hl with
  | [a],_=>
    have r:bh [Str.ofString "say",a]=(cQ a).map fun e=> .row (.say e):=by unfold bh;exact (if_neg (by decide)).trans (if_pos rfl)
    rw [r];show (if [rY (cQ a)].any Bm=true then PyData.none else .tuple [.str (Str.ofString "say"),rY (cQ a)])=_;rcases cQ a with _|((_|_)|_)<;>rfl
 split at h
 ·rename_i e
  subst e;cases h
  match ws,hl with
  | [a],_=>
    have r:bh [Str.ofString "go",a]=(dj a).map fun n=> .row (.go n):=by unfold bh;exact (if_neg (by decide)).trans ((if_neg (by decide)).trans (if_pos rfl))
    rw [r];show (if [wA (dj a)].any Bm=true then PyData.none else .tuple [.str (Str.ofString "go"),wA (dj a)])=_;rcases dj a with _|n<;>rfl
 split at h
 ·rename_i e
  subst e;cases h
  match ws,hl with
  | [a,b,c,d,e],_=>
    have r:bh [Str.ofString "unless",a,b,c,d,e]=(cQ a).bind fun x=>(G8 b).bind fun q=>(cQ c).bind fun y=>if d = "go" then (dj e).map fun n=> .row (.xH q x y n) else none:=by unfold bh;exact if_pos rfl
    rw [r];show (if [rY (cQ a),W_ (G8 b),rY (cQ c),(if d=Str.ofString "go" then PyData.str (Str.ofString "go") else PyData.none),wA (dj e)].any Bm=true then PyData.none else if Str.ofString "unless" = "unless" then .tuple [.str (Str.ofString "unless"),W_ (G8 b),rY (cQ a),rY (cQ c),wA (dj e)] else _)=_;rw [if_pos (rfl:Str.ofString "unless" = "unless")]
    by_cases hd:d=Str.ofString "go"
    ·simp only [if_pos hd]
     rcases cQ a with _|((_|_)|_)<;>rcases G8 b with _|(_|_)<;>rcases cQ c with _|((_|_)|_)<;>rcases dj e with _|n<;>rfl
    ·simp only [if_neg hd]
     rcases cQ a with _|((_|_)|_)<;>rcases G8 b with _|(_|_)<;>rcases cQ c with _|((_|_)|_)<;>rcases dj e with _|n<;>rfl
 ·cases h
theorem PX {w0:Str} {ws:List Str} (h:formOf w0=none \/ ∃ks,formOf w0=some ks/\ws.length≠ks.length):bh (w0::ws)=none:=by
 cases q:bh (w0::ws) with
 | none=>rfl
 | some l=>
   exfalso
   have key:∃ks,formOf w0=some ks/\ws.length=ks.length:=by
    match ws,q with
    | [],q=>
      simp only [bh] at q;split at q
      ·rename_i e;subst e;exact ⟨[],rfl,rfl⟩
      ·cases q
    | [a],q=>
      simp only [bh] at q;split at q
      ·rename_i e;subst e;exact ⟨[.num],rfl,rfl⟩
      split at q
      ·rename_i e;subst e;exact ⟨[.sum],rfl,rfl⟩
      split at q
      ·rename_i e;subst e;exact ⟨[.num],rfl,rfl⟩
      ·cases q
    | [a,b],q=>
      simp only [bh] at q;split at q
      ·rename_i e;subst e;exact ⟨[.box,.num],rfl,rfl⟩
      split at q
      ·rename_i e;subst e;exact ⟨[.num,.sum],rfl,rfl⟩
      split at q
      ·rename_i e;subst e;exact ⟨[.box,.sum],rfl,rfl⟩
      ·cases q
    | [a,b,c],q=>
      simp only [bh] at q;split at q
      ·rename_i e;subst e;exact ⟨[.box,.num,.sum],rfl,rfl⟩
      ·cases q
    | [a,b,c,d],q=>cases q
    | [a,b,c,d,e],q=>
      simp only [bh] at q;split at q
      ·rename_i e;subst e;exact ⟨[.sum,.sign,.sum,.go,.num],rfl,rfl⟩
      ·cases q
    | _::_::_::_::_::_::_,q=>cases q
   obtain ⟨ks,e1,e2⟩:=key;rcases h with h|⟨ks',h1,h2⟩
   ·rw [h] at e1;cases e1
   ·rw [h1] at e1;cases e1;exact h2 e2
end Prf
set_option Elab.async false
set_option linter.all false
set_option maxRecDepth 100000
set_option maxHeartbeats 4000000
namespace L2
open PySem PySem.Spec PyProof.Rows
def Xl (K:PySem.W.Frag):V->List V->Hp->VK->Prop:=fun x vs H Q=>∃(l:Addr) (bs:List Bool) (b:Bool),x = .ref l/\vs=[.bl b]/\bO K H l (bs.map V.bl)/\Q (.int (bs.count b)) H
def Xj (K:PySem.W.Frag):V->List V->Hp->VK->Prop:=fun x vs H Q=>∃(l:Addr) (bs:List Bool) (b:Bool) (j:Nat),x = .ref l/\vs=[.bl b]/\bO K H l (bs.map V.bl)/\bs[j]? = some b/\(∀m,m<j->bs[m]? ≠ some b)/\Q (.int j) H
section
variable {X:Cx}
def isB (b:Bool):Value->Bool
 | .bool a=>a==b
 | _=>false
theorem Mp:∀{bs:List Bool} {its:List Value},Vals (bs.map V.bl) its->its=bs.map Value.bool
 | [],_,.nil=>rfl
 | b::bs,_,.cons r rs=>by
   rw [Mp rs,show _=Value.bool b from r];rfl
theorem Nq {K:PySem.W.Frag} (hK:X.K=K):ZP X "list.count" (Xl K):=by
 subst hK;intro pins s σ H x vs v us Q I rx rv h;obtain ⟨l,bs,b,rfl,rfl,hq,q⟩:=h;cases rx;obtain ⟨u,rfl,ru⟩:=rv.one;cases (show u=Value.bool b from ru);obtain ⟨its,r,pl,hz⟩:=I.list hq;have ei:=Mp r;subst ei;obtain ⟨o,ho,hc,n0,hdd⟩:=pl.isList;obtain ⟨c0,d0,dt,sl⟩:=o;simp only at hc hdd;subst hc hdd;refine call_meets F.slot_list_count ⟨_,ho,rfl⟩ F.entry_list_count (F.args_list_count_2 _ _) (SeqAt.list_countAt l (bs.map Value.bool).toArray n0 d0 sl (.bool b) (isB b)) ⟨ho,fun y hy=> ?_, ?_⟩
 ·have hy:y∈bs.map Value.bool:=by simpa using hy
  obtain ⟨a,_,rfl⟩:=List.mem_map.mp hy;exact SeqAt.EqAt.bool_bool a b
 ·have e:(bs.map Value.bool).toArray.toList.countP (isB b)=bs.count b:=by
   show (bs.map Value.bool).countP (isB b)=_;rw [List.countP_map,List.count];rfl
  rw [e];exact ⟨.int _,H,I.tok _,⟨_,rfl⟩,q⟩
theorem Np {K:PySem.W.Frag} (hK:X.K=K):ZP X "list.index" (Xj K):=by
 subst hK;intro pins s σ H x vs v us Q I rx rv h;obtain ⟨l,bs,b,j,rfl,rfl,hq,hj,hno,q⟩:=h;cases rx;obtain ⟨u,rfl,ru⟩:=rv.one;cases (show u=Value.bool b from ru);obtain ⟨its,r,pl,hz⟩:=I.list hq;have ei:=Mp r;subst ei;obtain ⟨o,ho,hc,n0,hdd⟩:=pl.isList;obtain ⟨c0,d0,dt,sl⟩:=o;simp only at hc hdd;subst hc hdd;have jl:=(List.getElem?_eq_some_iff.mp hj).1;have l63:=uV;have hz':bs.length<=sizeLine:=by simpa using hz
 refine call_meets F.slot_list_index ⟨_,ho,rfl⟩ F.entry_list_index (F.args_list_index_2 _ _) (SeqAt.list_indexAt l (bs.map Value.bool).toArray n0 d0 sl (.bool b) (isB b) j (by simpa using jl) (by omega) ?_ (fun m hm hmj=> ?_)) ⟨ho,fun y hy=> ?_,⟨.int j,H,I.tok _,⟨_,rfl⟩,q⟩⟩
 ·have e:bs[j]=b:=(List.getElem?_eq_some_iff.mp hj).2
  simp [isB,e]
 ·have hm':m<bs.length:=by simpa using hm
  have:=hno m hmj;rw [List.getElem?_eq_getElem hm'] at this;have ne:bs[m]≠b:=fun z=>this (by rw [z]);simp [isB,ne]
 ·have hy:y∈bs.map Value.bool:=by simpa using hy
  obtain ⟨a,_,rfl⟩:=List.mem_map.mp hy;exact SeqAt.EqAt.bool_bool a b
end
end L2
set_option Elab.async false
set_option linter.all false
set_option maxRecDepth 100000
set_option maxHeartbeats 4000000
namespace L2
open PySem PySem.Spec PyProof.Rows
section
variable {X:Cx}
end
end L2
set_option Elab.async false
set_option linter.all false
set_option maxRecDepth 100000
set_option maxHeartbeats 4000000
namespace L2
open PySem PySem.Spec PyProof.Rows PySem.Builtin PySem.Builtin.Str
section
variable {X:Cx} {K:PySem.W.Frag}
def agj:V->Option Int->Option Int->Hp->VK->Prop:=fun x lo hi H Q=>∃z:Str,x = .str z/\z.length<=sizeLine/\Q (.str (Txt.slice z lo hi)) H
theorem Il:SlR X agj:=by
 intro pins s σ H x v vl vu lo hi sl Q I rx hs pl pu h;obtain ⟨z,rfl,hz,q⟩:=h;obtain ⟨t,rfl⟩:=rx;have fin:∀(t':Tok) (k:Nat),EP X pins σ Q (.str (Txt.slice z lo hi) t') {s with toks:=k}:=fun t' k=>⟨.str _,H,I.tok _,⟨_,rfl⟩,q⟩;have zl:=Nat.le_trans (Txt.slice_le z lo hi) hz;refine ⟨"str",_,F.slot_str_getitem.lookup,typeIs_str _ _ _, ?_⟩;cases pl with
 | none=>
   cases pu with
   | none=>exact wpAny_getItem_str_slice (l:=none) (u:=none) (st:=none) hs rfl (post_val_or_str ⟨zl,fin⟩)
   | int j uj=>exact wpAny_getItem_str_slice (l:=none) (u:=some (j,uj)) (st:=none) hs rfl (post_val_or_str ⟨zl,fin⟩)
 | int i ui=>
   cases pu with
   | none=>exact wpAny_getItem_str_slice (l:=some (i,ui)) (u:=none) (st:=none) hs rfl (post_val_or_str ⟨zl,fin⟩)
   | int j uj=>exact wpAny_getItem_str_slice (l:=some (i,ui)) (u:=some (j,uj)) (st:=none) hs rfl (post_val_or_str ⟨zl,fin⟩)
def Xi (K:PySem.W.Frag):V->List V->Hp->VK->Prop:=fun x vs H Q=>∃(l:Addr) (ns:List Str) (n:Str) (j:Nat),x = .ref l/\vs=[.str n]/\bO K H l (ns.map V.str)/\ns[j]? = some n/\(∀m,m<j->ns[m]? ≠ some n)/\Q (.int j) H
def isS (n:Str):Value->Bool
 | .str m _=>m==n
 | _=>false
theorem zf:∀{ns:List Str} {its:List Value},Vals (ns.map V.str) its -> ∀(m:Nat) (u:Value),its[m]? = some u -> ∃n t,ns[m]? = some n/\u = .str n t
 | [],_,.nil,m,u,h=>by simp at h
 | n::ns,_,.cons ⟨t,e⟩ r,m,u,h=>by
   cases m with
   | zero=>simp at h;subst h;subst e;exact ⟨n,t,rfl,rfl⟩
   | succ m=>exact zf r m u (by simpa using h)
theorem Nm (hK:X.K=K):ZP X "list.index" (Xi K):=by
 subst hK;intro pins s σ H x vs v us Q I rx rv h;obtain ⟨l,ns,n,j,rfl,rfl,hq,hj,hno,q⟩:=h;cases rx;obtain ⟨u,rfl,ru⟩:=rv.one;obtain ⟨tu,rfl⟩:=ru;obtain ⟨its,r,pl,hz⟩:=I.list hq;obtain ⟨o,ho,hc,n0,hdd⟩:=pl.isList;obtain ⟨c0,d0,dt,sl⟩:=o;simp only at hc hdd;subst hc hdd;have il:its.length=ns.length:=by rw [←r.length,List.length_map]
 have jl:j<its.length:=by rw [il];exact (List.getElem?_eq_some_iff.mp hj).1
 have l63:=uV;have hz':its.length<=sizeLine:=by rw [il];simpa using hz
 refine call_meets F.slot_list_index ⟨_,ho,rfl⟩ F.entry_list_index (F.args_list_index_2 _ _) (SeqAt.list_indexAt l its.toArray n0 d0 sl (.str n tu) (isS n) j (by simpa using jl) (by omega) ?_ (fun m hm hmj=> ?_)) ⟨ho,fun y hy=> ?_,⟨.int j,H,I.tok _,⟨_,rfl⟩,q⟩⟩
 ·have e1:its[j]? = some its[j]:=by simp [jl]
  obtain ⟨k,t,ek,eu⟩:=zf r j _ e1;rw [hj] at ek;cases ek;simp only [List.getElem_toArray];rw [eu];exact beq_self_eq_true n
 ·have hm':m<its.length:=by simpa using hm
  have e1:its[m]? = some its[m]:=by simp [hm']
  obtain ⟨k,t,ek,eu⟩:=zf r m _ e1;simp only [List.getElem_toArray];rw [eu];show (k==n)=false;have:=hno m hmj;rw [ek] at this;exact beq_eq_false_iff_ne.mpr fun z=>this (by rw [z])
 ·have hy:y∈its:=by simpa using hy
  obtain ⟨m,hm⟩:=List.getElem?_of_mem hy;obtain ⟨k,t,_,rfl⟩:=zf r m y hm;exact SeqAt.EqAt.str_str k t n tu
end
theorem Tv {x:Str} {k:Nat} (h:k<=x.length):Txt.slice x none (some (k:Int))=⟨(x.cps.toList.take k).toArray⟩:=by
 have:=StrLaws.sliceText_to (x:=x) (j:=(k:Int)) ⟨by omega,by have:x.cps.toList.length=x.length:=by simp [Str.length]
                                                             omega⟩
 rw [List.drop_zero] at this;show StrLaws.sliceText x none (some (k:Int))=_;simpa using this
theorem M6 {x:Str} {k:Nat} (h:k<=x.length):Txt.slice x (some (k:Int)) none=⟨(x.cps.toList.drop k).toArray⟩:=by
 have l:x.cps.toList.length=x.length:=by simp [Str.length]
 have:=StrLaws.sliceText_from (x:=x) (i:=(k:Int)) ⟨by omega,by omega⟩;rw [List.take_of_length_le (by rw [List.length_drop,l];omega)] at this;show StrLaws.sliceText x (some (k:Int)) none=_;simpa using this
end L2
namespace L2
open PySem PySem.Spec PyProof.Rows
section
variable {X:Cx} {k:Nat} {x:Str} {ps:List Str} {sp:Sp} {p pos:Pos}
theorem T9 (F:FnAt X.prog X.w X.K X.mg X.base k x ps sp) (hr:lH k X.A) (hg:Gl X x) (hd:(x==("__debug__" :Str))=false:=by decide):PE X (.Call (.Name x p) [] [] pos) (Pb sp [] E0 Ka):=by
 obtain ⟨f,fd,G,hm,hk,hb⟩:=F;exact T_ G hr hg hm hk hb .nil Zb (hdb:=hd)
end
end L2
namespace L2
open PySem PySem.Spec PyProof.Rows
section
variable {X:Cx}
def Y5 (vs:List V):TA:=fun _ H Q=>Q vs H
def Cd:List Expr->List Str->Bool
 | [],[]=>true
 | .Constant (.str x) _ _::es,y::ys=>(x==y)&&Cd es ys
 | _,_=>false
theorem I_:∀{es:List Expr} (ss:List Str),Cd es ss=true->PA X es (Y5 (ss.map V.str))
 | [],[],_=>ak
 | [],_::_,h=>by simp [Cd] at h
 | .Constant (.str x) j pos::es,y::ys,h=>by
   simp only [Cd,Bool.and_eq_true,beq_iff_eq] at h;obtain ⟨rfl,h⟩:=h;exact aj (aM (x:=x) (j:=j) (pos:=pos)) (I_ ys h)
 | e::es,[],h=>by unfold Cd at h;split at h<;>simp_all
 | .Constant (.int _) _ _::_,_::_,h=>by simp [Cd] at h
 | e::es,y::ys,h=>by
   unfold Cd at h;split at h
   ·simp_all
   ·rename_i h1 h2
    injection h1 with a b
    injection h2 with c d
    subst a b c d;simp only [Bool.and_eq_true,beq_iff_eq] at h;obtain ⟨rfl,h⟩:=h;exact aj aM (I_ _ h)
   ·cases h
theorem IW {es:List Expr} {pos:Pos} (ss:List Str) (h:Cd es ss=true):PE X (.List es pos) (abW (Y5 (ss.map V.str))):=cO (I_ ss h)
end
end L2
set_option Elab.async false
set_option linter.all false
set_option maxRecDepth 100000
set_option maxHeartbeats 4000000
namespace Prf
open PySem L2
def top (i:Nat):Stmt:=PySem.Challenge.pw_fewnotes_k06_two_faults.main.body.getD i (.Pass ⟨0,0,0,0⟩)
abbrev cL:Stmt:=inClass (top 2) 0
abbrev uM:Stmt:=top 27
abbrev gF:Stmt:=top 28
abbrev dO:Stmt:=top 29
abbrev dD:Stmt:=top 30
abbrev dN:Stmt:=top 31
abbrev cJ:Stmt:=top 32
abbrev lq:Stmt:=top 33
abbrev gC:Stmt:=top 34
abbrev lg:Stmt:=top 35
abbrev gD:Stmt:=top 36
abbrev dY:Stmt:=top 37
abbrev lu:Stmt:=top 38
abbrev dZ:Stmt:=top 39
abbrev pX:Stmt:=top 41
abbrev qb:Stmt:=top 42
abbrev lE:Stmt:=top 43
abbrev lC:Stmt:=top 44
abbrev lA:Stmt:=top 45
abbrev uN:Stmt:=top 46
abbrev pY:Stmt:=top 47
abbrev dF:Stmt:=top 48
abbrev d7:Stmt:=top 49
abbrev pU:Stmt:=top 50
abbrev lB:Stmt:=top 51
abbrev pW:Stmt:=top 52
abbrev pR:Stmt:=top 53
abbrev cX:Stmt:=top 54
abbrev gG:Stmt:=top 55
abbrev dR:Stmt:=top 56
abbrev d9:Stmt:=top 57
abbrev d8:Stmt:=top 58
abbrev p7:Stmt:=top 59
abbrev pZ:Stmt:=top 60
abbrev lD:Stmt:=top 61
abbrev gH:Stmt:=top 62
abbrev uO:Stmt:=top 63
abbrev zG:Stmt:=top 64
structure Cm (mg:Str->Option Value):Prop where
 JM:mg "ValueError" = none
 Wi:mg "all" = none
 abd:mg "bool" = none
 Li:mg "enumerate" = none
 vo:mg "int" = none
 cZ:mg "isinstance" = none
 eG:mg "len" = none
 abb:mg "list" = none
 alU:mg "max" = none
 ad4:mg "min" = none
 rH:mg "range" = none
 Ce:mg "str" = none
 Qp:mg "tuple" = none
 ZG:mg "zip" = none
theorem Bc:bH ["self","row"] ["self","row"] (aB cL):=⟨rfl,rfl,rfl,by decide +kernel,rfl,by decide +kernel,by decide +kernel⟩
theorem rB:bH ["text","lines","count","hands","number","line","row"] ["text"] (aB uM):=⟨rfl,rfl,rfl,by decide +kernel,rfl,by decide +kernel,by decide +kernel⟩
theorem M9:bH ["row"] ["row"] (aB gF):=⟨rfl,rfl,rfl,by decide +kernel,rfl,by decide +kernel,by decide +kernel⟩
theorem Gm:bH ["row","number","hands"] ["row","number","hands"] (aB dO):=⟨rfl,rfl,rfl,by decide +kernel,rfl,by decide +kernel,by decide +kernel⟩
theorem vY:bH ["row","number","count","cell"] ["row","number","count"] (aB dD):=⟨rfl,rfl,rfl,by decide +kernel,rfl,by decide +kernel,by decide +kernel⟩
theorem rZ:bH ["row","number","hands","full"] ["row","number","hands"] (aB dN):=⟨rfl,rfl,rfl,by decide +kernel,rfl,by decide +kernel,by decide +kernel⟩
theorem dW:bH ["hands","number","hand","row"] ["hands"] (aB cJ):=⟨rfl,rfl,rfl,by decide +kernel,rfl,by decide +kernel,by decide +kernel⟩
theorem xK:bH ["line","words","form","parts"] ["line"] (aB lq):=⟨rfl,rfl,rfl,by decide +kernel,rfl,by decide +kernel,by decide +kernel⟩
theorem M8:bH ["kind","word"] ["kind","word"] (aB gC):=⟨rfl,rfl,rfl,by decide +kernel,rfl,by decide +kernel,by decide +kernel⟩
theorem QB:bH ["word"] ["word"] (aB lg):=⟨rfl,rfl,rfl,by decide +kernel,rfl,by decide +kernel,by decide +kernel⟩
theorem yU:bH ["kind","halves","left","right"] ["kind","halves"] (aB gD):=⟨rfl,rfl,rfl,by decide +kernel,rfl,by decide +kernel,by decide +kernel⟩
theorem zx:bH ["word","number"] ["word"] (aB dY):=⟨rfl,rfl,rfl,by decide +kernel,rfl,by decide +kernel,by decide +kernel⟩
theorem QC:bH ["word"] ["word"] (aB lu):=⟨rfl,rfl,rfl,by decide +kernel,rfl,by decide +kernel,by decide +kernel⟩
theorem Io:bH ["word"] ["word"] (aB dZ):=⟨rfl,rfl,rfl,by decide +kernel,rfl,by decide +kernel,by decide +kernel⟩
theorem vZ:bH ["script","stir","cell","great"] ["script"] (aB pX):=⟨rfl,rfl,rfl,by decide +kernel,rfl,by decide +kernel,by decide +kernel⟩
theorem zF:bH ["reel","many","rest","told","stir"] ["reel","many"] (aB qb):=⟨rfl,rfl,rfl,by decide +kernel,rfl,by decide +kernel,by decide +kernel⟩
theorem jE:bH ["text","caught","e","kinds","above","at"] ["text"] (aB lE):=⟨rfl,rfl,rfl,by decide +kernel,rfl,by decide +kernel,by decide +kernel⟩
theorem G9:bH ["reel","kind"] ["reel"] (aB lC):=⟨rfl,rfl,rfl,by decide +kernel,rfl,by decide +kernel,by decide +kernel⟩
theorem Bd:bH ["reel","kind","one"] ["reel"] (aB lA):=⟨rfl,rfl,rfl,by decide +kernel,rfl,by decide +kernel,by decide +kernel⟩
theorem zA:bH ["reel","many","size","kind","box","cell","to"] ["reel","many","size"] (aB uN):=⟨rfl,rfl,rfl,by decide +kernel,rfl,by decide +kernel,by decide +kernel⟩
theorem nM:bH ["reel","many","count","long","hands","k","size"] ["reel"] (aB pY):=⟨rfl,rfl,rfl,by decide +kernel,rfl,by decide +kernel,by decide +kernel⟩
theorem El:bH ["told"] ["told"] (aB dF):=⟨rfl,rfl,rfl,by decide +kernel,rfl,by decide +kernel,by decide +kernel⟩
theorem uL:bH ["row","words","part"] ["row"] (aB d7):=⟨rfl,rfl,rfl,by decide +kernel,rfl,by decide +kernel,by decide +kernel⟩
theorem zy:bH ["program","rows","hand"] ["program"] (aB pU):=⟨rfl,rfl,rfl,by decide +kernel,rfl,by decide +kernel,by decide +kernel⟩
theorem QD:bH [] [] (aB lB):=⟨rfl,rfl,rfl,by decide +kernel,rfl,by decide +kernel,by decide +kernel⟩
theorem Kf:bH ["reel","signs"] ["reel"] (aB pW):=⟨rfl,rfl,rfl,by decide +kernel,rfl,by decide +kernel,by decide +kernel⟩
theorem sY:bH ["reel","pick","signs","some"] ["reel"] (aB pR):=⟨rfl,rfl,rfl,by decide +kernel,rfl,by decide +kernel,by decide +kernel⟩
theorem fD:bH ["reel","rows","kind","at","to","changed","words"] ["reel","rows","kind"] (aB cX):=⟨rfl,rfl,rfl,by decide +kernel,rfl,by decide +kernel,by decide +kernel⟩
theorem uK:bH ["reel","text","kind","sign","at"] ["reel","text"] (aB gG):=⟨rfl,rfl,rfl,by decide +kernel,rfl,by decide +kernel,by decide +kernel⟩
theorem Gn:bH ["word"] ["word"] (aB dR):=⟨rfl,rfl,rfl,by decide +kernel,rfl,by decide +kernel,by decide +kernel⟩
theorem Ip:bH ["word"] ["word"] (aB d9):=⟨rfl,rfl,rfl,by decide +kernel,rfl,by decide +kernel,by decide +kernel⟩
theorem zB:bH ["word","cuts"] ["word"] (aB d8):=⟨rfl,rfl,rfl,by decide +kernel,rfl,by decide +kernel,by decide +kernel⟩
theorem TJ:bH ["word","part"] ["word","part"] (aB p7):=⟨rfl,rfl,rfl,by decide +kernel,rfl,by decide +kernel,by decide +kernel⟩
theorem zE:bH ["words","forms","form","parts"] ["words"] (aB pZ):=⟨rfl,rfl,rfl,by decide +kernel,rfl,by decide +kernel,by decide +kernel⟩
theorem Bf:bH ["row","many","lengths","words","parts"] ["row","many","lengths"] (aB lD):=⟨rfl,rfl,rfl,by decide +kernel,rfl,by decide +kernel,by decide +kernel⟩
theorem qJ:bH ["rows","lengths","hand","at","words"] ["rows","lengths"] (aB gH):=⟨rfl,rfl,rfl,by decide +kernel,rfl,by decide +kernel,by decide +kernel⟩
theorem xM:bH ["text","rows","words","lengths","at","fault"] ["text"] (aB uO):=⟨rfl,rfl,rfl,by decide +kernel,rfl,by decide +kernel,by decide +kernel⟩
theorem yV:bH ["script","reel","k","steps","text","step"] ["script"] (aB zG):=⟨rfl,rfl,rfl,by decide +kernel,rfl,by decide +kernel,by decide +kernel⟩
section
variable {P:Program} {w:World} {K:PySem.W.Frag} {mg:Str->Option Value} {base:Heap}
theorem Qe {α β:Type} (p:α->Bool) (g:α->β):∀l:List α,(List.range l.length).filterMap (fun i=>(l[i]?).bind fun x=>if p x then some (g x) else none)=(l.filter p).map g
 | []=>rfl
 | x::l=>by
   have ih:=Qe p g l;rw [List.length_cons,List.range_succ_eq_map,List.filterMap_cons,List.filterMap_map,List.filter_cons];cases q:p x
   ·simp [q];exact ih
   ·simp [q];exact ih
theorem Di (x y:Int):PyData.eqv (.int x) (.int y)=decide (x=y):=by
 simp only [PyData.eqv];rw [Bool.eq_iff_iff];simp
theorem nY {H:Hp} {a:Addr} {ns:List Int} (h:H a=some (.lst (ns.map V.int))):Dat H (.ref a) (.list (ns.map PyData.int)):=Fv h (aQ.ints ns)
theorem shaped_ints (ns:List Int):SeqAt.shaped (.list (ns.map PyData.int))=true:=Ke PyData.int 0 (by decide) (fun _ _=>rfl) (fun _ _=>by show 0<=0;decide)
def gI (cs:List Int) (h:Int):Int:=(cs[h.toNat]?).getD 0
theorem abe {cs:List Int} {h:Int} (h0:0<=h) (h1:h<cs.length):vq (cs.map V.int) h=some (.int (gI cs h)):=by
 obtain ⟨m,rfl⟩:=Int.eq_ofNat_of_zero_le h0;have:m<cs.length:=by omega
 refine bW ?_;simp [gI,this]
theorem ZC {H:Hp} {p:Addr} {x:HD} (h:H p=some (.tup (match x with | .num n=>[.str "number",.int n] | .box b=>[.str "box",.str (BK b)]))):Dat H (.ref p) (Gf x):=by
 cases x<;>simp only [Gf,Dat]<;>refine ⟨p,_,rfl,h, ?_⟩<;>simp only [aQ,Dat,and_true]
theorem aa5 {H:Hp} {p:Addr} {a b:V} {q:Bool} {x y:HD} (h:H p=some (.tup [.str (if q then "plus" else "minus"),a,b])) (da:Dat H a (Gf x)) (db:Dat H b (Gf y)):Dat H (.ref p) (Gj (.two q x y)):=by
 simp only [Gj,Dat];refine ⟨p,_,rfl,h, ?_⟩;simp only [aQ,Dat,and_true];exact ⟨trivial,da,db⟩
def aav:Option Nat->V
 | some n=> .int (n:Nat)
 | none=> .non
theorem Uq {H:Hp} (o:Option Nat):Dat H (aav o) (wA o):=by cases o<;>simp only [aav,wA,Dat]
def CP (K:PySem.W.Frag):Sp:=fun vs H Q _=>∃x:Str,vs=[.str x]/\x.length<=1000000 /\ ∀H',Same H H'->Q (aav (dj x)) H'
theorem len_list (x:Str):x.cps.toList.length=x.length:=by simp [Str.length]
theorem VB (c:Nat):(!(Builtin.Str.occurrences (Str.ofString "0123456789") ⟨#[c]⟩ 0 (Str.ofString "0123456789").length 1).isEmpty)=(decide (48<=c)&&decide (c<=57)):=by
 rw [StrLaws.found_one];have il:(Str.ofString "0123456789").cps.toList=[48,49,50,51,52,53,54,55,56,57]:=by decide
 rw [il]
 by_cases h:48<=c/\c<=57
 ·have:c=48\/c=49\/c=50\/c=51\/c=52\/c=53\/c=54\/c=55\/c=56\/c=57:=by omega
  rw [decide_eq_true h.1,decide_eq_true h.2,decide_eq_true (by simpa using this)];rfl
 ·have n:c∉[48,49,50,51,52,53,54,55,56,57]:=fun z=>by
   simp only [List.mem_cons,List.not_mem_nil,or_false] at z;omega
  rw [decide_eq_false n]
  by_cases h1:48<=c
  ·rw [decide_eq_true h1,decide_eq_false (by omega)];rfl
  ·rw [decide_eq_false h1];rfl
theorem Ug {f:Addr} {fd:FuncData} (F:rm K "number_of" "number_of" dZ f fd) (xV:Gv mg "FIGURES" (.str "0123456789")) (lZ:Gv mg "MOST_FIGURES" (.int 3)) (Bt:Cm mg):dM P w K mg base tV 1 f fd ["word"] (CP K):=by
 refine F.ok Io (fun vs H Q E h=> ?_) (fun cdv A outer s H vs Q E hr h=> ?_)
 ·obtain ⟨x,rfl,_⟩:=h
  rfl
 ·obtain ⟨x,rfl,xl,k⟩:=h
  have Bq:=hr.units
  refine ⟨_,(aA (bI (v8 (Ko PL PL au (aY fH (by rfl) Bt.eG cY (aj (pv 0) ak)) (cU (by rfl) lZ.choose_spec.1 lZ.choose_spec.2))) (aG (aN eV)) aR)
   (aA (bI (v8 (oY (aY (o9 (K:=K) rfl rfl) (by rfl) Bt.Wi Oo (aj (uR rfl (N:=["sign"]) (own:=["sign"]) (caps:=[]) (bZ.of (by kernel_rfl)) (T8 (pv 0)) (fun _ _ _ _=>(cM (i:=0) (show List.Nodup (["sign"]:List Str) by decide +kernel) rfl (Or.inl rfl))) (fun _ _ _ _=>rD) (fun _ _ _ _=>(dU jG (pv 0) (cU (by rfl) xV.choose_spec.1 xV.choose_spec.2) (by with_unfolding_all rfl)))) ak)))) (aG (aN eV)) aR)
   (aA (bI (PW.pt (v7 (aK cB (aV wH (pv 0) au (fun _ _=>rfl)) aM (aO _)) (rC (aK zJ (aY fH (by rfl) Bt.eG cY (aj (pv 0) ak)) au (aO _))))) (aG (aN eV)) aR)
   (aG (aN (cj qt (by rfl) Bt.vo o_ (aj (pv 0) ak))))))), ?_⟩
  have none_of:dH x=false -> ∀H',Same H H'->Q .non H':=fun e H' s=>by have:=k H' s;rwa [Bk e] at this
  have sz:x.cps.size=x.length:=rfl;refine ⟨_,rfl,x,rfl,by rw [sizeLine_eq];omega,_,_,rfl,rfl,_,rfl, ?_⟩;refine cD (fun h1=> ?_) (fun h1=> ?_)
  ·refine ⟨_,_,rfl,rfl,_,rfl, ?_⟩
   have h1:1<=x.length:=by have:=of_decide_eq_true h1;omega
   by_cases h3:x.length<=3
   ·rw [decide_eq_true (show (x.length:Int)<=3 by omega)]
    refine cP ?_;refine ⟨_,rfl,x,rfl,fun D hD=> ?_⟩;refine Ht (fun i=>(x.cps.toList[i]?).map fun c=>V.bl (decide (48<=c)&&decide (c<=57))) hD (by omega) (fun m c H1 G F hc s1 kG kF=> ?_) (fun H1 s1 e1=> ?_)
    ·refine ⟨_,rfl,_,_,rfl,rfl, ?_⟩
     rw [VB];have hc':x.cps.toList[m]? = some c:=by rw [Array.getElem?_toList];exact hc
     exact kF _ H1 (Same.refl _) (by rw [hc'];rfl)
    rw [show x.cps.size=x.cps.toList.length by simp,zP] at e1;refine ⟨D,x.cps.toList.map fun c=>decide (48<=c)&&decide (c<=57),rfl,bO.of (by rw [e1,List.map_map];rfl),_,rfl, ?_⟩;have ea:(x.cps.toList.map fun c=>decide (48<=c)&&decide (c<=57)).all id=x.cps.toList.all (fun c=>decide (48<=c)&&decide (c<=57)):=by rw [List.all_map];rfl
    rw [ea];cases al:x.cps.toList.all (fun c=>decide (48<=c)&&decide (c<=57)) with
    | false=>
      refine dz ?_;exact none_of (by unfold dH;rw [al,Bool.and_false,Bool.false_and]) H1 s1
    | true=>
      refine cP ?_;obtain ⟨c,ec⟩:∃c,x.cps.toList[0]? = some c:=⟨_,List.getElem?_eq_getElem (by rw [len_list];omega)⟩;refine ⟨_,rfl,x,0,c,rfl,rfl,by rw [sizeLine_eq];omega,bW (j:=0) ec,rfl,_,rfl, ?_⟩;have e0:x.cps[0]? = some c:=by rw [←Array.getElem?_toList];exact ec
      have okx:(decide (x.length<=1) || !decide (x.cps[0]? = some 48))=true->dH x=true:=fun q=>by
       unfold dH;rw [al,decide_eq_true h1,decide_eq_true h3,q];rfl
      have fin:dH x=true -> ∃(n:Int),PySem.intText? x=some n/\x.length<=640/\Q (.int n) H1:=fun ok=>by
       obtain ⟨n,n1,rfl⟩:=tE ok;have:=k H1 s1;rw [Dg n1] at this;exact ⟨n,nQ n1,by omega,this⟩
      by_cases hz:c=48
      ·refine cD (fun _=> ?_) (fun z=>absurd (decide_eq_true (by rw [hz];rfl)) z)
       refine ⟨_,rfl,x,rfl,by rw [sizeLine_eq];omega,_,_,rfl,rfl,_,rfl, ?_⟩
       by_cases l1:1<x.length
       ·rw [decide_eq_true (show (1:Int)<x.length by omega)]
        refine dz ?_;exact none_of (by unfold dH;rw [decide_eq_false (show ¬x.length<=1 by omega),e0,hz];simp) H1 s1
       ·rw [decide_eq_false (show ¬(1:Int)<x.length by omega)]
        refine cP ?_;obtain ⟨n,e1,e2,q⟩:=fin (okx (by rw [decide_eq_true (show x.length<=1 by omega)];rfl));exact ⟨_,rfl,x,n,rfl,e1,e2,q⟩
      ·refine cD (fun z=>absurd (of_decide_eq_true z) (fun w=>hz (by injection w with w;have:[c]=[48]:=congrArg (fun x:Str=>x.cps.toList) w;simpa using this))) (fun _=> ?_)
       obtain ⟨n,e1,e2,q⟩:=fin (okx (by rw [e0,decide_eq_false (fun z=>hz (Option.some.inj z))];simp));exact ⟨_,rfl,x,n,rfl,e1,e2,q⟩
   ·rw [decide_eq_false (show ¬(x.length:Int)<=3 by omega)]
    refine dz ?_;exact none_of (by unfold dH;rw [decide_eq_false h3,Bool.and_false];rfl) H (Same.refl _)
  ·have h1:¬1<=x.length:=fun z=>h1 (decide_eq_true (by omega))
   refine ⟨_,rfl,dz ?_⟩;exact none_of (by unfold dH;rw [decide_eq_false h1];rfl) H (Same.refl _)
def CQ (K:PySem.W.Frag):Sp:=fun vs H Q _=>∃x:Str,vs=[.str x]/\x.length<=1000000/\Q (.bl (fG x).isSome) H
theorem Ui {f:Addr} {fd:FuncData} (F:rm K "is_box" "is_box" lu f fd) (Dk:Gv mg "BOXES" (.str "abcdefgh")) (Bt:Cm mg):dM P w K mg base tV 1 f fd ["word"] (CQ K):=by
 refine F.ok QC (fun vs H Q E h=> ?_) (fun cdv A outer s H vs Q E hr h=> ?_)
 ·obtain ⟨x,rfl,_⟩:=h
  rfl
 ·obtain ⟨x,rfl,xl,k⟩:=h
  refine ⟨_,(aG (aN (Bh (dU cB (aY fH (by rfl) Bt.eG cY (aj (pv 0) ak)) au (aO _)) (Bg (dU jG (pv 0) (cU (by rfl) Dk.choose_spec.1 Dk.choose_spec.2) (by with_unfolding_all rfl)))))), ?_⟩;rw [JD] at k;refine ⟨_,rfl,x,rfl,by rw [sizeLine_eq];omega,rfl,_,rfl, ?_⟩
  by_cases h1:x.length=1
  ·rw [decide_eq_true h1] at k
   refine cD (fun _=> ?_) (fun z=>absurd (decide_eq_true (by rw [h1];rfl)) z);exact ⟨_,rfl,_,_,rfl,rfl,k⟩
  ·rw [decide_eq_false h1] at k
   exact cD (fun z=>absurd (of_decide_eq_true z) (fun w=>h1 (by injection w with w;omega))) (fun _=>k)
def x1O:Option HD->PyData
 | some e=>Gf e
 | none=> .none
def zq (K:PySem.W.Frag):Sp:=fun vs H Q _=>∃x:Str,vs=[.str x]/\x.length<=1000000 /\ ∀(v:V) (H':Hp),Dat H' v (x1O (vU x))->Same H H'->Q v H'
theorem QW {f:Addr} {fd:FuncData} (F:rm K "single_of" "single_of" dY f fd) (Gb:FnAt P w K mg base 1 "is_box" ["word"] (CQ K)) (w6:FnAt P w K mg base 1 "number_of" ["word"] (CP K)):dM P w K mg base tV 2 f fd ["word"] (zq K):=by
 refine F.ok zx (fun vs H Q E h=> ?_) (fun cdv A outer s H vs Q E hr h=> ?_)
 ·obtain ⟨x,rfl,_⟩:=h
  rfl
 ·obtain ⟨x,rfl,xl,k⟩:=h
  refine ⟨_,(aA (bI (oY (bG Gb (hr.mono (by decide)) (by rfl) (aj (pv 0) ak))) (aG (aN (cF (aj aM (aj (pv 0) ak))))) aR)
   (aA (aX (i:=1) zx.nd rfl (Or.inl rfl) (bG w6 (hr.mono (by decide)) (by rfl) (aj (pv 0) ak)))
   (aG (aN (wk (aK Bj (pv 1) eV (aO _)) eV (cF (aj aM (aj (pv 1) ak)))))))), ?_⟩
  refine ⟨_,rfl,x,rfl,xl,_,rfl, ?_⟩;cases eb:fG x with
  | some b=>
    refine dz ?_;refine ⟨_,rfl,(by show 2<=sizeLine;decide),fun t ht=> ?_⟩;obtain ⟨b8,rfl⟩:=jK eb;refine k _ _ ?_ (aF ht);unfold vU;rw [eb];exact ZC (x:= .box b) aq
  | none=>
    refine cP ?_;refine ⟨_,rfl,x,rfl,xl,fun H1 s1=> ?_⟩;cases en:dj x with
    | none=>
      refine ⟨_,rfl,rfl,_,rfl,dz ?_⟩;refine k _ _ ?_ s1;unfold vU;rw [eb,en];simp only [x1O,Dat]
    | some n=>
      refine ⟨_,rfl,rfl,_,rfl,cP ?_⟩;refine ⟨_,rfl,(by show 2<=sizeLine;decide),fun t ht=> ?_⟩;refine k _ _ ?_ (s1.trans (aF ht));unfold vU;rw [eb,en];exact ZC (x:= .num n) aq
theorem S8 {H:Hp} {v:V} (h:Dat H v (x1O none)):v = .non:=by simpa only [x1O,Dat] using h
theorem S7 {H:Hp} {v:V} {e:HD} (h:Dat H v (x1O (some e))):∃t,v = .ref t:=by
 obtain ⟨t,e,_⟩:=ad5 (x:=e) h;exact ⟨t,e⟩
def MF (K:PySem.W.Frag):Sp:=fun vs H Q _=>∃(q:Bool) (t:Addr) (a b c:Str),vs=[.str (if q then "plus" else "minus"),.ref t]/\H t=some (.tup [.str a,.str b,.str c])/\a.length<=1000000/\c.length<=1000000 /\ ∀(v:V) (H':Hp),Dat H' v (rY (xX q (a,b,c)))->Same H H'->Q v H'
theorem X4 {f:Addr} {fd:FuncData} (F:rm K "pair_of" "pair_of" gD f fd) (rK:FnAt P w K mg base 2 "single_of" ["word"] (zq K)):dM P w K mg base tV 3 f fd ["kind","halves"] (MF K):=by
 refine F.ok yU (fun vs H Q E h=> ?_) (fun cdv A outer s H vs Q E hr h=> ?_)
 ·obtain ⟨q,t,a,b,c,rfl,_⟩:=h
  rfl
 ·obtain ⟨q,t,a,b,c,rfl,ht,al,cl,k⟩:=h
  refine ⟨_,(aA (aX (i:=2) yU.nd rfl (Or.inl rfl) (bG rK (hr.mono (by decide)) (by rfl) (aj (aV (bQ (K:=K) rfl) (pv 1) au (fun _ _=>rfl)) ak)))
   (aA (aX (i:=3) yU.nd rfl (Or.inl rfl) (bG rK (hr.mono (by decide)) (by rfl) (aj (aV (bQ (K:=K) rfl) (pv 1) au (fun _ _=>rfl)) ak)))
   (aA (bI (PW.pt (vh (aK Bj (pv 2) eV (aO _)) (uQ (aK Bj (pv 3) eV (aO _))))) (aG (aN eV)) aR)
   (aG (aN (cF (aj (pv 0) (aj (pv 2) (aj (pv 3) ak))))))))), ?_⟩
  refine ⟨_,rfl,_,_,_,_,rfl,rfl,eU.of ht,rfl,a,rfl,al,fun v1 H1 d1 s1=> ?_⟩;refine ⟨_,rfl,_,_,_,_,rfl,rfl,eU.of (s1 _ _ ht),rfl,c,rfl,cl,fun v2 H2 d2 s2=> ?_⟩;have s12:=s1.trans s2;cases e1:vU a with
  | none=>
    rw [e1] at d1;cases S8 d1;refine ⟨_,rfl,rfl,_,rfl,dz (dz ?_)⟩;refine k _ _ ?_ s12;unfold xX;simp only [e1,rY,Dat]
  | some x=>
    rw [e1] at d1;obtain ⟨t1,rfl⟩:=S7 d1;refine ⟨_,rfl,rfl,_,rfl,cP ?_⟩;cases e2:vU c with
    | none=>
      rw [e2] at d2;cases S8 d2;refine ⟨_,rfl,rfl,_,rfl,dz ?_⟩;refine k _ _ ?_ s12;unfold xX;simp only [e1,e2,rY,Dat]
    | some y=>
      rw [e2] at d2;obtain ⟨t2,rfl⟩:=S7 d2;refine ⟨_,rfl,rfl,_,rfl,cP ?_⟩;refine ⟨_,rfl,_,rfl,_,rfl,(by show 3<=sizeLine;decide),fun u hu=> ?_⟩;have su:=aF (o:=HO.tup [V.str (if q then "plus" else "minus"),V.ref t1,V.ref t2]) hu;refine k _ _ ?_ (s12.trans su);unfold xX;simp only [e1,e2,rY];exact aa5 aq ((d1.same s2 _).same su _) (d2.same su _)
def Tq (K:PySem.W.Frag):Sp:=fun vs H Q _=>∃x:Str,vs=[.str x]/\x.length<=1000000 /\ ∀(v:V) (H':Hp),Dat H' v (rY (cQ x))->Same H H'->Q v H'
theorem XH (o:Option HD):rY (o.map GX.one)=x1O o:=by cases o<;>rfl
theorem sub_len (x:Str) (i j:Nat):(Builtin.Str.strSub x i j).length<=x.length:=by
 rw [←len_list,←len_list,StrLaws.strSub_toList,List.length_take,List.length_drop];omega
theorem Ku (x y:Str):(Txt.partition x y).1.length<=x.length/\(Txt.partition x y).2.2.length<=x.length:=by
 unfold Txt.partition;split
 ·exact ⟨sub_len _ _ _,sub_len _ _ _⟩
 ·exact ⟨Nat.le_refl _,Nat.zero_le _⟩
theorem aar {f:Addr} {fd:FuncData} (F:rm K "sum_of" "sum_of" lg f fd) (HB:FnAt P w K mg base 3 "pair_of" ["kind","halves"] (MF K)) (rK:FnAt P w K mg base 2 "single_of" ["word"] (zq K)):dM P w K mg base tV 4 f fd ["word"] (Tq K):=by
 refine F.ok QB (fun vs H Q E h=> ?_) (fun cdv A outer s H vs Q E hr h=> ?_)
 ·obtain ⟨x,rfl,_⟩:=h
  rfl
 ·obtain ⟨x,rfl,xl,k⟩:=h
  refine ⟨_,(aA (bI (aK jG aM (pv 0) (by with_unfolding_all rfl)) (aG (aN (bG HB (hr.mono (by decide)) (by rfl) (aj aM (aj (eX (K:=K) rfl PySem.F.plainAttrs_str PySem.F.slot_str_partition PySem.F.type_str_partition P0 (pv 0) (aj aM ak)) ak))))) aR)
   (aA (bI (aK jG aM (pv 0) (by with_unfolding_all rfl)) (aG (aN (bG HB (hr.mono (by decide)) (by rfl) (aj aM (aj (eX (K:=K) rfl PySem.F.plainAttrs_str PySem.F.slot_str_partition PySem.F.type_str_partition P0 (pv 0) (aj aM ak)) ak))))) aR)
   (aG (aN (bG rK (hr.mono (by decide)) (by rfl) (aj (pv 0) ak)))))), ?_⟩
  have i1:(!(Builtin.Str.occurrences x (Str.ofString "+") 0 x.length 1).isEmpty)=decide (43∈x.cps.toList):=StrLaws.found_one x 43;have i2:(!(Builtin.Str.occurrences x (Str.ofString "-") 0 x.length 1).isEmpty)=decide (45∈x.cps.toList):=StrLaws.found_one x 45;refine ⟨_,rfl,_,_,rfl,rfl,_,rfl, ?_⟩;rw [i1]
  by_cases h1:43∈x.cps.toList
  ·rw [decide_eq_true h1]
   refine dz ?_;obtain ⟨l1,l2⟩:=Ku x (Str.ofString "+");refine ⟨_,rfl,rfl,_,_,rfl,rfl,rfl,by rw [sizeLine_eq];omega,fun q hq=> ?_⟩;have sq:=aF (o:=HO.tup [.str (Txt.partition x (Str.ofString "+")).1,.str (Txt.partition x (Str.ofString "+")).2.1,.str (Txt.partition x (Str.ofString "+")).2.2]) hq;refine ⟨true,q,_,_,_,rfl,aq,by omega,by omega,fun v H1 d s1=>k v H1 ?_ (sq.trans s1)⟩;unfold cQ;rw [if_pos h1];exact d
  ·rw [decide_eq_false h1]
   refine cP ?_;refine ⟨_,rfl,_,_,rfl,rfl,_,rfl, ?_⟩;rw [i2]
   by_cases h2:45∈x.cps.toList
   ·rw [decide_eq_true h2]
    refine dz ?_;obtain ⟨l1,l2⟩:=Ku x (Str.ofString "-");refine ⟨_,rfl,rfl,_,_,rfl,rfl,rfl,by rw [sizeLine_eq];omega,fun q hq=> ?_⟩;have sq:=aF (o:=HO.tup [.str (Txt.partition x (Str.ofString "-")).1,.str (Txt.partition x (Str.ofString "-")).2.1,.str (Txt.partition x (Str.ofString "-")).2.2]) hq;refine ⟨false,q,_,_,_,rfl,aq,by omega,by omega,fun v H1 d s1=>k v H1 ?_ (sq.trans s1)⟩;unfold cQ;rw [if_neg h1,if_pos h2];exact d
   ·rw [decide_eq_false h2]
    refine cP ?_;refine ⟨_,rfl,x,rfl,xl,fun v H1 d s1=>k v H1 ?_ s1⟩;unfold cQ;rw [if_neg h1,if_neg h2,XH];exact d
theorem aaf (x:Str):inV (V.str x) [V.str (Str.ofString "="),V.str (Str.ofString "<")]=(G8 x).isSome:=by
 unfold G8
 by_cases h:x=Str.ofString "="
 ·subst h;decide
 ·rw [if_neg h]
  by_cases h2:x=Str.ofString "<"
  ·subst h2;decide
  ·rw [if_neg h2]
   show ((Rj (V.str (Str.ofString "=")) (V.str x))||((Rj (V.str (Str.ofString "<")) (V.str x))||false))=false;have e1:Rj (V.str (Str.ofString "=")) (V.str x)=false:=decide_eq_false fun z=>h z.symm;have e2:Rj (V.str (Str.ofString "<")) (V.str x)=false:=decide_eq_false fun z=>h2 z.symm;rw [e1,e2];rfl
theorem aae {x:Str} {q:Bool} (h:G8 x=some q):x=(if q then Str.ofString "=" else Str.ofString "<"):=by
 unfold G8 at h;split at h
 ·cases h;assumption
 ·split at h
  ·cases h;assumption
  ·cases h
def Mz (K:PySem.W.Frag):Sp:=fun vs H Q _=>∃(kd:Kd) (x:Str),vs=[.str (kdS kd),.str x]/\x.length<=1000000 /\ ∀(v:V) (H':Hp),Dat H' v (eY kd x)->Same H H'->Q v H'
theorem X3 {f:Addr} {fd:FuncData} (F:rm K "part_of" "part_of" gC f fd) (w6:FnAt P w K mg base 1 "number_of" ["word"] (CP K)) (Wt:FnAt P w K mg base 4 "sum_of" ["word"] (Tq K)) (Gb:FnAt P w K mg base 1 "is_box" ["word"] (CQ K)):dM P w K mg base tV 5 f fd ["kind","word"] (Mz K):=by
 refine F.ok M8 (fun vs H Q E h=> ?_) (fun cdv A outer s H vs Q E hr h=> ?_)
 ·obtain ⟨kd,x,rfl,_⟩:=h
  rfl
 ·obtain ⟨kd,x,rfl,xl,k⟩:=h
  refine ⟨_,(aA (bI (aK cB (pv 0) aM (aO _)) (aG (aN (bG w6 (hr.mono (by decide)) (by rfl) (aj (pv 1) ak)))) aR)
   (aA (bI (aK cB (pv 0) aM (aO _)) (aG (aN (bG Wt (hr.mono (by decide)) (by rfl) (aj (pv 1) ak)))) aR)
   (aA (bI (aK cB (pv 0) aM (aO _)) (aG (aN (wk (oY (bG Gb (hr.mono (by decide)) (by rfl) (aj (pv 1) ak))) (pv 1) eV))) aR)
   (aA (bI (aK cB (pv 0) aM (aO _)) (aG (aN (wk (aK (qL (K:=K) rfl) (pv 1) (cF (aj aM (aj aM ak))) (by with_unfolding_all rfl)) (pv 1) eV))) aR)
   (aG (aN (wk (aK cB (pv 1) (pv 0) (aO _)) (pv 1) eV))))))), ?_⟩
  cases kd with
  | num=>
    refine ⟨_,rfl,rfl,_,rfl,cD (fun _=> ?_) (fun z=>absurd (decide_eq_true rfl) z)⟩;exact ⟨_,rfl,x,rfl,xl,fun H1 s1=>k _ H1 (Uq _) s1⟩
  | sum=>
    refine ⟨_,rfl,rfl,_,rfl,cD (fun z=>absurd (of_decide_eq_true z) (by decide)) (fun _=> ?_)⟩;refine ⟨_,rfl,rfl,_,rfl,cD (fun _=> ?_) (fun z=>absurd (decide_eq_true rfl) z)⟩;exact ⟨_,rfl,x,rfl,xl,fun v H1 d s1=>k v H1 d s1⟩
  | box=>
    refine ⟨_,rfl,rfl,_,rfl,cD (fun z=>absurd (of_decide_eq_true z) (by decide)) (fun _=> ?_)⟩;refine ⟨_,rfl,rfl,_,rfl,cD (fun z=>absurd (of_decide_eq_true z) (by decide)) (fun _=> ?_)⟩;refine ⟨_,rfl,rfl,_,rfl,cD (fun _=> ?_) (fun z=>absurd (decide_eq_true rfl) z)⟩;refine ⟨_,rfl,x,rfl,xl,_,rfl, ?_⟩;cases eb:fG x with
    | some b=>
      refine dz ?_;refine ⟨_,rfl,k _ H ?_ (Same.refl _)⟩;obtain ⟨_,e⟩:=jK eb;show Dat H (.str x) (BL (fG x));rw [eb,e];simp only [BL,Dat]
    | none=>
      refine cP (k _ H ?_ (Same.refl _));show Dat H .non (BL (fG x));rw [eb];simp only [BL,Dat]
  | sign=>
    refine ⟨_,rfl,rfl,_,rfl,cD (fun z=>absurd (of_decide_eq_true z) (by decide)) (fun _=> ?_)⟩;refine ⟨_,rfl,rfl,_,rfl,cD (fun z=>absurd (of_decide_eq_true z) (by decide)) (fun _=> ?_)⟩;refine ⟨_,rfl,rfl,_,rfl,cD (fun z=>absurd (of_decide_eq_true z) (by decide)) (fun _=> ?_)⟩;refine ⟨_,rfl,rfl,_,rfl,cD (fun _=> ?_) (fun z=>absurd (decide_eq_true rfl) z)⟩;refine ⟨_,rfl,(by show 2<=sizeLine;decide),fun q hq=> ?_⟩;have sq:=aF (o:=HO.tup [V.str (Str.ofString "="),V.str (Str.ofString "<")]) hq;refine ⟨q,_,rfl,.inr (eU.of aq),rfl,rfl,_,rfl, ?_⟩;rw [if_neg (by decide),aaf];cases eb:G8 x with
    | some b=>
      refine dz ?_;refine ⟨_,rfl,k _ _ ?_ sq⟩;show Dat _ (.str x) (W_ (G8 x));rw [eb];simp only [W_,Dat];rw [aae eb]
    | none=>
      refine cP (k _ _ ?_ sq);show Dat _ .non (W_ (G8 x));rw [eb];simp only [W_,Dat]
  | go=>
    refine ⟨_,rfl,rfl,_,rfl,cD (fun z=>absurd (of_decide_eq_true z) (by decide)) (fun _=> ?_)⟩;refine ⟨_,rfl,rfl,_,rfl,cD (fun z=>absurd (of_decide_eq_true z) (by decide)) (fun _=> ?_)⟩;refine ⟨_,rfl,rfl,_,rfl,cD (fun z=>absurd (of_decide_eq_true z) (by decide)) (fun _=> ?_)⟩;refine ⟨_,rfl,rfl,_,rfl,cD (fun z=>absurd (of_decide_eq_true z) (by decide)) (fun _=> ?_)⟩;refine ⟨_,rfl,_,rfl,rfl,_,rfl,cD (fun z=> ?_) (fun z=> ?_)⟩
    ·have e:x=Str.ofString "go" :=by have:=of_decide_eq_true z;injection this
     refine ⟨_,rfl,k _ H ?_ (Same.refl _)⟩;show Dat H (.str x) (if x = "go" then .str "go" else .none);rw [if_pos e,e];simp only [Dat]
    ·have e:¬x=Str.ofString "go" :=fun w=>z (decide_eq_true (by rw [w];rfl))
     refine k _ H ?_ (Same.refl _);show Dat H .non (if x = "go" then .str "go" else .none);rw [if_neg e];simp only [Dat]
theorem UL {c:Nat}:∀{l:List (List Nat)} {p:List Nat},p∈l->p.length<=(jn c l).length
 | [x],p,h=>by simp only [List.mem_singleton] at h;subst h;simp [jn]
 | x::y::r,p,h=>by
   show p.length<=(x++c::jn c (y::r)).length;rw [List.length_append,List.length_cons];rcases List.mem_cons.mp h with rfl|h
   ·omega
   ·have:=UL (c:=c) h
    omega
theorem J8 {c:Nat} {x w:Str} (h:w∈Txt.split x ⟨#[c]⟩):w.length<=x.length:=by
 have e:=StrLaws.join_split x ⟨#[c]⟩;have:=UL (c:=c) (List.mem_map_of_mem (f:=fun p:Str=>p.cps.toList) h);have q:=Ji c (Txt.split x ⟨#[c]⟩);rw [←q] at this;rw [←len_list,←len_list];have e2:(Str.join ⟨#[c]⟩ (Txt.split x ⟨#[c]⟩)).cps.toList=x.cps.toList:=by exact congrArg (fun s:Str=>s.cps.toList) e
 rwa [e2] at this
def prt (ks:List Kd) (ws:List Str) (i:Nat):PyData:=match ks[i]?,ws[i]? with
 | some k,some w=>eY k w
 | _,_=> .none
theorem ach:∀(ks:List Kd) (ws:List Str),ws.length=ks.length->(List.range ks.length).map (prt ks ws)=(ks.zip ws).map fun p=>eY p.1 p.2
 | [],[],_=>rfl
 | [],_::_,h=>by cases h
 | _::_,[],h=>by cases h
 | k::ks,w::ws,h=>by
   rw [List.length_cons,List.range_succ_eq_map,List.map_cons,List.map_map,List.zip_cons_cons,List.map_cons,←ach ks ws (Nat.succ.inj h)];rfl
theorem U5 (k:Kd) (w':Str):xT (eY k w')=true:=by
 cases k with
 | num=>show xT (wA (dj w'))=true;cases dj w'<;>rfl
 | sum=>show xT (rY (cQ w'))=true;cases cQ w' with
   | none=>rfl
   | some e=>exact o8 e
 | box=>show xT (BL (fG w'))=true;cases fG w'<;>rfl
 | sign=>show xT (W_ (G8 w'))=true;cases G8 w'<;>rfl
 | go=>show xT (if w' = "go" then .str "go" else .none)=true;split<;>rfl
theorem Yl (ks:List Kd) (ws:List Str) (i:Nat):xT (prt ks ws i)=true:=by
 unfold prt;split
 ·exact U5 _ _
 ·rfl
theorem gB {d:PyData} (h1:d.canLay0=true) (h2:d.depth<=64):SeqAt.shaped d=true:=by
 unfold SeqAt.shaped;rw [h1,decide_eq_true h2];rfl
theorem W9 (k:Kd) (w':Str):SeqAt.shaped (eY k w')=true:=by
 cases k with
 | num=>show SeqAt.shaped (wA (dj w'))=true;cases dj w'<;>exact gB rfl (by show 0<=64;decide)
 | sum=>
   show SeqAt.shaped (rY (cQ w'))=true;cases e:cQ w' with
   | none=>exact gB rfl (by show 0<=64;decide)
   | some e'=>obtain ⟨a,b⟩:=aa8 (W2 e);exact gB a (by show (Gj e').depth<=64;omega)
 | box=>
   show SeqAt.shaped (BL (fG w'))=true;cases e:fG w' with
   | none=>exact gB rfl (by show 0<=64;decide)
   | some b=>exact gB (V8 ⟨b,(jK e).1⟩) (by show 0<=64;decide)
 | sign=>
   show SeqAt.shaped (W_ (G8 w'))=true;cases G8 w' with
   | none=>exact gB rfl (by show 0<=64;decide)
   | some b=>cases b<;>exact gB (by decide +kernel) (by show 0<=64;decide)
 | go=>
   show SeqAt.shaped (if w' = "go" then .str "go" else .none)=true;split<;>exact gB (by decide +kernel) (by show 0<=64;decide)
theorem aa3 (e:PyData):PyData.eqv e .none=Bm e:=by cases e<;>rfl
theorem Xe {w0:Str} {ks:List Kd} {ws:List Str} (h:((ks.zip ws).map fun p=>eY p.1 p.2).any Bm=false) (n:w0 ≠ "unless"):Kh w0 ks ws = .tuple (.str w0::((ks.zip ws).map fun p=>eY p.1 p.2)):=by
 unfold Kh;simp only [h,Bool.false_eq_true,if_false,if_neg n];split<;>rfl
theorem acD {α:Type} {l:List α} (h:l.length=5):∃a b c d e,l=[a,b,c,d,e]:=by
 match l,h with
 | [a,b,c,d,e],_=>exact ⟨a,b,c,d,e,rfl⟩
def JV (K:PySem.W.Frag) (mg:Str->Option Value):Prop:=∃(fa:Addr) (D:List (Str×Addr)),mg "FORMS" = some (.ref fa)/\TxT K fa D /\ ∀x:Str,(formOf x=none->look x D=none) /\ ∀ks,formOf x=some ks -> ∃b,look x D=some b/\Sg K b (ks.map kdS)
def Ie (K:PySem.W.Frag):Sp:=fun vs H Q _=>∃x:Str,vs=[.str x]/\x.length<=90000 /\ ∀(v:V) (H':Hp),Dat H' v (lnO (bh (Txt.split x (Str.ofString " "))))->Same H H'->Q v H'
theorem Uc (FT:JV K mg) {f:Addr} {fd:FuncData} (F:rm K "row_of" "row_of" lq f fd) (RP:FnAt P w K mg base 5 "part_of" ["kind","word"] (Mz K)) (Bt:Cm mg):dM P w K mg base tV 6 f fd ["line"] (Ie K):=by
 refine F.ok xK (fun vs H Q E h=> ?_) (fun cdv A outer s H vs Q E hr h=> ?_)
 ·obtain ⟨x,rfl,_⟩:=h
  rfl
 ·obtain ⟨x,rfl,xl,k⟩:=h
  obtain ⟨fa,FD,bF,TF,hF⟩:=FT;have Bq:=hr.units
  refine ⟨_,(aA (aX (i:=1) xK.nd rfl (Or.inl rfl) (eX (K:=K) rfl PySem.F.plainAttrs_str PySem.F.slot_str_split PySem.F.type_str_split lG (pv 0) (aj aM ak)))
   (aA (aX (i:=2) xK.nd rfl (Or.inl rfl) (Xx TF (cU (v:= .ref fa) (by rfl) bF rfl) (aV (aU (K:=K) rfl) (pv 1) au (fun _ _=>rfl)) ⟨rfl,rfl,rfl,rfl⟩))
   (aA (bI (PW.pt (vh (aK Bj (pv 2) eV (aO _)) (uQ (aK Kw (aY (bD (K:=K) rfl) (by rfl) Bt.eG cY (aj (pv 1) ak)) (bB dJ (aY (bD (K:=K) rfl) (by rfl) Bt.eG cY (aj (pv 2) ak)) au) (aO _))))) (aG (aN eV)) aR)
   (aA (Iv (i:=3) rfl xK.nd rfl (Or.inl rfl) (N:=["kind","word"]) (own:=["kind","word"]) (caps:=[]) (bZ.of (by kernel_rfl)) (Xq (K:=K) rfl (by rfl) Bt.ZG (aj (pv 2) (aj (d_ (k_ (K:=K) rfl) (pv 1) (fP au) fQ) ak))) (fun _ _ _ _=>(IV (K:=K) (n:=2) rfl rfl (tD (cM (i:=0) (show List.Nodup (["kind","word"]:List Str) by decide +kernel) rfl (Or.inl rfl)) (tD (cM (i:=1) (show List.Nodup (["kind","word"]:List Str) by decide +kernel) rfl (Or.inl rfl)) IK)))) (fun _ _ _ _=>rD) (fun _ _ _ _=>(bG RP (hr.mono (by decide)) (by rfl) (aj (pv 0) (aj (pv 1) ak)))))
   (aA (bI (aK (XD (K:=K) rfl hr.Z2) eV (pv 3) (by with_unfolding_all rfl)) (aG (aN eV)) aR)
   (aA (bI (aK cB (aV (aU (K:=K) rfl) (pv 1) au (fun _ _=>rfl)) aM (aO _)) (aG (aN (cF (aj aM (aj (aV (aU (K:=K) rfl) (pv 3) au (fun _ _=>rfl)) (aj (aV (aU (K:=K) rfl) (pv 3) au (fun _ _=>rfl)) (aj (aV (aU (K:=K) rfl) (pv 3) au (fun _ _=>rfl)) (aj (aV (aU (K:=K) rfl) (pv 3) au (fun _ _=>rfl)) ak)))))))) aR)
   (aG (aN (cj GD (by rfl) Bt.Qp Lh (aj (bB o7 (cO (aj (aV (aU (K:=K) rfl) (pv 1) au (fun _ _=>rfl)) ak)) (pv 3)) ak)))))))))), ?_⟩
  have wl:∀y∈Txt.split x (Str.ofString " "),y.length<=x.length:=fun y hy=>J8 (c:=32) hy;have nl:=split_len (x:=x) (y:=Str.ofString " ");refine ⟨_,rfl,rfl,_,_,rfl,rfl,rfl,by rw [sizeLine_eq];omega,fun W hW=> ?_⟩;have sW:=aF (o:=HO.lst ((Txt.split x (Str.ofString " ")).map V.str)) hW;have eW:(upd H W (.lst ((Txt.split x (Str.ofString " ")).map V.str))) W=some (.lst ((Txt.split x (Str.ofString " ")).map V.str)):=aq;generalize (upd H W (.lst ((Txt.split x (Str.ofString " ")).map V.str)))=H1 at sW eW ⊢;have ne:=qI x (Str.ofString " ");generalize Txt.split x (Str.ofString " ")=ws0 at *
  match ws0,ne with
  | w0::ws,_=>
  clear ne;refine ⟨_,rfl,_,_,_,_,rfl,rfl,bO.of eW,bW (j:=0) rfl,w0,rfl, ?_⟩;cases ef:formOf w0 with
  | none=>
    rw [(hF w0).1 ef];refine ⟨_,rfl,rfl,_,rfl,dz (dz ?_)⟩;refine k _ H1 ?_ sW;rw [PX (.inl ef)];simp only [lnO,Dat]
  | some ks=>
    obtain ⟨b,lb,tb⟩:=(hF w0).2 ks ef;rw [lb];refine ⟨_,rfl,rfl,_,rfl,cP ?_⟩;refine ⟨_,rfl,W,_,rfl,.inl (bO.of eW),_,rfl,b,_,rfl,.inr (tb.sq _),_,_,rfl,rfl,rfl,_,rfl, ?_⟩
    by_cases hl:ws.length=ks.length
    ·refine acL (by show V.int _=V.int _;congr 1;simp only [List.length_map,List.length_cons,hl];omega) ?_
     unfold rA;dsimp only;refine ⟨_,rfl,_,rfl,_,rfl,_,_,rfl,bO.of eW,fun p1 hp1=> ?_⟩;rw [show wM ((w0::ws).map V.str) (some (1:Int)) none=ws.map V.str from zT _ 1];have s1:=aF (o:=HO.lst (ws.map V.str)) hp1;have e1:(upd H1 p1 (.lst (ws.map V.str))) p1=some (.lst (ws.map V.str)):=aq;have e2:=s1 _ _ eW;have s2:=sW.trans s1;generalize (upd H1 p1 (.lst (ws.map V.str)))=H2 at e1 e2 s2 ⊢
     have kl:ks.length<=5:=by
      unfold formOf at ef
      repeat' split at ef
      all_goals first |(cases ef;decide)|cases ef
     refine ⟨b,p1,_,_,rfl,tb.sq _,bO.of e1,fun D hD=> ?_⟩;refine Oi (K:=K) (n:=ks.length) (by rw [List.length_map,List.length_map]) (by rw [List.length_map,hl]) (prt ks ws) (Yl ks ws) hD (fun H' _=>tb.sq H') e1 (by omega) (fun i x' y' H3 F hx hy s3 kF=> ?_) (fun H3 vs s3 e3 dv=> ?_)
     ·rw [List.getElem?_map,List.getElem?_map] at hx
      rw [List.getElem?_map] at hy;cases ek:ks[i]? with
      | none=>rw [ek] at hx;cases hx
      | some kd=>
        cases ew:ws[i]? with
        | none=>rw [ew] at hy;cases hy
        | some y=>
          rw [ek] at hx;rw [ew] at hy;cases hx;cases hy;have yl:=wl y (by simp [List.mem_of_getElem? ew]);refine ⟨_,rfl,_,rfl,kd,y,rfl,by omega,fun v H4 d s4=>kF v H4 s4 ?_⟩;unfold prt;rw [ek,ew];exact d
     rw [ach ks ws hl] at dv;have e4:=s3 _ _ e2;have s4:=s2.trans s3
     have sh:∀e∈(ks.zip ws).map fun p=>eY p.1 p.2,SeqAt.shaped e=true:=fun e he=>by
      obtain ⟨p,_,rfl⟩:=List.mem_map.mp he;exact W9 _ _
     refine ⟨_,rfl,D,vs,.none,_,rfl,bO.of e3,dv,by simp only [Dat],gB rfl (by show 0<=64;decide),sh,_,rfl, ?_⟩;rw [if_neg (by decide)]
     have ea:(((ks.zip ws).map fun p=>eY p.1 p.2).any fun e=>PyData.eqv e .none)=((ks.zip ws).map fun p=>eY p.1 p.2).any Bm:=by
      congr 1;funext e;exact aa3 e
     rw [ea];cases an:((ks.zip ws).map fun p=>eY p.1 p.2).any Bm with
     | true=>
       refine dz ?_;refine k _ H3 ?_ s4;rw [←En ef hl];unfold Kh;simp only [an,if_true,Dat]
     | false=>
       refine cP ?_;refine ⟨_,rfl,_,_,_,_,rfl,rfl,bO.of e4,bW (j:=0) rfl,rfl,_,rfl,cD (fun z=> ?_) (fun z=> ?_)⟩
       ·have e:w0=Str.ofString "unless" :=by have:=of_decide_eq_true z;injection this
        subst e;cases (show some [Kd.sum,.sign,.sum,.go,.num]=some ks from ef);have rl:=En ef hl;obtain ⟨a0,a1,a2,a3,a4,rfl⟩:=acD hl
        have rl:PyData.tuple [.str (Str.ofString "unless"),eY .sign a1,eY .sum a0,eY .sum a2,eY .num a4]=lnO (bh (Str.ofString "unless" :: [a0,a1,a2,a3,a4])):=by
         rw [←rl];unfold Kh;simp only [an,Bool.false_eq_true,if_false];rfl
        obtain ⟨y0,y1,y2,y3,y4,rfl,d0,d1,d2,d3,d4⟩:∃y0 y1 y2 y3 y4,vs=[y0,y1,y2,y3,y4]/\Dat H3 y0 (eY .sum a0)/\Dat H3 y1 (eY .sign a1)/\Dat H3 y2 (eY .sum a2)/\Dat H3 y3 (eY .go a3)/\Dat H3 y4 (eY .num a4):=by
         obtain ⟨y0,y1,y2,y3,y4,rfl⟩:=acD dv.length;have dv:aQ H3 [y0,y1,y2,y3,y4] [eY .sum a0,eY .sign a1,eY .sum a2,eY .go a3,eY .num a4]:=dv;simp only [aQ,and_true] at dv;exact ⟨y0,y1,y2,y3,y4,rfl,dv⟩
        refine ⟨_,rfl,_,_,_,_,rfl,rfl,bO.of e3,rfl,_,rfl,_,_,_,_,rfl,rfl,bO.of e3,rfl,_,rfl,_,_,_,_,rfl,rfl,bO.of e3,rfl,_,rfl,_,_,_,_,rfl,rfl,bO.of e3,rfl,(by show 5<=sizeLine;decide),fun t ht=> ?_⟩;have st:=aF (o:=HO.tup [V.str (Str.ofString "unless"),y1,y0,y2,y4]) ht;refine k _ _ ?_ (s4.trans st);rw [←rl];simp only [Dat];refine ⟨t,_,rfl,aq, ?_⟩;simp only [aQ,Dat,and_true,true_and];exact ⟨d1.same st _,d0.same st _,d2.same st _,d4.same st _⟩
       ·have e:w0≠Str.ofString "unless" :=fun w=>z (decide_eq_true (by rw [w]))
        have rg:=Xe (ks:=ks) (ws:=ws) an e;have rl:=En ef hl;rw [rg] at rl;have zl:((ks.zip ws).map fun p=>eY p.1 p.2).length<=5:=by rw [List.length_map,List.length_zip];omega
        refine ⟨_,rfl,_,_,_,_,rfl,rfl,bO.of e4,bW (j:=0) rfl,(by show 1<=sizeLine;decide),fun q hq=> ?_⟩;have sq:=aF (o:=HO.lst [V.str w0]) hq;refine ⟨_,rfl,_,_,_,_,rfl,rfl,aq,sq _ _ e3,(by rw [dv.length,sizeLine_eq];simp only [List.length_singleton];omega),fun q2 hq2=> ?_⟩;have Tp:=aF (o:=HO.lst ([V.str w0]++vs)) hq2;refine ⟨q2,_,rfl,.inl ⟨bO.of aq,fun t ht=> ?_⟩⟩;have st:=aF (o:=HO.tup ([V.str w0]++vs)) ht;refine k _ _ ?_ (((s4.trans sq).trans Tp).trans st);rw [←rl];simp only [Dat];refine ⟨t,_,rfl,aq, ?_⟩;simp only [List.cons_append,List.nil_append,aQ,Dat,true_and];exact ((dv.same sq _).same Tp _).same st _
    ·have hne:¬((((w0::ws).map V.str).length:Int)=(((ks.map kdS).map V.str).length:Int)+1):=fun z=>by
      rw [List.length_map,List.length_map,List.length_map,List.length_cons] at z;omega
     rw [decide_eq_false (fun z=>hne (by injection z))];refine dz ?_;refine k _ H1 ?_ sW;rw [PX (.inr ⟨ks,ef,hl⟩)];simp only [lnO,Dat]
theorem bC {x y:Str} {b:Addr} {D:List (Str×Addr)} (h:¬x=y):look x ((y,b)::D)=look x D:=if_neg h
theorem qd {x y:Str} {b:Addr} {D:List (Str×Addr)} (h:x=y):look x ((y,b)::D)=some b:=if_pos h
theorem Vc {fa b0 b1 b2 b3 b4 b5 b6 b7 b8:Addr} (m:mg "FORMS" = some (.ref fa)) (T:TxT K fa [("cells",b0),("hand",b1),("load",b2),("store",b3),("swap",b4),("let",b5),("say",b6),("go",b7),("unless",b8)]) (t0:Sg K b0 ["number"]) (t1:Sg K b1 []) (t2:Sg K b2 ["box","number"]) (t3:Sg K b3 ["number","sum"]) (t4:Sg K b4 ["box","number","sum"]) (t5:Sg K b5 ["box","sum"]) (t6:Sg K b6 ["sum"]) (t7:Sg K b7 ["number"]) (t8:Sg K b8 ["sum","sign","sum","go","number"]):JV K mg:=by
 refine ⟨fa,_,m,T,fun x=> ?_⟩;unfold formOf
 by_cases h0:x=Str.ofString "cells"
 ·rw [if_pos h0]
  refine ⟨fun z=>(by cases z),fun ks z=> ?_⟩;cases z;refine ⟨b0, ?_,t0⟩;exact qd h0
 rw [if_neg h0]
 by_cases h1:x=Str.ofString "hand"
 ·rw [if_pos h1]
  refine ⟨fun z=>(by cases z),fun ks z=> ?_⟩;cases z;refine ⟨b1, ?_,t1⟩;rw [bC h0];exact qd h1
 rw [if_neg h1]
 by_cases h2:x=Str.ofString "load"
 ·rw [if_pos h2]
  refine ⟨fun z=>(by cases z),fun ks z=> ?_⟩;cases z;refine ⟨b2, ?_,t2⟩;rw [bC h0];rw [bC h1];exact qd h2
 rw [if_neg h2]
 by_cases h3:x=Str.ofString "store"
 ·rw [if_pos h3]
  refine ⟨fun z=>(by cases z),fun ks z=> ?_⟩;cases z;refine ⟨b3, ?_,t3⟩;rw [bC h0];rw [bC h1];rw [bC h2];exact qd h3
 rw [if_neg h3]
 by_cases h4:x=Str.ofString "swap"
 ·rw [if_pos h4]
  refine ⟨fun z=>(by cases z),fun ks z=> ?_⟩;cases z;refine ⟨b4, ?_,t4⟩;rw [bC h0];rw [bC h1];rw [bC h2];rw [bC h3];exact qd h4
 rw [if_neg h4]
 by_cases h5:x=Str.ofString "let"
 ·rw [if_pos h5]
  refine ⟨fun z=>(by cases z),fun ks z=> ?_⟩;cases z;refine ⟨b5, ?_,t5⟩;rw [bC h0];rw [bC h1];rw [bC h2];rw [bC h3];rw [bC h4];exact qd h5
 rw [if_neg h5]
 by_cases h6:x=Str.ofString "say"
 ·rw [if_pos h6]
  refine ⟨fun z=>(by cases z),fun ks z=> ?_⟩;cases z;refine ⟨b6, ?_,t6⟩;rw [bC h0];rw [bC h1];rw [bC h2];rw [bC h3];rw [bC h4];rw [bC h5];exact qd h6
 rw [if_neg h6]
 by_cases h7:x=Str.ofString "go"
 ·rw [if_pos h7]
  refine ⟨fun z=>(by cases z),fun ks z=> ?_⟩;cases z;refine ⟨b7, ?_,t7⟩;rw [bC h0];rw [bC h1];rw [bC h2];rw [bC h3];rw [bC h4];rw [bC h5];rw [bC h6];exact qd h7
 rw [if_neg h7]
 by_cases h8:x=Str.ofString "unless"
 ·rw [if_pos h8]
  refine ⟨fun z=>(by cases z),fun ks z=> ?_⟩;cases z;refine ⟨b8, ?_,t8⟩;rw [bC h0];rw [bC h1];rw [bC h2];rw [bC h3];rw [bC h4];rw [bC h5];rw [bC h6];rw [bC h7];exact qd h8
 rw [if_neg h8];refine ⟨fun _=> ?_,fun ks z=>(by cases z)⟩;rw [bC h0,bC h1,bC h2,bC h3,bC h4,bC h5,bC h6,bC h7,bC h8];rfl
def oX (K:PySem.W.Frag):Sp:=fun vs H Q _=>∃(e C:Addr) (v:V),vs=[.ref e,v]/\H e=some (Ma C none e)/\PySem.W.XSa K C/\BX K C "row" /\ ∀d,H d=none->Q .non (upd (upd H d (.xd [("row",v)])) e (Ma C (some d) e))
theorem Dd {f:Addr} {fd:FuncData} (F:rm K "__init__" "RowError.__init__" cL f fd):dM P w K mg base tV 1 f fd ["self","row"] (oX K):=by
 refine F.ok Bc (fun vs H Q E h=> ?_) (fun cdv A outer s H vs Q E hr h=> ?_)
 ·obtain ⟨e,C,v,rfl,_⟩:=h
  rfl
 ·obtain ⟨e,C,v,rfl,he,sa,na,k⟩:=h
  refine ⟨_,(aG (Xm (K:=K) rfl (pv 0) (pv 1) rfl)), ?_⟩;exact ⟨_,rfl,_,rfl,e,C,rfl,he,sa,na,fun d hd=>k d hd⟩
theorem Rb {H:Hp} {e d:Addr} {a b c:HO} (n:d≠e):upd (upd (upd H e a) d b) e c=upd (upd H d b) e c:=by
 funext x
 by_cases z:x=e
 ·rw [z,aq,aq]
 ·rw [aW z,aW z]
  by_cases y:x=d
  ·rw [y,aq,aq]
  ·rw [aW y,aW y,aW z]
theorem gJ {C:Addr} {H:Hp} {v:V} {G:Addr->Hp->Prop} {E0:XK} (sa:PySem.W.XSa K C) (na:BX K C "row") (go:∀d H',H' d=some (.xd [("row",v)])->Same H H'->G d H') (e:Addr) (he:H e=none):
 oX K [.ref e,v] (upd H e (Ma C none e)) (fun v H2=>v = .non /\ ∃d H3,H2=upd H3 e (Ma C (some d) e)/\H3 e=none/\G d H3) E0:=by
 refine ⟨e,C,v,rfl,aq,sa,na,fun d hd=>⟨rfl, ?_⟩⟩;have nd:d≠e:=fun z=>by rw [z,aq] at hd;cases hd
 have hd:H d=none:=by rw [aW nd] at hd;exact hd
 refine ⟨d,upd H d (.xd [("row",v)]),Rb nd,by rw [aW nd.symm];exact he,go d _ aq (aF hd)⟩
inductive Er where
 | qM (n:Nat)
 | wB (n:Nat)
 | full (n:Nat)
 | noTarget (n:Nat)
 deriving DecidableEq
def lnW:Ln->Str
 | .cells _=> "cells"
 | .hand=> "hand"
 | .row r=>S_ r
def qe:Ln->Bool
 | .cells _=>true
 | _=>false
def wI:Ln->Bool
 | .row _=>true
 | _=>false
def QF:Rw->Option Nat
 | .load _ c=>some c
 | .store c _=>some c
 | .swap _ c _=>some c
 | _=>none
def lnC:Ln->Option Nat
 | .row r=>QF r
 | _=>none
def M_:Rw->Option Nat
 | .go k=>some k
 | .xH _ _ _ k=>some k
 | _=>none
def u5 (l:Option Ln) (n hs:Nat):Bool:=match l with
 | none=>true
 | some ln=>(qe ln != decide (n=1))||(wI ln&&decide (hs=0))
def u6 (ln:Ln) (c:Nat):Bool:=match ln with
 | .cells n=> !(decide (1<=n)&&decide (n<=20))
 | .hand=>false
 | .row r=>match QF r with
   | some k=>decide (c<=k)
   | none=>false
def u0 (ln:Ln) (hs:List (List Rw)):Bool:=match ln with
 | .cells _=>false
 | .hand=>decide (hs.length=8)
 | .row _=>decide ((hs.getLastD []).length=60)
def nJ (hs:List (List Rw)) (r:Rw):List (List Rw):=hs.dropLast++[hs.getLastD []++[r]]
def putL (ln:Ln) (c:Nat) (hs:List (List Rw)):Nat×List (List Rw):=match ln with
 | .cells m=>(m,hs)
 | .hand=>(c,hs++[[]])
 | .row r=>(c,nJ hs r)
def jD (n c:Nat) (hs:List (List Rw)) (l:Option Ln):Except Er (Nat×List (List Rw)):=
 if u5 l n hs.length=true then .error (.qM n) else match l with
  | none=> .error (.qM n)
  | some ln=>if u6 ln c=true then .error (.wB n) else if u0 ln hs=true then .error (.full n) else .ok (putL ln c hs)
def iT:Nat->Nat->List (List Rw)->List Str->Except Er (Nat×List (List Rw))
 | _,c,hs,[]=> .ok (c,hs)
 | n,c,hs,x::xs=>match jD n c hs (bh (Txt.split x (Str.ofString " "))) with
   | .error e=> .error e
   | .ok (c',hs')=>iT (n+1) c' hs' xs
def dX (len:Nat):Nat->List Rw->Option Nat
 | _,[]=>none
 | n,r::rs=>match M_ r with
   | some k=>if len<k then some (n+1) else dX len (n+1) rs
   | none=>dX len (n+1) rs
def qQ:Nat->List (List Rw)->Option Nat
 | _,[]=>none
 | n,h::hs=>match dX h.length (n+1) h with
   | some k=>some k
   | none=>qQ (n+1+h.length) hs
def sZ (x:Str):Except Er (Nat×List (List Rw)):=match iT 1 0 [] (Txt.split x (Str.ofString "\n")) with
 | .error e=> .error e
 | .ok (c,hs)=>if hs=[] then .error (.qM ((Txt.split x (Str.ofString "\n")).length+1)) else match qQ 1 hs with
   | some k=> .error (.noTarget k)
   | none=> .ok (c,hs)
def LnP (H:Hp) (vs:List V):Ln->Prop
 | .cells n=>vs=[.str "cells",.int n]
 | .hand=>vs=[.str "hand"]
 | .row r=>Parts H vs r
theorem Lk {H:Hp} {v:V} {ln:Ln} (h:Dat H v (Zf ln)):∃t vs,v = .ref t/\H t=some (.tup vs)/\LnP H vs ln:=by
 cases ln with
 | cells n=>
   obtain ⟨t,a,b,rfl,ht,da,db⟩:=Fw h;cases eF da;cases rG db;exact ⟨t,_,rfl,ht,rfl⟩
 | hand=>
   obtain ⟨t,vs,rfl,ht,d⟩:=jJ h
   match vs,d with
   | [a],d=>
     simp only [aQ,Dat,and_true] at d;subst d;exact ⟨t,_,rfl,ht,rfl⟩
   | [],d=>simp only [aQ] at d
   | _::_::_,d=>simp only [aQ,and_false] at d
 | row r=>exact ZJ h
theorem tH {H:Hp} {vs:List V} {ln:Ln} (h:LnP H vs ln):∃tl,vs = .str (lnW ln)::tl:=by
 cases ln with
 | cells n=>exact ⟨_,h⟩
 | hand=>exact ⟨_,h⟩
 | row r=>
   cases r with
   | load b c=>exact ⟨_,h⟩
   | store c e=>obtain ⟨x,e,_⟩:=h;exact ⟨_,e⟩
   | swap b c e=>obtain ⟨x,e,_⟩:=h;exact ⟨_,e⟩
   | uX b e=>obtain ⟨x,e,_⟩:=h;exact ⟨_,e⟩
   | say e=>obtain ⟨x,e,_⟩:=h;exact ⟨_,e⟩
   | go k=>exact ⟨_,h⟩
   | xH q e f k=>obtain ⟨x,y,e,_⟩:=h;exact ⟨_,e⟩
theorem CG (ln:Ln):decide (V.str (lnW ln)=V.str (Str.ofString "cells"))=qe ln:=by
 cases ln with
 | row r=>cases r<;>rfl
 | cells n=>rfl
 | hand=>rfl
theorem Mj (ln:Ln):decide (V.str (lnW ln)=V.str (Str.ofString "hand"))=(!qe ln && !wI ln):=by
 cases ln with
 | row r=>cases r<;>rfl
 | cells n=>rfl
 | hand=>rfl
theorem afx (ln:Ln):inV (V.str (lnW ln)) [V.str (Str.ofString "cells"),V.str (Str.ofString "hand")] = !wI ln:=by
 cases ln with
 | row r=>cases r<;>rfl
 | cells n=>rfl
 | hand=>rfl
def vX (CN:Addr) (K:PySem.W.Frag):Sp:=fun vs H Q E=>∃(v:V) (l:Option Ln) (n:Nat) (L:Addr) (hs:List V),vs=[v,.int (n:Nat),.ref L]/\Dat H v (lnO l)/\H L=some (.lst hs)/\hs.length<=1000/\(u5 l n hs.length=true -> ∀d H',H' d=some (.xd [("row",.int (n:Nat))])->Same H H'->E (.ref CN) (some d) H')/\(u5 l n hs.length=false -> ∀H',Same H H'->Q .non H')
theorem Jc {aD:Addr} (cW:Xf K mg aD "NoRow" "row") {f:Addr} {fd:FuncData} (F:rm K "check_form" "check_form" dO f fd) (zX:wU P w K mg base 1 aD "NoRow" ["self","row"] (oX K)):dM P w K mg base (JZ P w) 3 f fd ["row","number","hands"] (vX aD K):=by
 refine F.okX Gm (fun vs H Q E h=> ?_) (fun cdv A outer s H vs Q E hr h hR=> ?_)
 ·obtain ⟨v,l,n,L,hs,rfl,_⟩:=h
  rfl
 ·obtain ⟨v,l,n,L,hs,rfl,dv,hL,hl,bad,good⟩:=h
  refine ⟨_,(aA (bI (aK Bj (pv 0) eV (aO _)) (aG (jF zX rfl rfl hR (hr.mono (by decide)) (by rfl) (aj (pv 1) ak))) aR)
   (aA (bI (aK Kw (dU cB (aV (bQ (K:=K) rfl) (pv 0) au (fun _ _=>rfl)) aM (aO _)) (dU cB (pv 1) au (aO _)) (aO _)) (aG (jF zX rfl rfl hR (hr.mono (by decide)) (by rfl) (aj (pv 1) ak))) aR)
   (aG (bI (PW.pt (v7 (aK (Gr (K:=K) rfl) (aV (bQ (K:=K) rfl) (pv 0) au (fun _ _=>rfl)) (cF (aj aM (aj aM ak))) (by with_unfolding_all rfl)) (rC (v8 (Hf (K:=K) rfl (pv 2)))))) (aG (jF zX rfl rfl hR (hr.mono (by decide)) (by rfl) (aj (pv 1) ak))) aR)))), ?_⟩
  cases l with
  | none=>
    cases (show v = .non by simpa only [lnO,Dat] using dv);refine ⟨_,rfl,rfl,_,rfl,dz ?_⟩;exact ⟨_,rfl,(by show 1<=sizeLine;decide),gJ cW.sa cW.na fun d H' hd s'=>bad rfl d H' hd s'⟩
  | some ln=>
    obtain ⟨t,vs,rfl,ht,hp⟩:=Lk dv;obtain ⟨tl,rfl⟩:=tH hp;refine ⟨_,rfl,rfl,_,rfl,cP ?_⟩;refine ⟨_,rfl,_,_,_,_,rfl,rfl,eU.of ht,bW (j:=0) rfl,rfl,_,rfl,rfl,rfl,_,rfl, ?_⟩;rw [CG]
    have en:decide (V.int (n:Int)=V.int 1)=decide (n=1):=by
     by_cases q:n=1
     ·rw [decide_eq_true q,q];rfl
     ·rw [decide_eq_false q,decide_eq_false (fun z=>q (by injection z with z;omega))]
    rw [en];have eb:(!decide (V.bl (qe ln)=V.bl (decide (n=1))))=(qe ln != decide (n=1)):=by cases qe ln<;>cases decide (n=1)<;>rfl
    rw [eb];cases e1:(qe ln != decide (n=1)) with
    | true=>
      refine dz ?_;exact ⟨_,rfl,(by show 1<=sizeLine;decide),gJ cW.sa cW.na fun d H' hd s'=>bad (by show (_||_)=true;rw [e1];rfl) d H' hd s'⟩
    | false=>
      refine cP ?_;refine ⟨_,rfl,_,_,_,_,rfl,rfl,eU.of ht,bW (j:=0) rfl,(by show 2<=sizeLine;decide),fun q hq=> ?_⟩;have sq:=aF (o:=HO.tup [V.str (Str.ofString "cells"),V.str (Str.ofString "hand")]) hq;refine ⟨q,_,rfl,.inr (eU.of aq),rfl,rfl,_,rfl, ?_⟩;rw [if_pos rfl,afx,Bool.not_not];cases e2:wI ln with
      | false=>
        refine cP (cP ?_);exact good (by show (_||_)=false;rw [e1,e2];rfl) _ sq
      | true=>
        refine dz ?_;refine ⟨_,rfl,_,.inl ⟨hs,bO.of (sq _ _ hL),rfl⟩, ?_⟩;cases hs with
        | nil=>
          refine dz ?_;exact ⟨_,rfl,(by show 1<=sizeLine;decide),gJ cW.sa cW.na fun d H' hd s'=>bad (by show (_||_)=true;rw [e1,e2];rfl) d H' hd (sq.trans s')⟩
        | cons a hs=>
          refine cP ?_;exact good (by show (_||_)=false;rw [e1,e2];rfl) _ sq
def adC:Option Nat->V
 | some c=> .int (c:Nat)
 | none=> .non
def Ei (K:PySem.W.Frag):Sp:=fun vs H Q _=>∃(v:V) (ln:Ln),vs=[v]/\Dat H v (Zf ln) /\ ∀H',Same H H'->Q (adC (lnC ln)) H'
def Jl:Ln->Bool
 | .row (.store _ _)=>true
 | _=>false
def aaJ:Ln->Bool
 | .row (.load _ _)=>true
 | .row (.swap _ _ _)=>true
 | _=>false
theorem WT (ln:Ln):decide (V.str (lnW ln)=V.str (Str.ofString "store"))=Jl ln:=by
 cases ln with
 | row r=>cases r<;>rfl
 | cells n=>rfl
 | hand=>rfl
theorem afw (ln:Ln):inV (V.str (lnW ln)) [V.str (Str.ofString "load"),V.str (Str.ofString "swap")]=aaJ ln:=by
 cases ln with
 | row r=>cases r<;>rfl
 | cells n=>rfl
 | hand=>rfl
theorem Q0 {f:Addr} {fd:FuncData} (F:rm K "cell_of" "cell_of" gF f fd):dM P w K mg base tV 1 f fd ["row"] (Ei K):=by
 refine F.ok M9 (fun vs H Q E h=> ?_) (fun cdv A outer s H vs Q E hr h=> ?_)
 ·obtain ⟨v,ln,rfl,_⟩:=h
  rfl
 ·obtain ⟨v,ln,rfl,dv,k⟩:=h
  refine ⟨_,(aA (bI (aK cB (aV (bQ (K:=K) rfl) (pv 0) au (fun _ _=>rfl)) aM (aO _)) (aG (aN (aV (bQ (K:=K) rfl) (pv 0) au (fun _ _=>rfl)))) aR)
   (aG (aN (wk (aK (qL (K:=K) rfl) (aV (bQ (K:=K) rfl) (pv 0) au (fun _ _=>rfl)) (cF (aj aM (aj aM ak))) (by with_unfolding_all rfl)) (aV (bQ (K:=K) rfl) (pv 0) au (fun _ _=>rfl)) eV)))), ?_⟩
  obtain ⟨t,vs,rfl,ht,hp⟩:=Lk dv;obtain ⟨tl,rfl⟩:=tH hp;refine ⟨_,rfl,_,_,_,_,rfl,rfl,eU.of ht,bW (j:=0) rfl,rfl,_,rfl, ?_⟩;rw [WT]
  by_cases st:∃c e,ln = .row (.store c e)
  ·obtain ⟨c,e,rfl⟩:=st
   obtain ⟨x,e1,_⟩:=hp;cases e1;exact dz ⟨_,rfl,_,_,_,_,rfl,rfl,eU.of ht,rfl,k H (Same.refl _)⟩
  have ns:Jl ln=false:=by
   unfold Jl;split
   ·exact absurd ⟨_,_,rfl⟩ st
   ·rfl
  rw [ns];refine cP ?_;refine ⟨_,rfl,_,_,_,_,rfl,rfl,eU.of ht,bW (j:=0) rfl,(by show 2<=sizeLine;decide),fun p hp'=> ?_⟩;have sp:=aF (o:=HO.tup [V.str (Str.ofString "load"),V.str (Str.ofString "swap")]) hp';refine ⟨p,_,rfl,.inr (eU.of aq),rfl,rfl,_,rfl, ?_⟩;rw [if_neg (by decide),afw]
  by_cases l1:∃b c,ln = .row (.load b c)
  ·obtain ⟨b,c,rfl⟩:=l1
   cases hp;exact dz ⟨_,rfl,_,_,_,_,rfl,rfl,eU.of (sp _ _ ht),rfl,k _ sp⟩
  by_cases l2:∃b c e,ln = .row (.swap b c e)
  ·obtain ⟨b,c,e,rfl⟩:=l2
   obtain ⟨x,e1,_⟩:=hp;cases e1;exact dz ⟨_,rfl,_,_,_,_,rfl,rfl,eU.of (sp _ _ ht),rfl,k _ sp⟩
  have nl:aaJ ln=false:=by
   unfold aaJ;split
   ·exact absurd ⟨_,_,rfl⟩ l1
   ·exact absurd ⟨_,_,_,rfl⟩ l2
   ·rfl
  rw [nl];refine cP ?_
  have e0:lnC ln=none:=by
   cases ln with
   | cells n=>rfl
   | hand=>rfl
   | row r=>
     cases r with
     | load b c=>exact absurd ⟨_,_,rfl⟩ l1
     | store c e=>exact absurd ⟨_,_,rfl⟩ st
     | swap b c e=>exact absurd ⟨_,_,_,rfl⟩ l2
     | uX b e=>rfl
     | say e=>rfl
     | go k=>rfl
     | xH q e f k=>rfl
  have:=k _ sp;rwa [e0] at this
def uJ (CN:Addr) (K:PySem.W.Frag):Sp:=fun vs H Q E=>∃(v:V) (ln:Ln) (n c:Nat),vs=[v,.int (n:Nat),.int (c:Nat)]/\Dat H v (Zf ln)/\(u6 ln c=true -> ∀d H',H' d=some (.xd [("row",.int (n:Nat))])->Same H H'->E (.ref CN) (some d) H')/\(u6 ln c=false -> ∀H',Same H H'->Q .non H')
theorem Gs {aC:Addr} (cT:Xf K mg aC "NoCell" "row") {f:Addr} {fd:FuncData} (F:rm K "check_cells" "check_cells" dD f fd) (Ls:wU P w K mg base 1 aC "NoCell" ["self","row"] (oX K)) (RQ:FnAt P w K mg base 1 "cell_of" ["row"] (Ei K)) (qm:Gv mg "MOST_CELLS" (.int 20)):dM P w K mg base (JZ P w) 3 f fd ["row","number","count"] (uJ aC K):=by
 refine F.okX vY (fun vs H Q E h=> ?_) (fun cdv A outer s H vs Q E hr h hR=> ?_)
 ·obtain ⟨v,ln,n,c,rfl,_⟩:=h
  rfl
 ·obtain ⟨v,ln,n,c,rfl,dv,bad,good⟩:=h
  refine ⟨_,(aA (bI (PW.pt (v7 (aK cB (aV (bQ (K:=K) rfl) (pv 0) au (fun _ _=>rfl)) aM (aO _)) (rC (v8 (Ko PL PL au (aV (bQ (K:=K) rfl) (pv 0) au (fun _ _=>rfl)) (cU (by rfl) qm.choose_spec.1 qm.choose_spec.2)))))) (aG (jF Ls rfl rfl hR (hr.mono (by decide)) (by rfl) (aj (pv 1) ak))) aR)
   (aA (aX (i:=3) vY.nd rfl (Or.inl rfl) (bG RQ (hr.mono (by decide)) (by rfl) (aj (pv 0) ak)))
   (aG (bI (PW.pt (v7 (aK XC (pv 3) eV (aO _)) (rC (aK Ky (pv 3) (pv 2) (aO _))))) (aG (jF Ls rfl rfl hR (hr.mono (by decide)) (by rfl) (aj (pv 1) ak))) aR)))), ?_⟩
  obtain ⟨t,vs,rfl,ht,hp⟩:=Lk dv;obtain ⟨tl,rfl⟩:=tH hp;refine Im (fun σ H'=>σ=[some (.ref t),some (.int (n:Nat)),some (.int (c:Nat)),none]/\H'=H/\(qe ln=true->u6 ln c=false)) (fun D' hD' rt'=> ?_) ?_
  ·refine ⟨_,rfl,_,_,_,_,rfl,rfl,eU.of ht,bW (j:=0) rfl,rfl,_,rfl, ?_⟩
   rw [CG];cases ln with
   | cells m=>
     cases hp;refine dz ?_;refine ⟨_,rfl,_,_,_,_,rfl,rfl,eU.of ht,rfl,_,_,rfl,rfl,_,rfl, ?_⟩
     by_cases h1:1<=m
     ·refine cD (fun _=> ?_) (fun z=>absurd (decide_eq_true (by omega)) z)
      refine ⟨_,_,rfl,rfl,_,rfl, ?_⟩
      by_cases h2:m<=20
      ·rw [decide_eq_true (show (m:Int)<=20 by omega)]
       refine cP ?_;exact hD' _ _ ⟨rfl,rfl,fun _=>by show (!(decide (1<=m)&&decide (m<=20)))=false;rw [decide_eq_true h1,decide_eq_true h2];rfl⟩
      ·rw [decide_eq_false (show ¬(m:Int)<=20 by omega)]
       refine dz ?_;exact ⟨_,rfl,(by show 1<=sizeLine;decide),gJ cT.sa cT.na fun d H' hd s'=>bad (by show (!(decide (1<=m)&&decide (m<=20)))=true;rw [decide_eq_false h2,Bool.and_false];rfl) d H' hd s'⟩
     ·refine cD (fun z=>absurd (of_decide_eq_true z) (by omega)) (fun _=> ?_)
      refine ⟨_,rfl,dz ?_⟩;exact ⟨_,rfl,(by show 1<=sizeLine;decide),gJ cT.sa cT.na fun d H' hd s'=>bad (by show (!(decide (1<=m)&&decide (m<=20)))=true;rw [decide_eq_false h1];rfl) d H' hd s'⟩
   | hand=>exact cP (cP (hD' _ _ ⟨rfl,rfl,fun z=>by cases z⟩))
   | row r=>exact cP (cP (hD' _ _ ⟨rfl,rfl,fun z=>by cases z⟩))
  ·rintro σ H' ⟨rfl,rfl,cg⟩
   refine ⟨_,rfl,_,ln,rfl,dv,fun H1 s1=> ?_⟩;cases ec:lnC ln with
   | none=>
     refine ⟨_,rfl,rfl,_,rfl,cP (cP ?_)⟩;refine good ?_ H1 s1;cases ln with
     | cells m=>exact cg rfl
     | hand=>rfl
     | row r=>
       have ec:QF r=none:=ec;show (match QF r with |some k=>decide (c<=k)|none=>false)=false;rw [ec]
   | some k=>
     refine ⟨_,rfl,rfl,_,rfl,dz ?_⟩;refine ⟨_,rfl,_,rfl,_,_,rfl,rfl,_,rfl, ?_⟩
     obtain ⟨r,rfl⟩:∃r,ln = .row r:=by
      cases ln with
      | row r=>exact ⟨r,rfl⟩
      | cells m=>cases ec
      | hand=>cases ec
     have ec:QF r=some k:=ec
     have ee:u6 (.row r) c=decide (c<=k):=by
      show (match QF r with |some k=>decide (c<=k)|none=>false)=_;rw [ec]
     by_cases hk:c<=k
     ·rw [decide_eq_true (show (c:Int)<=k by omega)]
      refine dz ?_;exact ⟨_,rfl,(by show 1<=sizeLine;decide),gJ cT.sa cT.na fun d H' hd s'=>bad (by rw [ee];exact decide_eq_true hk) d H' hd (s1.trans s')⟩
     ·rw [decide_eq_false (show ¬(c:Int)<=k by omega)]
      refine cP ?_;exact good (by rw [ee];exact decide_eq_false hk) H1 s1
theorem ZK {α:Type} {l:List α} {v:α} (h:l[l.length - 1]? = some v):vq l (-1)=some v:=by
 have hl:=(List.getElem?_eq_some_iff.mp h).1;have ne:l≠[]:=fun z=>by rw [z] at hl;cases hl
 have e:l=l.dropLast++[v]:=by
  have q:=(List.dropLast_concat_getLast ne).symm;rw [List.getLast_eq_getElem] at q;rw [List.getElem?_eq_getElem hl] at h;cases h;exact q
 rw [e];exact FZ _ _
def vW (CN:Addr) (K:PySem.W.Frag):Sp:=fun vs H Q E=>∃(v:V) (ln:Ln) (n:Nat) (L:Addr) (as:List Addr) (hs:List (List Rw)),vs=[v,.int (n:Nat),.ref L]/\Dat H v (Zf ln)/\H L=some (.lst (as.map V.ref))/\as.length=hs.length/\(∀(k:Nat) (a:Addr) (x:List Rw),as[k]? = some a->hs[k]? = some x -> ∃ts,H a=some (.lst ts)/\ts.length=x.length)/\(wI ln=true->hs≠[])/\(u0 ln hs=true -> ∀d H',H' d=some (.xd [("row",.int (n:Nat))])->Same H H'->E (.ref CN) (some d) H')/\(u0 ln hs=false -> ∀H',Same H H'->Q .non H')
theorem Jb {aH:Addr} (iK:Xf K mg aH "Full" "row") {f:Addr} {fd:FuncData} (F:rm K "check_room" "check_room" dN f fd) (abn:wU P w K mg base 1 aH "Full" ["self","row"] (oX K)) (ql:Gv mg "MOST_HANDS" (.int 8)) (rJ:Gv mg "MOST_ROWS" (.int 60)) (Bt:Cm mg):dM P w K mg base (JZ P w) 3 f fd ["row","number","hands"] (vW aH K):=by
 refine F.okX rZ (fun vs H Q E h=> ?_) (fun cdv A outer s H vs Q E hr h hR=> ?_)
 ·obtain ⟨v,ln,n,L,as,hs,rfl,_⟩:=h
  rfl
 ·obtain ⟨v,ln,n,L,as,hs,rfl,dv,hL,la,hr',hn,bad,good⟩:=h
  refine ⟨_,(aA (bI (aK cB (aV (bQ (K:=K) rfl) (pv 0) au (fun _ _=>rfl)) aM (aO _)) (aG Xn) aR)
   (aA (bI (aK cB (aV (bQ (K:=K) rfl) (pv 0) au (fun _ _=>rfl)) aM (aO _)) (aG (aX (i:=3) rZ.nd rfl (Or.inl rfl) (dU cB (aY (bD (K:=K) rfl) (by rfl) Bt.eG cY (aj (pv 2) ak)) (cU (by rfl) ql.choose_spec.1 ql.choose_spec.2) (aO _)))) (aG (aX (i:=3) rZ.nd rfl (Or.inl rfl) (dU cB (aY (bD (K:=K) rfl) (by rfl) Bt.eG cY (aj (aV (aU (K:=K) rfl) (pv 2) (pL iJ au) (fun _ _=>rfl)) ak)) (cU (by rfl) rJ.choose_spec.1 rJ.choose_spec.2) (aO _)))))
   (aG (bI (oY (pv 3)) (aG (jF abn rfl rfl hR (hr.mono (by decide)) (by rfl) (aj (pv 1) ak))) aR)))), ?_⟩
  obtain ⟨t,vs,rfl,ht,hp⟩:=Lk dv;obtain ⟨tl,rfl⟩:=tH hp;refine ⟨_,rfl,_,_,_,_,rfl,rfl,eU.of ht,bW (j:=0) rfl,rfl,_,rfl, ?_⟩;rw [CG]
  have fin:∀H1,Same H H1 -> ∀(x3:Option V),x3=some (.bl (u0 ln hs))->(abX (tB (Ti 3)) (Pa aH (oX K) (fun _=>E) (Y7 (Ti 1) Ka)) rA) {nx:=fun _ H'=>Q .non H',rt:=Q} [some (.ref t),some (.int (n:Nat)),some (.ref L),x3] H1:=fun H1 s1 x3 e3=>by
   subst e3;refine ⟨_,rfl,_,rfl, ?_⟩;cases eb:u0 ln hs with
   | true=>
     refine dz ?_;exact ⟨_,rfl,(by show 1<=sizeLine;decide),gJ iK.sa iK.na fun d H' hd s'=>bad eb d H' hd (s1.trans s')⟩
   | false=>
     refine cP ?_;exact good eb H1 s1
  cases ln with
  | cells m=>exact dz (good rfl H (Same.refl _))
  | hand=>
    refine cP ?_;unfold rA;dsimp only;refine ⟨_,rfl,_,_,_,_,rfl,rfl,eU.of ht,bW (j:=0) rfl,rfl,_,rfl,cD (fun _=> ?_) (fun z=>absurd (decide_eq_true rfl) z)⟩;refine ⟨_,rfl,L,_,rfl,.inl (bO.of hL),rfl, ?_⟩;refine fin H (Same.refl _) _ ?_;show some (V.bl _)=some (V.bl (decide (hs.length=8)));congr 2
    by_cases h8:hs.length=8
    ·rw [decide_eq_true h8,decide_eq_true (by rw [List.length_map,la,h8];rfl)]
    ·rw [decide_eq_false h8,decide_eq_false (fun z=>h8 (by injection z with z;rw [List.length_map,la] at z;omega))]
  | row r=>
    refine cP ?_;unfold rA;dsimp only;refine ⟨_,rfl,_,_,_,_,rfl,rfl,eU.of ht,bW (j:=0) rfl,rfl,_,rfl, ?_⟩;rw [Mj];refine cP ?_;have nh:=hn rfl;have n0:0<hs.length:=List.length_pos_iff.mpr nh;have ek:as[as.length - 1]? = some (as[as.length - 1]'(by omega)):=List.getElem?_eq_getElem _
    have ex:hs[as.length - 1]? = some (hs.getLastD []):=by
     rw [la,List.getElem?_eq_getElem (by omega),List.getLastD_eq_getLast?,List.getLast?_eq_getElem?,List.getElem?_eq_getElem (by omega)];rfl
    obtain ⟨ts,ets,lts⟩:=hr' _ _ _ ek ex;refine ⟨_,rfl,_,rfl,_,_,_,_,rfl,rfl,bO.of hL, ?_,as[as.length - 1]'(by omega),_,rfl,.inl (bO.of ets),rfl, ?_⟩
    ·exact ZK (by rw [List.length_map,List.getElem?_map,ek];rfl)
    refine fin H (Same.refl _) _ ?_;show some (V.bl _)=some (V.bl (decide ((hs.getLastD []).length=60)));congr 2
    by_cases h6:(hs.getLastD []).length=60
    ·rw [decide_eq_true h6,decide_eq_true (by rw [lts,h6];rfl)]
    ·rw [decide_eq_false h6,decide_eq_false (fun z=>h6 (by injection z with z;rw [lts] at z;omega))]
def Yg:Rw->Bool
 | .go _=>true
 | .xH _ _ _ _=>true
 | _=>false
theorem afy (r:Rw):inV (V.str (S_ r)) [V.str (Str.ofString "go"),V.str (Str.ofString "unless")]=Yg r:=by cases r<;>rfl
theorem Xb {H:Hp} {vs:List V} {r:Rw} (h:Parts H vs r):∃tl,vs = .str (S_ r)::tl:=tH (ln:= .row r) h
theorem Xa {H:Hp} {vs:List V} {r:Rw} (h:Parts H vs r) (g:Yg r=true):∃k:Nat,M_ r=some k/\vq vs (-1)=some (.int (k:Nat)):=by
 cases r with
 | go k=>
   have h:vs=[.str (Str.ofString "go"),.int (k:Nat)]:=h;subst h;exact ⟨k,rfl,FZ [V.str (Str.ofString "go")] _⟩
 | xH q e f k=>
   obtain ⟨x,y,e1,_⟩:=h;subst e1;exact ⟨k,rfl,FZ [_,_,_,_] _⟩
 | load b c=>cases g
 | store c e=>cases g
 | swap b c e=>cases g
 | uX b e=>cases g
 | say e=>cases g
theorem aah {r:Rw} (g:Yg r=false):M_ r=none:=by cases r<;>first |rfl|cases g
def Eh (CN:Addr) (K:PySem.W.Frag):Sp:=fun vs H Q E=>∃(L:Addr) (as:List Addr) (hs:List (List Rw)),vs=[.ref L]/\H L=some (.lst (as.map V.ref))/\as.length=hs.length/\hs.length<=1000/\(∀x∈hs,x.length<=1000)/\(∀(k:Nat) (a:Addr) (x:List Rw),as[k]? = some a->hs[k]? = some x -> ∃ts,H a=some (.lst ts)/\aQ H ts (x.map Gg))/\(∀k,qQ 1 hs=some k -> ∀d H',H' d=some (.xd [("row",.int (k:Nat))])->Same H H'->E (.ref CN) (some d) H')/\(qQ 1 hs=none -> ∀H',Same H H'->Q .non H')
theorem QZ {ao:Addr} (cH:Xf K mg ao "NoTarget" "row") {f:Addr} {fd:FuncData} (F:rm K "check_targets" "check_targets" cJ f fd) (OJ:wU P w K mg base 1 ao "NoTarget" ["self","row"] (oX K)) (Bt:Cm mg):dM P w K mg base (JZ P w) 3 f fd ["hands"] (Eh ao K):=by
 refine F.okX dW (fun vs H Q E h=> ?_) (fun cdv A outer s H vs Q E hr h hR=> ?_)
 ·obtain ⟨L,as,hs,rfl,_⟩:=h
  rfl
 ·obtain ⟨L,as,hs,rfl,hL,la,h8,RZ,hrow,bad,good⟩:=h
  refine ⟨_,(aA (aX (i:=1) dW.nd rfl (Or.inl rfl) au)
   (aG (oZ PassesOwn.leaving rfl (nP (K:=K) rfl (pv 0)) (cM (i:=2) dW.nd rfl (Or.inl rfl))
   (aA (T5 (i:=1) dW.nd rfl (Or.inl rfl) au U0)
   (aG (oZ PassesOwn.leaving rfl (nP (K:=K) rfl (pv 2)) (cM (i:=3) dW.nd rfl (Or.inl rfl))
   (aA (T5 (i:=1) dW.nd rfl (Or.inl rfl) au U0)
   (aG (bI (PW.pt (v7 (aK (qL (K:=K) rfl) (aV (bQ (K:=K) rfl) (pv 3) au (fun _ _=>rfl)) (cF (aj aM (aj aM ak))) (by with_unfolding_all rfl)) (rC (aK zJ (aV (bQ (K:=K) rfl) (pv 3) (pL iJ au) (fun _ _=>rfl)) (aY (bD (K:=K) rfl) (by rfl) Bt.eG cY (aj (pv 2) ak)) (aO _))))) (aG (jF OJ rfl rfl hR (hr.mono (by decide)) (by rfl) (aj (pv 1) ak))) aR))))))))), ?_⟩
  refine ⟨_,rfl,L,rfl,⟨_,bO.of hL⟩, ?_⟩
  refine wL (K:=K) (a:=L) (xs:=as.map V.ref) (fun i σ Hc=>∃(x2 x3:Option V) (m:Nat),σ=[some (.ref L),some (.int (m:Nat)),x2,x3]/\qQ 1 hs=qQ m (hs.drop i)/\Same H Hc)
   ⟨none,none,1,rfl,by rw [List.drop_zero],Same.refl _⟩ (fun i σ Hc _ ⟨_,_,_,_,_,sc⟩=>bO.of (sc _ _ hL)) ?_ ?_
  ·rintro i v σ Hc hi ⟨x2,x3,m,rfl,eb,sc⟩
   rw [List.getElem?_map] at hi;cases ea:as[i]? with
   | none=>rw [ea] at hi;cases hi
   | some a=>
     rw [ea] at hi;cases hi;have il:i<hs.length:=by rw [←la];exact (List.getElem?_eq_some_iff.mp ea).1
     have ex:hs[i]? = some hs[i]:=List.getElem?_eq_getElem il;obtain ⟨ts,ha,dt⟩:=hrow i a hs[i] ea ex;have x60:=RZ hs[i] (List.mem_of_getElem? ex);rw [List.drop_eq_getElem_cons il] at eb;generalize hs[i]=x at ex dt x60 eb;have tl:ts.length=x.length:=by rw [dt.length,List.length_map]
     refine ⟨_,rfl,_,_,rfl,rfl, ?_⟩;refine ⟨_,rfl,a,rfl,⟨_,bO.of (sc _ _ ha)⟩, ?_⟩
     refine wL (K:=K) (a:=a) (xs:=ts) (fun j σ Hd=>∃(x3:Option V),σ=[some (.ref L),some (.int ((m+1+j:Nat):Int)),some (.ref a),x3]/\dX x.length (m+1) x=dX x.length (m+1+j) (x.drop j)/\Same H Hd)
      ⟨x3,rfl,by rw [List.drop_zero],sc⟩ (fun j σ Hd _ ⟨_,_,_,sd⟩=>bO.of (sd _ _ ha)) ?_ ?_
     ·rintro j v σ Hd hj ⟨x3,rfl,er,sd⟩
      obtain ⟨d,ed,dv⟩:=dt.get hj;rw [List.getElem?_map] at ed;have jl:j<x.length:=by rw [←tl];exact (List.getElem?_eq_some_iff.mp hj).1
      rw [List.getElem?_eq_getElem jl] at ed;cases ed;rw [List.drop_eq_getElem_cons jl] at er;generalize x[j]=r at dv er;obtain ⟨t,ws,rfl,ht,pp⟩:=ZJ (dv.same sd _);obtain ⟨tl',rfl⟩:=Xb pp;refine ⟨_,rfl,_,_,rfl,rfl, ?_⟩;have e1:((m+1+j:Nat):Int)+1=((m+1+(j+1):Nat):Int):=by omega
      dsimp only;rw [e1];refine ⟨_,rfl,_,_,_,_,rfl,rfl,eU.of ht,bW (j:=0) rfl,(by show 2<=sizeLine;decide),fun q hq=> ?_⟩;have sq:=aF (o:=HO.tup [V.str (Str.ofString "go"),V.str (Str.ofString "unless")]) hq;refine ⟨q,_,rfl,.inr (eU.of aq),rfl,rfl,_,rfl, ?_⟩;rw [if_neg (by decide),afy];cases g:Yg r with
      | false=>
        refine cP (cP ?_);refine ⟨_,rfl, ?_,sd.trans sq⟩;rw [er];show (match M_ r with |some k=>_|none=>_)=_;rw [aah g];rfl
      | true=>
        refine dz ?_;obtain ⟨k,ek,el⟩:=Xa pp g;refine ⟨_,rfl,_,rfl,_,_,_,_,rfl,rfl,eU.of (sq _ _ ht),el,_,rfl,a,_,rfl,.inl (bO.of (sq _ _ (sd _ _ ha))),_,_,rfl,rfl,_,rfl, ?_⟩
        have ec:decide ((ts.length:Int)<(k:Int))=decide (x.length<k):=by
         rw [tl]
         by_cases z:x.length<k
         ·rw [decide_eq_true z,decide_eq_true (by omega)]
         ·rw [decide_eq_false z,decide_eq_false (by omega)]
        rw [ec]
        by_cases z:x.length<k
        ·rw [decide_eq_true z]
         refine dz ?_
         have er:dX x.length (m+1) x=some (m+1+j+1):=by
          rw [er];show (match M_ r with |some k=>_|none=>_)=_;rw [ek];exact if_pos z
         have eb:qQ 1 hs=some (m+1+j+1):=by
          rw [eb];show (match dX x.length (m+1) x with |some k=>_|none=>_)=_;rw [er]
         exact ⟨_,rfl,(by show 1<=sizeLine;decide),gJ cH.sa cH.na fun d H' hd s'=>bad _ eb d H' hd ((sd.trans sq).trans s')⟩
        ·rw [decide_eq_false z]
         refine cP ?_;refine ⟨_,rfl, ?_,sd.trans sq⟩;rw [er];show (match M_ r with |some k=>_|none=>_)=_;rw [ek];exact if_neg z
     ·rintro σ Hd ⟨x3,rfl,er,sd⟩
      refine ⟨_,_,m+1+x.length,by rw [tl], ?_,sd⟩;rw [tl,List.drop_length] at er;rw [eb];show (match dX x.length (m+1) x with |some k=>_|none=>_)=_;rw [er];rfl
  ·rintro σ Hc ⟨x2,x3,m,rfl,eb,sc⟩
   rw [List.length_map,la,List.drop_length] at eb;exact good eb Hc sc
theorem aaV {α:Type} {l:List α} {x y:α} {k:Nat} (h:(l++[x])[k]? = some y):l[k]? = some y\/(k=l.length/\y=x):=by
 by_cases hk:k<l.length
 ·rw [List.getElem?_append_left hk] at h
  exact .inl h
 ·rw [List.getElem?_append_right (by omega)] at h
  have:k - l.length=0:=by
   have:=(List.getElem?_eq_some_iff.mp h).1;simp at this;omega
  rw [this] at h;cases h;exact .inr ⟨by omega,rfl⟩
structure Sh (H0 H:Hp) (L:Addr) (as:List Addr) (hs:List (List Rw)):Prop where
 d:H L=some (.lst (as.map V.ref))
 len:as.length=hs.length
 r:∀(k:Nat) (a:Addr) (x:List Rw),as[k]? = some a->hs[k]? = some x -> ∃ts,H a=some (.lst ts)/\aQ H ts (x.map Gg)
 nd:as.Nodup
 nL:H0 L=none
 na:∀a∈as,H0 a=none/\a≠L
 sm:Same H0 H
theorem EY (x:List Rw):q_ (x.map Gg)=true:=nR Gg Bp x
theorem Sh.same {H0 H H':Hp} {L:Addr} {as:List Addr} {hs:List (List Rw)} (h:Sh H0 H L as hs) (k:Same H H'):Sh H0 H' L as hs:=⟨k _ _ h.d,h.len,fun i a x e1 e2=>by
 obtain ⟨ts,ha,dt⟩:=h.r i a x e1 e2;exact ⟨ts,k _ _ ha,dt.same k _⟩,h.nd,h.nL,h.na,h.sm.trans k⟩
theorem Sh.hand {H0 H H1:Hp} {L q:Addr} {as:List Addr} {hs:List (List Rw)} (h:Sh H0 H1 L as hs) (hq:H1 q=none):Sh H0 (upd (upd H1 q (.lst [])) L (.lst (as.map V.ref++[.ref q]))) L (as++[q]) (hs++[[]]):=by
 have sq:=aF (o:=HO.lst []) hq;have nq:q≠L:=fun e=>by rw [e,h.d] at hq;cases hq
 have tu:∀x ys,(upd H1 q (.lst [])) x=some (.tup ys)->(upd (upd H1 q (.lst [])) L (.lst (as.map V.ref++[.ref q]))) x=some (.tup ys):=fun x ys e=>by rw [aW (KD e (sq _ _ h.d) (by intro z;cases z))];exact e
 refine ⟨by rw [aq,List.map_append];rfl,by simp [h.len],fun i a x e1 e2=> ?_, ?_,h.nL,fun a ha=> ?_,fun x o e=>by rw [aW (bw e h.nL)];exact sq _ _ (h.sm _ _ e)⟩
 ·rcases aaV e1 with e4|⟨e4,e3⟩
  ·have il:=(List.getElem?_eq_some_iff.mp e4).1
   rw [List.getElem?_append_left (by rw [←h.len];exact il)] at e2;obtain ⟨ts,ha,dt⟩:=h.r i a x e4 e2;exact ⟨ts,by rw [aW (h.na a (List.mem_of_getElem? e4)).2];exact sq _ _ ha,(dt.same sq _).keep tu _ (EY _)⟩
  ·subst e3
   rw [List.getElem?_append_right (by rw [e4,h.len];exact Nat.le_refl _),e4,h.len,Nat.sub_self] at e2;cases e2;exact ⟨[],by rw [aW nq,aq],by simp [aQ]⟩
 ·refine List.nodup_append.mpr ⟨h.nd,by simp,fun a ha b hb e=> ?_⟩
  rw [List.mem_singleton.mp hb] at e;obtain ⟨i,ei⟩:=List.getElem?_of_mem ha;have il:=(List.getElem?_eq_some_iff.mp ei).1;obtain ⟨ts,hts,_⟩:=h.r i a _ ei (List.getElem?_eq_getElem (by rw [←h.len];exact il));rw [e,hq] at hts;cases hts
 ·rcases List.mem_append.mp ha with ha|ha
  ·exact h.na a ha
  ·rw [List.mem_singleton.mp ha];exact ⟨h.sm.free hq,nq⟩
theorem KN {hs:List (List Rw)} (n:hs≠[]):hs[hs.length - 1]? = some (hs.getLastD []):=by
 have n0:0<hs.length:=List.length_pos_iff.mpr n;rw [List.getLastD_eq_getLast?,List.getLast?_eq_getElem?,List.getElem?_eq_getElem (by omega)];rfl
theorem Cg (hs:List (List Rw)) (r:Rw) (n:hs≠[]):(nJ hs r).length=hs.length:=by
 have n0:0<hs.length:=List.length_pos_iff.mpr n;unfold nJ;simp;omega
theorem Ci {hs:List (List Rw)} {r:Rw} (n:hs≠[]) {i:Nat} {x:List Rw} (h:(nJ hs r)[i]? = some x):(i+1=hs.length/\x=hs.getLastD []++[r])\/(i+1<hs.length/\hs[i]? = some x):=by
 have n0:0<hs.length:=List.length_pos_iff.mpr n;unfold nJ at h
 by_cases hi:i+1<hs.length
 ·rw [List.getElem?_append_left (by simp;omega)] at h
  rw [List.getElem?_dropLast,if_pos (by omega)] at h;exact .inr ⟨hi,h⟩
 ·rw [List.getElem?_append_right (by simp;omega)] at h
  have e:i - hs.dropLast.length=0:=by
   have:=(List.getElem?_eq_some_iff.mp h).1;simp at this;simp;omega
  rw [e] at h;cases h;refine .inl ⟨?_,rfl⟩;simp at e;omega
theorem Sh.row {H0 H:Hp} {L a:Addr} {as:List Addr} {hs:List (List Rw)} {ts:List V} {v:V} {r:Rw} (h:Sh H0 H L as hs) (n:hs≠[]) (ea:as[as.length - 1]? = some a) (ha:H a=some (.lst ts)) (dt:aQ H ts ((hs.getLastD []).map Gg)) (dv:Dat H v (Gg r)):Sh H0 (upd H a (.lst (ts++[v]))) L as (nJ hs r):=by
 have am:=List.mem_of_getElem? ea;have tu:∀x ys,H x=some (.tup ys)->(upd H a (.lst (ts++[v]))) x=some (.tup ys):=fun x ys e=>by rw [aW (KD e ha (by intro z;cases z))];exact e
 refine ⟨by rw [aW (h.na a am).2.symm];exact h.d,by rw [Cg hs r n];exact h.len,fun i b x e1 e2=> ?_,h.nd,h.nL,h.na,fun x o e=>by rw [aW (bw e (h.na a am).1)];exact h.sm _ _ e⟩;have il:=(List.getElem?_eq_some_iff.mp e1).1;rcases Ci n e2 with ⟨hi,rfl⟩|⟨hi,e3⟩
 ·have:i=as.length - 1:=by rw [h.len];omega
  subst this;rw [ea] at e1;cases e1;refine ⟨_,aq, ?_⟩;rw [List.map_append];exact Bx (dt.keep tu _ (EY _)) (dv.keep tu _ (Bp r))
 ·obtain ⟨ts',hb,db⟩:=h.r i b x e1 e3
  have nb:b≠a:=fun z=>by
   subst z;have:=(List.getElem?_inj il h.nd).mp (e1.trans ea.symm);rw [h.len] at this;omega
  exact ⟨ts',by rw [aW nb];exact hb,db.keep tu _ (EY _)⟩
def erN:Er->Nat
 | .qM n=>n
 | .wB n=>n
 | .full n=>n
 | .noTarget n=>n
def erC (CR CC CF CT:Addr):Er->Addr
 | .qM _=>CR
 | .wB _=>CC
 | .full _=>CF
 | .noTarget _=>CT
def Mx (CR CC CF CT:Addr) (K:PySem.W.Frag):Sp:=fun vs H Q E=>∃x:Str,vs=[.str x]/\x.length<=90000/\(∀c hs,sZ x = .ok (c,hs) -> ∀(t L:Addr) (as:List Addr) (H':Hp),H' t=some (.tup [.int (c:Nat),.ref L])->H t=none->Sh H H' L as hs->Q (.ref t) H')/\(∀er,sZ x = .error er -> ∀d H',H' d=some (.xd [("row",.int (erN er:Nat))])->Same H H'->E (.ref (erC CR CC CF CT er)) (some d) H')
theorem Tn {n c:Nat} {hs:List (List Rw)} {ln:Ln} (h1:u5 (some ln) n hs.length=false) (h2:u6 ln c=false) (h3:u0 ln hs=false):jD n c hs (some ln) = .ok (putL ln c hs):=by
 unfold jD;rw [h1,if_neg (by decide)];dsimp only;rw [h2,if_neg (by decide),h3,if_neg (by decide)]
theorem QH {ln:Ln} {c:Nat} {hs:List (List Rw)} (h8:hs.length<=8) (RZ:∀x∈hs,x.length<=60) (h3:u0 ln hs=false) (hr:wI ln=true->hs≠[]):(putL ln c hs).2.length<=8 /\ ∀x∈(putL ln c hs).2,x.length<=60:=by
 cases ln with
 | cells m=>exact ⟨h8,RZ⟩
 | hand=>
   have:¬hs.length=8:=of_decide_eq_false h3;refine ⟨by show (hs++[[]]).length<=8;simp;omega,fun x hx=> ?_⟩;rcases List.mem_append.mp hx with hx|hx
   ·exact RZ x hx
   ·rw [List.mem_singleton.mp hx];exact Nat.zero_le _
 | row r=>
   have n:=hr rfl;have h3:¬(hs.getLastD []).length=60:=of_decide_eq_false h3;have hl:=RZ _ (List.mem_of_getElem? (KN n));refine ⟨by show (nJ hs r).length<=8;rw [Cg hs r n];exact h8,fun x hx=> ?_⟩;obtain ⟨i,ei⟩:=List.getElem?_of_mem hx;rcases Ci n ei with ⟨_,rfl⟩|⟨_,e⟩
   ·simp only [List.length_append,List.length_singleton];omega
   ·exact RZ x (List.mem_of_getElem? e)
theorem XS {aD aC aH ao:Addr} (cW:Xf K mg aD "NoRow" "row") {f:Addr} {fd:FuncData} (F:rm K "read" "read" uM f fd) (zX:wU P w K mg base 1 aD "NoRow" ["self","row"] (oX K)) (Wu:FnAt P w K mg base 6 "row_of" ["line"] (Ie K)) (JX:wZ P w K mg base 3 "check_form" ["row","number","hands"] (vX aD K)) (GR:wZ P w K mg base 3 "check_cells" ["row","number","count"] (uJ aC K)) (JW:wZ P w K mg base 3 "check_room" ["row","number","hands"] (vW aH K)) (Cy:wZ P w K mg base 3 "check_targets" ["hands"] (Eh ao K)) (Bt:Cm mg):dM P w K mg base (JZ P w) 7 f fd ["text"] (Mx aD aC aH ao K):=by
 refine F.okX rB (fun vs H Q E h=> ?_) (fun cdv A outer s H vs Q E hr h hR=> ?_)
 ·obtain ⟨x,rfl,_⟩:=h
  rfl
 ·obtain ⟨x,rfl,xl,good,bad⟩:=h
  refine ⟨_,(aA (aX (i:=1) rB.nd rfl (Or.inl rfl) (eX (K:=K) rfl PySem.F.plainAttrs_str PySem.F.slot_str_split PySem.F.type_str_split lG (pv 0) (aj aM ak)))
   (aA (aX (i:=2) rB.nd rfl (Or.inl rfl) au)
   (aA (aX (i:=3) rB.nd rfl (Or.inl rfl) (cO ak))
   (aA (oZ PassesOwn.leaving rfl (QM (K:=K) rfl (by rfl) Bt.Li (aj (pv 1) ak) au) (IV (K:=K) (n:=2) rfl rfl (tD (cM (i:=4) rB.nd rfl (Or.inl rfl)) (tD (cM (i:=5) rB.nd rfl (Or.inl rfl)) IK)))
   (aA (aX (i:=6) rB.nd rfl (Or.inl rfl) (bG Wu (hr.mono (by decide)) (by rfl) (aj (pv 5) ak)))
   (aA (lF (Es JX rfl hR (hr.mono (by decide)) (by rfl) (aj (pv 6) (aj (pv 4) (aj (pv 3) ak)))))
   (aA (lF (Es GR rfl hR (hr.mono (by decide)) (by rfl) (aj (pv 6) (aj (pv 4) (aj (pv 2) ak)))))
   (aA (lF (Es JW rfl hR (hr.mono (by decide)) (by rfl) (aj (pv 6) (aj (pv 4) (aj (pv 3) ak)))))
   (aG (bI (aK cB (aV (bQ (K:=K) rfl) (pv 6) au (fun _ _=>rfl)) aM (aO _)) (aG (aX (i:=2) rB.nd rfl (Or.inl rfl) (aV (bQ (K:=K) rfl) (pv 6) au (fun _ _=>rfl)))) (aG (bI (aK cB (aV (bQ (K:=K) rfl) (pv 6) au (fun _ _=>rfl)) aM (aO _)) (aG (lF (m_ (K:=K) rfl (pv 3) (aj (cO ak) ak)))) (aG (lF (m_ (K:=K) rfl (aV (aU (K:=K) rfl) (pv 3) (pL iJ au) (fun _ _=>rfl)) (aj (pv 6) ak)))))))))))))
   (aA (bI (v8 (Hf (K:=K) rfl (pv 3))) (aG (jF zX rfl rfl hR (hr.mono (by decide)) (by rfl) (aj (bB dJ (aY (bD (K:=K) rfl) (by rfl) Bt.eG cY (aj (pv 1) ak)) au) ak))) aR)
   (aA (lF (Es Cy rfl hR (hr.mono (by decide)) (by rfl) (aj (pv 3) ak)))
   (aG (aN (cF (aj (pv 2) (aj (pv 3) ak))))))))))), ?_⟩
  have wl:∀y∈Txt.split x (Str.ofString "\n"),y.length<=x.length:=fun y hy=>J8 (c:=10) hy;have nl:=split_len (x:=x) (y:=Str.ofString "\n");refine ⟨_,rfl,rfl,_,_,rfl,rfl,rfl,by rw [sizeLine_eq];omega,fun W hW=> ?_⟩;have ert:sZ x=(match iT 1 0 [] (Txt.split x (Str.ofString "\n")) with | .error e=> .error e | .ok (c,hs)=>if hs=[] then .error (.qM ((Txt.split x (Str.ofString "\n")).length+1)) else match qQ 1 hs with |some k=> .error (.noTarget k)|none=> .ok (c,hs)):=rfl;generalize Txt.split x (Str.ofString "\n")=ls at *;have sW:=aF (o:=HO.lst (ls.map V.str)) hW;have eW:(upd H W (.lst (ls.map V.str))) W=some (.lst (ls.map V.str)):=aq;generalize (upd H W (.lst (ls.map V.str)))=H1 at sW eW ⊢;refine ⟨(by show 0<=sizeLine;decide),fun L hL=> ?_⟩;have sL:=aF (o:=HO.lst []) hL;have eL:(upd H1 L (.lst [])) L=some (.lst []):=aq;have eW2:=sL _ _ eW;have s2:=sW.trans sL;have hL0:H L=none:=sW.free hL;have nWL:W≠L:=bw eW hL;generalize (upd H1 L (.lst []))=H2 at sL eL eW2 s2 ⊢;have R2:Sh H H2 L [] []:=⟨eL,rfl,fun k a x e=>by simp at e,List.nodup_nil,hL0,fun a ha=>(by cases ha),s2⟩;refine ⟨_,rfl,W,_,rfl,bO.of eW2, ?_⟩
  refine Rh (K:=K) (a:=W) (xs:=ls.map V.str) (fun i σ Hc=>∃(x4 x5 x6:Option V) (c:Nat) (as:List Addr) (hs:List (List Rw)),σ=[some (.str x),some (.ref W),some (.int (c:Nat)),some (.ref L),x4,x5,x6]/\Hc W=some (.lst (ls.map V.str))/\Sh H Hc L as hs/\hs.length<=8/\(∀x∈hs,x.length<=60)/\iT 1 0 [] ls=iT (i+1) c hs (ls.drop i)/\W∉as)
   ⟨none,none,none,0,[],[],rfl,eW2,R2,by simp,by simp,by rw [List.drop_zero],by simp⟩ (fun i σ Hc _ ⟨_,_,_,_,_,_,_,eWc,_⟩=>bO.of eWc) ?_ ?_
  ·rintro i v σ Hc p hi ⟨x4,x5,x6,c,as,hs,rfl,eWc,Rc,h8,RZ,ef,nW⟩ hp
   rw [List.getElem?_map] at hi;cases ey:ls[i]? with
   | none=>rw [ey] at hi;cases hi
   | some y=>
     rw [ey] at hi;cases hi;have il:=(List.getElem?_eq_some_iff.mp ey).1;have yl:=wl y (List.mem_of_getElem? ey);rw [List.drop_eq_getElem_cons il] at ef;rw [List.getElem?_eq_getElem il] at ey;have ey:ls[i]=y:=Option.some.inj ey;rw [ey] at ef;have sp:=aF (o:=HO.tup [V.int ((i:Int)+1),V.str y]) hp;refine ⟨p,_,rfl,eU.of aq,rfl,_,_,rfl,_,_,rfl,rfl, ?_⟩;have Rp:=Rc.same sp;have eWp:=sp _ _ eWc;generalize (upd Hc p (.tup [V.int ((i:Int)+1),V.str y]))=Hd at Rp eWp ⊢;refine ⟨_,rfl,y,rfl,by omega,fun v H3 dv s3=> ?_⟩;have R3:=Rp.same s3;have eW3:=s3 _ _ eWp;generalize hln:bh (Txt.split y (Str.ofString " "))=l at dv;have ef:iT 1 0 [] ls=(match jD (i+1) c hs l with | .error e=> .error e | .ok (c',hs')=>iT (i+1+1) c' hs' (ls.drop (i+1))):=by rw [ef];show (match jD (i+1) c hs (bh (Txt.split y (Str.ofString " "))) with | .error e=>_ | .ok (c',hs')=>_)=_;rw [hln]
     have er1:∀e,jD (i+1) c hs l = .error e->sZ x = .error e:=fun e he=>by
      rw [he] at ef;rw [ert,ef]
     have ei:((i:Int)+1)=((i+1:Nat):Int):=by omega
     rw [ei];generalize hn:i+1=n at er1 ef ⊢;refine ⟨_,rfl,_,rfl,_,rfl,v,l,n,L,_,rfl,dv,R3.d,by rw [List.length_map,R3.len];omega,fun eb d H' hd s'=>bad (.qM n) (er1 _ ?_) d H' hd (R3.sm.trans s'),fun eg H4 s4=> ?_⟩
     ·rw [List.length_map,R3.len] at eb
      unfold jD;rw [if_pos eb]
     rw [List.length_map,R3.len] at eg
     obtain ⟨ln,rfl⟩:∃ln,l=some ln:=by
      cases l with
      | none=>cases eg
      | some ln=>exact ⟨ln,rfl⟩
     have dv4:Dat H4 v (Zf ln):=dv.same s4 _;have R4:=R3.same s4;have eW4:=s4 _ _ eW3
     have hrn:wI ln=true->hs≠[]:=fun q z=>by
      rw [z] at eg;have:((qe ln != decide (n=1))||(wI ln&&decide (0=0)))=false:=eg;rw [q] at this;simp at this
     clear dv s3 s4 R3 eW3 Rp eWp;refine ⟨_,rfl,_,rfl,_,rfl,v,ln,n,c,rfl,dv4,fun eb d H' hd s'=>bad (.wB n) (er1 _ ?_) d H' hd (R4.sm.trans s'),fun eg2 H5 s5=> ?_⟩
     ·unfold jD
      rw [eg,if_neg (by decide)];dsimp only;rw [if_pos eb]
     have dv5:Dat H5 v (Zf ln):=dv4.same s5 _;have R5:=R4.same s5;have eW5:=s5 _ _ eW4;clear dv4 s5 R4 eW4;refine ⟨_,rfl,_,rfl,_,rfl,v,ln,n,L,as,hs,rfl,dv5,R5.d,R5.len,fun k a x e1 e2=> ?_,hrn,fun eb d H' hd s'=>bad (.full n) (er1 _ ?_) d H' hd (R5.sm.trans s'),fun eg3 H6 s6=> ?_⟩
     ·obtain ⟨ts,ha,dt⟩:=R5.r k a x e1 e2
      exact ⟨ts,ha,by rw [dt.length,List.length_map]⟩
     ·unfold jD
      rw [eg,if_neg (by decide)];dsimp only;rw [eg2,if_neg (by decide),if_pos eb]
     have dv6:Dat H6 v (Zf ln):=dv5.same s6 _;have R6:=R5.same s6;have eW6:=s6 _ _ eW5;clear dv5 s6 R5 eW5;have st:=Tn eg eg2 eg3;rw [st] at ef;have ef:iT 1 0 [] ls=iT (n+1) (putL ln c hs).1 (putL ln c hs).2 (ls.drop n):=ef;obtain ⟨p8,p60⟩:=QH (c:=c) h8 RZ eg3 hrn;obtain ⟨t,vs,rfl,ht,hp'⟩:=Lk dv6;obtain ⟨tl,rfl⟩:=tH hp';refine ⟨_,rfl,_,_,_,_,rfl,rfl,eU.of ht,bW (j:=0) rfl,rfl,_,rfl, ?_⟩;rw [CG];subst hn;cases ln with
     | cells m=>
       cases hp';refine dz ?_;refine ⟨_,rfl,_,_,_,_,rfl,rfl,eU.of ht,rfl, ?_⟩;exact ⟨_,_,_,m,as,hs,rfl,eW6,R6,h8,RZ,ef,nW⟩
     | hand=>
       refine cP ?_;refine ⟨_,rfl,_,_,_,_,rfl,rfl,eU.of ht,bW (j:=0) rfl,rfl,_,rfl, ?_⟩;rw [Mj];refine dz ?_;refine ⟨_,rfl,.inl ⟨rfl,_,bO.of R6.d⟩,(by show 0<=sizeLine;decide),fun q hq=> ?_⟩;refine ⟨L,_,_,rfl,rfl,aF hq _ _ R6.d,(by rw [List.length_map,R6.len,sizeLine_eq];omega), ?_⟩;have nWq:W≠q:=bw eW6 hq;refine ⟨_,_,_,c,as++[q],hs++[[]],rfl, ?_,R6.hand (H:=H6) hq,p8,p60,ef, ?_⟩
       ·rw [aW nWL];exact aF hq _ _ eW6
       ·intro z
        rcases List.mem_append.mp z with z|z
        ·exact nW z
        ·exact nWq (List.mem_singleton.mp z)
     | row r=>
       refine cP ?_;refine ⟨_,rfl,_,_,_,_,rfl,rfl,eU.of ht,bW (j:=0) rfl,rfl,_,rfl, ?_⟩;rw [Mj];refine cP ?_;have nh:=hrn rfl;have n0:0<hs.length:=List.length_pos_iff.mpr nh;have al:as.length - 1<as.length:=by rw [R6.len];omega
       have ea:as[as.length - 1]? = some as[as.length - 1]:=List.getElem?_eq_getElem al;have el:hs[as.length - 1]? = some (hs.getLastD []):=by rw [R6.len];exact KN nh
       generalize as[as.length - 1]=a at ea;obtain ⟨ts,ha,dt⟩:=R6.r _ _ _ ea el;have lz:=RZ _ (List.mem_of_getElem? el);refine ⟨_,rfl,_,rfl,_,_,_,_,rfl,rfl,bO.of R6.d,ZK (v:=V.ref a) (by rw [List.length_map,List.getElem?_map,ea];rfl),.inl ⟨rfl,_,bO.of ha⟩,_,rfl,a,_,_,rfl,rfl,ha,(by rw [dt.length,List.length_map,sizeLine_eq];omega), ?_⟩;have nWa:W≠a:=fun z=>nW (by rw [z];exact List.mem_of_getElem? ea);exact ⟨_,_,_,c,as,nJ hs r,rfl,by rw [aW nWa];exact eW6,R6.row nh ea ha dt dv6,p8,p60,ef,nW⟩
  ·rintro σ Hc ⟨x4,x5,x6,c,as,hs,rfl,eWc,Rc,h8,RZ,ef,nW⟩
   rw [List.length_map,List.drop_length] at ef;have ef:iT 1 0 [] ls = .ok (c,hs):=ef;rw [ef] at ert;refine ⟨_,rfl,_,.inl ⟨_,bO.of Rc.d,rfl⟩, ?_⟩;cases hs with
   | nil=>
     have e0:as=[]:=List.eq_nil_of_length_eq_zero Rc.len;subst e0;refine dz ?_;have er:sZ x = .error (.qM (ls.length+1)):=ert;refine ⟨_,rfl,W,_,rfl,.inl (bO.of eWc),_,_,rfl,rfl,(by show 1<=sizeLine;decide),gJ cW.sa cW.na fun d H' hd s'=>bad _ er d H' ?_ (Rc.sm.trans s')⟩;rw [hd];show some (HO.xd [(_,V.int (((ls.map V.str).length:Int)+1))])=some (HO.xd [(_,V.int ((ls.length+1:Nat):Int))]);rw [List.length_map,show ((ls.length:Int)+1)=((ls.length+1:Nat):Int) by omega]
   | cons h0 hr0=>
     have ea:∃a0 ar,as=a0::ar:=by
      cases as with
      | nil=>have:=Rc.len;cases this
      | cons a b=>exact ⟨a,b,rfl⟩
     obtain ⟨a0,ar,rfl⟩:=ea;refine cP ?_;have er:sZ x=(match qQ 1 (h0::hr0) with |some k=> .error (.noTarget k)|none=> .ok (c,h0::hr0)):=ert;unfold rA;dsimp only;refine ⟨_,rfl,L,_,h0::hr0,rfl,Rc.d,Rc.len,by omega,fun x hx=>by have:=RZ x hx;omega,Rc.r,fun k eb d H' hd s'=>bad (.noTarget k) ?_ d H' hd (Rc.sm.trans s'),fun eb H3 s3=> ?_⟩
     ·rw [er,eb]
     rw [eb] at er;refine ⟨_,rfl,_,rfl,(by show 2<=sizeLine;decide),fun t ht=> ?_⟩;have st:=aF (o:=HO.tup [V.int (c:Nat),V.ref L]) ht;exact good c _ er t L _ _ aq (Rc.sm.free (s3.free ht)) ((Rc.same s3).same st)
def M127:Int:=170141183460469231731687303715884105727
theorem Yy:Builtin.Int.intBits M127<=127:=PySem.intBits_le_iff.mpr (by decide)
theorem Qn {t:Int} (h0:0<=t) (h1:t<M127):Builtin.Int.intBits t<=127:=PySem.intBits_le_of_natAbs (y:=M127) (by unfold M127 at h1 ⊢;omega) Yy
theorem Uv {t:Int} (h0:0<=t) (h1:t<M127):IntMulOk t t:=IntMulOk.of_le (Qn h0 h1) (Qn h0 h1) (by omega)
def cC (H:Hp) (r:Addr):Prop:=∃(g c:Addr) (gs cs:List Int) (p t:Int),H r=some (.lst [.ref g,.ref c,.int p,.int t])/\H g=some (.lst (gs.map V.int))/\H c=some (.lst (cs.map V.int))/\0<cs.length/\cs.length<=100/\gs.length<=100/\(∀x∈gs,0<=x)/\0<=p/\0<=t/\t<M127/\g≠r/\c≠r
theorem cC.keep {H H':Hp} {r:Addr} (h:cC H r) (k:Same H H'):cC H' r:=by
 obtain ⟨g,c,gs,cs,p,t,e1,e2,e3,q⟩:=h;exact ⟨g,c,gs,cs,p,t,k _ _ e1,k _ _ e2,k _ _ e3,q⟩
theorem cC.ne {H:Hp} {r p:Addr} (h:cC H r) (hp:H p=none):p≠r:=by
 obtain ⟨g,c,gs,cs,_,t,e1,_⟩:=h;exact (bw e1 hp).symm
theorem cC.tups {H H':Hp} {r:Addr} (h:cC H r) (k:Kp r H H'):∀a xs,H a=some (HO.tup xs)->H' a=some (HO.tup xs):=by
 obtain ⟨g,c,gs,cs,p,t,e1,_⟩:=h;exact k.tups e1
def Off (H:Hp) (r x:Addr):Prop:=∀(g c:Addr) (u v:V),H r=some (.lst [.ref g,.ref c,u,v])->x≠g/\x≠c
def KR (r:Addr) (H H':Hp):Prop:=Kp r H H' /\ ∀x o,H x=some o->x≠r->Off H r x->Off H' r x
theorem KR.trans {r:Addr} {H H1 H2:Hp} (a:KR r H H1) (b:KR r H1 H2):KR r H H2:=⟨a.1.trans b.1,fun x o e n f=>b.2 x o (a.1 _ _ e n) n (a.2 x o e n f)⟩
theorem KR.refl (r:Addr) (H:Hp):KR r H H:=⟨Kp.refl _ _,fun _ _ _ _ f=>f⟩
theorem KR.same {r:Addr} {H H':Hp} (R:cC H r) (k:Same H H'):KR r H H':=⟨.of_same k,fun x o e n f g c u v e2=>by
 obtain ⟨g',c',gs,cs,p,t,e1,_⟩:=R;rw [k _ _ e1] at e2;cases e2;exact f _ _ _ _ e1⟩
theorem cC.off {H:Hp} {r x:Addr} (R:cC H r) (hx:H x=none):Off H r x:=fun g c u v e=>by
 obtain ⟨g',c',gs,cs,p,t,e1,e2,e3,_⟩:=R;rw [e1] at e;cases e;exact ⟨fun z=>(by rw [z,e2] at hx;cases hx),fun z=>(by rw [z,e3] at hx;cases hx)⟩
theorem Off.same {H H':Hp} {r x:Addr} (R:cC H r) (k:Same H H') (f:Off H r x):Off H' r x:=fun g c u v e2=>by
 obtain ⟨g',c',gs,cs,p,t,e1,_⟩:=R;rw [k _ _ e1] at e2;cases e2;exact f _ _ _ _ e1
theorem cC.set {H:Hp} {r x:Addr} {o:HO} (R:cC H r) (n:x≠r) (f:Off H r x):cC (upd H x o) r:=by
 obtain ⟨g,c,gs,cs,p,t,e1,e2,e3,q⟩:=R;obtain ⟨n1,n2⟩:=f _ _ _ _ e1;exact ⟨g,c,gs,cs,p,t,by rw [aW n.symm];exact e1,by rw [aW n1.symm];exact e2,by rw [aW n2.symm];exact e3,q⟩
theorem Off.set {H:Hp} {r x y:Addr} {o:HO} (n:x≠r) (f:Off H r y):Off (upd H x o) r y:=fun g c u v e=>f g c u v (by rw [aW n.symm] at e;exact e)
theorem Jw {ns:List Int} (h:ns.length<=63):wM (ns.map V.int) none (some 63)=ns.map V.int:=by
 unfold wM;rw [HT.Em,show (some (63:Int))=some ((63:Nat):Int) from rfl,HT.CV,List.length_map,List.drop_zero,Nat.min_eq_right h,Nat.sub_zero,List.take_of_length_le (by simp)]
def Ig (K:PySem.W.Frag):Sp:=fun vs H Q _=>∃(a:Addr) (ns:List Int),vs=[.ref a]/\bO K H a (ns.map V.int)/\ns.length<=63 /\ ∀(r:Addr) (H':Hp),H r=none->cC H' r->Same H H'->Q (.ref r) H'
theorem Ud {f:Addr} {fd:FuncData} (F:rm K "_law_reel" "_law_reel" pX f fd) (Bt:Cm mg):dM P w K mg base tV 1 f fd ["script"] (Ig K):=by
 refine F.ok vZ (fun vs H Q E h=> ?_) (fun cdv A outer s H vs Q E hr h=> ?_)
 ·obtain ⟨a,ns,rfl,_⟩:=h
  rfl
 ·obtain ⟨a,ns,rfl,hs,hlen,k⟩:=h
  refine ⟨_,(aA (aX (i:=1) vZ.nd rfl (Or.inl rfl) (bB wu au au))
   (aA (oZ PassesOwn.never rfl (nP (K:=K) rfl (d_ (k_ (K:=K) rfl) (pv 0) fQ (fP au))) (cM (i:=2) vZ.nd rfl (Or.inl rfl))
   (aG (aX (i:=1) vZ.nd rfl (Or.inl rfl) (bB wz (bB dJ (bB dJ (bB PJ (pv 1) (pv 1)) (bB wz (pv 2) au)) au) (bB Et (bB Eu (bB wu au au) (bB wu au au)) au)))))
   (aA (Iv (i:=3) rfl vZ.nd rfl (Or.inl rfl) (N:=["cell"]) (own:=["cell"]) (caps:=[]) (bZ.of (by kernel_rfl)) (nP (K:=K) rfl (d_ (k_ (K:=K) rfl) (pv 0) fQ (fP au))) (fun _ _ _ _=>(cM (i:=0) (show List.Nodup (["cell"]:List Str) by decide +kernel) rfl (Or.inl rfl))) (fun _ _ _ _=>(Pr (aK Ky (pv 0) (bB wu au au) (aO _)))) (fun _ _ _ _=>(bB Et (pv 0) (bB wu au au))))
   (aG (aN (cO (aj (pv 3) (aj (bB o7 (uR rfl (N:=["cell"]) (own:=["cell"]) (caps:=[]) (bZ.of (by kernel_rfl)) (nP (K:=K) rfl (d_ (k_ (K:=K) rfl) (pv 0) fQ (fP au))) (fun _ _ _ _=>(cM (i:=0) (show List.Nodup (["cell"]:List Str) by decide +kernel) rfl (Or.inl rfl))) (fun _ _ _ _=>rD) (fun _ _ _ _=>(bB wz (pv 0) au))) (cO (aj au ak))) (aj au (aj (pv 1) ak)))))))))), ?_⟩
  refine ⟨_,_,rfl,rfl,(by show Lz 3 60;exact ⟨by decide,by decide,by decide⟩), ?_⟩;refine ⟨_,rfl,_,rfl,_,_,rfl,hs,fun p hp=> ?_⟩;rw [Jw hlen];have s1:=aF (o:=HO.lst (ns.map V.int)) hp;have cp1:Lz 2 64:=⟨by decide,by decide,by decide⟩;have cp2:Lz 2 63:=⟨by decide,by decide,by decide⟩;have cp3:Lz 10 18:=⟨by decide,by decide,by decide⟩
  refine ⟨p,rfl,⟨_,bO.of aq⟩,wL (K:=K) (a:=p) (xs:=ns.map V.int) (fun i σ H2=>∃(t:Int) (v:Option V),σ=[some (.ref a),some (.int t),v,none]/\H2=upd H p (.lst (ns.map V.int))/\0<=t/\t<M127)
   ⟨_,none,rfl,rfl,by decide,by decide⟩ (fun i σ H2 _ ⟨_,_,_,e,_⟩=>by rw [e];exact bO.of aq) ?_ ?_⟩
  ·rintro i y σ H2 hi ⟨t,v,rfl,rfl,t0,t1⟩
   obtain ⟨z,rfl⟩:∃z,y=V.int z:=by
    rw [List.getElem?_map] at hi;cases e:ns[i]? with
    | none=>rw [e] at hi;cases hi
    | some z=>rw [e] at hi;exact ⟨z,(Option.some.inj hi).symm⟩
   refine ⟨_,rfl,_,rfl,_,_,rfl,rfl,Uv t0 t1,_,rfl,_,_,rfl,rfl,(by show (0:Int)<1000000000000000003;decide),_,_,rfl,rfl,_,_,rfl,rfl, ?_⟩;refine ⟨_,_,rfl,rfl,cp1,_,_,rfl,rfl,cp2,_,_,rfl,rfl,.inr ⟨by decide,by decide⟩,_,_,rfl,rfl,_,_,rfl,rfl,(by show (0:Int)<2 ^ Int.toNat 64*2 ^ Int.toNat 63 - 1;decide), ?_⟩;refine ⟨_,_,rfl,rfl, ?_, ?_⟩
   ·exact Int.emod_nonneg _ (by decide)
   ·exact Int.emod_lt_of_pos _ (by decide)
  ·rintro σ H2 ⟨t,v,rfl,rfl,t0,t1⟩
   have hs1:=s1.seq hs;refine ⟨_,rfl,_,rfl,_,_,rfl,hs1,fun p2 hp2=> ?_⟩;rw [Jw hlen];have s2:=aF (o:=HO.lst (ns.map V.int)) hp2;refine ⟨p2,rfl,⟨_,bO.of aq⟩,fun D hD=> ?_⟩;refine FJ (K:=K) (fun i=>(ns[i]?).bind fun z=>if decide (z≥10 ^ (18:Int).toNat) then some (V.int (z - 10 ^ (18:Int).toNat)) else none) hD (bO.of aq) (by rw [List.length_map];omega) (fun i v H3 G F hi s3 kG kF=> ?_) (fun H3 s3 e3=> ?_)
   ·rw [List.getElem?_map] at hi
    cases e:ns[i]? with
    | none=>rw [e] at hi;cases hi
    | some z=>
      rw [e] at hi;cases hi;simp only [e,Option.bind_some] at kG kF;refine ⟨_,rfl,_,_,rfl,rfl,cp3,_,_,rfl,rfl,_,rfl, ?_⟩;refine cD (fun w=> ?_) (fun w=> ?_)
      ·exact ⟨_,rfl,_,_,rfl,rfl,cp3,_,_,rfl,rfl,kF _ H3 (Same.refl _) (by rw [if_pos w])⟩
      ·exact kG H3 (Same.refl _) (by rw [if_neg w])
   rw [List.length_map,Qe (fun z:Int=>decide (z≥10 ^ (18:Int).toNat)) (fun z=>V.int (z - 10 ^ (18:Int).toNat))] at e3;have e3':H3 D=some (.lst (((ns.filter fun z=>decide (z≥10 ^ (18:Int).toNat)).map fun z=>z - 10 ^ (18:Int).toNat).map V.int)):=by rw [e3,List.map_map];rfl
   have s13:=(s1.trans s2).trans s3;refine ⟨_,rfl,_,rfl,_,rfl,_,_,rfl,s13.seq hs,fun p3 hp3=> ?_⟩;rw [Jw hlen];have s4:=aF (o:=HO.lst (ns.map V.int)) hp3;refine ⟨p3,rfl,⟨_,bO.of aq⟩,fun D2 hD2=> ?_⟩;refine FJ (K:=K) (fun i=>(ns[i]?).map fun z=>V.int (z % 1000003)) hD2 (bO.of aq) (by rw [List.length_map];omega) (fun i v H5 G F hi s5 kG kF=> ?_) (fun H5 s5 e5=> ?_)
   ·rw [List.getElem?_map] at hi
    cases e:ns[i]? with
    | none=>rw [e] at hi;cases hi
    | some z=>
      rw [e] at hi;cases hi;exact ⟨_,rfl,_,_,rfl,rfl,(by show (0:Int)<1000003;decide),kF _ H5 (Same.refl _) (by rw [e];rfl)⟩
   rw [List.length_map,zP] at e5;refine ⟨(by show 1<=sizeLine;decide),fun p4 hp4=> ?_⟩;have s6:=aF (o:=HO.lst [V.int 41]) hp4;refine ⟨D2,p4,_,_,rfl,rfl,s6 _ _ e5,aq,by rw [sizeLine_eq,List.length_map];simp only [List.length_singleton];omega,fun c hc=> ?_⟩;have s7:=aF (o:=HO.lst (ns.map (fun z=>V.int (z % 1000003))++[V.int 41])) hc;have s47:=(s4.trans s5).trans (s6.trans s7);refine ⟨_,rfl,(by show 4<=sizeLine;decide),fun r hr'=> ?_⟩;have s8:=aF (o:=HO.lst [V.ref D,V.ref c,V.int 0,V.int t]) hr';have eD:=s47 _ _ e3';have nDr:D≠r:=bw eD hr';have ncr:c≠r:=bw aq hr';have fl:(ns.filter fun z=>decide (z≥10 ^ (18:Int).toNat)).length<=ns.length:=List.length_filter_le _ _;refine k r _ ((s13.trans s47).free hr') ⟨D,c,_,ns.map (· % 1000003)++[41],0,t,aq,s8 _ _ eD, ?_,by simp,by simp;omega,by rw [List.length_map];omega,fun x hx=> ?_,by decide,t0,t1,nDr,ncr⟩ ((s13.trans s47).trans s8)
   ·refine s8 _ _ ?_
    rw [aq,List.map_append,List.map_map];rfl
   ·obtain ⟨z,hz,rfl⟩:=List.mem_map.mp hx
    have:=of_decide_eq_true (List.mem_filter.mp hz).2;omega
def kZ (K:PySem.W.Frag):Sp:=fun vs H Q _=>∃(r:Addr) (m:Int),vs=[.ref r,.int m]/\cC H r/\0<m/\m<1329227995784915872903807060280344576 /\ ∀(z:Int) (H':Hp),0<=z->z<m->cC H' r->KR r H H'->Q (.int z) H'
theorem Uk {f:Addr} {fd:FuncData} (F:rm K "_law_draw" "_law_draw" qb f fd) (Bt:Cm mg):dM P w K mg base tV 1 f fd ["reel","many"] (kZ K):=by
 refine F.ok zF (fun vs H Q E h=> ?_) (fun cdv A outer s H vs Q E hr h=> ?_)
 ·obtain ⟨r,m,rfl,_⟩:=h
  rfl
 ·obtain ⟨r,m,rfl,⟨g,c,gs,cs,p,t,hR,hG,hC,c0,c1,g1,aaU,p0,t0,t1,ngr,ncr⟩,m0,m1,k⟩:=h
  have Bq:=hr.units
  refine ⟨_,(aA (bI (aK (PB (K:=K) rfl Bq) (aV (aU (K:=K) rfl) (pv 0) au (fun _ _=>rfl)) (cO ak) (aO _)) (aA (aX (i:=2) zF.nd rfl (Or.inl rfl) (aV (aU (K:=K) rfl) (aV (aU (K:=K) rfl) (pv 0) au (fun _ _=>rfl)) au (fun _ _=>rfl)))
   (aA (v9 (bB o7 (bB aao (cO (aj (bB Kz (pv 2) (pv 1)) ak)) (cj tQ (by rfl) Bt.vo o_ (aj (dU Ky (pv 2) (pv 1) (aO _)) ak))) (d_ (k_ (K:=K) rfl) (aV (aU (K:=K) rfl) (pv 0) au (fun _ _=>rfl)) (fP au) fQ)) (wj (pv 0) au set_list))
   (aG (aN (bB wz (pv 2) (pv 1)))))) aR)
   (aA (v9 (bB dJ (aV (aU (K:=K) rfl) (pv 0) au (fun _ _=>rfl)) au) (wj (pv 0) au set_list))
   (aA (aX (i:=3) zF.nd rfl (Or.inl rfl) (aV (aU (K:=K) rfl) (aV (aU (K:=K) rfl) (pv 0) au (fun _ _=>rfl)) (bB wz (aV (aU (K:=K) rfl) (pv 0) au (fun _ _=>rfl)) (aY (bD (K:=K) rfl) (by rfl) Bt.eG cY (aj (aV (aU (K:=K) rfl) (pv 0) au (fun _ _=>rfl)) ak))) (fun _ _=>rfl)))
   (aA (aX (i:=4) zF.nd rfl (Or.inl rfl) (bB dJ (bB dJ (bB PJ (aV (aU (K:=K) rfl) (pv 0) au (fun _ _=>rfl)) (aV (aU (K:=K) rfl) (pv 0) au (fun _ _=>rfl))) (bB Eu (bB dJ (pv 3) au) au)) (bB Eu (aV (aU (K:=K) rfl) (pv 0) au (fun _ _=>rfl)) au)))
   (aA (v9 (bB wz (pv 4) (bB Et (bB Eu (bB wu au au) (bB wu au au)) au)) (wj (pv 0) au set_list))
   (aG (aN (bB wz (bB Kz (aV (aU (K:=K) rfl) (pv 0) au (fun _ _=>rfl)) (bB wu au au)) (pv 1))))))))), ?_⟩
  refine ⟨_,rfl,_,_,_,_,rfl,rfl,bO.of hR,rfl,(by show 0<=sizeLine;decide),fun q hq=> ?_⟩;have s1:=aF (o:=HO.lst []) hq;have hR1:=s1 _ _ hR;have hG1:=s1 _ _ hG;have hC1:=s1 _ _ hC;refine ⟨_,_,nY hG1,nY (ns:=[]) aq,shaped_ints _,shaped_ints _,_,rfl, ?_⟩;rw [if_pos rfl,zQ PyData.int Di];refine cD (fun w=> ?_) (fun _=> ?_)
  ·have w:gs≠[]:=by simpa using w
   obtain ⟨x,xs,rfl⟩:∃x xs,gs=x::xs:=by
    cases gs with
    | nil=>exact absurd rfl w
    | cons x xs=>exact ⟨x,xs,rfl⟩
   have x0:=aaU x (by simp);refine ⟨_,rfl,_,_,_,_,rfl,rfl,bO.of hR1,rfl,_,_,_,_,rfl,rfl,bO.of hG1,(by show vq (V.int x::xs.map V.int) 0=some (V.int x);simp [vq,Jj]), ?_⟩;refine ⟨_,rfl,_,rfl,_,_,rfl,rfl,⟨m0,m1⟩,(by show 1<=sizeLine;decide),fun q2 hq2=> ?_⟩;have s2:=aF (o:=HO.lst [V.int (x / m)]) hq2;refine ⟨_,rfl,_,rfl,_,_,rfl,rfl,Or.inr ⟨_,rfl,q2,_,_,rfl,rfl,aq, ?_, ?_, ?_,fun q3 LR=> ?_⟩⟩
   ·split<;>decide
   ·split<;>decide
   ·rw [sizeLine_eq];split<;>simp
   have s3:=aF (o:=HO.lst (List.replicate (if decide (x≥m)=true then (1:Int) else 0).toNat [V.int (x / m)]).flatten) LR;have s23:=s2.trans s3;refine ⟨_,rfl,_,_,_,_,rfl,rfl,bO.of (s23 _ _ hR1),rfl,_,rfl,g,_,rfl,bO.of (s23 _ _ hG1),fun q4 Ym=> ?_⟩;rw [show wM ((x::xs).map V.int) (some 1) none=xs.map V.int from zT _ 1];have s4:=aF (o:=HO.lst (xs.map V.int)) Ym;have fl:(List.replicate (if decide (x≥m)=true then (1:Int) else 0).toNat [V.int (x / m)]).flatten.length<=1:=by split<;>simp
   have xl:xs.length<=100:=by have:(x::xs).length<=100:=g1;simp at this;omega
   refine ⟨q3,q4,_,_,rfl,rfl,s4 _ _ aq,aq,by rw [sizeLine_eq,List.length_map];exact Nat.le_trans (Nat.add_le_add fl xl) (by decide),fun q5 hq5=> ?_⟩;have s5:=aF (o:=HO.lst ((List.replicate (if decide (x≥m)=true then (1:Int) else 0).toNat [V.int (x / m)]).flatten++xs.map V.int)) hq5;have s25:=(s23.trans s4).trans s5;have hR5:=s25 _ _ hR1;refine ⟨_,rfl,_,_,_,_,rfl,rfl,hR5,rfl, ?_⟩;have kr:Kp r (upd (upd (upd (upd (upd H q (HO.lst [])) q2 (HO.lst [V.int (x / m)])) q3 (HO.lst (List.replicate (if decide (x≥m)=true then (1:Int) else 0).toNat [V.int (x / m)]).flatten)) q4 (HO.lst (xs.map V.int))) q5 (HO.lst ((List.replicate (if decide (x≥m)=true then (1:Int) else 0).toNat [V.int (x / m)]).flatten++xs.map V.int))) _:=Kp.set (o:= .lst [.ref q5,.ref c,.int p,.int t]);have nq5:q5≠r:=(bw ((s23.trans s4) _ _ hR1) hq5).symm
   have eq5:(List.replicate (if decide (x≥m)=true then (1:Int) else 0).toNat [V.int (x / m)]).flatten++xs.map V.int=((if decide (x≥m)=true then [x / m] else [])++xs).map V.int:=by
    split<;>simp
   refine ⟨_,rfl,_,rfl,_,_,rfl,rfl,m0, ?_⟩
   refine k _ _ (Int.emod_nonneg _ (by omega)) (Int.emod_lt_of_pos _ m0) ⟨q5,c,(if decide (x≥m)=true then [x / m] else [])++xs,cs,p,t,aq, ?_,kr _ _ (s25 _ _ hC1) ncr,c0,c1, ?_,fun y hy=> ?_,p0,t0,t1,nq5,ncr⟩ ⟨(Kp.of_same (s1.trans s25)).trans kr,fun y o ey ny f g' c' u v e=>by
    rw [aq] at e;cases e;exact ⟨bw ((s1.trans (s23.trans s4)) _ _ ey) hq5,(f _ _ _ _ hR).2⟩⟩
   ·refine kr _ _ ?_ nq5
    rw [aq,eq5]
   ·rw [List.length_append]
    have:(if decide (x≥m)=true then [x / m] else []).length<=1:=by split<;>simp
    have:(x::xs).length<=100:=g1;simp only [List.length_cons] at this;omega
   ·rcases List.mem_append.mp hy with hy|hy
    ·split at hy
     ·have:y=x / m:=by simpa using hy
      rw [this];exact Int.ediv_nonneg x0 (by omega)
     ·cases hy
    ·exact aaU y (by simp [hy])
  ·have cp1:Lz 2 64:=⟨by decide,by decide,by decide⟩
   have cp2:Lz 2 63:=⟨by decide,by decide,by decide⟩;have cp4:Lz 2 40:=⟨by decide,by decide,by decide⟩;refine ⟨_,rfl,_,_,_,_,rfl,rfl,bO.of hR1,rfl,_,_,rfl,rfl,_,rfl,_,_,_,_,rfl,rfl,hR1,rfl, ?_⟩;have kr:Kp r (upd H q (HO.lst [])) (upd (upd H q (HO.lst [])) r (.lst [.ref g,.ref c,.int (p+1),.int t])):=Kp.set;have hR2:(upd (upd H q (HO.lst [])) r (.lst [.ref g,.ref c,.int (p+1),.int t])) r=some (.lst [.ref g,.ref c,.int (p+1),.int t]):=aq;have hC2:=kr _ _ hC1 ncr;have i0:0<=(p+1) % (cs.length:Int):=Int.emod_nonneg _ (by omega);have i1:(p+1) % (cs.length:Int)<cs.length:=Int.emod_lt_of_pos _ (by omega);refine ⟨_,rfl,_,_,_,_,rfl,rfl,bO.of hR2,rfl,_,rfl,_,_,_,_,rfl,rfl,bO.of hR2,rfl,_,rfl,_,_,_,_,rfl,rfl,bO.of hR2,rfl,c,_,rfl,.inl (bO.of hC2),_,_,rfl,rfl,by rw [List.length_map];omega,_,_,_,_,rfl,rfl,bO.of hC2,by rw [List.length_map];exact abe i0 i1, ?_⟩;generalize gI cs ((p+1) % (cs.length:Int))=told;refine ⟨_,rfl,_,_,_,_,rfl,rfl,bO.of hR2,rfl,_,rfl,_,_,_,_,rfl,rfl,bO.of hR2,rfl,_,_,rfl,rfl,Uv t0 t1,_,rfl,_,_,rfl,rfl,_,_,rfl,rfl,.inr ⟨by decide,by decide⟩,_,_,rfl,rfl,_,rfl,_,_,_,_,rfl,rfl,bO.of hR2,rfl,_,_,rfl,rfl,.inr ⟨by decide,by decide⟩,_,_,rfl,rfl, ?_⟩;refine ⟨_,rfl,_,_,rfl,rfl,cp1,_,_,rfl,rfl,cp2,_,_,rfl,rfl,.inr ⟨by decide,by decide⟩,_,_,rfl,rfl,_,_,rfl,rfl,(by show (0:Int)<2 ^ Int.toNat 64*2 ^ Int.toNat 63 - 1;decide),_,rfl,_,_,_,_,rfl,rfl,hR2,rfl, ?_⟩;refine ⟨_,rfl,_,_,_,_,rfl,rfl,bO.of aq,rfl,_,_,rfl,rfl,cp4,_,_,rfl,rfl,⟨by decide,by decide⟩,_,rfl,_,_,rfl,rfl,m0, ?_⟩
   refine k _ _ (Int.emod_nonneg _ (by omega)) (Int.emod_lt_of_pos _ m0) ⟨g,c,gs,cs,p+1,_,aq, ?_, ?_,c0,c1,g1,aaU,by omega,Int.emod_nonneg _ (by decide),Int.emod_lt_of_pos _ (by decide),ngr,ncr⟩ ⟨((Kp.of_same s1).trans kr).trans Kp.set,fun y o ey ny f g' c' u v e=>by
    rw [aq] at e;cases e;exact f _ _ _ _ hR⟩
   ·rw [aW ngr];exact kr _ _ hG1 ngr
   ·rw [aW ncr];exact hC2
theorem ab2 {i:Nat} {v:V} {u:TS} {D:Ends} {σ:St} {H:Hp} (h:u D (σ.set i (some v)) H):Z6 (W0 (tC v) (qO i)) u D σ H:=h
structure aee (K:PySem.W.Frag) (c0 c1 c2 c3 cN cR:Addr) (o1 o2:List Addr) (C:Addr) (i:Nat):Prop where
 xc:PySem.W.RL K C
 dc:PySem.W.hasDictIn K C=true
 na:BX K C "row"
 ve:PySem.W.kitOne K (.ref C) (.type "ValueError")=some true
 k0:PySem.W.kitOne K (.ref C) (.ref c0)=some (decide (i=0))
 k1:PySem.W.kitOne K (.ref C) (.ref c1)=some (decide (i=1))
 k2:PySem.W.kitOne K (.ref C) (.ref c2)=some (decide (i=2))
 k3:PySem.W.kitOne K (.ref C) (.ref c3)=some (decide (i=3))
 kn:PySem.W.kitOne K (.ref C) (.ref cN)=some true
 re:PySem.W.subIn K (.ref C) (.ref cR)=some true
 n1:∀D∈o1,PySem.W.kitOne K (.ref C) (.ref D)=some false
 n2:∀D∈o2,PySem.W.kitOne K (.ref C) (.ref D)=some false
def R_:Er->Nat
 | .qM _=>0
 | .wB _=>1
 | .full _=>2
 | .noTarget _=>3
def Lp:Except Er (Nat×List (List Rw))->Int×Int
 | .ok _=>(-1,0)
 | .error e=>(R_ e,erN e)
def Ij (K:PySem.W.Frag):Sp:=fun vs H Q _=>∃x:Str,vs=[.str x]/\x.length<=90000 /\ ∀(t:Addr) (H':Hp),H' t=some (.tup [.int (Lp (sZ x)).1,.int (Lp (sZ x)).2])->Same H H'->Q (.ref t) H'
theorem Ul {aD aC aH ao bN bf dh cA bV bU bK bT bA bM bL bR dg bJ:Addr} (cW:Xf K mg aD "NoRow" "row") (cT:Xf K mg aC "NoCell" "row") (iK:Xf K mg aH "Full" "row") (cH:Xf K mg ao "NoTarget" "row") (jC:Xo K mg aD bN "RowError" true) (eN:Xo K mg aD bf "NoteError" true) (vg:Xo K mg aD dh "Held" false) (qj:Xo K mg aD cA "NoCut" false) (lY:Xo K mg aD bV "NoForm" false) (lX:Xo K mg aD bU "NoHand" false) (gO:Xo K mg aD bK "NoneYet" false) (lW:Xo K mg aD bT "NoNote" false) (fB:Xo K mg aD bA "NoNumber" false) (gQ:Xo K mg aD bM "NoOrder" false) (gP:Xo K mg aD bL "NoPlace" false) (lV:Xo K mg aD bR "NoText" false) (vf:Xo K mg aD dg "Over" false) (gM:Xo K mg aD bJ "TooMany" false) (AC:∀er:Er,aee K aD aC aH ao bf bN [dh,cA,bV,bU,bK,bT] [bA,bM,bL,bR,dg,bJ] (erC aD aC aH ao er) (R_ er)) {f:Addr} {fd:FuncData} (F:rm K "_law_asked" "_law_asked" lE f fd) (abo:wZ P w K mg base 7 "read" ["text"] (Mx aD aC aH ao K)) (Bt:Cm mg):dM P w K mg base tV 8 f fd ["text"] (Ij K):=by
 refine F.ok jE (fun vs H Q E h=> ?_) (fun cdv A outer s H vs Q E hr h=> ?_)
 ·obtain ⟨x,rfl,_⟩:=h
  rfl
 ·obtain ⟨x,rfl,xl,k⟩:=h
  refine ⟨_,(aA (aX (i:=1) jE.nd rfl (Or.inl rfl) eV)
   (aA (aaj (i:=2) rfl rfl rfl rfl jE.nd rfl rfl (by rfl) jC.bd jC.hd (fun _ _ _ _ hR=>(aG (lF (Es abo rfl hR (hr.mono (by decide)) (by rfl) (aj (pv 0) ak))))) (fun _=>(aG (aX (i:=1) jE.nd rfl (Or.inl rfl) (pv 2)))))
   (aA (bI (aK Bj (pv 1) eV (aO _)) (aG (aN (cF (aj (pL iJ au) (aj au ak))))) aR)
   (aA (aX (i:=3) jE.nd rfl (Or.inl rfl) (cO (aj (aY (tO (K:=K) (c:= .ref aD) (cv:= .ref aD) rfl (fun _ h=>h)) (by rfl) Bt.cZ cI (aj (pv 1) (aj (cU (v:= .ref aD) (by rfl) cW.bd rfl) ak))) (aj (aY (tO (K:=K) (c:= .ref aC) (cv:= .ref aC) rfl (fun _ h=>h)) (by rfl) Bt.cZ cI (aj (pv 1) (aj (cU (v:= .ref aC) (by rfl) cT.bd rfl) ak))) (aj (aY (tO (K:=K) (c:= .ref aH) (cv:= .ref aH) rfl (fun _ h=>h)) (by rfl) Bt.cZ cI (aj (pv 1) (aj (cU (v:= .ref aH) (by rfl) iK.bd rfl) ak))) ak)))))
   (aA (aX (i:=3) jE.nd rfl (Or.inl rfl) (bB o7 (pv 3) (cO (aj (aY (tO (K:=K) (c:= .ref ao) (cv:= .ref ao) rfl (fun _ h=>h)) (by rfl) Bt.cZ cI (aj (pv 1) (aj (cU (v:= .ref ao) (by rfl) cH.bd rfl) ak))) ak))))
   (aA (aX (i:=4) jE.nd rfl (Or.inl rfl) (Bh (aY (tO (K:=K) (c:= .ref bf) (cv:= .ref bf) rfl (fun _ h=>h)) (by rfl) Bt.cZ cI (aj (pv 1) (aj (cU (v:= .ref bf) (by rfl) eN.bd rfl) ak))) (Bg (aY (tO (K:=K) (c:= .type "ValueError") (cv:= .ty "ValueError") rfl (fun _ h=>h)) (by rfl) Bt.cZ cI (aj (pv 1) (aj (CZ (v:= .ty "ValueError") (by rfl) Bt.JM GJ rfl) ak))))))
   (aA (bI (PW.pt (vh (aK Kw (eX (K:=K) rfl PySem.F.plainAttrs_list PySem.F.slot_list_count PySem.F.type_list_count (Nq (K:=K) rfl) (pv 3) (aj Ks ak)) au (aO _)) (vh (v8 (oY (pv 4))) (uQ (oY (aY (Hu (K:=K) rfl) (by rfl) Bt.cZ cI (aj (pv 1) (aj (cF (aj (cU (v:= .ref dh) (by rfl) vg.bd rfl) (aj (cU (v:= .ref cA) (by rfl) qj.bd rfl) (aj (cU (v:= .ref bV) (by rfl) lY.bd rfl) (aj (cU (v:= .ref bU) (by rfl) lX.bd rfl) (aj (cU (v:= .ref bK) (by rfl) gO.bd rfl) (aj (cU (v:= .ref bT) (by rfl) lW.bd rfl) ak))))))) ak)))))))) (aG (aN (cF (aj (pL iJ au) (aj au ak))))) aR)
   (aA (bI (oY (aY (Hu (K:=K) rfl) (by rfl) Bt.cZ cI (aj (pv 1) (aj (cF (aj (cU (v:= .ref bA) (by rfl) fB.bd rfl) (aj (cU (v:= .ref bM) (by rfl) gQ.bd rfl) (aj (cU (v:= .ref bL) (by rfl) gP.bd rfl) (aj (cU (v:= .ref bR) (by rfl) lV.bd rfl) (aj (cU (v:= .ref dg) (by rfl) vf.bd rfl) (aj (cU (v:= .ref bJ) (by rfl) gM.bd rfl) ak))))))) ak)))) (aG (aN (cF (aj (pL iJ au) (aj au ak))))) aR)
   (aA (aX (i:=5) jE.nd rfl (Or.inl rfl) (Xw (K:=K) rfl (pv 1) rfl))
   (aA (bI (PW.pt (vh (v8 (oY (aY (BJ (K:=K) (cv:= .ty "int") (c:= .type "int") rfl rfl) (by rfl) Bt.cZ cI (aj (pv 5) (aj (CZ (v:= .ty "int") (by rfl) Bt.vo o_ rfl) ak))))) (uQ (oY (aY (BJ (K:=K) (cv:= .ty "bool") (c:= .type "bool") rfl rfl) (by rfl) Bt.cZ cI (aj (pv 5) (aj (CZ (v:= .ty "bool") (by rfl) Bt.abd Yx rfl) ak))))))) (aG (aN (cF (aj (pL iJ au) (aj au ak))))) aR)
   (aG (aN (cF (aj (eX (K:=K) rfl PySem.F.plainAttrs_list PySem.F.slot_list_index PySem.F.type_list_index (Np (K:=K) rfl) (pv 3) (aj Ks ak)) (aj (pv 5) ak))))))))))))))), ?_⟩
  refine ab2 ?_;refine Im (fun σ H'=>(∃(x2:Option V) (c:Nat) (hs:List (List Rw)),sZ x = .ok (c,hs)/\σ=[some (.str x),some .non,x2,none,none,none]/\Same H H')\/(∃(x2:Option V) (er:Er) (e d:Addr),sZ x = .error er/\σ=[some (.str x),some (.ref e),x2,none,none,none]/\H' e=some (XO (erC aD aC aH ao er) (some d) e)/\H' d=some (.xd [("row",.int (erN er:Nat))])/\Same H H')) (fun D' hD' rt'=> ?_) ?_
  ·refine ⟨_,rfl,x,rfl,xl,fun c hs e t L as H1 e1 ht R1=> ?_,fun er e d H1 hd s1=>⟨_,rfl,(AC er).re,fun e1 he1=> ?_⟩⟩
   ·exact hD' _ _ (.inl ⟨_,c,hs,e,rfl,R1.sm⟩)
   ·have se:=aF (o:=XO (erC aD aC aH ao er) (some d) e1) he1
    exact ⟨_,rfl,hD' _ _ (.inr ⟨_,er,e1,d,e,rfl,aq,se _ _ hd,s1.trans se⟩)⟩
  ·rintro σ H1 (⟨x2,c,hs,e,rfl,s1⟩|⟨x2,er,e,d,ee,rfl,he,hd,s1⟩)
   ·refine ⟨_,rfl,rfl,_,rfl,dz ?_⟩
    rw [e] at k;refine ⟨_,rfl,(by show 2<=sizeLine;decide),fun t ht=> ?_⟩;exact k t _ aq (s1.trans (aF ht))
   ·refine ⟨_,rfl,rfl,_,rfl,cP ?_⟩
    have a:=AC er;have i4:R_ er<4:=by cases er<;>simp [R_]
    rw [ee] at k;have k:∀(t:Addr) (H':Hp),H' t=some (.tup [.int (R_ er:Nat),.int (erN er:Nat)])->Same H H'->Q (.ref t) H':=k;generalize erC aD aC aH ao er=C at a he;generalize R_ er=i at a i4 k;generalize erN er=n at hd k;unfold rA;dsimp only;have xa:∀H',Same H1 H'->XAt H' e C [("row",.int (n:Nat))]:=fun H' s'=> .inr ⟨d,s' _ _ he,s' _ _ hd⟩;refine ⟨_,rfl,e,C,_,_,rfl,xa _ (Same.refl _),a.xc,a.k0,_,rfl,e,C,_,_,rfl,xa _ (Same.refl _),a.xc,a.k1,_,rfl,e,C,_,_,rfl,xa _ (Same.refl _),a.xc,a.k2,(by show 3<=sizeLine;decide),fun q1 hq1=> ?_⟩;have sq1:=aF (o:=HO.lst [V.bl (decide (i=0)),V.bl (decide (i=1)),V.bl (decide (i=2))]) hq1;refine ⟨_,rfl,_,rfl,e,C,_,_,rfl,xa _ sq1,a.xc,a.k3,(by show 1<=sizeLine;decide),fun q2 hq2=> ?_⟩;have Tp:=aF (o:=HO.lst [V.bl (decide (i=3))]) hq2;refine ⟨_,_,_,_,rfl,rfl,Tp _ _ aq,aq,(by show 3+1<=sizeLine;decide),fun q3 LR=> ?_⟩;have Y8:=aF (o:=HO.lst ([V.bl (decide (i=0)),V.bl (decide (i=1)),V.bl (decide (i=2))]++[V.bl (decide (i=3))])) LR;have s3:=(sq1.trans Tp).trans Y8;have e3:(upd (upd (upd H1 q1 (.lst [V.bl (decide (i=0)),V.bl (decide (i=1)),V.bl (decide (i=2))])) q2 (.lst [V.bl (decide (i=3))])) q3 (.lst ([V.bl (decide (i=0)),V.bl (decide (i=1)),V.bl (decide (i=2))]++[V.bl (decide (i=3))]))) q3=some (.lst (([decide (i=0),decide (i=1),decide (i=2),decide (i=3)]:List Bool).map V.bl)):=aq;generalize (upd (upd (upd H1 q1 (.lst [V.bl (decide (i=0)),V.bl (decide (i=1)),V.bl (decide (i=2))])) q2 (.lst [V.bl (decide (i=3))])) q3 (.lst ([V.bl (decide (i=0)),V.bl (decide (i=1)),V.bl (decide (i=2))]++[V.bl (decide (i=3))])))=H3 at s3 e3 ⊢;clear sq1 Tp Y8 hq1 hq2 LR;refine ⟨_,rfl,e,C,_,_,rfl,xa _ s3,a.xc,a.kn,_,rfl,dz ?_⟩;refine ⟨_,rfl,e,C,_,_,rfl,xa _ s3,a.xc,a.ve, ?_⟩
    have c1:([decide (i=0),decide (i=1),decide (i=2),decide (i=3)]:List Bool).count true=1:=by
     have:i=0\/i=1\/i=2\/i=3:=by omega
     rcases this with rfl|rfl|rfl|rfl<;>rfl
    refine ⟨_,rfl,.inl ⟨rfl,_,bO.of e3⟩,q3,_,true,rfl,rfl,bO.of e3,rfl,_,rfl, ?_⟩;rw [c1];refine cP ?_;refine ⟨_,rfl,_,rfl,cP ?_⟩;refine ⟨_,rfl,(by show 6<=sizeLine;decide),fun t1 ht1=> ?_⟩;have st1:=aF (o:=HO.tup [V.ref dh,V.ref cA,V.ref bV,V.ref bU,V.ref bK,V.ref bT]) ht1;refine ⟨e,t1,C,_,[dh,cA,bV,bU,bK,bT],false,rfl,xa _ (s3.trans st1),a.xc,aq,wG a.n1,_,rfl,cP ?_⟩;dsimp only [rA];refine ⟨_,rfl,(by show 6<=sizeLine;decide),fun t2 ht2=> ?_⟩;have st2:=aF (o:=HO.tup [V.ref bA,V.ref bM,V.ref bL,V.ref bR,V.ref dg,V.ref bJ]) ht2;have s5:=(s3.trans st1).trans st2;have e5:=st2 _ _ (st1 _ _ e3);refine ⟨e,t2,C,_,[bA,bM,bL,bR,dg,bJ],false,rfl,xa _ s5,a.xc,aq,wG a.n2,_,rfl,cP ?_⟩;generalize (upd (upd H3 t1 (HO.tup [V.ref dh,V.ref cA,V.ref bV,V.ref bU,V.ref bK,V.ref bT])) t2 (HO.tup [V.ref bA,V.ref bM,V.ref bL,V.ref bR,V.ref dg,V.ref bJ]))=H5 at s5 e5 ⊢;dsimp only [rA];refine ⟨_,rfl,e,C,d,_,_,rfl,s5 _ _ he,s5 _ _ hd,a.xc,a.dc,a.na,rfl, ?_⟩;refine ⟨_,rfl,_,_,true,rfl,.int _,K1 K,_,rfl,cP ?_⟩;refine ⟨_,rfl,_,_,false,rfl,.int _,Jk K,_,rfl,cP ?_⟩;dsimp only [rA]
    obtain ⟨g1,g2⟩:([decide (i=0),decide (i=1),decide (i=2),decide (i=3)]:List Bool)[i]? = some true /\ ∀m,m<i->([decide (i=0),decide (i=1),decide (i=2),decide (i=3)]:List Bool)[m]? ≠ some true:=by
     have:i=0\/i=1\/i=2\/i=3:=by omega
     rcases this with rfl|rfl|rfl|rfl
     ·exact ⟨rfl,fun m hm=>absurd hm (Nat.not_lt_zero _)⟩
     ·exact ⟨rfl,fun m hm=>by have:m=0:=by omega
                              subst this;decide⟩
     ·exact ⟨rfl,fun m hm=>by have:m=0\/m=1:=by omega
                              rcases this with rfl|rfl<;>decide⟩
     ·exact ⟨rfl,fun m hm=>by have:m=0\/m=1\/m=2:=by omega
                              rcases this with rfl|rfl|rfl<;>decide⟩
    refine ⟨_,rfl,.inl ⟨rfl,_,bO.of e5⟩,q3,_,true,i,rfl,rfl,bO.of e5,g1,g2,_,rfl,(by show 2<=sizeLine;decide),fun t ht=> ?_⟩;exact k t _ aq ((s1.trans s5).trans (aF ht))
theorem Lq {p:Addr->Prop} {a b c d e f:Addr} (ha:p a) (hb:p b) (hc:p c) (hd:p d) (he:p e) (hf:p f):∀D∈[a,b,c,d,e,f],p D:=fun D h=>by
 simp only [List.mem_cons,List.not_mem_nil,or_false] at h;rcases h with rfl|rfl|rfl|rfl|rfl|rfl
 ·exact ha
 ·exact hb
 ·exact hc
 ·exact hd
 ·exact he
 ·exact hf
theorem YG {aD aC aH ao bN bf dh cA bV bU bK bT bA bM bL bR dg bJ:Addr} (cW:Xf K mg aD "NoRow" "row") (cT:Xf K mg aC "NoCell" "row") (iK:Xf K mg aH "Full" "row") (cH:Xf K mg ao "NoTarget" "row") (jC:Xo K mg aD bN "RowError" true) (eN:Xo K mg aD bf "NoteError" true) (vg:Xo K mg aD dh "Held" false) (qj:Xo K mg aD cA "NoCut" false) (lY:Xo K mg aD bV "NoForm" false) (lX:Xo K mg aD bU "NoHand" false) (gO:Xo K mg aD bK "NoneYet" false) (lW:Xo K mg aD bT "NoNote" false) (fB:Xo K mg aD bA "NoNumber" false) (gQ:Xo K mg aD bM "NoOrder" false) (gP:Xo K mg aD bL "NoPlace" false) (lV:Xo K mg aD bR "NoText" false) (vf:Xo K mg aD dg "Over" false) (gM:Xo K mg aD bJ "TooMany" false) (qR:aP K aD aC false) (u9:aP K aD aH false) (nu:aP K aD ao false) (qT:aP K aC aD false) (sI:aP K aC aH false) (lR:aP K aC ao false) (lQ:aP K aC bN true) (jB:aP K aC bf true) (sH:aP K aC dh false) (qU:aP K aC cA false) (pG:aP K aC bV false) (pF:aP K aC bU false) (nD:aP K aC bK false) (pD:aP K aC bT false) (lU:aP K aC bA false) (nG:aP K aC bM false) (nF:aP K aC bL false) (pC:aP K aC bR false) (sG:aP K aC dg false) (nA:aP K aC bJ false) (u_:aP K aH aD false) (sV:aP K aH aC false) (pI:aP K aH ao false) (pH:aP K aH bN true) (nH:aP K aH bf true) (wW:aP K aH dh false) (vd:aP K aH cA false) (sU:aP K aH bV false) (sS:aP K aH bU false) (qX:aP K aH bK false) (sO:aP K aH bT false) (pJ:aP K aH bA false) (qZ:aP K aH bM false) (qY:aP K aH bL false) (sJ:aP K aH bR false) (wV:aP K aH dg false) (qW:aP K aH bJ false) (ni:aP K ao aD false) (lO:aP K ao aC false) (pB:aP K ao aH false) (iM:aP K ao bN true) (gA:aP K ao bf true) (pA:aP K ao dh false) (nj:aP K ao cA false) (lN:aP K ao bV false) (lM:aP K ao bU false) (jy:aP K ao bK false) (lK:aP K ao bT false) (iQ:aP K ao bA false) (jA:aP K ao bM false) (jz:aP K ao bL false) (lJ:aP K ao bR false) (pq:aP K ao dg false) (jx:aP K ao bJ false):∀er:Er,aee K aD aC aH ao bf bN [dh,cA,bV,bU,bK,bT] [bA,bM,bL,bR,dg,bJ] (erC aD aC aH ao er) (R_ er)
 | .qM _=>⟨cW.xc,cW.dc,cW.na,xQ cW.ve,zL,aZ cT.hd qR,aZ iK.hd u9,aZ cH.hd nu,eN.kit,jC.pr.sub,(Lq (vg.kit) (qj.kit) (lY.kit) (lX.kit) (gO.kit) (lW.kit)),(Lq (fB.kit) (gQ.kit) (gP.kit) (lV.kit) (vf.kit) (gM.kit))⟩
 | .wB _=>⟨cT.xc,cT.dc,cT.na,xQ cT.ve,aZ cW.hd qT,zL,aZ iK.hd sI,aZ cH.hd lR,aZ eN.hd jB,lQ.sub,(Lq (aZ vg.hd sH) (aZ qj.hd qU) (aZ lY.hd pG) (aZ lX.hd pF) (aZ gO.hd nD) (aZ lW.hd pD)),(Lq (aZ fB.hd lU) (aZ gQ.hd nG) (aZ gP.hd nF) (aZ lV.hd pC) (aZ vf.hd sG) (aZ gM.hd nA))⟩
 | .full _=>⟨iK.xc,iK.dc,iK.na,xQ iK.ve,aZ cW.hd u_,aZ cT.hd sV,zL,aZ cH.hd pI,aZ eN.hd nH,pH.sub,(Lq (aZ vg.hd wW) (aZ qj.hd vd) (aZ lY.hd sU) (aZ lX.hd sS) (aZ gO.hd qX) (aZ lW.hd sO)),(Lq (aZ fB.hd pJ) (aZ gQ.hd qZ) (aZ gP.hd qY) (aZ lV.hd sJ) (aZ vf.hd wV) (aZ gM.hd qW))⟩
 | .noTarget _=>⟨cH.xc,cH.dc,cH.na,xQ cH.ve,aZ cW.hd ni,aZ cT.hd lO,aZ iK.hd pB,zL,aZ eN.hd gA,iM.sub,(Lq (aZ vg.hd pA) (aZ qj.hd nj) (aZ lY.hd lN) (aZ lX.hd lM) (aZ gO.hd jy) (aZ lW.hd lK)),(Lq (aZ fB.hd iQ) (aZ gQ.hd jA) (aZ gP.hd jz) (aZ lV.hd lJ) (aZ vf.hd pq) (aZ gM.hd jx))⟩
theorem Hr {x:Str} {c:Nat} (h:c∈x.cps.toList):∃a b:Str,x=a++⟨#[c]⟩++b/\c∉a.cps.toList:=by
 obtain ⟨as,bs,e,n⟩:=List.eq_append_cons_of_mem h;refine ⟨⟨as.toArray⟩,⟨bs.toArray⟩,str_of_list ?_,by simpa using n⟩;rw [Str.cps_append,Str.cps_append];simp [e]
theorem Kr (x:Str):(vU x).isSome=(dH x||(fG x).isSome):=by
 unfold vU;cases b:fG x with
 | some c=>simp
 | none=>
   cases n:dH x with
   | false=>rw [Bk n];rfl
   | true=>
     obtain ⟨k,k1,rfl⟩:=tE n;rw [Dg k1];rfl
def cuts (l:List Nat):List Nat:=(List.range l.length).filter fun k=>decide (l[k]? = some 43\/l[k]? = some 45)
theorem xU (c:Nat) (l:List Nat):cuts (c::l)=(if c=43\/c=45 then [0] else [])++(cuts l).map (· + 1):=by
 unfold cuts;rw [List.length_cons,List.range_succ_eq_map,List.filter_cons,List.filter_map]
 by_cases h:c=43\/c=45
 ·simp only [List.getElem?_cons_zero,Option.some.injEq,h,decide_true,if_true,List.singleton_append]
  congr 1
 ·simp only [List.getElem?_cons_zero,Option.some.injEq,h,decide_false,if_false,List.nil_append]
  rfl
theorem Fy {l:List Nat}:cuts l=[]↔43∉l/\45∉l:=by
 induction l with
 | nil=>simp [cuts]
 | cons c l ih=>
   rw [xU]
   by_cases h:c=43\/c=45
   ·rw [if_pos h]
    constructor
    ·intro z;simp at z
    ·rintro ⟨a,b⟩
     rcases h with rfl|rfl
     ·exact absurd List.mem_cons_self a
     ·exact absurd List.mem_cons_self b
   ·rw [if_neg h]
    simp only [List.nil_append,List.map_eq_nil_iff,ih,List.mem_cons,not_or];constructor
    ·rintro ⟨a,b⟩;exact ⟨⟨fun z=>h (.inl z.symm),a⟩,⟨fun z=>h (.inr z.symm),b⟩⟩
    ·rintro ⟨⟨_,a⟩,⟨_,b⟩⟩;exact ⟨a,b⟩
theorem Eo {x:Str} (h:(vU x).isSome=true):cuts x.cps.toList=[]:=by
 rw [Kr,Bool.or_eq_true] at h;refine Fy.mpr ⟨fun z=> ?_,fun z=> ?_⟩
 ·rcases h with h|h
  ·have:=dH.sign h z;omega
  ·obtain ⟨b,hb⟩:=Option.isSome_iff_exists.mp h
   obtain ⟨b8,rfl⟩:=jK hb;have z:43∈[97+b]:=z;have:=List.mem_singleton.mp z;omega
 ·rcases h with h|h
  ·have:=dH.sign h z;omega
  ·obtain ⟨b,hb⟩:=Option.isSome_iff_exists.mp h
   obtain ⟨b8,rfl⟩:=jK hb;have z:45∈[97+b]:=z;have:=List.mem_singleton.mp z;omega
theorem Fz {c:Nat} (h:c=43\/c=45) (b:List Nat):∀a:List Nat,cuts (a++c::b)=cuts a++a.length::(cuts b).map (· + (a.length+1))
 | []=>by
   rw [List.nil_append,xU,if_pos h];simp [cuts]
 | d::a=>by
   rw [List.cons_append,xU,xU,Fz h b a];simp only [List.map_append,List.map_cons,List.map_map,List.append_assoc,List.length_cons];rfl
def Mt (l:List Nat):Str:=⟨l.toArray⟩
theorem sub_self (a:Str):Mt a.cps.toList=a:=(str_list a).symm
theorem Pz (q:Bool) (a s b:Str):(xX q (a,s,b)).isSome=((vU a).isSome&&(vU b).isSome):=by
 unfold xX;cases ea:vU a<;>cases eb:vU b<;>simp only [ea,eb]<;>rfl
def Av (l:List Nat):Bool:=if cuts l=[] then (vU (Mt l)).isSome else decide ((cuts l).length=1)&&((vU (Mt (l.take ((cuts l).headD 0)))).isSome&&(vU (Mt (l.drop ((cuts l).headD 0+1)))).isSome)
theorem J5 {c:Nat} (h:c=43\/c=45) (a b:Str) (n:cuts a.cps.toList=[]):Av (a++⟨#[c]⟩++b).cps.toList=((vU a).isSome&&(vU b).isSome):=by
 have e:(a++⟨#[c]⟩++b).cps.toList=a.cps.toList++c::b.cps.toList:=by
  rw [Str.cps_append,Str.cps_append];simp
 rw [e];unfold Av;rw [Fz h,n];simp only [List.nil_append,List.headD_cons,List.length_cons,List.length_map];rw [if_neg (by simp)];have t1:(a.cps.toList++c::b.cps.toList).take a.cps.toList.length=a.cps.toList:=by simp
 have t2:(a.cps.toList++c::b.cps.toList).drop (a.cps.toList.length+1)=b.cps.toList:=by
  rw [List.drop_append];simp
 rw [t1,t2,sub_self,sub_self]
 by_cases z:cuts b.cps.toList=[]
 ·rw [z];simp
 ·have:(vU b).isSome=false:=by
   cases q:(vU b).isSome with
   | false=>rfl
   | true=>exact absurd (Eo q) z
  rw [this];simp
theorem S9 (x:Str):(cQ x).isSome=Av x.cps.toList:=by
 by_cases h1:43∈x.cps.toList
 ·obtain ⟨a,b,rfl,n⟩:=Hr h1
  unfold cQ;rw [if_pos h1,part_of n,Pz]
  by_cases z:cuts a.cps.toList=[]
  ·exact (J5 (.inl rfl) a b z).symm
  ·have na:(vU a).isSome=false:=by
    cases q:(vU a).isSome with
    | false=>rfl
    | true=>exact absurd (Eo q) z
   have e:(a++⟨#[43]⟩++b).cps.toList=a.cps.toList++43::b.cps.toList:=by
    rw [Str.cps_append,Str.cps_append];simp
   rw [na,e];unfold Av;rw [Fz (.inl rfl)];have l1:0<(cuts a.cps.toList).length:=List.length_pos_iff.mpr z;rw [if_neg (by simp),decide_eq_false (by rw [List.length_append,List.length_cons];omega)];rfl
 ·by_cases h2:45∈x.cps.toList
  ·obtain ⟨a,b,rfl,n⟩:=Hr h2
   have n1:43∉a.cps.toList:=fun z=>h1 (by rw [Str.cps_append,Str.cps_append];simp [z]);unfold cQ;rw [if_neg h1,if_pos h2,part_of n,Pz];exact (J5 (.inr rfl) a b (Fy.mpr ⟨n1,n⟩)).symm
  ·unfold cQ Av
   rw [if_neg h1,if_neg h2,if_pos (Fy.mpr ⟨h1,h2⟩),sub_self];cases vU x<;>rfl
theorem KC (x:Str):(dj x).isSome=dH x:=by
 cases n:dH x with
 | false=>rw [Bk n];rfl
 | true=>
   obtain ⟨k,k1,rfl⟩:=tE n;rw [Dg k1];rfl
def sB:Str:=Str.ofString "B"
def sC:Str:=Str.ofString "C"
def sK:Str:=Str.ofString "K"
def sE:Str:=Str.ofString "E"
def qP (w p:Str):Bool:=if p=sB then (fG w).isSome else if p=sC\/p=sK then dH w else if p=sE then (cQ w).isSome else decide (w=p)
theorem Zz (w:Str):qP w sB=(fG w).isSome:=if_pos rfl
theorem Zy (w:Str):qP w sC=(dj w).isSome:=by rw [KC];rfl
theorem Zx (w:Str):qP w sK=(dj w).isSome:=by rw [KC];rfl
theorem Qf (w:Str):qP w sE=(cQ w).isSome:=rfl
theorem adt {w p:Str} (h:p≠sB/\p≠sC/\p≠sK/\p≠sE):qP w p=decide (w=p):=by
 unfold qP;rw [if_neg h.1,if_neg (by rintro (z|z);exact h.2.1 z;exact h.2.2.1 z),if_neg h.2.2.2]
def rF:Rw->List Str
 | .load _ _=>[Str.ofString "load",sB,sC]
 | .store _ _=>[Str.ofString "store",sC,sE]
 | .swap _ _ _=>[Str.ofString "swap",sB,sC,sE]
 | .uX _ _=>[Str.ofString "let",sB,sE]
 | .say _=>[Str.ofString "say",sE]
 | .go _=>[Str.ofString "go",sK]
 | .xH true _ _ _=>[Str.ofString "unless",sE,Str.ofString "=",sE,Str.ofString "go",sK]
 | .xH false _ _ _=>[Str.ofString "unless",sE,Str.ofString "<",sE,Str.ofString "go",sK]
def Fq:List (List Str):=[[Str.ofString "load",sB,sC],[Str.ofString "store",sC,sE],[Str.ofString "swap",sB,sC,sE],[Str.ofString "let",sB,sE],[Str.ofString "say",sE],[Str.ofString "go",sK],[Str.ofString "unless",sE,Str.ofString "=",sE,Str.ofString "go",sK],[Str.ofString "unless",sE,Str.ofString "<",sE,Str.ofString "go",sK]]
def pN (ws ps:List Str):Bool:=decide (ps.length=ws.length)&&(ws.zip ps).all fun q=>qP q.1 q.2
def nU (ws:List Str):List Str:=(Fq.find? (pN ws)).getD []
def Hq:Option Ln->List Str
 | some (.row r)=>rF r
 | _=>[]
theorem Ys {ws:List Str} (h:∀ps∈Fq,pN ws ps=false):nU ws=[]:=by
 unfold nU;rw [List.find?_eq_none.mpr fun x hx=>by rw [h x hx];simp];rfl
theorem tM (ws ps:List Str) (l:List (List Str)):((ps::l).find? (pN ws)).getD []=if pN ws ps=true then ps else (l.find? (pN ws)).getD []:=by
 rw [List.find?_cons];cases pN ws ps<;>rfl
theorem K7 {ws ps:List Str} (h:ps.length≠ws.length):pN ws ps=false:=by
 unfold pN;rw [decide_eq_false h];rfl
theorem HX {a:String} {w:Str} (h:Str.ofString a≠sB/\Str.ofString a≠sC/\Str.ofString a≠sK/\Str.ofString a≠sE):qP w (Str.ofString a)=decide (w=Str.ofString a):=adt h
theorem aaD (w:Str):qP w (Str.ofString "load")=decide (w=Str.ofString "load"):=HX (by decide)
theorem Yd (w:Str):qP w (Str.ofString "store")=decide (w=Str.ofString "store"):=HX (by decide)
theorem aaC (w:Str):qP w (Str.ofString "swap")=decide (w=Str.ofString "swap"):=HX (by decide)
theorem acF (w:Str):qP w (Str.ofString "let")=decide (w=Str.ofString "let"):=HX (by decide)
theorem acE (w:Str):qP w (Str.ofString "say")=decide (w=Str.ofString "say"):=HX (by decide)
theorem acG (w:Str):qP w (Str.ofString "go")=decide (w=Str.ofString "go"):=HX (by decide)
theorem UG (w:Str):qP w (Str.ofString "unless")=decide (w=Str.ofString "unless"):=HX (by decide)
theorem ahY (w:Str):qP w (Str.ofString "=")=decide (w=Str.ofString "="):=HX (by decide)
theorem ahX (w:Str):qP w (Str.ofString "<")=decide (w=Str.ofString "<"):=HX (by decide)
theorem Vd (w a:Str):nU [w,a]=Hq (bh [w,a]):=by
 unfold nU Fq;simp only [tM,pN,List.length_cons,List.length_nil,List.zip_cons_cons,List.zip_nil_right,List.all_cons,List.all_nil,Bool.and_true,acE,acG,Qf,Zx];simp only [show ¬(0+1+1+1=0+1+1) by decide,show ¬(0+1+1+1+1=0+1+1) by decide,show ¬(0+1+1+1+1+1+1=0+1+1) by decide,decide_false,decide_true,Bool.false_and,Bool.true_and,Bool.false_eq_true,if_false,List.find?_nil,Option.getD_none];simp only [bh]
 by_cases h0:w=Str.ofString "cells"
 ·subst h0
  rw [if_pos rfl,if_neg (by rw [decide_eq_false (by decide)];simp),if_neg (by rw [decide_eq_false (by decide)];simp)];cases dj a<;>rfl
 rw [if_neg h0]
 by_cases h1:w=Str.ofString "say"
 ·subst h1
  rw [if_pos rfl,decide_eq_true rfl,Bool.true_and];cases cQ a with
  | none=>rw [if_neg (by simp),if_neg (by rw [decide_eq_false (by decide)];simp)];rfl
  | some e=>rw [if_pos (by rfl)];rfl
 rw [if_neg h1,decide_eq_false h1,Bool.false_and,if_neg (by simp)]
 by_cases h2:w=Str.ofString "go"
 ·subst h2
  rw [if_pos rfl,decide_eq_true rfl,Bool.true_and];cases dj a<;>rfl
 ·rw [if_neg h2,decide_eq_false h2,Bool.false_and];rfl
theorem Oc (w a b:Str):nU [w,a,b]=Hq (bh [w,a,b]):=by
 unfold nU Fq;simp only [tM,pN,List.length_cons,List.length_nil,List.zip_cons_cons,List.zip_nil_right,List.all_cons,List.all_nil,Bool.and_true,aaD,Yd,acF,Qf,Zy,Zz];simp only [show ¬(0+1+1=0+1+1+1) by decide,show ¬(0+1+1+1+1=0+1+1+1) by decide,show ¬(0+1+1+1+1+1+1=0+1+1+1) by decide,decide_false,decide_true,Bool.false_and,Bool.true_and,Bool.false_eq_true,if_false,List.find?_nil,Option.getD_none];simp only [bh]
 by_cases h0:w=Str.ofString "load"
 ·subst h0
  rw [if_pos rfl,decide_eq_true rfl,Bool.true_and,decide_eq_false (show ¬Str.ofString "load" = Str.ofString "store" by decide),decide_eq_false (show ¬Str.ofString "load" = Str.ofString "let" by decide)];cases fG a<;>cases dj b<;>rfl
 rw [if_neg h0,decide_eq_false h0,Bool.false_and,if_neg (by simp)]
 by_cases h1:w=Str.ofString "store"
 ·subst h1
  rw [if_pos rfl,decide_eq_true rfl,Bool.true_and,decide_eq_false (show ¬Str.ofString "store" = Str.ofString "let" by decide)];cases dj a<;>cases cQ b<;>rfl
 rw [if_neg h1,decide_eq_false h1,Bool.false_and,if_neg (by simp)]
 by_cases h2:w=Str.ofString "let"
 ·subst h2
  rw [if_pos rfl,decide_eq_true rfl,Bool.true_and];cases fG a<;>cases cQ b<;>rfl
 ·rw [if_neg h2,decide_eq_false h2,Bool.false_and];rfl
theorem Rg (w a b c:Str):nU [w,a,b,c]=Hq (bh [w,a,b,c]):=by
 unfold nU Fq;simp only [tM,pN,List.length_cons,List.length_nil,List.zip_cons_cons,List.zip_nil_right,List.all_cons,List.all_nil,Bool.and_true,aaC,Qf,Zy,Zz];simp only [show ¬(0+1+1=0+1+1+1+1) by decide,show ¬(0+1+1+1=0+1+1+1+1) by decide,show ¬(0+1+1+1+1+1+1=0+1+1+1+1) by decide,decide_false,decide_true,Bool.false_and,Bool.true_and,Bool.false_eq_true,if_false,List.find?_nil,Option.getD_none];simp only [bh]
 by_cases h0:w=Str.ofString "swap"
 ·subst h0
  rw [if_pos rfl,decide_eq_true rfl,Bool.true_and];cases fG a<;>cases dj b<;>cases cQ c<;>rfl
 ·rw [if_neg h0,decide_eq_false h0,Bool.false_and];rfl
theorem Ve (w a b c d e:Str):nU [w,a,b,c,d,e]=Hq (bh [w,a,b,c,d,e]):=by
 unfold nU Fq;simp only [tM,pN,List.length_cons,List.length_nil,List.zip_cons_cons,List.zip_nil_right,List.all_cons,List.all_nil,Bool.and_true,UG,ahY,ahX,acG,Qf,Zx];simp only [show ¬(0+1+1=0+1+1+1+1+1+1) by decide,show ¬(0+1+1+1=0+1+1+1+1+1+1) by decide,show ¬(0+1+1+1+1=0+1+1+1+1+1+1) by decide,decide_false,decide_true,Bool.false_and,Bool.true_and,Bool.false_eq_true,if_false,List.find?_nil,Option.getD_none];simp only [bh]
 by_cases h0:w=Str.ofString "unless"
 ·subst h0
  rw [if_pos rfl,decide_eq_true rfl,Bool.true_and,Bool.true_and]
  by_cases hd:d=Str.ofString "go"
  ·simp only [if_pos hd,decide_eq_true hd]
   unfold G8
   by_cases h1:b=Str.ofString "="
   ·rw [if_pos h1,decide_eq_true h1,decide_eq_false (show ¬b=Str.ofString "<" by rw [h1];decide)]
    cases cQ a<;>cases cQ c<;>cases dj e<;>rfl
   ·rw [if_neg h1,decide_eq_false h1]
    by_cases h2:b=Str.ofString "<"
    ·rw [if_pos h2,decide_eq_true h2]
     cases cQ a<;>cases cQ c<;>cases dj e<;>rfl
    ·rw [if_neg h2,decide_eq_false h2]
     cases cQ a<;>cases cQ c<;>cases dj e<;>rfl
  ·simp only [if_neg hd,decide_eq_false hd]
   cases cQ a<;>cases G8 b<;>cases cQ c<;>cases dj e<;>simp [Hq]
 ·rw [if_neg h0,decide_eq_false h0,Bool.false_and,Bool.false_and];rfl
theorem Yp (ws:List Str):nU ws=Hq (bh ws):=by
 have no:(∀ps∈Fq,ps.length≠ws.length)->nU ws=[]:=fun h=>Ys fun ps hp=>K7 (h ps hp)
 match ws with
 | []=>rw [no (by decide)];rfl
 | [w]=>
   rw [no (by
    have:∀ps∈Fq,ps.length≠1:=by decide
    exact this)]
   simp only [bh];split<;>rfl
 | [w,a]=>exact Vd w a
 | [w,a,b]=>exact Oc w a b
 | [w,a,b,c]=>exact Rg w a b c
 | [_,_,_,_,_]=>
   rw [no (by
    have:∀ps∈Fq,ps.length≠5:=by decide
    exact this)]
   rfl
 | [w,a,b,c,d,e]=>exact Ve w a b c d e
 | _::_::_::_::_::_::_::t=>
   rw [no fun ps hp=>(by
    have:∀ps∈Fq,ps.length<=6:=by decide
    have:=this ps hp;show ps.length≠t.length+1+1+1+1+1+1+1;omega)]
   rfl
def cAt:Rw->Nat
 | .load _ _=>2
 | .store _ _=>1
 | .swap _ _ _=>2
 | _=>0
structure RowW (ws:List Str) (r:Rw):Prop where
 len:2<=ws.length
 lw:ws.length<=6
 c:∀k,QF r=some k->ws[cAt r]? = some (Ey (k:Nat))/\k<1000
 g:∀k,M_ r=some k->ws[ws.length - 2]? = some (Str.ofString "go")/\ws[ws.length - 1]? = some (Ey (k:Nat))/\k<1000
 n:M_ r=none -> ∃x,ws[ws.length - 2]? = some x/\x≠Str.ofString "go"
theorem Uo {n:Nat} (h:n<1000):Ey (n:Nat)≠Str.ofString "go" :=fun z=>by
 have a:=Uu h;rw [z] at a;revert a;decide
theorem V9 {b:Nat}:BK b≠Str.ofString "go" :=fun z=>by
 have:(BK b).length=(Str.ofString "go").length:=by rw [z]
 have e:(BK b).length=1:=rfl;rw [e] at this;revert this;decide
theorem cu {α β:Type} {o:Option α} {f:α->Option β} {y:β} (h:o.bind f=some y):∃x,o=some x/\f x=some y:=by
 cases o with
 | none=>cases h
 | some x=>exact ⟨x,rfl,h⟩
theorem cV {α β:Type} {o:Option α} {f:α->β} {y:β} (h:o.map f=some y):∃x,o=some x/\f x=y:=by
 cases o with
 | none=>cases h
 | some x=>exact ⟨x,rfl,by cases h;rfl⟩
theorem G_ {ws:List Str} {r:Rw} (h:bh ws=some (.row r)):RowW ws r:=by
 match ws,h with
 | [],h=>cases h
 | [w0],h=>
   simp only [bh] at h;split at h<;>cases h
 | [w0,a],h=>
   simp only [bh] at h;split at h
   ·obtain ⟨x,_,e⟩:=cV h;cases e
   ·split at h
    ·rename_i _ e0
     obtain ⟨x,ex,e⟩:=cV h;cases e;exact ⟨Nat.le_refl _,(by show 2<=6;decide),fun k e=>(by cases e),fun k e=>(by cases e),fun _=>⟨w0,rfl,by rw [e0];decide⟩⟩
    ·split at h
     ·rename_i _ _ e0
      obtain ⟨x,ex,e⟩:=cV h;cases e;obtain ⟨n1,n2⟩:=jH ex;exact ⟨Nat.le_refl _,(by show 2<=6;decide),fun k e=>(by cases e),fun k e=>(by cases e;exact ⟨by rw [←e0];rfl,by rw [←n2];rfl,n1⟩),fun e=>(by cases e)⟩
     ·cases h
 | [w0,a,b],h=>
   simp only [bh] at h;split at h
   ·obtain ⟨x,ex,h⟩:=cu h
    obtain ⟨n,en,e⟩:=cV h;cases e;obtain ⟨n1,n2⟩:=jH en;obtain ⟨b1,b2⟩:=jK ex;exact ⟨(by show 2<=3;decide),(by show 3<=6;decide),fun k e=>(by cases e;exact ⟨by rw [←n2];rfl,n1⟩),fun k e=>(by cases e),fun _=>⟨a,rfl,by rw [b2];exact V9⟩⟩
   ·split at h
    ·obtain ⟨x,ex,h⟩:=cu h
     obtain ⟨n,en,e⟩:=cV h;cases e;obtain ⟨n1,n2⟩:=jH ex;exact ⟨(by show 2<=3;decide),(by show 3<=6;decide),fun k e=>(by cases e;exact ⟨by rw [←n2];rfl,n1⟩),fun k e=>(by cases e),fun _=>⟨a,rfl,by rw [n2];exact Uo n1⟩⟩
    ·split at h
     ·obtain ⟨x,ex,h⟩:=cu h
      obtain ⟨n,en,e⟩:=cV h;cases e;obtain ⟨b1,b2⟩:=jK ex;exact ⟨(by show 2<=3;decide),(by show 3<=6;decide),fun k e=>(by cases e),fun k e=>(by cases e),fun _=>⟨a,rfl,by rw [b2];exact V9⟩⟩
     ·cases h
 | [w0,a,b,c],h=>
   simp only [bh] at h;split at h
   ·obtain ⟨x,ex,h⟩:=cu h
    obtain ⟨n,en,h⟩:=cu h;obtain ⟨y,ey,e⟩:=cV h;cases e;obtain ⟨n1,n2⟩:=jH en;exact ⟨(by show 2<=4;decide),(by show 4<=6;decide),fun k e=>(by cases e;exact ⟨by rw [←n2];rfl,n1⟩),fun k e=>(by cases e),fun _=>⟨b,rfl,by rw [n2];exact Uo n1⟩⟩
   ·cases h
 | [_,_,_,_,_],h=>simp [bh] at h
 | [w0,a,b,c,d,e'],h=>
   simp only [bh] at h;split at h
   ·obtain ⟨x,ex,h⟩:=cu h
    obtain ⟨q,eq,h⟩:=cu h;obtain ⟨y,ey,h⟩:=cu h;split at h
    ·rename_i e4
     obtain ⟨n,en,e⟩:=cV h;cases e;obtain ⟨n1,n2⟩:=jH en;exact ⟨(by show 2<=6;decide),(by show 6<=6;decide),fun k e=>(by cases e),fun k e=>(by cases e;exact ⟨by rw [←e4];rfl,by rw [←n2];rfl,n1⟩),fun e=>(by cases e)⟩
    ·cases h
   ·cases h
 | _::_::_::_::_::_::_::_,h=>simp [bh] at h
theorem NK {ws:List Str} (h:bh ws=some .hand):ws=[Str.ofString "hand"]:=by
 match ws,h with
 | [],h=>cases h
 | [w0],h=>
   simp only [bh] at h;split at h
   ·rename_i e0;rw [e0]
   ·cases h
 | [w0,a],h=>
   simp only [bh] at h;split at h
   ·obtain ⟨x,_,e⟩:=cV h;cases e
   ·split at h
    ·obtain ⟨x,_,e⟩:=cV h;cases e
    ·split at h
     ·obtain ⟨x,_,e⟩:=cV h;cases e
     ·cases h
 | [w0,a,b],h=>
   simp only [bh] at h;split at h
   ·obtain ⟨x,_,h⟩:=cu h;obtain ⟨n,_,e⟩:=cV h;cases e
   ·split at h
    ·obtain ⟨x,_,h⟩:=cu h;obtain ⟨n,_,e⟩:=cV h;cases e
    ·split at h
     ·obtain ⟨x,_,h⟩:=cu h;obtain ⟨n,_,e⟩:=cV h;cases e
     ·cases h
 | [w0,a,b,c],h=>
   simp only [bh] at h;split at h
   ·obtain ⟨x,_,h⟩:=cu h;obtain ⟨n,_,h⟩:=cu h;obtain ⟨y,_,e⟩:=cV h;cases e
   ·cases h
 | [_,_,_,_,_],h=>simp [bh] at h
 | [w0,a,b,c,d,e'],h=>
   simp only [bh] at h;split at h
   ·obtain ⟨x,_,h⟩:=cu h;obtain ⟨q,_,h⟩:=cu h;obtain ⟨y,_,h⟩:=cu h
    split at h
    ·obtain ⟨n,_,e⟩:=cV h;cases e
    ·cases h
   ·cases h
 | _::_::_::_::_::_::_::_,h=>simp [bh] at h
theorem words_of (x:Str) (c:Nat):Txt.join ⟨#[c]⟩ (Txt.split x ⟨#[c]⟩)=x:=by
 rw [show Txt.join ⟨#[c]⟩ (Txt.split x ⟨#[c]⟩)=Str.join ⟨#[c]⟩ (Txt.split x ⟨#[c]⟩) from StrLaws.glued_eq_join _ _];exact StrLaws.join_split x ⟨#[c]⟩
theorem NP:bh (Txt.split (Str.ofString "hand") (Str.ofString " "))=some .hand:=by
 have e:Txt.split (Str.ofString "hand") ⟨#[32]⟩=[Str.ofString "hand"]:=Kc 32 (l:=[Str.ofString "hand"]) (by simp) fun p hp=>by
  rw [List.mem_singleton.mp hp];decide
 show bh (Txt.split (Str.ofString "hand") ⟨#[32]⟩)=_;rw [e];simp only [bh,if_true]
theorem tK {y:Str}:bh (Txt.split y (Str.ofString " "))=some .hand↔y=Str.ofString "hand" :=by
 constructor
 ·intro h
  have e:Txt.split y ⟨#[32]⟩=[Str.ofString "hand"]:=NK h;have b:=words_of y 32;rw [e] at b;rw [←b];decide
 ·rintro rfl
  exact NP
def Bs (l:Option Ln) (many:Nat) (ls:List Nat):Int:=match l with
 | some .hand=>if ls.length=8 then 2 else -1
 | some (.row r)=>if ls=[] then 0 else if (match QF r with |some k=>decide (many<=k)|none=>false)=true then 1 else if ls.getLastD 0=60 then 2 else -1
 | _=>0
def fcode:Except Er (Nat×List (List Rw))->Int
 | .error e=>R_ e
 | .ok _=> -1
theorem KJ:∀hs:List (List Rw),(hs.map List.length).getLastD 0=(hs.getLastD []).length
 | []=>rfl
 | [x]=>rfl
 | x::y::l=>by
   have:=KJ (y::l);simpa using this
theorem VG {n c:Nat} {hs:List (List Rw)} {l:Option Ln} (n2:n≠1):fcode (jD n c hs l)=Bs l c (hs.map List.length):=by
 unfold jD;cases l with
 | none=>rfl
 | some ln=>
   cases ln with
   | cells m=>
     have e:u5 (some (Ln.cells m)) n hs.length=true:=by
      show ((true != decide (n=1))||(false&&decide (hs.length=0)))=true;rw [decide_eq_false n2];rfl
     rw [if_pos e];rfl
   | hand=>
     have e:u5 (some Ln.hand) n hs.length=false:=by
      show ((false != decide (n=1))||(false&&decide (hs.length=0)))=false;rw [decide_eq_false n2];rfl
     rw [e];show fcode (if decide (hs.length=8)=true then _ else _)=if (hs.map List.length).length=8 then 2 else -1;rw [List.length_map]
     by_cases h:hs.length=8
     ·rw [if_pos h,if_pos (decide_eq_true h)];rfl
     ·rw [if_neg h,if_neg (by rw [decide_eq_false h];simp)];rfl
   | row r=>
     have e:u5 (some (Ln.row r)) n hs.length=decide (hs.length=0):=by
      show ((false != decide (n=1))||(true&&decide (hs.length=0)))=_;rw [decide_eq_false n2];rfl
     rw [e];unfold Bs
     by_cases h0:hs=[]
     ·subst h0
      rfl
     have h1:hs.length≠0:=fun z=>h0 (List.eq_nil_of_length_eq_zero z);rw [if_neg (by rw [decide_eq_false h1];simp)];dsimp only;rw [if_neg (show ¬hs.map List.length=[] by simpa using h0)];have ec:u6 (Ln.row r) c=(match QF r with |some k=>decide (c<=k)|none=>false):=rfl;rw [ec];cases (match QF r with |some k=>decide (c<=k)|none=>false) with
     | true=>rfl
     | false=>
       rw [if_neg (show ¬false=true by simp),if_neg (show ¬false=true by simp)];show fcode (if decide ((hs.getLastD []).length=60)=true then _ else _)=_;rw [KJ]
       by_cases h:(hs.getLastD []).length=60
       ·rw [if_pos h,if_pos (decide_eq_true h)];rfl
       ·rw [if_neg h,if_neg (by rw [decide_eq_false h];simp)];rfl
theorem VD {e:Except Er (Nat×List (List Rw))} (h:fcode e<0):∃p,e = .ok p:=by
 cases e with
 | ok p=>exact ⟨p,rfl⟩
 | error x=>exact absurd h (by show ¬(R_ x:Int)<0;omega)
theorem VF {e:Except Er (Nat×List (List Rw))} (h:0<=fcode e):∃x,e = .error x/\fcode e=R_ x:=by
 cases e with
 | ok p=>exact absurd h (by show ¬(0:Int) <= -1;omega)
 | error x=>exact ⟨x,rfl,rfl⟩
theorem W6 {n c:Nat} {hs:List (List Rw)} {l:Option Ln} {e:Er} (h:jD n c hs l = .error e):erN e=n:=by
 unfold jD at h;split at h
 ·cases h;rfl
 ·split at h
  ·cases h;rfl
  ·split at h
   ·cases h;rfl
   ·split at h
    ·cases h;rfl
    ·cases h
theorem Oz (hs:List (List Rw)) (x:List Rw) (r:Rw):nJ (hs++[x]) r=hs++[x++[r]]:=by
 unfold nJ;simp
def uU (hs:List (List Rw)):List Ln:=(hs.map fun rs=>Ln.hand::rs.map Ln.row).flatten
theorem Bl (hs:List (List Rw)) (x:List Rw):uU (hs++[x])=uU hs++(Ln.hand::x.map Ln.row):=by
 unfold uU;rw [List.map_append,List.flatten_append];simp
theorem W3 {n c c':Nat} {hs hs':List (List Rw)} {l:Option Ln} (n2:n≠1) (h:jD n c hs l = .ok (c',hs')):c'=c/\((l=some .hand/\hs'=hs++[[]]/\hs.length<8\/l=some .hand/\hs'=hs++[[]]/\8<hs.length) \/ ∃(i:List (List Rw)) (x:List Rw) (r:Rw),l=some (.row r)/\hs=i++[x]/\hs'=i++[x++[r]]/\x.length≠60):=by
 unfold jD at h;cases l with
 | none=>
   split at h
   ·cases h
   ·cases h
 | some ln=>
   split at h
   ·cases h
   ·rename_i ef
    dsimp only at h;split at h
    ·cases h
    ·split at h
     ·cases h
     ·rename_i efu
      cases ln with
      | cells m=>
        refine absurd ?_ ef;show ((true != decide (n=1))||(false&&decide (hs.length=0)))=true;rw [decide_eq_false n2];rfl
      | hand=>
        cases h;have:hs.length≠8:=fun z=>efu (decide_eq_true z);rcases Nat.lt_or_gt_of_ne this with z|z
        ·exact ⟨rfl,.inl (.inl ⟨rfl,rfl,z⟩)⟩
        ·exact ⟨rfl,.inl (.inr ⟨rfl,rfl,z⟩)⟩
      | row r=>
        cases h;refine ⟨rfl,.inr ?_⟩
        have nh:hs≠[]:=fun z=>by
         subst z;refine ef ?_;show ((false != decide (n=1))||(true&&decide (0=0)))=true;simp
        obtain ⟨i,l,rfl⟩:∃i l,hs=i++[l]:=⟨hs.dropLast,hs.getLast nh,(List.dropLast_concat_getLast nh).symm⟩;exact ⟨i,l,r,rfl,rfl,Oz i l r,fun z=>efu (decide_eq_true (by simpa using z))⟩
def zu (K:PySem.W.Frag):Sp:=fun vs H Q _=>∃x:Str,vs=[.str x]/\x.length<=1000000 /\ ∀H',Same H H'->Q (.bl (dH x)) H'
theorem Uh {f:Addr} {fd:FuncData} (F:rm K "_law_is_number" "_law_is_number" dR f fd) (Bt:Cm mg):dM P w K mg base tV 1 f fd ["word"] (zu K):=by
 refine F.ok Gn (fun vs H Q E h=> ?_) (fun cdv A outer s H vs Q E hr h=> ?_)
 ·obtain ⟨x,rfl,_⟩:=h
  rfl
 ·obtain ⟨x,rfl,xl,k⟩:=h
  refine ⟨_,(aA (bI (PW.pt (vh (aK PK (aY fH (by rfl) Bt.eG cY (aj (pv 0) ak)) au (aO _)) (vh (aK zJ (aY fH (by rfl) Bt.eG cY (aj (pv 0) ak)) au (aO _)) (uQ (PW.pt (v7 (aK zJ (aY fH (by rfl) Bt.eG cY (aj (pv 0) ak)) au (aO _)) (rC (aK cB (aV wH (pv 0) au (fun _ _=>rfl)) aM (aO _))))))))) (aG (aN Ks)) aR)
   (aG (aN (aY (o9 (K:=K) rfl rfl) (by rfl) Bt.Wi Oo (aj (uR rfl (N:=["sign"]) (own:=["sign"]) (caps:=[]) (bZ.of (by kernel_rfl)) (T8 (pv 0)) (fun _ _ _ _=>(cM (i:=0) (show List.Nodup (["sign"]:List Str) by decide +kernel) rfl (Or.inl rfl))) (fun _ _ _ _=>rD) (fun _ _ _ _=>(dU jG (pv 0) aM (by with_unfolding_all rfl)))) ak))))), ?_⟩
  have no:dH x=false -> ∀H',Same H H'->Q (.bl false) H':=fun e H' s=>by have:=k H' s;rwa [e] at this
  have sz:x.cps.size=x.length:=rfl;have hz:x.length<=sizeLine:=by rw [sizeLine_eq];omega
  refine ⟨_,rfl,x,rfl,hz,_,_,rfl,rfl,_,rfl,cD (fun h1=>dz ?_) (fun h1=> ?_)⟩
  ·have h1:=of_decide_eq_true h1
   exact no (by unfold dH;rw [decide_eq_false (show ¬1<=x.length by omega)];rfl) H (Same.refl _)
  have h1:1<=x.length:=Nat.le_of_not_lt fun z=>h1 (decide_eq_true (by omega));refine ⟨_,rfl,x,rfl,hz,_,_,rfl,rfl,_,rfl,cD (fun h3=>dz ?_) (fun h3=> ?_)⟩
  ·have h3:=of_decide_eq_true h3
   exact no (by unfold dH;rw [decide_eq_false (show ¬x.length<=3 by omega),Bool.and_false];rfl) H (Same.refl _)
  have h3:x.length<=3:=Nat.le_of_not_lt fun z=>h3 (decide_eq_true (by omega));obtain ⟨c,ec⟩:∃c,x.cps.toList[0]? = some c:=⟨_,List.getElem?_eq_getElem (by rw [len_list];omega)⟩;have e0:x.cps[0]? = some c:=by rw [←Array.getElem?_toList];exact ec
  have last:(decide (x.length<=1) || !decide (x.cps[0]? = some 48))=true -> ∃y:Str,V.str x=V.str y /\ ∀D,H D=none->tU (Its y) (qO 0) Qy (tOp (fun x y H Q=>∃i j,x = .str i/\y = .str j/\Q (.bl (!(Builtin.Str.occurrences j i 0 j.length 1).isEmpty)) H) (Ti 0) (tC (.str (Str.ofString "0123456789")))) (fun v H'=>∃(p:Addr) (bs:List Bool),[v]=[.ref p]/\bO K H' p (bs.map V.bl)/\Q (.bl (bs.all id)) H') D [none] H:=fun q=>by
   refine ⟨x,rfl,fun D hD=> ?_⟩;refine Ht (fun i=>(x.cps.toList[i]?).map fun c=>V.bl (decide (48<=c)&&decide (c<=57))) hD (by omega) (fun m c H1 G F hc s1 kG kF=> ?_) (fun H1 s1 e1=> ?_)
   ·refine ⟨_,rfl,_,_,rfl,rfl, ?_⟩
    rw [VB];have hc':x.cps.toList[m]? = some c:=by rw [Array.getElem?_toList];exact hc
    exact kF _ H1 (Same.refl _) (by rw [hc'];rfl)
   rw [show x.cps.size=x.cps.toList.length by simp,zP] at e1;refine ⟨D,x.cps.toList.map fun c=>decide (48<=c)&&decide (c<=57),rfl,bO.of (by rw [e1,List.map_map];rfl), ?_⟩;have ea:(x.cps.toList.map fun c=>decide (48<=c)&&decide (c<=57)).all id=x.cps.toList.all (fun c=>decide (48<=c)&&decide (c<=57)):=by rw [List.all_map];rfl
   rw [ea];have:=k H1 s1;unfold dH at this;rw [decide_eq_true h1,decide_eq_true h3,q] at this;simpa using this
  refine ⟨_,rfl,x,rfl,hz,_,_,rfl,rfl,_,rfl,cD (fun h2=> ?_) (fun h2=> ?_)⟩
  ·have h2:=of_decide_eq_true h2
   refine ⟨_,rfl,x,0,c,rfl,rfl,hz,bW (j:=0) ec,rfl,_,rfl,cD (fun z=> ?_) (fun z=> ?_)⟩
   ·have z:=of_decide_eq_true z
    have hz:c=48:=by injection z with z;have:[c]=[48]:=congrArg (fun x:Str=>x.cps.toList) z;simpa using this
    exact no (by unfold dH;rw [decide_eq_false (show ¬x.length<=1 by omega),e0,hz];simp) H (Same.refl _)
   ·have hz:¬c=48:=fun w=>z (decide_eq_true (by rw [w];rfl))
    exact ⟨_,rfl,last (by rw [e0,decide_eq_false (fun z=>hz (Option.some.inj z))];simp)⟩
  ·have h2:x.length<=1:=Nat.le_of_not_lt fun z=>h2 (decide_eq_true (by omega))
   exact cP ⟨_,rfl,last (by rw [decide_eq_true h2];rfl)⟩
def Ba (K:PySem.W.Frag):Sp:=fun vs H Q _=>∃x:Str,vs=[.str x]/\x.length<=1000000 /\ ∀H',Same H H'->Q (.bl (vU x).isSome) H'
theorem Nk {f:Addr} {fd:FuncData} (F:rm K "_law_is_plain" "_law_is_plain" d9 f fd) (mj:FnAt P w K mg base 1 "_law_is_number" ["word"] (zu K)) (Bt:Cm mg):dM P w K mg base tV 2 f fd ["word"] (Ba K):=by
 refine F.ok Ip (fun vs H Q E h=> ?_) (fun cdv A outer s H vs Q E hr h=> ?_)
 ·obtain ⟨x,rfl,_⟩:=h
  rfl
 ·obtain ⟨x,rfl,xl,k⟩:=h
  refine ⟨_,(aG (aN (acp (bG mj (hr.mono (by decide)) (by rfl) (aj (pv 0) ak)) (Bg (Bh (dU cB (aY fH (by rfl) Bt.eG cY (aj (pv 0) ak)) au (aO _)) (Bg (dU jG (pv 0) aM (by with_unfolding_all rfl)))))))), ?_⟩;have hz:x.length<=sizeLine:=by rw [sizeLine_eq];omega
  rw [Kr] at k;refine ⟨_,rfl,x,rfl,xl,fun H1 s1=>⟨_,rfl,cD (fun h1=> ?_) (fun h1=> ?_)⟩⟩
  ·rw [h1] at k
   exact k H1 s1
  ·have h1:dH x=false:=by simpa using h1
   rw [h1,Bool.false_or,JD] at k;refine ⟨_,rfl,x,rfl,hz,rfl,_,rfl, ?_⟩
   by_cases h1:x.length=1
   ·rw [decide_eq_true h1] at k
    refine cD (fun _=> ?_) (fun z=>absurd (decide_eq_true (by rw [h1];rfl)) z);exact ⟨_,rfl,_,_,rfl,rfl,k H1 s1⟩
   ·rw [decide_eq_false h1] at k
    exact cD (fun z=>absurd (of_decide_eq_true z) (fun w=>h1 (by injection w with w;omega))) (fun _=>k H1 s1)
theorem acj (c:Nat):(!(Builtin.Str.occurrences (Str.ofString "+-") ⟨#[c]⟩ 0 (Str.ofString "+-").length 1).isEmpty)=decide (c=43\/c=45):=by
 rw [StrLaws.found_one];have il:(Str.ofString "+-").cps.toList=[43,45]:=by decide
 rw [il];congr 1;simp
def A_ (K:PySem.W.Frag):Sp:=fun vs H Q _=>∃x:Str,vs=[.str x]/\x.length<=90000 /\ ∀H',Same H H'->Q (.bl (cQ x).isSome) H'
theorem Nj {f:Addr} {fd:FuncData} (F:rm K "_law_is_worth" "_law_is_worth" d8 f fd) (xg:FnAt P w K mg base 2 "_law_is_plain" ["word"] (Ba K)) (Bt:Cm mg):dM P w K mg base tV 3 f fd ["word"] (A_ K):=by
 refine F.ok zB (fun vs H Q E h=> ?_) (fun cdv A outer s H vs Q E hr h=> ?_)
 ·obtain ⟨x,rfl,_⟩:=h
  rfl
 ·obtain ⟨x,rfl,xl,k⟩:=h
  have Bq:=hr.units
  refine ⟨_,(aA (Iv (i:=1) rfl zB.nd rfl (Or.inl rfl) (N:=["k","word"]) (own:=["k"]) (caps:=[0]) (bZ.of (by kernel_rfl)) (qp (by rfl) Bt.rH (aj (aY fH (by rfl) Bt.eG cY (aj (pv 0) ak)) ak)) (fun _ _ _ _=>(cM (i:=0) (show List.Nodup (["k","word"]:List Str) by decide +kernel) rfl (Or.inl rfl))) (fun _ _ _ _=>(Pr (aK jG (aV wH (pv 1) (pv 0) (fun _ _=>rfl)) aM (by with_unfolding_all rfl)))) (fun _ _ _ _=>(pv 0)))
   (aA (bI (aK (C_ (K:=K) rfl Bq) (pv 1) (cO ak) (aO _)) (aG (aN (bG xg (hr.mono (by decide)) (by rfl) (aj (pv 0) ak)))) aR)
   (aG (aN (Bh (dU cB (aY (bD (K:=K) rfl) (by rfl) Bt.eG cY (aj (pv 1) ak)) au (aO _)) (Bh (bG xg (hr.mono (by decide)) (by rfl) (aj (d_ Il (pv 0) fQ (fP (aV (aU (K:=K) rfl) (pv 1) au (fun _ _=>rfl)))) ak)) (Bg (bG xg (hr.mono (by decide)) (by rfl) (aj (d_ Il (pv 0) (fP (bB dJ (aV (aU (K:=K) rfl) (pv 1) au (fun _ _=>rfl)) au)) fQ) ak))))))))), ?_⟩
  have hz:x.length<=sizeLine:=by rw [sizeLine_eq];omega
  have ll:=len_list x;have sz:x.cps.size=x.length:=rfl;rw [S9] at k;refine ⟨_,rfl,x,rfl,hz,(x.length:Nat),rfl,by omega,by omega,fun D hD=> ?_⟩;refine Rn (fun i=>if decide (x.cps.toList[i]? = some 43\/x.cps.toList[i]? = some 45)=true then some (V.int (i:Nat)) else none) hD (by omega) (fun i H1 G F hi s1 kG kF=> ?_) (fun H1 s1 e1=> ?_)
  ·obtain ⟨c,ec⟩:∃c,x.cps.toList[i]? = some c:=⟨_,List.getElem?_eq_getElem (by omega)⟩
   rw [Int.zero_add];refine ⟨_,rfl,_,rfl,x,(i:Nat),c,rfl,rfl,hz,bW ec,_,_,rfl,rfl,_,rfl, ?_⟩;rw [acj]
   by_cases w:c=43\/c=45
   ·rw [decide_eq_true w]
    refine dz ?_;exact ⟨_,rfl,kF _ H1 (Same.refl _) (by rw [ec,if_pos (decide_eq_true (by simpa using w))])⟩
   ·rw [decide_eq_false w]
    refine cP ?_;exact kG H1 (Same.refl _) (by rw [ec,if_neg (by rw [decide_eq_false (by simpa using w)];simp)])
  have ec:(List.range x.length).filterMap (fun i=>if decide (x.cps.toList[i]? = some 43\/x.cps.toList[i]? = some 45)=true then some (V.int (i:Nat)) else none)=((cuts x.cps.toList).map fun n:Nat=>(n:Int)).map V.int:=by
   unfold cuts;rw [ll];generalize List.range x.length=l
   induction l with
   | nil=>rfl
   | cons a l ih=>
     rw [List.filterMap_cons,List.filter_cons]
     by_cases w:decide (x.cps.toList[a]? = some 43\/x.cps.toList[a]? = some 45)=true
     ·rw [if_pos w,if_pos w,List.map_cons,List.map_cons,ih]
     ·rw [if_neg w,if_neg w,ih]
  have e1:H1 D=some (.lst (((cuts x.cps.toList).map fun n:Nat=>(n:Int)).map V.int)):=by rw [←ec];exact e1
  have cb:∀n∈cuts x.cps.toList,n<x.length:=fun n hn=>by
   unfold cuts at hn;have:=List.mem_range.mp (List.mem_filter.mp hn).1;omega
  unfold Av at k;generalize cuts x.cps.toList=cs at e1 k cb;refine ⟨_,rfl,(by show 0<=sizeLine;decide),fun q hq=> ?_⟩;have sq:=aF (o:=HO.lst []) hq;have e2:=sq _ _ e1;refine ⟨_,_,nY e2,nY (ns:=[]) aq,shaped_ints _,shaped_ints _,_,rfl, ?_⟩;rw [if_neg Bool.false_ne_true,zQ PyData.int Di];have s2:=s1.trans sq;generalize upd H1 q (HO.lst [])=H2 at e2 s2 ⊢;refine cD (fun w=> ?_) (fun w=> ?_)
  ·have w:=of_decide_eq_true w
   have cz:cs=[]:=by cases cs with |nil=>rfl|cons a l=>simp at w
   subst cz;rw [if_pos rfl,sub_self] at k;exact ⟨_,rfl,x,rfl,by omega,fun H3 s3=>k H3 (s2.trans s3)⟩
  ·have cn:cs≠[]:=fun z=>by subst z;exact w rfl
   obtain ⟨a,l,rfl⟩:∃a l,cs=a::l:=by
    cases cs with
    | nil=>exact absurd rfl cn
    | cons a l=>exact ⟨a,l,rfl⟩
   have al:=cb a (by simp);rw [if_neg cn,List.headD_cons] at k;refine ⟨_,rfl,D,_,rfl,.inl (bO.of e2),rfl,_,rfl, ?_⟩;rw [List.length_map,List.length_map]
   by_cases w1:(a::l).length=1
   ·rw [decide_eq_true (show V.int ((a::l).length:Nat)=V.int 1 by rw [w1];rfl)]
    rw [decide_eq_true w1,Bool.true_and] at k;refine dz ?_;have at0:vq (((a::l).map fun n:Nat=>(n:Int)).map V.int) 0=some (V.int (a:Nat)):=bW (j:=0) rfl;refine ⟨_,rfl,_,rfl,_,_,_,_,rfl,rfl,bO.of e2,at0,_,rfl,x,rfl,hz, ?_⟩;rw [Tv (by omega)];refine ⟨_,rfl,by show (List.toArray _).size<=_;simp;omega,fun H3 s3=>⟨_,rfl, ?_⟩⟩;have e3:=s3 _ _ e2;refine cD (fun p=> ?_) (fun p=> ?_)
    ·rw [show (vU (Mt (List.take a x.cps.toList))).isSome=true from p,Bool.true_and] at k
     refine ⟨_,rfl,_,rfl,_,_,_,_,rfl,rfl,bO.of e3,at0,_,_,rfl,rfl,_,rfl,x,rfl,hz, ?_⟩;rw [show ((a:Nat):Int)+1=((a+1:Nat):Int) by omega,M6 (by omega)];exact ⟨_,rfl,by show (List.toArray _).size<=_;simp;omega,fun H4 s4=>k H4 ((s2.trans s3).trans s4)⟩
    ·have p:(vU (Mt (List.take a x.cps.toList))).isSome=false:=by
      cases z:(vU (Mt (List.take a x.cps.toList))).isSome with
      | false=>rfl
      | true=>exact absurd z p
     rw [p] at k;exact k H3 (s2.trans s3)
   ·rw [decide_eq_false (show ¬V.int ((a::l).length:Nat)=V.int 1 from fun z=>w1 (by injection z with z;omega))]
    rw [decide_eq_false w1] at k;exact cP (k H2 s2)
def MN (K:PySem.W.Frag):Sp:=fun vs H Q _=>∃x p:Str,vs=[.str x,.str p]/\x.length<=90000 /\ ∀H',Same H H'->Q (.bl (qP x p)) H'
theorem X7 {f:Addr} {fd:FuncData} (F:rm K "_law_fits" "_law_fits" p7 f fd) (mj:FnAt P w K mg base 1 "_law_is_number" ["word"] (zu K)) (Ly:FnAt P w K mg base 3 "_law_is_worth" ["word"] (A_ K)) (Bt:Cm mg):dM P w K mg base tV 4 f fd ["word","part"] (MN K):=by
 refine F.ok TJ (fun vs H Q E h=> ?_) (fun cdv A outer s H vs Q E hr h=> ?_)
 ·obtain ⟨x,p,rfl,_⟩:=h
  rfl
 ·obtain ⟨x,p,rfl,xl,k⟩:=h
  refine ⟨_,(aA (bI (aK cB (pv 1) aM (aO _)) (aG (aN (Bh (dU cB (aY fH (by rfl) Bt.eG cY (aj (pv 0) ak)) au (aO _)) (Bg (dU jG (pv 0) aM (by with_unfolding_all rfl)))))) aR)
   (aA (bI (PW.pt (vh (aK cB (pv 1) aM (aO _)) (uQ (aK cB (pv 1) aM (aO _))))) (aG (aN (bG mj (hr.mono (by decide)) (by rfl) (aj (pv 0) ak)))) aR)
   (aA (bI (aK cB (pv 1) aM (aO _)) (aG (aN (bG Ly (hr.mono (by decide)) (by rfl) (aj (pv 0) ak)))) aR)
   (aG (aN (dU cB (pv 0) (pv 1) (aO _))))))), ?_⟩
  have hz:x.length<=sizeLine:=by rw [sizeLine_eq];omega
  have inj:∀{a b:Str},V.str a=V.str b->a=b:=fun z=>by injection z
  unfold qP at k;refine ⟨_,rfl,rfl,_,rfl,cD (fun w=> ?_) (fun w=> ?_)⟩
  ·have w:p=sB:=inj (of_decide_eq_true w)
   rw [if_pos w,JD] at k;refine ⟨_,rfl,x,rfl,hz,rfl,_,rfl, ?_⟩
   by_cases h1:x.length=1
   ·rw [decide_eq_true h1] at k
    refine cD (fun _=> ?_) (fun z=>absurd (decide_eq_true (by rw [h1];rfl)) z);exact ⟨_,rfl,_,_,rfl,rfl,k H (Same.refl _)⟩
   ·rw [decide_eq_false h1] at k
    exact cD (fun z=>absurd (of_decide_eq_true z) (fun w=>h1 (by injection w with w;omega))) (fun _=>k H (Same.refl _))
  ·have w:¬p=sB:=fun z=>w (decide_eq_true (by rw [z];rfl))
   rw [if_neg w] at k;refine ⟨_,rfl,rfl,_,rfl,cD (fun w1=>dz ?_) (fun w1=> ?_)⟩
   ·have w1:p=sC:=inj (of_decide_eq_true w1)
    rw [if_pos (.inl w1)] at k;exact ⟨_,rfl,x,rfl,by omega,k⟩
   have w1:¬p=sC:=fun z=>w1 (decide_eq_true (by rw [z];rfl));refine ⟨_,rfl,rfl,_,rfl,cD (fun w2=> ?_) (fun w2=> ?_)⟩
   ·have w2:p=sK:=inj (of_decide_eq_true w2)
    rw [if_pos (.inr w2)] at k;exact ⟨_,rfl,x,rfl,by omega,k⟩
   have w2:¬p=sK:=fun z=>w2 (decide_eq_true (by rw [z];rfl));rw [if_neg (by rintro (z|z);exact w1 z;exact w2 z)] at k;refine ⟨_,rfl,rfl,_,rfl,cD (fun w3=> ?_) (fun w3=> ?_)⟩
   ·have w3:p=sE:=inj (of_decide_eq_true w3)
    rw [if_pos w3] at k;exact ⟨_,rfl,x,rfl,xl,k⟩
   have w3:¬p=sE:=fun z=>w3 (decide_eq_true (by rw [z];rfl));rw [if_neg w3] at k;refine ⟨_,rfl,_,rfl,rfl, ?_⟩
   have:decide (V.str x=V.str p)=decide (x=p):=by
    by_cases z:x=p
    ·rw [decide_eq_true z,decide_eq_true (by rw [z])]
    ·rw [decide_eq_false z,decide_eq_false fun y=>z (inj y)]
   rw [this];exact k H (Same.refl _)
def WK:List Str:=[Str.ofString "load B C",Str.ofString "store C E",Str.ofString "swap B C E",Str.ofString "let B E",Str.ofString "say E",Str.ofString "go K",Str.ofString "unless E = E go K",Str.ofString "unless E < E go K"]
theorem Vy:∀p∈Fq,∀x∈p,32∉x.cps.toList:=by decide +kernel
theorem Yr:WK=Fq.map fun p=>Txt.join ⟨#[32]⟩ p:=by decide +kernel
theorem adq {i:Nat} {x:Str} (h:WK[i]? = some x):∃p,Fq[i]? = some p/\Txt.split x (Str.ofString " ")=p/\x.length<=20/\p.length<=6:=by
 have l20:∀x∈WK,x.length<=20:=by decide +kernel
 have l6:∀p∈Fq,p.length<=6:=by decide
 have nn:∀p∈Fq,p≠[]:=by decide
 have lx:=l20 x (List.mem_of_getElem? h);rw [Yr,List.getElem?_map] at h;cases e:Fq[i]? with
 | none=>rw [e] at h;cases h
 | some p=>
   rw [e] at h;cases h;have m:=List.mem_of_getElem? e;exact ⟨p,rfl,Kc 32 (nn p m) (Vy p m),lx,l6 p m⟩
def MK (K:PySem.W.Frag):Sp:=fun vs H Q _=>∃(a:Addr) (ws:List Str),vs=[.ref a]/\H a=some (.lst (ws.map V.str))/\(∀x∈ws,x.length<=90000) /\ ∀(q:Addr) (H':Hp),H' q=some (.lst ((nU ws).map V.str))->Same H H'->Q (.ref q) H'
theorem range_all {α:Type} (f:α->Bool):∀(l:List α),((List.range l.length).filterMap fun i=>(l[i]?).map fun q=>V.bl (f q))=(l.map f).map V.bl:=fun l=>by
 rw [zP l fun q=>V.bl (f q),List.map_map];rfl
theorem X6 {f:Addr} {fd:FuncData} (F:rm K "_law_form" "_law_form" pZ f fd) (YW:FnAt P w K mg base 4 "_law_fits" ["word","part"] (MN K)) (Bt:Cm mg):dM P w K mg base tV 5 f fd ["words"] (MK K):=by
 refine F.ok zE (fun vs H Q E h=> ?_) (fun cdv A outer s H vs Q E hr h=> ?_)
 ·obtain ⟨a,ws,rfl,_⟩:=h
  rfl
 ·obtain ⟨a,ws,rfl,ha,wl,k⟩:=h
  have Bq:=hr.units
  refine ⟨_,(aA (aX (i:=1) zE.nd rfl (Or.inl rfl) (cO (aj aM (aj aM (aj aM (aj aM (aj aM (aj aM ak))))))))
   (aA (oZ PassesOwn.never rfl (nP (K:=K) rfl (bB o7 (pv 1) (cO (aj aM (aj aM ak))))) (cM (i:=2) zE.nd rfl (Or.inl rfl))
   (aA (aX (i:=3) zE.nd rfl (Or.inl rfl) (eX (K:=K) rfl PySem.F.plainAttrs_str PySem.F.slot_str_split PySem.F.type_str_split lG (pv 2) (aj aM ak)))
   (aG (bI (aK cB (aY (bD (K:=K) rfl) (by rfl) Bt.eG cY (aj (pv 3) ak)) (aY (bD (K:=K) rfl) (by rfl) Bt.eG cY (aj (pv 0) ak)) (aO _)) (aG (bI (oY (aY (o9 (K:=K) rfl rfl) (by rfl) Bt.Wi Oo (aj (uR rfl (N:=["word","part"]) (own:=["word","part"]) (caps:=[]) (bZ.of (by kernel_rfl)) (Xr (K:=K) rfl (by rfl) Bt.ZG (aj (pv 0) (aj (pv 3) ak))) (fun _ _ _ _=>(IV (K:=K) (n:=2) rfl rfl (tD (cM (i:=0) (show List.Nodup (["word","part"]:List Str) by decide +kernel) rfl (Or.inl rfl)) (tD (cM (i:=1) (show List.Nodup (["word","part"]:List Str) by decide +kernel) rfl (Or.inl rfl)) IK)))) (fun _ _ _ _=>rD) (fun _ _ _ _=>(bG YW (hr.mono (by decide)) (by rfl) (aj (pv 0) (aj (pv 1) ak))))) ak))) (aG (aN (pv 3))) aR)) aR))))
   (aG (aN (cO ak))))), ?_⟩
  refine ⟨(by show 6<=sizeLine;decide),fun p1 hp1=> ?_⟩;have s1:=aF (o:=HO.lst ((WK.take 6).map V.str)) hp1;refine ⟨_,rfl,(by show 2<=sizeLine;decide),fun p2 hp2=> ?_⟩;have s2:=aF (o:=HO.lst ((WK.drop 6).map V.str)) hp2;refine ⟨p1,p2,_,_,rfl,rfl,s2 _ _ aq,aq,(by show 6+2<=sizeLine;decide),fun p3 hp3=> ?_⟩;have s3:=aF (o:=HO.lst (WK.map V.str)) hp3;have S3:=(s1.trans s2).trans s3
  refine ⟨p3,rfl,⟨_,bO.of aq⟩,wL (K:=K) (a:=p3) (xs:=WK.map V.str) (fun i σ H2=>(∃x1 x2,σ=[some (.ref a),some (.ref p1),x1,x2])/\H2 p3=some (.lst (WK.map V.str))/\Same H H2/\nU ws=((Fq.drop i).find? (pN ws)).getD [])
   ⟨⟨_,_,rfl⟩,aq,S3,rfl⟩ (fun i σ H2 _ ⟨_,e,_⟩=>bO.of e) ?_ ?_⟩
  ·rintro i v σ H2 hi ⟨⟨x1,x2,rfl⟩,e2,S2,ef⟩
   obtain ⟨x,hx,rfl⟩:∃x,WK[i]? = some x/\v = .str x:=by
    rw [List.getElem?_map] at hi;cases e:WK[i]? with
    | none=>rw [e] at hi;cases hi
    | some z=>rw [e] at hi;exact ⟨z,rfl,(Option.some.inj hi).symm⟩
   obtain ⟨ps,ep,es,lx,lp⟩:=adq hx;refine ⟨_,rfl,rfl,_,_,rfl,rfl,rfl,by rw [sizeLine_eq];omega,fun q hq=> ?_⟩;rw [es];have sq:=aF (o:=HO.lst (ps.map V.str)) hq;have e3:=sq _ _ e2;have eq:(upd H2 q (.lst (ps.map V.str))) q=some (.lst (ps.map V.str)):=aq;have S4:=S2.trans sq;generalize upd H2 q (.lst (ps.map V.str))=H4 at e3 eq S4 ⊢
   have dr:Fq.drop i=ps::Fq.drop (i+1):=by
    obtain ⟨hl,he⟩:=List.getElem?_eq_some_iff.mp ep;rw [←he];exact List.drop_eq_getElem_cons hl
   rw [dr,tM] at ef;have a4:=S4 _ _ ha;refine ⟨_,rfl,q,_,rfl,.inl (bO.of eq),_,rfl,a,_,rfl,.inl (bO.of a4),rfl,_,rfl, ?_⟩;rw [List.length_map,List.length_map]
   by_cases w:ps.length=ws.length
   ·rw [decide_eq_true (show V.int (ps.length:Nat)=V.int (ws.length:Nat) by rw [w])]
    refine dz ?_;refine ⟨_,rfl,_,rfl,a,q,_,_,rfl,bO.of a4,bO.of eq,fun D hD=> ?_⟩;refine Rm (K:=K) (n:=ws.length) (List.length_map ..) (by rw [List.length_map,w]) (fun i=>((ws.zip ps)[i]?).map fun z=>V.bl (qP z.1 z.2)) hD (bO.of a4) (bO.of eq) (by omega) (fun j x' y' H5 G F hx' hy' s5 kG kF=> ?_) (fun H5 s5 e5=> ?_)
    ·rw [List.getElem?_map] at hx' hy'
     cases e1:ws[j]? with
     | none=>rw [e1] at hx';cases hx'
     | some x=>
       cases e2:ps[j]? with
       | none=>rw [e2] at hy';cases hy'
       | some y=>
         rw [e1] at hx';rw [e2] at hy';cases hx';cases hy';refine ⟨_,rfl,_,rfl,x,y,rfl,wl x (List.mem_of_getElem? e1),fun H6 s6=>kF _ H6 s6 ?_⟩;rw [List.getElem?_zip_eq_some (z:=(x,y)) |>.mpr ⟨e1,e2⟩];rfl
    have zl:ws.length=(ws.zip ps).length:=by rw [List.length_zip,w,Nat.min_self]
    rw [zl,range_all (fun z:Str×Str=>qP z.1 z.2)] at e5;refine ⟨D,(ws.zip ps).map fun z=>qP z.1 z.2,rfl,bO.of e5,_,rfl, ?_⟩
    have ea:((ws.zip ps).map fun z=>qP z.1 z.2).all id=pN ws ps:=by
     unfold pN;rw [decide_eq_true w,Bool.true_and,List.all_map];rfl
    rw [ea];refine cD (fun z=> ?_) (fun z=> ?_)
    ·rw [if_pos z] at ef
     exact ⟨_,rfl,k q H5 (by rw [ef];exact s5 _ _ eq) (S4.trans s5)⟩
    ·rw [if_neg z] at ef
     exact ⟨⟨_,_,rfl⟩,s5 _ _ e3,S4.trans s5,ef⟩
   ·rw [decide_eq_false (show ¬V.int (ps.length:Nat)=V.int (ws.length:Nat) from fun z=>w (by injection z with z;omega))]
    rw [K7 w,if_neg (by simp)] at ef;exact cP ⟨⟨_,_,rfl⟩,e3,S4,ef⟩
  ·rintro σ H2 ⟨⟨x1,x2,rfl⟩,e2,S2,ef⟩
   refine ⟨(by show 0<=sizeLine;decide),fun q hq=> ?_⟩;have sq:=aF (o:=HO.lst []) hq;exact k q _ (by rw [aq,ef];rfl) (S2.trans sq)
def nI (l:List Nat):List Int:=l.map fun n:Nat=>(n:Int)
theorem Pk {ls:List Str} (h:ls∈[]::Fq):SeqAt.shaped (.list (ls.map PyData.str))=true:=by
 have:∀ls∈[]::Fq,SeqAt.shaped (.list (ls.map PyData.str))=true:=by decide +kernel
 exact this ls h
theorem Vf (ws:List Str):nU ws∈[]::Fq:=by
 unfold nU;cases e:Fq.find? (pN ws) with
 | none=>simp
 | some p=>simp [List.mem_of_find?_eq_some e]
theorem Bw {H:Hp}:∀l:List Str,aQ H (l.map V.str) (l.map PyData.str)
 | []=>by simp only [List.map_nil,aQ]
 | x::l=>by simp only [List.map_cons,aQ,Dat];exact ⟨trivial,Bw l⟩
theorem Yt (l:List Str):PyData.eqv (.list (l.map PyData.str)) (.list [])=decide (l=[]):=by
 cases l with
 | nil=>rfl
 | cons x l=>rfl
theorem ai2:∀r:Rw,inV (.str sC) ((rF r).map V.str)=(QF r).isSome:=fun r=>by
 cases r with
 | load b c=>rfl
 | store c e=>rfl
 | swap b c e=>rfl
 | uX b e=>rfl
 | say e=>rfl
 | go k=>rfl
 | xH q a b k=>cases q<;>rfl
theorem adp:∀(r:Rw) (k:Nat),QF r=some k->(rF r)[cAt r]? = some sC /\ ∀m,m<cAt r->(rF r)[m]? ≠ some sC:=fun r k h=>by
 cases r with
 | load b c=>
   refine ⟨rfl,fun m hm=> ?_⟩;have hm:m<2:=hm;have:m=0\/m=1:=by omega
   rcases this with rfl|rfl
   ·show some (Str.ofString "load")≠some sC;decide
   ·show some sB≠some sC;decide
 | store c e=>
   refine ⟨rfl,fun m hm=> ?_⟩;have hm:m<1:=hm;have:m=0:=by omega
   subst this;show some (Str.ofString "store")≠some sC;decide
 | swap b c e=>
   refine ⟨rfl,fun m hm=> ?_⟩;have hm:m<2:=hm;have:m=0\/m=1:=by omega
   rcases this with rfl|rfl
   ·show some (Str.ofString "swap")≠some sC;decide
   ·show some sB≠some sC;decide
 | uX b e=>cases h
 | say e=>cases h
 | go k=>cases h
 | xH q a b k=>cases h
theorem ado (r:Rw):rF r≠[]:=by
 cases r with
 | xH q a b k=>cases q<;>simp [rF]
 | _=>simp [rF]
def Ii (K:PySem.W.Frag):Sp:=fun vs H Q _=>∃(y:Str) (m:Nat) (a:Addr) (ls:List Nat),vs=[.str y,.int (m:Nat),.ref a]/\H a=some (.lst ((nI ls).map V.int))/\y.length<=90000 /\ ∀H',Same H H'->Q (.int (Bs (bh (Txt.split y (Str.ofString " "))) m ls)) H'
theorem split_le {x y p:Str} (h:p∈Txt.split x y):p.length<=x.length:=by
 have e:Str.join y (Txt.split x y)=x:=StrLaws.join_split x y
 have:∀l:List Str,p∈l->p.length<=(Str.join y l).length:=fun l=>by
  intro hp;rw [←StrLaws.glued_eq_join]
  induction l with
  | nil=>cases hp
  | cons z l ih=>
    show p.length<=(Txt.join y (z::l)).length;rw [glued_cons,Str.length_append];rcases List.mem_cons.mp hp with rfl|hp
    ·omega
    ·obtain ⟨i,hi⟩:=List.getElem?_of_mem hp
     have:p.length<=(cat (l.map (y ++ ·))).length:=by
      clear ih hi
      induction l with
      | nil=>cases hp
      | cons u l ih=>
        rw [List.map_cons,cat,Str.length_append,Str.length_append];rcases List.mem_cons.mp hp with rfl|hp
        ·omega
        ·have:=ih (by simp [hp]) hp;omega
     omega
 have:=this _ h;rwa [e] at this
theorem KQ {l:List V} {v:V} (h:l[l.length - 1]? = some v):vq l (-1)=some v:=by
 have hl:=(List.getElem?_eq_some_iff.mp h).1;unfold vq Jj;rw [if_neg (by decide),if_pos (by omega)];show l[_]? = _;rw [←h];congr 1;omega
theorem Jf {ls:List Nat} (h:ls≠[]):vq ((nI ls).map V.int) (-1)=some (V.int (ls.getLastD 0:Nat)):=by
 refine KQ ?_;unfold nI;rw [List.length_map,List.length_map,List.getElem?_map,List.getElem?_map]
 have:ls[ls.length - 1]? = some (ls.getLastD 0):=by
  rw [←List.getLast?_eq_getElem?];cases ls with
  | nil=>exact absurd rfl h
  | cons a l=>rw [List.getLast?_cons,List.getLastD_cons,List.getLastD_eq_getLast?]
 rw [this];rfl
theorem Uj {f:Addr} {fd:FuncData} (F:rm K "_law_fault" "_law_fault" lD f fd) (YT:FnAt P w K mg base 5 "_law_form" ["words"] (MK K)) (Bt:Cm mg):dM P w K mg base tV 6 f fd ["row","many","lengths"] (Ii K):=by
 refine F.ok Bf (fun vs H Q E h=> ?_) (fun cdv A outer s H vs Q E hr h=> ?_)
 ·obtain ⟨y,m,a,ls,rfl,_⟩:=h
  rfl
 ·obtain ⟨y,m,a,ls,rfl,ha,yl,k⟩:=h
  have Bq:=hr.units
  refine ⟨_,(aA (bI (aK cB (pv 0) aM (aO _)) (aG (aN (aV (aU (K:=K) rfl) (cO (aj (pL iJ au) (aj au ak))) (cj tQ (by rfl) Bt.vo o_ (aj (dU cB (aY (bD (K:=K) rfl) (by rfl) Bt.eG cY (aj (pv 2) ak)) au (aO _)) ak)) (fun _ _=>rfl)))) aR)
   (aA (aX (i:=3) Bf.nd rfl (Or.inl rfl) (eX (K:=K) rfl PySem.F.plainAttrs_str PySem.F.slot_str_split PySem.F.type_str_split lG (pv 0) (aj aM ak)))
   (aA (aX (i:=4) Bf.nd rfl (Or.inl rfl) (bG YT (hr.mono (by decide)) (by rfl) (aj (pv 3) ak)))
   (aA (bI (PW.pt (vh (aK (C_ (K:=K) rfl Bq) (pv 4) (cO ak) (aO _)) (uQ (aK (C_ (K:=K) rfl Bq) (pv 2) (cO ak) (aO _))))) (aG (aN au)) aR)
   (aA (bI (PW.pt (v7 (aK (qL (K:=K) rfl) aM (pv 4) (by with_unfolding_all rfl)) (rC (aK Ky (cj qt (by rfl) Bt.vo o_ (aj (aV (aU (K:=K) rfl) (pv 3) (eX (K:=K) rfl PySem.F.plainAttrs_list PySem.F.slot_list_index PySem.F.type_list_index (Nm (K:=K) rfl) (pv 4) (aj aM ak)) (fun _ _=>rfl)) ak)) (pv 1) (aO _))))) (aG (aN au)) aR)
   (aG (aN (aV (aU (K:=K) rfl) (cO (aj (pL iJ au) (aj au ak))) (cj tQ (by rfl) Bt.vo o_ (aj (dU cB (aV (aU (K:=K) rfl) (pv 2) (pL iJ au) (fun _ _=>rfl)) au (aO _)) ak)) (fun _ _=>rfl))))))))), ?_⟩
  have inj:∀{a b:Str},V.str a=V.str b->a=b:=fun z=>by injection z
  have pick:∀(c:Prop) [Decidable c],vq [V.int (-1),V.int 2] (if decide c=true then 1 else 0)=some (V.int (if c then 2 else -1)):=fun c _=>by
   by_cases w:c
   ·rw [if_pos w,if_pos (decide_eq_true w)];rfl
   ·rw [if_neg w,if_neg (by rw [decide_eq_false w];simp)];rfl
  have dI:∀(a b:Nat),decide (V.int (a:Nat)=V.int (b:Nat))=decide (a=b):=fun a b=>by
   by_cases z:a=b
   ·rw [decide_eq_true z,decide_eq_true (by rw [z])]
   ·rw [decide_eq_false z,decide_eq_false fun y=>z (by injection y with y;omega)]
  refine ⟨_,rfl,rfl,_,rfl,cD (fun w=> ?_) (fun w=> ?_)⟩
  ·have w:y=Str.ofString "hand" :=inj (of_decide_eq_true w)
   rw [tK.mpr w] at k;refine ⟨_,rfl,(by show 2<=sizeLine;decide),fun q hq=> ?_⟩;have sq:=aF (o:=HO.lst [V.int (-1),V.int 2]) hq;refine ⟨_,rfl,a,_,rfl,.inl (bO.of (sq _ _ ha)),rfl,.inr ⟨_,rfl, ?_⟩⟩;have el:((nI ls).map V.int).length=ls.length:=by unfold nI;rw [List.length_map,List.length_map]
   rw [el,show V.int 8=V.int ((8:Nat):Int) from rfl,dI];exact ⟨_,_,_,_,rfl,rfl,bO.of aq,pick _,k _ sq⟩
  ·have w:¬y=Str.ofString "hand" :=fun z=>w (decide_eq_true (by rw [z]))
   have nh:bh (Txt.split y (Str.ofString " "))≠some .hand:=fun z=>w (tK.mp z);refine ⟨_,rfl,rfl,_,_,rfl,rfl,rfl,by rw [sizeLine_eq];omega,fun p hp=> ?_⟩;have fm:=Yp (Txt.split y (Str.ofString " "));have Z1:∀x∈Txt.split y (Str.ofString " "),x.length<=y.length:=fun x hx=>split_le hx;generalize Txt.split y (Str.ofString " ")=ws at k nh fm Z1 ⊢;have sp:=aF (o:=HO.lst (ws.map V.str)) hp;refine ⟨_,rfl,p,ws,rfl,aq,fun x hx=>Nat.le_trans (Z1 x hx) yl,fun q H1 eq s1=> ?_⟩;have e1:=s1 _ _ (aq (H:=H) (a:=p) (o:=HO.lst (ws.map V.str)));have S1:=sp.trans s1;clear hp sp s1;have mem:=Vf ws;generalize nU ws=ps at fm eq mem;refine ⟨_,rfl,(by show 0<=sizeLine;decide),fun q2 hq2=> ?_⟩;have Tp:=aF (o:=HO.lst []) hq2;refine ⟨_,_,Fv (Tp _ _ eq) (Bw ps),Fv (aq (o:=HO.lst [])) (Bw []),Pk mem,Pk (by simp),_,rfl, ?_⟩;rw [if_neg Bool.false_ne_true,List.map_nil,Yt];have S2:=S1.trans Tp;have e2:=Tp _ _ e1;have eq2:=Tp _ _ eq;generalize upd H1 q2 (HO.lst [])=H2 at S2 e2 eq2 ⊢;refine cD (fun w2=>dz ?_) (fun w2=> ?_)
   ·have w2:=of_decide_eq_true w2
    rw [w2] at fm
    have:Bs (bh ws) m ls=0:=by
     cases el:bh ws with
     | none=>rfl
     | some ln=>
       rw [el] at fm nh;cases ln with
       | cells c=>rfl
       | hand=>exact absurd rfl nh
       | row r=>exact absurd fm.symm (ado r)
    have:=this▸k H2 S2;exact this
   ·obtain ⟨r,er⟩:∃r,bh ws=some (.row r):=by
     cases el:bh ws with
     | none=>rw [el] at fm;exact absurd (decide_eq_true fm) w2
     | some ln=>
       rw [el] at fm;cases ln with
       | row r=>exact ⟨r,rfl⟩
       | cells c=>exact absurd (decide_eq_true fm) w2
       | hand=>exact absurd (decide_eq_true fm) w2
    rw [er] at k fm;have fm:ps=rF r:=fm;subst fm;have W:=G_ er;have a2:=S2 _ _ ha;refine ⟨_,rfl,(by show 0<=sizeLine;decide),fun q3 LR=> ?_⟩;have Y8:=aF (o:=HO.lst []) LR;refine ⟨_,_,nY (Y8 _ _ a2),nY (ns:=[]) aq,shaped_ints _,shaped_ints _,_,rfl, ?_⟩;rw [if_neg Bool.false_ne_true,zQ PyData.int Di];have S3:=S2.trans Y8;have e3:=Y8 _ _ e2;have eq3:=Y8 _ _ eq2;have a3:=Y8 _ _ a2;generalize upd H2 q3 (HO.lst [])=H3 at S3 e3 eq3 a3 ⊢;unfold Bs at k;dsimp only at k;refine cD (fun w3=> ?_) (fun w3=> ?_)
    ·have w3:ls=[]:=by
      have:=of_decide_eq_true w3;unfold nI at this;simpa using this
     rw [if_pos w3] at k;exact k H3 S3
    ·have w3:¬ls=[]:=fun z=>w3 (decide_eq_true (by rw [z];rfl))
     rw [if_neg w3] at k;refine ⟨_,rfl,_,_,rfl,.inl (bO.of eq3),rfl, ?_,_,rfl, ?_⟩
     ·rw [List.all_map];exact List.all_eq_true.mpr fun x _=>rfl
     rw [if_neg Bool.false_ne_true,show Str.ofString "C" = sC from rfl,ai2];cases ec:QF r with
     | none=>
       rw [ec] at k;rw [if_neg (show ¬false=true by simp)] at k;refine cP ?_;dsimp only [rA];refine ⟨_,rfl,(by show 2<=sizeLine;decide),fun q4 Ym=> ?_⟩;have sq4:=aF (o:=HO.lst [V.int (-1),V.int 2]) Ym;refine ⟨_,rfl,_,rfl,a,_,_,_,rfl,rfl,bO.of (sq4 _ _ a3),Jf w3,rfl,.inr ⟨_,rfl, ?_⟩⟩;rw [show V.int 60=V.int ((60:Nat):Int) from rfl,dI];exact ⟨_,_,_,_,rfl,rfl,bO.of aq,pick _,k _ (S3.trans sq4)⟩
     | some c=>
       rw [ec] at k;refine dz ?_;obtain ⟨wc,c1⟩:=W.c c ec;obtain ⟨i1,i2⟩:=adp r c ec;refine ⟨_,rfl,_,rfl,.inl ⟨rfl,_,bO.of eq3⟩,_,_,_,cAt r,rfl,rfl,bO.of eq3,i1,i2,_,_,_,_,rfl,rfl,bO.of e3,bW (v:=V.str (Ey (c:Nat))) (by rw [List.getElem?_map,wc];rfl),Ey (c:Nat),c,rfl,nQ c1, ?_,_,rfl,_,_,rfl,rfl,_,rfl, ?_⟩
       ·have:∀n:Fin 1000,(Ey (n.val:Nat)).length<=640:=fun n=>by
         have:=zK (i:=(n.val:Nat)) (by omega) (by have:=n.isLt;omega);show (Str.ofString (toString (n.val:Int))).length<=640;omega
        exact this ⟨c,c1⟩
       by_cases wm:m<=c
       ·rw [decide_eq_true (show (c:Int)≥m by omega)]
        rw [if_pos (decide_eq_true wm)] at k;exact dz (k H3 S3)
       ·rw [decide_eq_false (show ¬(c:Int)≥m by omega)]
        rw [if_neg (show ¬decide (m<=c)=true by rw [decide_eq_false wm];simp)] at k;refine cP ?_;dsimp only [rA];refine ⟨_,rfl,(by show 2<=sizeLine;decide),fun q4 Ym=> ?_⟩;have sq4:=aF (o:=HO.lst [V.int (-1),V.int 2]) Ym;refine ⟨_,rfl,_,rfl,a,_,_,_,rfl,rfl,bO.of (sq4 _ _ a3),Jf w3,rfl,.inr ⟨_,rfl, ?_⟩⟩;rw [show V.int 60=V.int ((60:Nat):Int) from rfl,dI];exact ⟨_,_,_,_,rfl,rfl,bO.of aq,pick _,k _ (S3.trans sq4)⟩
def V7 (hs:List (List Rw)):Int×Int:=match qQ 1 hs with
 | some k=>(3,k)
 | none=>(-1,0)
def Cp (y:Str):Option Ln:=bh (Txt.split y (Str.ofString " "))
theorem Wk {l:List V} {v:V} (h2:2<=l.length) (h:l[l.length - 2]? = some v):vq l (-2)=some v:=by
 unfold vq Jj;rw [if_neg (by decide),if_pos (by omega)];show l[_]? = _;rw [←h];congr 1;omega
def Ej (K:PySem.W.Frag):Sp:=fun vs H Q _=>∃(a b:Addr) (y0:Str) (ys:List Str) (hs:List (List Rw)),vs=[.ref a,.ref b]/\H a=some (.lst ((y0::ys).map V.str))/\H b=some (.lst ((nI (hs.map List.length)).map V.int))/\ys.map Cp=(uU hs).map some/\(∀y∈ys,y.length<=90000)/\ys.length<=100000 /\ ∀(t:Addr) (H':Hp),H' t=some (.tup [.int (V7 hs).1,.int (V7 hs).2])->Same H H'->Q (.ref t) H'
theorem Q5 {f:Addr} {fd:FuncData} (F:rm K "_law_beyond" "_law_beyond" gH f fd) (Bt:Cm mg):dM P w K mg base tV 1 f fd ["rows","lengths"] (Ej K):=by
 refine F.ok qJ (fun vs H Q E h=> ?_) (fun cdv A outer s H vs Q E hr h=> ?_)
 ·obtain ⟨a,b,y0,ys,hs,rfl,_⟩:=h
  rfl
 ·obtain ⟨a,b,y0,ys,hs,rfl,ha,hb,el,yl,yn,k⟩:=h
  refine ⟨_,(aA (aX (i:=2) qJ.nd rfl (Or.inl rfl) (pL iJ au))
   (aA (oZ PassesOwn.never rfl (Hh (by rfl) Bt.rH (aj au (aj (aY (bD (K:=K) rfl) (by rfl) Bt.eG cY (aj (pv 0) ak)) ak))) (cM (i:=3) qJ.nd rfl (Or.inl rfl))
   (aA (aX (i:=4) qJ.nd rfl (Or.inl rfl) (eX (K:=K) rfl PySem.F.plainAttrs_str PySem.F.slot_str_split PySem.F.type_str_split lG (aV (aU (K:=K) rfl) (pv 0) (pv 3) (fun _ _=>rfl)) (aj aM ak)))
   (aG (bI (aK cB (aV (aU (K:=K) rfl) (pv 0) (pv 3) (fun _ _=>rfl)) aM (aO _)) (aG (aX (i:=2) qJ.nd rfl (Or.inl rfl) (bB dJ (pv 2) au))) (aG (bI (PW.pt (v7 (aK cB (aV (aU (K:=K) rfl) (pv 4) (pL iJ au) (fun _ _=>rfl)) aM (aO _)) (rC (aK zJ (cj qt (by rfl) Bt.vo o_ (aj (aV (aU (K:=K) rfl) (pv 4) (pL iJ au) (fun _ _=>rfl)) ak)) (aV (aU (K:=K) rfl) (pv 1) (pv 2) (fun _ _=>rfl)) (aO _))))) (aG (aN (cF (aj au (aj (bB dJ (pv 3) au) ak))))) aR))))))
   (aG (aN (cF (aj (pL iJ au) (aj au ak))))))), ?_⟩
  have inj:∀{a b:Str},V.str a=V.str b->a=b:=fun z=>by injection z
  have ll:ys.length=(uU hs).length:=by have:=congrArg List.length el;simpa using this
  refine ⟨_,rfl,_,rfl,a,_,rfl,.inl (bO.of ha),1,_,rfl,⟨by omega,by omega,by rw [List.length_map,List.length_cons];omega,by rw [List.length_map,List.length_cons];omega⟩, ?_⟩;have en:(((((y0::ys).map V.str).length:Nat):Int) - 1).toNat=ys.length:=by rw [List.length_map,List.length_cons];omega
  rw [en]
  refine tL (lo:=1) (n:=ys.length) (fun i σ H2=>∃(x1 x2:Option V) (pre post:List (List Rw)) (cur:List Rw) (cl:Nat),σ=[some (.ref a),some (.ref b),some (.int ((pre.length:Int) - 1)),x1,x2]/\Same H H2/\hs=pre++post/\(cur≠[]->pre≠[])/\(pre≠[]->(pre.map List.length).getLastD 0=cl)/\(uU hs).drop i=cur.map Ln.row++uU post/\qQ 1 hs=match dX cl (i+1) cur with |some k=>some k|none=>qQ (i+1+cur.length) post)
   ⟨none,none,[],hs,[],0,rfl,Same.refl _,rfl,fun z=>absurd rfl z,fun z=>absurd rfl z,rfl,rfl⟩ ?_ ?_
  ·rintro i σ H2 hi ⟨x1,x2,pre,post,cur,cl,rfl,S2,eh,cp,ecl,ed,eb⟩
   have a2:=S2 _ _ ha;have b2:=S2 _ _ hb;obtain ⟨y,hy⟩:∃y,ys[i]? = some y:=⟨_,List.getElem?_eq_getElem hi⟩;have yb:=yl y (List.mem_of_getElem? hy)
   have ly:(uU hs)[i]? = Cp y:=by
    have:=congrArg (fun l=>l[i]?) el;simp only [List.getElem?_map,hy,Option.map_some] at this;cases e:(uU hs)[i]? with
    | none=>rw [e] at this;cases this
    | some u=>rw [e] at this;simp only [Option.map_some,Option.some.injEq] at this;exact this.symm
   have dr:(uU hs).drop i=(uU hs)[i]'(by omega)::(uU hs).drop (i+1):=List.drop_eq_getElem_cons (by omega);have e1:(1:Int)+(i:Int)=((1+i:Nat):Int):=by omega
   rw [e1];have at1:vq ((y0::ys).map V.str) ((1+i:Nat):Int)=some (V.str y):=bW (by rw [List.getElem?_map,Nat.add_comm 1 i,List.getElem?_cons_succ,hy];rfl);refine ⟨_,rfl,_,rfl,_,_,_,_,rfl,rfl,bO.of a2,at1,rfl,_,_,rfl,rfl,rfl,by rw [sizeLine_eq];omega,fun q hq=> ?_⟩;have sq:=aF (o:=HO.lst ((Txt.split y (Str.ofString " ")).map V.str)) hq;have a3:=sq _ _ a2;have b3:=sq _ _ b2;have S3:=S2.trans sq;have e3:(upd H2 q (.lst ((Txt.split y (Str.ofString " ")).map V.str))) q=some (.lst ((Txt.split y (Str.ofString " ")).map V.str)):=aq;generalize upd H2 q (.lst ((Txt.split y (Str.ofString " ")).map V.str))=H3 at a3 b3 S3 e3 ⊢;refine ⟨_,rfl,_,rfl,_,_,_,_,rfl,rfl,bO.of a3,at1,rfl,_,rfl,cD (fun w=> ?_) (fun w=> ?_)⟩
   ·have w:y=Str.ofString "hand" :=inj (of_decide_eq_true w)
    have lh:Cp y=some .hand:=tK.mpr w;rw [lh] at ly;cases cur with
    | cons r cur=>
      rw [dr] at ed;have:=(List.cons.inj ed).1;have z:(uU hs)[i]? = some (Ln.row r):=by rw [List.getElem?_eq_getElem (by omega),this]
      rw [z] at ly;cases ly
    | nil=>
      cases post with
      | nil=>rw [dr] at ed;cases ed
      | cons h post=>
        have hh:(pre.length:Int) - 1+1=(((pre++[h]).length:Nat):Int) - 1:=by rw [List.length_append,List.length_singleton];omega
        refine ⟨_,rfl,_,_,rfl,rfl,some (.int ((1+i:Nat):Int)),some (.ref q),pre++[h],post,h,h.length,by rw [←hh];rfl,S3,by rw [eh];simp,fun _=>by simp,fun _=>by simp, ?_, ?_⟩
        ·rw [dr] at ed
         exact (List.cons.inj ed).2
        ·rw [eb]
         show qQ (i+1+0) (h::post)=_;show (match dX h.length (i+1+0+1) h with |some k=>some k|none=>qQ (i+1+0+1+h.length) post)=_;rfl
   ·have w:¬y=Str.ofString "hand" :=fun z=>w (decide_eq_true (by rw [z]))
    have nh:Cp y≠some .hand:=fun z=>w (tK.mp z);cases cur with
    | nil=>
      cases post with
      | nil=>rw [dr] at ed;cases ed
      | cons h post=>
        rw [dr] at ed;have:=(List.cons.inj ed).1;have z:(uU hs)[i]? = some .hand:=by rw [List.getElem?_eq_getElem (by omega),this]
        rw [z] at ly;exact absurd ly.symm nh
    | cons r cur=>
      have pn:=cp (by simp);rw [dr] at ed;have z:(uU hs)[i]? = some (Ln.row r):=by rw [List.getElem?_eq_getElem (by omega),(List.cons.inj ed).1]
      rw [z] at ly;have W:=G_ (show bh (Txt.split y (Str.ofString " "))=some (.row r) from ly.symm);generalize Txt.split y (Str.ofString " ")=ws at e3 W
      have next:(∀k,M_ r=some k -> ¬cl<k) -> ∀x1 x2,∃(x1' x2':Option V) (pre' post':List (List Rw)) (cur':List Rw) (cl':Nat),[some (V.ref a),some (.ref b),some (.int ((pre.length:Int) - 1)),x1,x2]=[some (.ref a),some (.ref b),some (.int ((pre'.length:Int) - 1)),x1',x2']/\Same H H3/\hs=pre'++post'/\(cur'≠[]->pre'≠[])/\(pre'≠[]->(pre'.map List.length).getLastD 0=cl')/\(uU hs).drop (i+1)=cur'.map Ln.row++uU post'/\qQ 1 hs=match dX cl' (i+1+1) cur' with |some k=>some k|none=>qQ (i+1+1+cur'.length) post':=fun ok x1 x2=>by
       refine ⟨x1,x2,pre,post,cur,cl,rfl,S3,eh,fun _=>pn,ecl,(List.cons.inj ed).2, ?_⟩;rw [eb]
       have:dX cl (i+1) (r::cur)=dX cl (i+1+1) cur:=by
        show (match M_ r with |some k=>if cl<k then some (i+1+1) else dX cl (i+1+1) cur|none=>dX cl (i+1+1) cur)=_;cases eg:M_ r with
        | none=>rfl
        | some k=>exact if_neg (ok k eg)
       rw [this,List.length_cons,show i+1+(cur.length+1)=i+1+1+cur.length by omega]
      have wl:(ws.map V.str).length=ws.length:=List.length_map ..;have w2:=W.len;cases eg:M_ r with
      | none=>
        obtain ⟨x,ex,nx⟩:=W.n eg;refine ⟨_,rfl,_,rfl,_,_,_,_,rfl,rfl,bO.of e3,Wk (by omega) (v:=V.str x) (by rw [wl,List.getElem?_map,ex];rfl),rfl,_,rfl, ?_⟩;rw [decide_eq_false fun z=>nx (inj z)];exact cP (cP (next (fun k z=>by rw [eg] at z;cases z) _ _))
      | some g=>
        obtain ⟨g1,g2,g3⟩:=W.g g eg;refine ⟨_,rfl,_,rfl,_,_,_,_,rfl,rfl,bO.of e3,Wk (by omega) (v:=V.str (Str.ofString "go")) (by rw [wl,List.getElem?_map,g1];rfl),rfl,_,rfl, ?_⟩;rw [decide_eq_true rfl];refine dz ?_
        have il:vq ((nI (hs.map List.length)).map V.int) ((pre.length:Int) - 1)=some (V.int (cl:Nat)):=by
         obtain ⟨p0,pl,rfl⟩:∃p0 pl,pre=p0++[pl]:=⟨pre.dropLast,pre.getLast pn,(List.dropLast_concat_getLast pn).symm⟩;have:=ecl pn;rw [List.map_append] at this;have this:pl.length=cl:=by simpa using this
         rw [show (((p0++[pl]).length:Nat):Int) - 1=((p0.length:Nat):Int) by rw [List.length_append];simp];refine bW ?_;unfold nI;rw [eh,List.getElem?_map,List.getElem?_map,List.getElem?_map,List.append_assoc,List.getElem?_append_right (Nat.le_refl _),Nat.sub_self];show some (V.int ((pl.length:Nat):Int))=_;rw [this]
        refine ⟨_,rfl,_,rfl,_,_,_,_,rfl,rfl,bO.of e3,KQ (v:=V.str (Ey (g:Nat))) (by rw [wl,List.getElem?_map,g2];rfl),Ey (g:Nat),(g:Nat),rfl,nQ g3, ?_,_,rfl,_,rfl,_,_,_,_,rfl,rfl,bO.of b3,il,_,_,rfl,rfl,_,rfl, ?_⟩
        ·have:=zK (i:=(g:Nat)) (by omega) (by omega)
         show (Str.ofString (toString (g:Int))).length<=640;omega
        by_cases wg:cl<g
        ·rw [decide_eq_true (show (g:Int)>cl by omega)]
         refine dz ?_;refine ⟨_,rfl,_,_,rfl,rfl,(by show 2<=sizeLine;decide),fun t ht=>k t _ ?_ (S3.trans (aF ht))⟩
         have:qQ 1 hs=some (i+2):=by
          rw [eb]
          have:dX cl (i+1) (r::cur)=some (i+2):=by
           show (match M_ r with |some k=>if cl<k then some (i+1+1) else dX cl (i+1+1) cur|none=>dX cl (i+1+1) cur)=_;rw [eg];exact if_pos wg
          rw [this]
         unfold V7;rw [aq,this];show some (HO.tup [V.int 3,V.int (((1+i:Nat):Int)+1)])=some (HO.tup [V.int 3,V.int ((i+2:Nat):Int)]);rw [show (((1+i:Nat):Int)+1)=((i+2:Nat):Int) by omega]
        ·rw [decide_eq_false (show ¬(g:Int)>cl by omega)]
         exact cP (next (fun k z=>by rw [eg] at z;cases z;exact wg) _ _)
  ·rintro σ H2 ⟨x1,x2,pre,post,cur,cl,rfl,S2,eh,cp,ecl,ed,eb⟩
   have ez:(uU hs).drop ys.length=[]:=List.drop_eq_nil_of_le (by omega);rw [ez] at ed;have cz:cur=[]:=by cases cur with |nil=>rfl|cons r cur=>cases ed
   subst cz;have pz:post=[]:=by cases post with |nil=>rfl|cons h post=>cases ed
   subst pz;refine ⟨_,rfl,(by show 2<=sizeLine;decide),fun t ht=>k t _ ?_ (S2.trans (aF ht))⟩;have:qQ 1 hs=none:=eb;unfold V7;rw [aq,this]
theorem wO {ws:List Str} {m:Nat} (h:bh ws=some (.cells m)):∃w,ws=[Str.ofString "cells",w]/\w=Ey (m:Nat)/\m<1000:=by
 match ws,h with
 | [],h=>cases h
 | [w0],h=>
   simp only [bh] at h;split at h<;>cases h
 | [w0,a],h=>
   simp only [bh] at h;split at h
   ·rename_i e0
    obtain ⟨x,ex,e⟩:=cV h;cases e;exact ⟨a,by rw [e0],(jH ex).2,(jH ex).1⟩
   ·split at h
    ·obtain ⟨x,_,e⟩:=cV h;cases e
    ·split at h
     ·obtain ⟨x,_,e⟩:=cV h;cases e
     ·cases h
 | [w0,a,b],h=>
   simp only [bh] at h;split at h
   ·obtain ⟨x,_,h⟩:=cu h;obtain ⟨n,_,e⟩:=cV h;cases e
   ·split at h
    ·obtain ⟨x,_,h⟩:=cu h;obtain ⟨n,_,e⟩:=cV h;cases e
    ·split at h
     ·obtain ⟨x,_,h⟩:=cu h;obtain ⟨n,_,e⟩:=cV h;cases e
     ·cases h
 | [w0,a,b,c],h=>
   simp only [bh] at h;split at h
   ·obtain ⟨x,_,h⟩:=cu h;obtain ⟨n,_,h⟩:=cu h;obtain ⟨y,_,e⟩:=cV h;cases e
   ·cases h
 | [_,_,_,_,_],h=>simp [bh] at h
 | [w0,a,b,c,d,e'],h=>
   simp only [bh] at h;split at h
   ·obtain ⟨x,_,h⟩:=cu h;obtain ⟨q,_,h⟩:=cu h;obtain ⟨y,_,h⟩:=cu h
    split at h
    ·obtain ⟨n,_,e⟩:=cV h;cases e
    ·cases h
   ·cases h
 | _::_::_::_::_::_::_::_,h=>simp [bh] at h
theorem Vz {l:Option Ln} (h:∀m,l≠some (.cells m)):jD 1 0 [] l = .error (.qM 1):=by
 cases l with
 | none=>rfl
 | some ln=>
   cases ln with
   | cells m=>exact absurd rfl (h m)
   | hand=>rfl
   | row r=>rfl
theorem first_is (m:Nat):jD 1 0 [] (some (.cells m))=if 1<=m/\m<=20 then .ok (m,[]) else .error (.wB 1):=by
 show (if (!(decide (1<=m)&&decide (m<=20)))=true then Except.error (Er.wB 1) else .ok (m,[]))=_
 by_cases h:1<=m/\m<=20
 ·rw [if_pos h,decide_eq_true h.1,decide_eq_true h.2];rfl
 ·rw [if_neg h,if_pos]
  by_cases h1:1<=m
  ·rw [decide_eq_true h1,decide_eq_false (fun z=>h ⟨h1,z⟩)];rfl
  ·rw [decide_eq_false h1];rfl
theorem aay (i0:List (List Rw)) (x0:List Rw) (r:Rw):((nI ((i0++[x0]).map List.length)).map V.int).set i0.length (.int ((((i0++[x0]).map List.length).getLastD 0:Nat)+1))=(nI ((i0++[x0++[r]]).map List.length)).map V.int:=by
 have h:((i0++[x0]).map List.length).getLastD 0=x0.length:=by simp
 rw [h];unfold nI;simp [List.set_append]
def MP (K:PySem.W.Frag):Sp:=fun vs H Q _=>∃x:Str,vs=[.str x]/\x.length<=90000 /\ ∀(t:Addr) (H':Hp),H' t=some (.tup [.int (Lp (sZ x)).1,.int (Lp (sZ x)).2])->Same H H'->Q (.ref t) H'
theorem X8 {f:Addr} {fd:FuncData} (F:rm K "_law_due" "_law_due" uO f fd) (mj:FnAt P w K mg base 1 "_law_is_number" ["word"] (zu K)) (Wv:FnAt P w K mg base 6 "_law_fault" ["row","many","lengths"] (Ii K)) (RV:FnAt P w K mg base 1 "_law_beyond" ["rows","lengths"] (Ej K)) (Bt:Cm mg):dM P w K mg base tV 7 f fd ["text"] (MP K):=by
 refine F.ok xM (fun vs H Q E h=> ?_) (fun cdv A outer s H vs Q E hr h=> ?_)
 ·obtain ⟨x,rfl,_⟩:=h
  rfl
 ·obtain ⟨x,rfl,xl,k⟩:=h
  have Bq:=hr.units
  refine ⟨_,(aA (aX (i:=1) xM.nd rfl (Or.inl rfl) (eX (K:=K) rfl PySem.F.plainAttrs_str PySem.F.slot_str_split PySem.F.type_str_split lG (pv 0) (aj aM ak)))
   (aA (aX (i:=2) xM.nd rfl (Or.inl rfl) (eX (K:=K) rfl PySem.F.plainAttrs_str PySem.F.slot_str_split PySem.F.type_str_split lG (aV (aU (K:=K) rfl) (pv 1) au (fun _ _=>rfl)) (aj aM ak)))
   (aA (bI (PW.pt (vh (aK Kw (aY (bD (K:=K) rfl) (by rfl) Bt.eG cY (aj (pv 2) ak)) au (aO _)) (vh (aK Kw (aV (aU (K:=K) rfl) (pv 2) au (fun _ _=>rfl)) aM (aO _)) (uQ (v8 (oY (bG mj (hr.mono (by decide)) (by rfl) (aj (aV (aU (K:=K) rfl) (pv 2) au (fun _ _=>rfl)) ak)))))))) (aG (aN (cF (aj au (aj au ak))))) aR)
   (aA (bI (PW.pt (vh (aK PK (cj qt (by rfl) Bt.vo o_ (aj (aV (aU (K:=K) rfl) (pv 2) au (fun _ _=>rfl)) ak)) au (aO _)) (uQ (aK zJ (cj qt (by rfl) Bt.vo o_ (aj (aV (aU (K:=K) rfl) (pv 2) au (fun _ _=>rfl)) ak)) au (aO _))))) (aG (aN (cF (aj au (aj au ak))))) aR)
   (aA (aX (i:=3) xM.nd rfl (Or.inl rfl) (cO ak))
   (aA (oZ PassesOwn.never rfl (Hh (by rfl) Bt.rH (aj au (aj (aY (bD (K:=K) rfl) (by rfl) Bt.eG cY (aj (pv 1) ak)) ak))) (cM (i:=4) xM.nd rfl (Or.inl rfl))
   (aA (aX (i:=5) xM.nd rfl (Or.inl rfl) (bG Wv (hr.mono (by decide)) (by rfl) (aj (aV (aU (K:=K) rfl) (pv 1) (pv 4) (fun _ _=>rfl)) (aj (cj qt (by rfl) Bt.vo o_ (aj (aV (aU (K:=K) rfl) (pv 2) au (fun _ _=>rfl)) ak)) (aj (pv 3) ak)))))
   (aA (bI (aK Ky (pv 5) au (aO _)) (aG (aN (cF (aj (pv 5) (aj (bB dJ (pv 4) au) ak))))) aR)
   (aG (bI (aK cB (aV (aU (K:=K) rfl) (pv 1) (pv 4) (fun _ _=>rfl)) aM (aO _)) (aG (lF (m_ (K:=K) rfl (pv 3) (aj au ak)))) (aG (v9 (bB dJ (aV (aU (K:=K) rfl) (pv 3) (pL iJ au) (fun _ _=>rfl)) au) (wj (pv 3) (pL iJ au) set_list))))))))
   (aA (bI (aK (C_ (K:=K) rfl Bq) (pv 3) (cO ak) (aO _)) (aG (aN (cF (aj au (aj (bB dJ (aY (bD (K:=K) rfl) (by rfl) Bt.eG cY (aj (pv 1) ak)) au) ak))))) aR)
   (aG (aN (bG RV (hr.mono (by decide)) (by rfl) (aj (pv 1) (aj (pv 3) ak)))))))))))), ?_⟩
  have inj:∀{a b:Str},V.str a=V.str b->a=b:=fun z=>by injection z
  refine ⟨_,rfl,rfl,_,_,rfl,rfl,rfl,by rw [sizeLine_eq];omega,fun R hR=> ?_⟩;have Z1:∀y∈Txt.split x (Str.ofString "\n"),y.length<=90000:=fun y hy=>Nat.le_trans (split_le hy) xl;have nl:(Txt.split x (Str.ofString "\n")).length<=x.length+2:=split_len;have nn:=qI x (Str.ofString "\n");unfold sZ at k;generalize Txt.split x (Str.ofString "\n")=lines at k Z1 nl nn ⊢
  obtain ⟨y0,ys,rfl⟩:∃y0 ys,lines=y0::ys:=by
   cases lines with
   | nil=>exact absurd rfl nn
   | cons a b=>exact ⟨a,b,rfl⟩
  have S1:=aF (o:=HO.lst ((y0::ys).map V.str)) hR;have e1:(upd H R (.lst ((y0::ys).map V.str))) R=some (.lst ((y0::ys).map V.str)):=aq;generalize upd H R (.lst ((y0::ys).map V.str))=H1 at S1 e1 ⊢;have y0l:=Z1 y0 (by simp);refine ⟨_,rfl,_,_,_,_,rfl,rfl,bO.of e1,bW (j:=0) rfl,rfl,_,_,rfl,rfl,rfl,by rw [sizeLine_eq];omega,fun W hW=> ?_⟩;have ef:iT 1 0 [] (y0::ys)=match jD 1 0 [] (bh (Txt.split y0 (Str.ofString " "))) with | .error e=> .error e | .ok (c',hs')=>iT 2 c' hs' ys:=rfl
  rw [ef] at k;clear ef;have w0n:=qI y0 (Str.ofString " ");have w0l:∀y∈Txt.split y0 (Str.ofString " "),y.length<=90000:=fun y hy=>Nat.le_trans (split_le hy) y0l;generalize Txt.split y0 (Str.ofString " ")=ws at k w0n w0l ⊢;have sW:=aF (o:=HO.lst (ws.map V.str)) hW;have S2:=S1.trans sW;have nWR:W≠R:=(bw e1 hW).symm;have e2:=sW _ _ e1;have w2:(upd H1 W (.lst (ws.map V.str))) W=some (.lst (ws.map V.str)):=aq;generalize upd H1 W (.lst (ws.map V.str))=H2 at S2 e2 w2 ⊢
  have YD:(∀m,bh ws≠some (.cells m)) -> ∀H3,Same H H3->(2<=sizeLine /\ ∀t,H3 t=none->Q (.ref t) (upd H3 t (.tup [.int 0,.int 1]))):=fun hm H3 S3=>⟨by decide,fun t ht=>by
   refine k t _ ?_ (S3.trans (aF ht));rw [aq,Vz hm];rfl⟩
  refine ⟨_,rfl,W,_,rfl,.inl (bO.of w2),rfl,_,rfl, ?_⟩;rw [List.length_map]
  by_cases l2:ws.length=2
  ·rw [decide_eq_true (show V.int (ws.length:Nat)=V.int 2 by rw [l2];rfl)]
   refine cP ?_
   obtain ⟨a,b,rfl⟩:∃a b,ws=[a,b]:=by
    match ws,l2 with
    | [a,b],_=>exact ⟨a,b,rfl⟩
   refine ⟨_,rfl,_,_,_,_,rfl,rfl,bO.of w2,bW (j:=0) rfl,rfl,_,rfl, ?_⟩
   by_cases ha:a=Str.ofString "cells"
   ·subst ha
    rw [decide_eq_true rfl];refine cP ?_;refine ⟨_,rfl,_,_,_,_,rfl,rfl,bO.of w2,bW (j:=1) rfl,b,rfl,by have:=w0l b (by simp);omega,fun H3 s3=>⟨_,rfl, ?_⟩⟩;have e3:=s3 _ _ e2;have w3:=s3 _ _ w2;have S3:=S2.trans s3;clear s3 e2 w2 S2 hW sW;cases nb:dH b with
    | false=>
      refine dz ?_
      exact YD (fun m z=>by
       obtain ⟨w,e,ew,lm⟩:=wO z;cases e;rw [ew,Uu lm] at nb;cases nb) H3 S3
    | true=>
      refine cP ?_;obtain ⟨m,m1,rfl⟩:=tE nb
      have el:bh [Str.ofString "cells",Ey (m:Nat)]=some (.cells m):=by
       simp only [bh,if_true,Dg m1,Option.map]
      have lm:(Ey (m:Nat)).length<=640:=by
       have:=zK (i:=(m:Nat)) (by omega) (by omega);show (Str.ofString (toString (m:Int))).length<=640;omega
      rw [el,first_is] at k;dsimp only [rA]
      have bad2:¬(1<=m/\m<=20)->(2<=sizeLine /\ ∀t,H3 t=none->Q (.ref t) (upd H3 t (.tup [.int 1,.int 1]))):=fun hm=>⟨by decide,fun t ht=>by
       refine k t _ ?_ (S3.trans (aF ht));rw [aq,if_neg hm];rfl⟩
      refine ⟨_,rfl,_,_,_,_,rfl,rfl,bO.of w3,bW (j:=1) rfl,Ey (m:Nat),m,rfl,nQ m1,lm,_,_,rfl,rfl,_,rfl,cD (fun z=>dz (bad2 ?_)) (fun z1=> ?_)⟩
      ·have:=of_decide_eq_true z;omega
      refine ⟨_,rfl,_,_,_,_,rfl,rfl,bO.of w3,bW (j:=1) rfl,Ey (m:Nat),m,rfl,nQ m1,lm,_,_,rfl,rfl,_,rfl,cD (fun z=>bad2 ?_) (fun z2=> ?_)⟩
      ·have:=of_decide_eq_true z;omega
      have hm:1<=m/\m<=20:=⟨Nat.le_of_not_lt fun z=>z1 (decide_eq_true (by omega)),Nat.le_of_not_lt fun z=>z2 (decide_eq_true (by omega))⟩;clear z1 z2 YD bad2;rw [if_pos hm] at k;have k:∀(t:Addr) (H':Hp),H' t=some (.tup [.int (Lp (match iT 2 m [] ys with | .error e=> .error e | .ok (c,hs)=>if hs=[] then .error (.qM ((y0::ys).length+1)) else match qQ 1 hs with |some k=> .error (.noTarget k)|none=> .ok (c,hs))).1,.int (Lp (match iT 2 m [] ys with | .error e=> .error e | .ok (c,hs)=>if hs=[] then .error (.qM ((y0::ys).length+1)) else match qQ 1 hs with |some k=> .error (.noTarget k)|none=> .ok (c,hs))).2])->Same H H'->Q (.ref t) H':=k;refine ⟨(by show 0<=sizeLine;decide),fun L hL=> ?_⟩;have sL:=aF (o:=HO.lst []) hL;have nRL:R≠L:=bw e3 hL;have nWL:W≠L:=bw w3 hL;have hL0:H L=none:=S3.free hL;refine ⟨_,rfl,R,_,rfl,.inl (bO.of (sL _ _ e3)),1,_,rfl,⟨by omega,by omega,by rw [List.length_map];omega,by rw [List.length_map];omega⟩, ?_⟩;have en:(((((y0::ys).map V.str).length:Nat):Int) - 1).toNat=ys.length:=by rw [List.length_map,List.length_cons];omega
      rw [en];have yn:ys.length<=x.length+1:=by rw [List.length_cons] at nl;omega
      refine tL (lo:=1) (n:=ys.length) (fun i σ H4=>∃(x1 x2:Option V) (hs:List (List Rw)),σ=[some (.str x),some (.ref R),some (.ref W),some (.ref L),x1,x2]/\Same H H4/\H4 R=some (.lst ((y0::ys).map V.str))/\H4 W=some (.lst ([Str.ofString "cells",Ey (m:Nat)].map V.str))/\H4 L=some (.lst ((nI (hs.map List.length)).map V.int))/\iT 2 m [] ys=iT (i+2) m hs (ys.drop i)/\(ys.take i).map Cp=(uU hs).map some/\hs.length<=i)
       ⟨none,none,[],rfl,S3.trans sL,sL _ _ e3,sL _ _ w3,aq,rfl,rfl,Nat.le_refl _⟩ ?_ ?_
      ·rintro i σ H4 hi ⟨x1,x2,hs,rfl,S4,R4,W4,L4,ef,et,hn⟩
       have e1:(1:Int)+(i:Int)=((1+i:Nat):Int):=by omega
       rw [e1];obtain ⟨y,hy⟩:∃y,ys[i]? = some y:=⟨_,List.getElem?_eq_getElem hi⟩;have at1:vq ((y0::ys).map V.str) ((1+i:Nat):Int)=some (V.str y):=bW (by rw [List.getElem?_map,Nat.add_comm 1 i,List.getElem?_cons_succ,hy];rfl);have yb:=Z1 y (by simp [List.mem_of_getElem? hy])
       have dr:ys.drop i=y::ys.drop (i+1):=by
        obtain ⟨hl,he⟩:=List.getElem?_eq_some_iff.mp hy;rw [←he];exact List.drop_eq_getElem_cons hl
       have tk:ys.take (i+1)=ys.take i++[y]:=by rw [List.take_succ,hy];rfl
       rw [dr] at ef;have ef:iT 2 m [] ys=match jD (i+2) m hs (Cp y) with | .error e=> .error e | .ok (c',hs')=>iT (i+2+1) c' hs' (ys.drop (i+1)):=ef
       have fi:=VG (n:=i+2) (c:=m) (hs:=hs) (l:=Cp y) (by omega);refine ⟨_,rfl,_,rfl,_,_,_,_,rfl,rfl,bO.of R4,at1,_,rfl,_,_,_,_,rfl,rfl,bO.of W4,bW (j:=1) rfl,Ey (m:Nat),m,rfl,nQ m1,lm,_,rfl,y,m,L,hs.map List.length,rfl,L4,yb,fun H5 s5=> ?_⟩;rw [show Bs (bh (Txt.split y (Str.ofString " "))) m (hs.map List.length)=fcode (jD (i+2) m hs (Cp y)) from fi.symm];refine ⟨_,rfl,_,_,rfl,rfl,_,rfl,cD (fun z=> ?_) (fun z=> ?_)⟩
       ·have z:=of_decide_eq_true z
        obtain ⟨e,ee,ec⟩:=VF z;have en:=W6 ee;refine ⟨_,rfl,_,rfl,_,_,rfl,rfl,(by show 2<=sizeLine;decide),fun t ht=> ?_⟩;refine k t _ ?_ ((S4.trans s5).trans (aF ht));rw [aq,ef,ee];show some (HO.tup [V.int (R_ e:Nat),V.int (((1+i:Nat):Int)+1)])=some (HO.tup [V.int (R_ e:Nat),V.int (erN e:Nat)]);rw [en,show (((1+i:Nat):Int)+1)=((i+2:Nat):Int) by omega]
       ·obtain ⟨⟨c',hs'⟩,eo⟩:=VD (Int.lt_of_not_ge fun w=>z (decide_eq_true w))
        rw [eo] at ef;have efn:iT 2 m [] ys=iT (i+1+2) c' hs' (ys.drop (i+1)):=ef;clear ef;obtain ⟨rfl,st⟩:=W3 (by omega) eo;dsimp only [rA];have R5:=s5 _ _ R4;have W5:=s5 _ _ W4;have L5:=s5 _ _ L4;have S5:=S4.trans s5;have keep:∀o,Same H (upd H5 L o):=fun o b u e=>by rw [aW (bw e hL0)];exact S5 _ _ e
        refine ⟨_,rfl,_,rfl,_,_,_,_,rfl,rfl,bO.of R5,at1,rfl,_,rfl, ?_⟩;have hl:(hs.map List.length).length<=90001:=by rw [List.length_map];omega
        rcases st with st|⟨i0,x0,r,el,eh,eh',_⟩
        ·obtain ⟨el,eh⟩:Cp y=some .hand/\hs'=hs++[[]]:=by rcases st with ⟨a,b,_⟩|⟨a,b,_⟩<;>exact ⟨a,b⟩
         have yh:y=Str.ofString "hand" :=tK.mp el;rw [decide_eq_true (by rw [yh])];refine dz ?_;refine ⟨_,rfl,.inl ⟨rfl,_,bO.of L5⟩,L,_,_,rfl,rfl,L5,by unfold nI;rw [List.length_map,List.length_map,sizeLine_eq];omega, ?_⟩;refine ⟨_,_,hs',rfl,keep _,by rw [aW nRL];exact R5,by rw [aW nWL];exact W5, ?_,efn, ?_,by rw [eh];simp;omega⟩
         ·rw [aq,eh,List.map_append]
          unfold nI;rw [List.map_append,List.map_append];rfl
         ·rw [tk,List.map_append,et,eh,Bl,List.map_append]
          show _++[Cp y]=_;rw [el];rfl
        ·have yh:¬y=Str.ofString "hand" :=fun z=>by rw [show Cp y=some .hand from tK.mpr z] at el;cases el
         rw [decide_eq_false fun z=>yh (inj z)];refine cP ?_;subst eh;have ne:(i0++[x0]).map List.length≠[]:=by simp
         refine ⟨_,rfl,_,rfl,L,_,_,_,rfl,rfl,bO.of L5,Jf ne,_,_,rfl,rfl,_,rfl,_,rfl,L,_,_,i0.length,rfl,rfl,L5, ?_, ?_⟩
         ·unfold Jj nI
          rw [List.length_map,List.length_map,List.length_map,List.length_append,List.length_singleton,if_neg (by decide),if_pos (by omega)];congr 1;omega
         ·refine ⟨_,_,hs',rfl,keep _,by rw [aW nRL];exact R5,by rw [aW nWL];exact W5, ?_,efn, ?_,by rw [eh'];simp at hn ⊢;omega⟩
          ·rw [aq,eh']
           exact congrArg some (congrArg HO.lst (aay i0 x0 r))
          ·rw [tk,List.map_append,et,eh',Bl,Bl,List.map_append,List.map_append]
           show _++[Cp y]=_;rw [el];simp
      ·rintro σ H4 ⟨x1,x2,hs,rfl,S4,R4,W4,L4,ef,et,hn⟩
       have ez:ys.drop ys.length=[]:=List.drop_eq_nil_of_le (Nat.le_refl _);rw [ez] at ef;have ef:iT 2 m [] ys = .ok (m,hs):=ef;rw [ef] at k;rw [List.take_length] at et;have k:∀(t:Addr) (H':Hp),H' t=some (.tup [.int (Lp (if hs=[] then .error (.qM ((y0::ys).length+1)) else match qQ 1 hs with |some k=> .error (.noTarget k)|none=> .ok (m,hs))).1,.int (Lp (if hs=[] then .error (.qM ((y0::ys).length+1)) else match qQ 1 hs with |some k=> .error (.noTarget k)|none=> .ok (m,hs))).2])->Same H H'->Q (.ref t) H':=k;refine ⟨_,rfl,(by show 0<=sizeLine;decide),fun q hq=> ?_⟩;have sq:=aF (o:=HO.lst []) hq;refine ⟨_,_,nY (sq _ _ L4),nY (ns:=[]) aq,shaped_ints _,shaped_ints _,_,rfl, ?_⟩;rw [if_neg Bool.false_ne_true,zQ PyData.int Di];have S5:=S4.trans sq;have R5:=sq _ _ R4;have L5:=sq _ _ L4;generalize upd H4 q (HO.lst [])=H5 at S5 R5 L5 ⊢;refine cD (fun z=> ?_) (fun z=> ?_)
       ·have z:hs=[]:=by have:=of_decide_eq_true z;unfold nI at this;simpa using this
        refine ⟨_,rfl,R,_,rfl,.inl (bO.of R5),_,_,rfl,rfl,(by show 2<=sizeLine;decide),fun t ht=> ?_⟩;refine k t _ ?_ (S5.trans (aF ht));rw [aq,if_pos z,List.length_map];rfl
       ·have z:¬hs=[]:=fun w=>z (decide_eq_true (by rw [w];rfl))
        refine ⟨_,rfl,_,rfl,R,L,y0,ys,hs,rfl,R5,L5,et,fun y hy=>Z1 y (by simp [hy]),by omega,fun t H6 e6 s6=> ?_⟩;refine k t H6 ?_ (S5.trans s6);rw [e6,if_neg z];unfold V7;cases qQ 1 hs<;>rfl
   ·rw [decide_eq_false fun z=>ha (inj z)]
    refine dz (dz ?_)
    exact YD (fun m z=>by
     obtain ⟨w,e,_⟩:=wO z;exact ha (List.cons.inj e).1) H2 S2
  ·rw [decide_eq_false (show ¬V.int (ws.length:Nat)=V.int 2 from fun z=>l2 (by injection z with z;omega))]
   refine dz (dz ?_)
   exact YD (fun m z=>by
    obtain ⟨w,e,_⟩:=wO z;rw [e] at l2;exact l2 rfl) H2 S2
def num (i:Int):Str:=Str.ofString (toString i)
inductive Pl where
 | num (n:Int)
 | box (b:Str)
inductive Wo where
 | one (p:Pl)
 | two (o:Bool) (p q:Pl)
inductive Pt where
 | s (x:Str)
 | n (i:Int)
 | w (x:Wo)
def words:List Str:=[Str.ofString "load",Str.ofString "store",Str.ofString "swap",Str.ofString "let",Str.ofString "say",Str.ofString "go",Str.ofString "unless",Str.ofString "=",Str.ofString "<",Str.ofString "a",Str.ofString "b",Str.ofString "c",Str.ofString "d",Str.ofString "e",Str.ofString "f",Str.ofString "g",Str.ofString "h"]
theorem DX:∀x∈words,x.length<=6/\PyData.strOk x=true:=by decide +kernel
def RX:Pl->PyData
 | .num n=> .tuple [.str (Str.ofString "number"),.int n]
 | .box b=> .tuple [.str (Str.ofString "box"),.str b]
def O7:Wo->PyData
 | .one p=>RX p
 | .two true p q=> .tuple [.str (Str.ofString "plus"),RX p,RX q]
 | .two false p q=> .tuple [.str (Str.ofString "minus"),RX p,RX q]
def ptD:Pt->PyData
 | .s x=> .str x
 | .n i=> .int i
 | .w x=>O7 x
def LQ:Pl->Str
 | .num n=>num n
 | .box b=>b
def woT:Wo->Str
 | .one p=>LQ p
 | .two o p q=>LQ p++(if o then Str.ofString "+" else Str.ofString "-")++LQ q
def Gh:Pt->Str
 | .s x=>x
 | .n i=>num i
 | .w x=>woT x
def RN:Pl->Prop
 | .num n=>0<=n/\n<=1000
 | .box b=>b∈words
def RM:Wo->Prop
 | .one p=>RN p
 | .two _ p q=>RN p/\RN q
def Wm:Pt->Prop
 | .s x=>x∈words
 | .n i=>0<=i/\i<=1000
 | .w x=>RM x
theorem Jm:∀p:Pl,xT (RX p)=true
 | .num _=>rfl
 | .box _=>rfl
theorem Qc:∀x:Wo,xT (O7 x)=true
 | .one p=>Jm p
 | .two true p q=>by simp only [O7,xT,q_,Jm,Bool.and_self]
 | .two false p q=>by simp only [O7,xT,q_,Jm,Bool.and_self]
theorem Yk:∀p:Pt,xT (ptD p)=true
 | .s _=>rfl
 | .n _=>rfl
 | .w x=>Qc x
theorem rE {i:Int} (h0:0<=i) (h1:i<=1000):(num i).length<=4:=zK h0 h1
theorem zH {p:Pl} (h:RN p):(LQ p).length<=6:=by
 cases p with
 | num n=>have:=rE h.1 h.2;show (num n).length<=6;omega
 | box b=>exact (DX b h).1
theorem WQ {x:Wo} (h:RM x):(woT x).length<=20:=by
 cases x with
 | one p=>have:=zH (p:=p) h;show (LQ p).length<=20;omega
 | two o p q=>
   have a:=zH h.1;have b:=zH h.2;show (LQ p++(if o then Str.ofString "+" else Str.ofString "-")++LQ q).length<=20;rw [Str.length_append,Str.length_append];have:(if o then Str.ofString "+" else Str.ofString "-").length=1:=by cases o<;>rfl
   omega
theorem Pu {p:Pt} (h:Wm p):(Gh p).length<=20:=by
 cases p with
 | s x=>have:=(DX x h).1;show x.length<=20;omega
 | n i=>have:=rE h.1 h.2;show (num i).length<=20;omega
 | w x=>exact WQ h
theorem Iz {K:PySem.W.Frag} {H:Hp} {v:V} {p:Pl} (h:Dat H v (RX p)) (ok:RN p):∃t k x,v = .ref t/\H t=some (.tup [.str k,x])/\(k=Str.ofString "number" \/ k=Str.ofString "box")/\((∃i,[x]=[V.int i]/\i.natAbs.log2<1920/\LQ p=Str.ofString (toString i)) \/ ∃y:Str,[x]=[V.str y]/\LQ p=y):=by
 cases p with
 | num n=>
   obtain ⟨t,a,b,rfl,ht,da,db⟩:=Fw h;cases eF da;cases rG db;exact ⟨t,_,_,rfl,ht,.inl rfl,.inl ⟨n,rfl,Df ok.1 ok.2,rfl⟩⟩
 | box y=>
   obtain ⟨t,a,b,rfl,ht,da,db⟩:=Fw h;cases eF da;cases eF db;exact ⟨t,_,_,rfl,ht,.inr rfl,.inr ⟨y,rfl,rfl⟩⟩
inductive Row where
 | gen (k:Str) (ps:List Pt)
 | xH (s:Str) (a b:Wo) (n:Int)
def uW:Str:=Str.ofString "unless"
def abP (s:Str) (a b:Wo) (n:Int):List Pt:=[.s uW,.w a,.s s,.w b,.s (Str.ofString "go"),.n n]
def Kl:Row->PyData
 | .gen k ps=> .tuple ((Pt.s k::ps).map ptD)
 | .xH s a b n=> .tuple [.str uW,.str s,O7 a,O7 b,.int n]
def Iu:Row->List Pt
 | .gen k ps=> .s k::ps
 | .xH s a b n=>abP s a b n
def Gp (r:Row):Str:=Txt.join (Str.ofString " ") ((Iu r).map Gh)
def Ga:Row->Prop
 | .gen k ps=>k∈words/\k≠uW/\ps.length<=4 /\ ∀p∈ps,Wm p
 | .xH s a b n=>s∈words/\RM a/\RM b/\0<=n/\n<=1000
theorem Ir {r:Row} (h:Ga r):(Iu r).length<=6 /\ ∀p∈Iu r,Wm p:=by
 cases r with
 | gen k ps=>
   obtain ⟨h1,h2,h3,h4⟩:=h;refine ⟨by show ps.length+1<=6;omega,fun p hp=> ?_⟩;rcases List.mem_cons.mp hp with rfl|hp
   ·exact h1
   ·exact h4 p hp
 | xH s a b n=>
   obtain ⟨h1,h2,h3,h4⟩:=h;refine ⟨by show 6<=6;decide,fun p hp=> ?_⟩;simp only [Iu,abP,List.mem_cons,List.not_mem_nil,or_false] at hp;rcases hp with rfl|rfl|rfl|rfl|rfl|rfl
   ·show uW∈words;decide
   ·exact h2
   ·exact h1
   ·exact h3
   ·show Str.ofString "go" ∈ words;decide
   ·exact h4
theorem U4:∀r:Row,xT (Kl r)=true
 | .gen k ps=>nR ptD Yk _
 | .xH s a b n=>by simp only [Kl,xT,q_,Qc,Bool.and_self]
theorem Jy:∀xs:List Str,(cat xs).length=(xs.map (·.length)).sum
 | []=>rfl
 | x::xs=>by rw [cat,Str.length_append,Jy xs,List.map_cons,List.sum_cons]
theorem sum_bound {α:Type} (f:α->Nat) (b:Nat):∀l:List α,(∀x∈l,f x<=b)->(l.map f).sum<=b*l.length
 | [],_=>by simp
 | x::l,h=>by
   have a:=h x (by simp);have ih:=sum_bound f b l fun y hy=>h y (by simp [hy]);rw [List.map_cons,List.sum_cons,List.length_cons,Nat.mul_add];omega
theorem zM (sep x:Str) (xs:List Str) (b:Nat) (h:∀y∈xs,y.length<=b):(Txt.join sep (x::xs)).length<=x.length+(sep.length+b)*xs.length:=by
 rw [glued_cons,Str.length_append,Jy,List.map_map]
 have:=sum_bound ((fun s:Str=>s.length)∘(sep ++ ·)) (sep.length+b) xs fun y hy=>by
  have:=h y hy;simp only [Function.comp,Str.length_append];omega
 omega
theorem Jh:(Str.ofString " ").length=1:=rfl
theorem Ny:(Str.ofString "\n").length=1:=rfl
theorem Kq {ps:List Pt} (h:∀p∈ps,Wm p):∀y∈ps.map Gh,y.length<=20:=fun y hy=>by
 obtain ⟨p,hp,rfl⟩:=List.mem_map.mp hy;exact Pu (h p hp)
theorem TY {r:Row} (h:Ga r):(Gp r).length<=150:=by
 obtain ⟨l6,al⟩:=Ir h;unfold Gp;cases e:Iu r with
 | nil=>simp [Txt.join];decide
 | cons p ps=>
   rw [e] at l6 al;have l6:ps.length+1<=6:=l6;rw [List.map_cons];have a:=Pu (al p (by simp));have:=zM (Str.ofString " ") (Gh p) (ps.map Gh) 20 (Kq fun q hq=>al q (by simp [hq]));rw [Jh,List.length_map] at this;have:(1+20)*ps.length<=21*5:=Nat.mul_le_mul_left 21 (by omega);omega
theorem Q8 {ps:List Pt} (l6:ps.length<=6) (al:∀p∈ps,Wm p):((ps.map Gh).map (·.length)).sum+(ps.map Gh).length*(Str.ofString " ").length<=16777216:=by
 have:=sum_bound (fun s:Str=>s.length) 20 (ps.map Gh) (Kq al);rw [Jh,List.length_map] at *;have:20*ps.length<=20*6:=Nat.mul_le_mul_left 20 l6;omega
theorem Yu {H:Hp} {vs:List V} {ps:List Pt} {i:Nat} {v:V} (d:aQ H vs (ps.map ptD)) (e:vs[i]? = some v):∃p,ps[i]? = some p/\Dat H v (ptD p):=by
 obtain ⟨q,eq,dq⟩:=d.get e;rw [List.getElem?_map] at eq;cases ex:ps[i]? with
 | none=>rw [ex] at eq;cases eq
 | some p=>rw [ex] at eq;cases eq;exact ⟨p,rfl,dq⟩
theorem V0 {H:Hp} {v:V} {d e f g h:PyData} (z:Dat H v (.tuple [d,e,f,g,h])):∃t a b c x y,v = .ref t/\H t=some (.tup [a,b,c,x,y])/\Dat H a d/\Dat H b e/\Dat H c f/\Dat H x g/\Dat H y h:=by
 simp only [Dat] at z;obtain ⟨t,vs,e,q,dd⟩:=z
 match vs,dd with
 | [a,b,c,x,y],dd=>simp only [aQ,and_true] at dd;exact ⟨t,a,b,c,x,y,e,q,dd.1,dd.2.1,dd.2.2.1,dd.2.2.2.1,dd.2.2.2.2⟩
 | [],dd=>simp only [aQ] at dd
 | [_],dd=>simp only [aQ,and_false] at dd
 | [_,_],dd=>simp only [aQ,and_false] at dd
 | [_,_,_],dd=>simp only [aQ,and_false] at dd
 | [_,_,_,_],dd=>simp only [aQ,and_false] at dd
 | _::_::_::_::_::_::_,dd=>simp only [aQ,and_false] at dd
theorem CW {H:Hp} {p:Pl} {x:V} {Q:VK} (hx:(∃i,[x]=[V.int i]/\i.natAbs.log2<1920/\LQ p=Str.ofString (toString i)) \/ ∃y:Str,[x]=[V.str y]/\LQ p=y) (q:Q (.str (LQ p)) H):T3 [x] H Q:=by
 rcases hx with ⟨i,e,li,et⟩|⟨y,e,et⟩
 ·rw [et] at q
  exact .inl ⟨i,e,li,q⟩
 ·rw [et] at q
  exact .inr ⟨y,e,q⟩
def Ec (K:PySem.W.Frag):Sp:=fun vs H Q _=>∃(v:V) (x:Wo),vs=[v]/\Dat H v (O7 x)/\RM x/\Q (.str (woT x)) H
theorem QT {f:Addr} {fd:FuncData} (F:rm K "_law_worth_text" "_law_worth_text" dF f fd) (Bt:Cm mg):dM P w K mg base tV 1 f fd ["told"] (Ec K):=by
 refine F.ok El (fun vs H Q E h=> ?_) (fun cdv A outer s H vs Q E hr h=> ?_)
 ·obtain ⟨v,x,rfl,_⟩:=h
  rfl
 ·obtain ⟨v,x,rfl,dv,ok,k⟩:=h
  refine ⟨_,(aA (bI (aK cB (aV (bQ (K:=K) rfl) (pv 0) au (fun _ _=>rfl)) aM (aO _)) (aG (aN (bB ju (bB ju (cj jw (by rfl) Bt.Ce wQ (aj (aV (bQ (K:=K) rfl) (aV (bQ (K:=K) rfl) (pv 0) au (fun _ _=>rfl)) au (fun _ _=>rfl)) ak)) aM) (cj jw (by rfl) Bt.Ce wQ (aj (aV (bQ (K:=K) rfl) (aV (bQ (K:=K) rfl) (pv 0) au (fun _ _=>rfl)) au (fun _ _=>rfl)) ak))))) aR)
   (aA (bI (aK cB (aV (bQ (K:=K) rfl) (pv 0) au (fun _ _=>rfl)) aM (aO _)) (aG (aN (bB ju (bB ju (cj jw (by rfl) Bt.Ce wQ (aj (aV (bQ (K:=K) rfl) (aV (bQ (K:=K) rfl) (pv 0) au (fun _ _=>rfl)) au (fun _ _=>rfl)) ak)) aM) (cj jw (by rfl) Bt.Ce wQ (aj (aV (bQ (K:=K) rfl) (aV (bQ (K:=K) rfl) (pv 0) au (fun _ _=>rfl)) au (fun _ _=>rfl)) ak))))) aR)
   (aG (aN (cj jw (by rfl) Bt.Ce wQ (aj (aV (bQ (K:=K) rfl) (pv 0) au (fun _ _=>rfl)) ak)))))), ?_⟩
  match x,dv,ok,k with
  | .one p,dv,ok,k=>
    obtain ⟨t,kd,x,rfl,ht,hk,hx⟩:=Iz (K:=K) (p:=p) dv ok;have n1:¬V.str kd=V.str (Str.ofString "plus"):=fun w=>by rcases hk with rfl|rfl<;>exact absurd w (by decide)
    have n2:¬V.str kd=V.str (Str.ofString "minus"):=fun w=>by rcases hk with rfl|rfl<;>exact absurd w (by decide)
    refine ⟨_,rfl,_,_,_,_,rfl,rfl,eU.of ht,rfl,rfl,_,rfl, ?_⟩;refine cD (fun z=>absurd (of_decide_eq_true z) n1) (fun _=> ?_);refine ⟨_,rfl,_,_,_,_,rfl,rfl,eU.of ht,rfl,rfl,_,rfl, ?_⟩;refine cD (fun z=>absurd (of_decide_eq_true z) n2) (fun _=> ?_);refine ⟨_,rfl,_,_,_,_,rfl,rfl,eU.of ht,rfl, ?_⟩;rcases hx with ⟨i,e,li,et⟩|⟨y,e,et⟩
    ·have et:woT (.one p)=Str.ofString (toString i):=et
     rw [et] at k;exact .inl ⟨i,e,li,k⟩
    ·have et:woT (.one p)=y:=et
     rw [et] at k;exact .inr ⟨y,e,k⟩
  | .two o a b,dv,ok,k=>
    obtain ⟨t,x0,va,vb,rfl,ht,d0,da,db⟩:∃t x0 va vb,v = .ref t/\H t=some (.tup [x0,va,vb])/\Dat H x0 (.str (if o then Str.ofString "plus" else Str.ofString "minus"))/\Dat H va (RX a)/\Dat H vb (RX b):=by
     cases o with
     | true=>exact Ld dv
     | false=>exact Ld dv
    cases eF d0;obtain ⟨ta,ka,xa,rfl,hta,_,hxa⟩:=Iz (K:=K) (p:=a) da ok.1;obtain ⟨tb,kb,xb,rfl,htb,_,hxb⟩:=Iz (K:=K) (p:=b) db ok.2;have la:=zH ok.1;have lb:=zH ok.2;refine ⟨_,rfl,_,_,_,_,rfl,rfl,eU.of ht,rfl,rfl,_,rfl, ?_⟩;cases o with
    | true=>
      refine cD (fun _=> ?_) (fun z=>absurd (by decide) z);refine ⟨_,rfl,_,_,_,_,rfl,rfl,eU.of ht,rfl,_,_,_,_,rfl,rfl,eU.of hta,rfl, ?_⟩;dsimp only [Ka];refine CW hxa ?_;refine ⟨_,_,rfl,rfl,by rw [sizeLine_eq];have:(Str.ofString "+").length=1:=rfl;omega,_,rfl,_,_,_,_,rfl,rfl,eU.of ht,rfl,_,_,_,_,rfl,rfl,eU.of htb,rfl, ?_⟩;dsimp only [Ka];refine CW hxb ?_;exact ⟨_,_,rfl,rfl,by rw [Str.length_append,sizeLine_eq];have:(Str.ofString "+").length=1:=rfl;omega,k⟩
    | false=>
      refine cD (fun z=>absurd z (by decide)) (fun _=> ?_);refine ⟨_,rfl,_,_,_,_,rfl,rfl,eU.of ht,rfl,rfl,_,rfl, ?_⟩;refine cD (fun _=> ?_) (fun z=>absurd (by decide) z);refine ⟨_,rfl,_,_,_,_,rfl,rfl,eU.of ht,rfl,_,_,_,_,rfl,rfl,eU.of hta,rfl, ?_⟩;dsimp only [Ka];refine CW hxa ?_;refine ⟨_,_,rfl,rfl,by rw [sizeLine_eq];have:(Str.ofString "-").length=1:=rfl;omega,_,rfl,_,_,_,_,rfl,rfl,eU.of ht,rfl,_,_,_,_,rfl,rfl,eU.of htb,rfl, ?_⟩;dsimp only [Ka];refine CW hxb ?_;exact ⟨_,_,rfl,rfl,by rw [Str.length_append,sizeLine_eq];have:(Str.ofString "-").length=1:=rfl;omega,k⟩
def JT (H:Hp) (a:Addr) (rs:List Row):Prop:=∃vs,H a=some (.lst vs)/\aQ H vs (rs.map Kl)
theorem JT.same {H H':Hp} {a:Addr} {rs:List Row} (h:JT H a rs) (k:Same H H'):JT H' a rs:=by
 obtain ⟨vs,e,d⟩:=h;exact ⟨vs,k _ _ e,aQ.keep k.tups _ (nR _ U4 rs) d⟩
def ak3 (H:Hp) (as:List Addr) (dG:List (List Row)):Prop:=as.length=dG.length /\ ∀(i:Nat) (a:Addr) (rs:List Row),as[i]? = some a->dG[i]? = some rs->JT H a rs
def JR (many:Int) (dG:List (List Row)):Prop:=(1<=many/\many<=1000)/\dG.length<=9 /\ ∀rs∈dG,rs.length<=62 /\ ∀r∈rs,Ga r
def Wn (H:Hp) (t p:Addr) (as:List Addr) (many:Int) (dG:List (List Row)):Prop:=H t=some (.tup [.int many,.ref p])/\H p=some (.lst (as.map V.ref))/\ak3 H as dG
def Gi (dG:List (List Row)):List Str:=(dG.map fun rs=>Str.ofString "hand" :: rs.map Gp).flatten
def hd (many:Int):Str:=Str.ofString "cells " ++ num many
def Px (many:Int) (dG:List (List Row)):Str:=Txt.join (Str.ofString "\n") (hd many::Gi dG)
theorem Ux (dG:List (List Row)) (rs:List Row):Gi (dG++[rs])=Gi dG++(Str.ofString "hand" :: rs.map Gp):=by
 unfold Gi;rw [List.map_append,List.flatten_append];simp
theorem Uy {dG:List (List Row)} (h:∀rs∈dG,rs.length<=62 /\ ∀r∈rs,Ga r):(Gi dG).length<=63*dG.length /\ ∀y∈Gi dG,y.length<=150:=by
 induction dG with
 | nil=>exact ⟨by simp [Gi],fun y hy=>by simp [Gi] at hy⟩
 | cons rs dG ih=>
   obtain ⟨l,al⟩:=ih fun x hx=>h x (by simp [hx]);obtain ⟨q,qo⟩:=h rs (by simp);have e:Gi (rs::dG)=(Str.ofString "hand" :: rs.map Gp)++Gi dG:=rfl;rw [e];refine ⟨?_,fun y hy=> ?_⟩
   ·rw [List.length_append,List.length_cons,List.length_map,List.length_cons,Nat.mul_add];omega
   ·rcases List.mem_append.mp hy with hy|hy
    ·rcases List.mem_cons.mp hy with rfl|hy
     ·show 4<=150;decide
     ·obtain ⟨r,hr,rfl⟩:=List.mem_map.mp hy
      exact TY (qo r hr)
    ·exact al y hy
theorem WX {many:Int} {dG:List (List Row)} (h:JR many dG) (i:Nat):∀rs∈dG.take i,rs.length<=62 /\ ∀r∈rs,Ga r:=fun rs hrs=>h.2.2 rs (List.mem_of_mem_take hrs)
theorem U9 {many:Int} (h0:1<=many) (h1:many<=1000):(hd many).length<=10:=by
 unfold hd;rw [Str.length_append];have:=rE (i:=many) (by omega) h1;have e:(Str.ofString "cells ").length=6:=rfl;omega
theorem QK {many:Int} {dG:List (List Row)} (h:JR many dG):((hd many::Gi dG).map (·.length)).sum+(hd many::Gi dG).length*(Str.ofString "\n").length<=16777216:=by
 obtain ⟨l,al⟩:=Uy h.2.2;have a:=U9 h.1.1 h.1.2;have b:=sum_bound (fun s:Str=>s.length) 150 (Gi dG) al;have c:63*dG.length<=63*9:=Nat.mul_le_mul_left 63 h.2.1;have d:150*(Gi dG).length<=150*(63*9):=Nat.mul_le_mul_left 150 (by omega);rw [List.map_cons,List.sum_cons,List.length_cons,Ny];omega
theorem VP {H:Hp} {vs:List V} {rs:List Row} {i:Nat} {v:V} (d:aQ H vs (rs.map Kl)) (e:vs[i]? = some v):∃r,rs[i]? = some r/\Dat H v (Kl r):=by
 obtain ⟨q,eq,dq⟩:=d.get e;rw [List.getElem?_map] at eq;cases ex:rs[i]? with
 | none=>rw [ex] at eq;cases eq
 | some p=>rw [ex] at eq;cases eq;exact ⟨p,rfl,dq⟩
def Az (K:PySem.W.Frag):Sp:=fun vs H Q _=>∃(v:V) (r:Row),vs=[v]/\Dat H v (Kl r)/\Ga r /\ ∀H',Same H H'->Q (.str (Gp r)) H'
theorem Ni {f:Addr} {fd:FuncData} (F:rm K "_law_row_text" "_law_row_text" d7 f fd) (sX:FnAt P w K mg base 1 "_law_worth_text" ["told"] (Ec K)) (Bt:Cm mg):dM P w K mg base tV 2 f fd ["row"] (Az K):=by
 refine F.ok uL (fun vs H Q E h=> ?_) (fun cdv A outer s H vs Q E hr h=> ?_)
 ·obtain ⟨v,r,rfl,_⟩:=h
  rfl
 ·obtain ⟨v,r,rfl,dv,ok,k⟩:=h
  refine ⟨_,(aA (bI (aK cB (aV (bQ (K:=K) rfl) (pv 0) au (fun _ _=>rfl)) aM (aO _)) (aG (aN (eX (K:=K) rfl PySem.F.plainAttrs_str PySem.F.slot_str_join PySem.F.type_str_join (tG (K:=K) rfl) aM (aj (cO (aj aM (aj (bG sX (hr.mono (by decide)) (by rfl) (aj (aV (bQ (K:=K) rfl) (pv 0) au (fun _ _=>rfl)) ak)) (aj (aV (bQ (K:=K) rfl) (pv 0) au (fun _ _=>rfl)) (aj (bG sX (hr.mono (by decide)) (by rfl) (aj (aV (bQ (K:=K) rfl) (pv 0) au (fun _ _=>rfl)) ak)) (aj aM (aj (cj jw (by rfl) Bt.Ce wQ (aj (aV (bQ (K:=K) rfl) (pv 0) au (fun _ _=>rfl)) ak)) ak))))))) ak)))) aR)
   (aA (aX (i:=1) uL.nd rfl (Or.inl rfl) (cO (aj (aV (bQ (K:=K) rfl) (pv 0) au (fun _ _=>rfl)) ak)))
   (aA (oZ PassesOwn.never rfl (Xu (K:=K) rfl (d_ (W7 (K:=K) rfl) (pv 0) (fP au) fQ)) (cM (i:=2) uL.nd rfl (Or.inl rfl))
   (aG (bI (oY (aY (BJ (K:=K) (cv:= .ty "tuple") (c:= .type "tuple") rfl rfl) (by rfl) Bt.cZ cI (aj (pv 2) (aj (CZ (v:= .ty "tuple") (by rfl) Bt.Qp Lh rfl) ak)))) (aG (lF (m_ (K:=K) rfl (pv 1) (aj (bG sX (hr.mono (by decide)) (by rfl) (aj (pv 2) ak)) ak)))) (aG (lF (m_ (K:=K) rfl (pv 1) (aj (cj jw (by rfl) Bt.Ce wQ (aj (pv 2) ak)) ak)))))))
   (aG (aN (eX (K:=K) rfl PySem.F.plainAttrs_str PySem.F.slot_str_join PySem.F.type_str_join (tG (K:=K) rfl) aM (aj (pv 1) ak))))))), ?_⟩
  obtain ⟨l6,al⟩:=Ir ok;have fin:∀{D:Addr} {H2:Hp} {ys:List V},Same H H2->H2 D=some (.lst ys)->ys=((Iu r).map Gh).map V.str->(rJoin K) (.str (Str.ofString " ")) [.ref D] H2 Q:=fun {D H2 ys} s2 e2 ey=>⟨_,D,(Iu r).map Gh,rfl,rfl,bO.of (by rw [e2,ey]),Q8 l6 al,k _ s2⟩;cases r with
  | xH sg a b n=>
    obtain ⟨t,x0,x1,x2,x3,x4,rfl,ht,d0,d1,d2,d3,d4⟩:=V0 dv;cases eF d0;cases eF d1;cases rG d4;refine ⟨_,rfl,_,_,_,_,rfl,rfl,eU.of ht,rfl,rfl,_,rfl, ?_⟩;refine cD (fun _=> ?_) (fun z=>absurd (by decide) z);refine ⟨rfl, ?_⟩;refine ⟨_,rfl,_,_,_,_,rfl,rfl,eU.of ht,rfl,x2,a,rfl,d2,ok.2.1, ?_⟩;refine ⟨_,rfl,_,_,_,_,rfl,rfl,eU.of ht,rfl, ?_⟩;refine ⟨_,rfl,_,_,_,_,rfl,rfl,eU.of ht,rfl,x3,b,rfl,d3,ok.2.2.1, ?_⟩;refine ⟨_,rfl,_,_,_,_,rfl,rfl,eU.of ht,rfl, ?_⟩;refine .inl ⟨n,rfl,Df ok.2.2.2.1 ok.2.2.2.2, ?_⟩;refine ⟨(by show 6<=sizeLine;decide),fun D hD=> ?_⟩;exact fin (aF hD) aq rfl
  | gen kd ps=>
    obtain ⟨t,ws,rfl,ht,dw⟩:=jJ dv
    obtain ⟨w0,ws',rfl⟩:∃w0 ws',ws=w0::ws':=by
     cases ws with
     | nil=>simp only [List.map_cons,aQ] at dw
     | cons a b=>exact ⟨a,b,rfl⟩
    obtain ⟨e0,dw'⟩:w0 = .str kd/\aQ H ws' (ps.map ptD):=by simp only [List.map_cons,aQ] at dw;exact ⟨eF dw.1,dw.2⟩
    subst e0;have wl:ws'.length=ps.length:=by rw [dw'.length,List.length_map]
    have at0:vq (V.str kd::ws') 0=some (V.str kd):=by simp [vq,Jj]
    refine ⟨_,rfl,_,_,_,_,rfl,rfl,eU.of ht,at0,rfl,_,rfl, ?_⟩;refine cD (fun z=>absurd (of_decide_eq_true z) (fun w=>ok.2.1 (by injection w))) (fun _=> ?_);refine ⟨_,rfl,_,_,_,_,rfl,rfl,eU.of ht,at0,(by show 1<=sizeLine;decide),fun D hD=> ?_⟩;have s1:=aF (o:=HO.lst [V.str kd]) hD;refine ⟨_,rfl,_,rfl,_,_,rfl,eU.of (s1 _ _ ht), ?_,fun q hq=> ?_⟩
    ·intro z
     have:=z.1;rw [show (some (1:Int))=some ((1:Nat):Int) from rfl,HT.CV] at this;simp only [List.length_cons] at this;omega
    rw [show wM (V.str kd::ws') (some 1) none=ws' from zT _ 1];have s2:=aF (o:=HO.tup ws') hq;have s12:=s1.trans s2;have l5:ps.length<=4:=ok.2.2.1;refine ⟨q,rfl,⟨_,eU.of aq⟩, ?_⟩
    refine Yq (K:=K) (a:=q) (xs:=ws') (fun i σ H3=>∃x1:Option V,σ=[some (.ref t),some (.ref D),x1]/\H3 D=some (.lst (((Pt.s kd::ps.take i).map Gh).map V.str))/\H3 q=some (.tup ws')/\Same H H3)
     ⟨none,rfl,s2 _ _ aq,aq,s12⟩ (fun i σ H3 _ ⟨_,_,_,h,_⟩=>eU.of h) ?_ ?_
    ·rintro i v σ H3 hi ⟨x1,rfl,WD,LR,s3⟩
     obtain ⟨p,ep,dp⟩:=Yu dw' hi;have L_:=dp.same s3 _;have Hg:=ok.2.2.2 p (List.mem_of_getElem? ep);have nDq:q≠D:=(KD WD LR (by intro z;cases z)).symm;have tk:ps.take (i+1)=ps.take i++[p]:=by rw [List.take_add_one,ep];rfl
     have add:∀y:Str,y=Gh p -> ∃x1':Option V,[some (V.ref t),some (V.ref D),some v]=[some (V.ref t),some (V.ref D),x1']/\(upd H3 D (.lst (((Pt.s kd::ps.take i).map Gh).map V.str++[V.str y]))) D=some (.lst (((Pt.s kd::ps.take (i+1)).map Gh).map V.str))/\(upd H3 D (.lst (((Pt.s kd::ps.take i).map Gh).map V.str++[V.str y]))) q=some (.tup ws')/\Same H (upd H3 D (.lst (((Pt.s kd::ps.take i).map Gh).map V.str++[V.str y]))):=fun y ey=>by
      refine ⟨_,rfl, ?_, ?_,s3.newly hD⟩
      ·rw [aq,tk,ey];simp
      ·rw [aW nDq];exact LR
     have len:(((Pt.s kd::ps.take i).map Gh).map V.str).length<sizeLine:=by
      rw [List.length_map,List.length_map,List.length_cons,List.length_take,sizeLine_eq];omega
     match p,L_,Hg,add with
     | .s x,L_,Hg,add=>
       cases eF L_;refine ⟨_,rfl,_,_,false,rfl,.str x,Gu K,_,rfl, ?_⟩;refine cP ?_;refine ⟨_,rfl,.inl ⟨rfl,_,bO.of WD⟩,_,rfl,.inr ⟨x,rfl,D,_,_,rfl,rfl,WD,len, ?_⟩⟩;exact add x rfl
     | .n j,L_,Hg,add=>
       cases rG L_;refine ⟨_,rfl,_,_,false,rfl,.int j,Gw K,_,rfl, ?_⟩;refine cP ?_;refine ⟨_,rfl,.inl ⟨rfl,_,bO.of WD⟩,_,rfl,.inl ⟨j,rfl,Df Hg.1 Hg.2,D,_,_,rfl,rfl,WD,len, ?_⟩⟩;exact add _ rfl
     | .w x,L_,Hg,add=>
       obtain ⟨tx,xs,rfl,htx⟩:∃tx xs,v = .ref tx/\H3 tx=some (.tup xs):=by
        match x,L_ with
        | .one (.num _),L_=>obtain ⟨a,b,c,d⟩:=jJ L_;exact ⟨a,b,c,d.1⟩
        | .one (.box _),L_=>obtain ⟨a,b,c,d⟩:=jJ L_;exact ⟨a,b,c,d.1⟩
        | .two true _ _,L_=>obtain ⟨a,b,c,d⟩:=jJ L_;exact ⟨a,b,c,d.1⟩
        | .two false _ _,L_=>obtain ⟨a,b,c,d⟩:=jJ L_;exact ⟨a,b,c,d.1⟩
       refine ⟨_,rfl,_,_,true,rfl,.tup htx,Cq K,_,rfl, ?_⟩;refine dz ?_;refine ⟨_,rfl,.inl ⟨rfl,_,bO.of WD⟩,_,rfl,.ref tx,x,rfl,L_,Hg,D,_,_,rfl,rfl,WD,len, ?_⟩;exact add _ rfl
    ·rintro σ H3 ⟨x1,rfl,WD,LR,s3⟩
     rw [wl,List.take_length] at WD;exact ⟨rfl,_,rfl,fin s3 WD rfl⟩
def Mv (K:PySem.W.Frag):Sp:=fun vs H Q _=>∃(t p:Addr) (as:List Addr) (many:Int) (dG:List (List Row)),vs=[.ref t]/\Wn H t p as many dG/\JR many dG /\ ∀H',Same H H'->Q (.str (Px many dG)) H'
theorem XQ {f:Addr} {fd:FuncData} (F:rm K "_law_text" "_law_text" pU f fd) (Lw:FnAt P w K mg base 2 "_law_row_text" ["row"] (Az K)) (Bt:Cm mg):dM P w K mg base tV 3 f fd ["program"] (Mv K):=by
 refine F.ok zy (fun vs H Q E h=> ?_) (fun cdv A outer s H vs Q E hr h=> ?_)
 ·obtain ⟨t,p,as,many,dG,rfl,_⟩:=h
  rfl
 ·obtain ⟨t,p,as,many,dG,rfl,⟨ht,hp,hs⟩,ok,k⟩:=h
  refine ⟨_,(aA (aX (i:=1) zy.nd rfl (Or.inl rfl) (cO (aj (bB ju aM (cj zU (by rfl) Bt.Ce wQ (aj (aV (bQ (K:=K) rfl) (pv 0) au (fun _ _=>rfl)) ak))) ak)))
   (aA (oZ PassesOwn.never rfl (nP (K:=K) rfl (aV (bQ (K:=K) rfl) (pv 0) au (fun _ _=>rfl))) (cM (i:=2) zy.nd rfl (Or.inl rfl))
   (aG (aX (i:=1) zy.nd rfl (Or.inl rfl) (bB o7 (bB o7 (pv 1) (cO (aj aM ak))) (uR rfl (N:=["row"]) (own:=["row"]) (caps:=[]) (bZ.of (by kernel_rfl)) (nP (K:=K) rfl (pv 2)) (fun _ _ _ _=>(cM (i:=0) (show List.Nodup (["row"]:List Str) by decide +kernel) rfl (Or.inl rfl))) (fun _ _ _ _=>rD) (fun _ _ _ _=>(bG Lw (hr.mono (by decide)) (by rfl) (aj (pv 0) ak))))))))
   (aG (aN (eX (K:=K) rfl PySem.F.plainAttrs_str PySem.F.slot_str_join PySem.F.type_str_join (tG (K:=K) rfl) aM (aj (pv 1) ak)))))), ?_⟩
  have nl:=rE (i:=many) (by have:=ok.1.1;omega) ok.1.2;refine ⟨_,rfl,_,_,_,_,rfl,rfl,eU.of ht,rfl,many,rfl,Df (by have:=ok.1.1;omega) ok.1.2,_,_,rfl,rfl, ?_,(by show 1<=sizeLine;decide),fun L hL=> ?_⟩
  ·have e:(Str.ofString "cells ").length=6:=rfl
   have nl':(Str.ofString (toString many)).length<=4:=nl;rw [sizeLine_eq];omega
  have s1:=aF (o:=HO.lst [V.str (hd many)]) hL;refine ⟨_,rfl,_,_,_,_,rfl,rfl,eU.of (s1 _ _ ht),rfl,p,rfl,⟨_,bO.of (s1 _ _ hp)⟩, ?_⟩
  refine wL (K:=K) (a:=p) (xs:=as.map V.ref) (fun i σ H2=>∃(x1:Option V) (L:Addr),σ=[some (.ref t),some (.ref L),x1]/\H2 L=some (.lst ((hd many::Gi (dG.take i)).map V.str))/\Same H H2)
   ⟨none,L,rfl,aq,s1⟩ (fun i σ H2 _ ⟨_,_,_,_,sm⟩=>bO.of (sm _ _ hp)) ?_ ?_
  ·rintro i v σ H2 hi ⟨x1,L,rfl,hL2,s2⟩
   rw [List.getElem?_map] at hi;cases ea:as[i]? with
   | none=>rw [ea] at hi;cases hi
   | some a=>
     rw [ea] at hi;cases hi;have il:i<dG.length:=by have:=(List.getElem?_eq_some_iff.mp ea).1;rw [hs.1] at this;exact this
     obtain ⟨rs,er⟩:∃rs,dG[i]? = some rs:=⟨dG[i],by simp [il]⟩;obtain ⟨rl,ro⟩:=ok.2.2 rs (List.mem_of_getElem? er);obtain ⟨l1,_⟩:=Uy (WX ok i);have tl:(dG.take i).length<=9:=by rw [List.length_take];have:=ok.2.1;omega
     have l2:63*(dG.take i).length<=63*9:=Nat.mul_le_mul_left 63 tl;refine ⟨_,rfl,(by show 1<=sizeLine;decide),fun q hq=> ?_⟩;have s3:=aF (o:=HO.lst [V.str (Str.ofString "hand")]) hq;refine ⟨L,q,_,_,rfl,rfl,s3 _ _ hL2,aq,by rw [List.length_map,List.length_cons,List.length_singleton,sizeLine_eq];omega,fun q2 hq2=> ?_⟩;have s4:=aF (o:=HO.lst ((hd many::Gi (dG.take i)).map V.str++[V.str (Str.ofString "hand")])) hq2;have s24:=(s2.trans s3).trans s4;have A3:=(hs.2 i a rs ea er).same s24;obtain ⟨vs,ha3,dv3⟩:=id A3;have vl:vs.length=rs.length:=by rw [dv3.length,List.length_map]
     refine ⟨_,rfl,a,rfl,⟨_,bO.of ha3⟩,fun D hD=> ?_⟩;refine FJ (K:=K) (fun i=>(rs[i]?).map fun r=>V.str (Gp r)) hD (bO.of ha3) (by omega) (fun j v H4 G F hj s4' kG kF=> ?_) (fun H4 s4' e4=> ?_)
     ·obtain ⟨r,er',dr⟩:=VP dv3 hj
      exact ⟨_,rfl,v,r,rfl,dr.same s4' _,ro r (List.mem_of_getElem? er'),fun H5 s5=>kF _ H5 s5 (by rw [er'];rfl)⟩
     rw [vl,zP] at e4;refine ⟨q2,D,_,_,rfl,rfl,s4' _ _ aq,e4,by rw [List.length_append,List.length_map,List.length_map,List.length_cons,List.length_singleton,sizeLine_eq];omega,fun L' hL'=> ?_⟩;refine ⟨_,L',rfl, ?_,(s24.trans s4').trans (aF hL')⟩;rw [aq];have tk:dG.take (i+1)=dG.take i++[rs]:=by rw [List.take_add_one,er];rfl
     rw [tk,Ux];simp [List.map_append,List.map_map,Function.comp]
  ·rintro σ H2 ⟨x1,L,rfl,hL2,s2⟩
   rw [List.length_map,hs.1,List.take_length] at hL2;exact ⟨rfl,_,rfl,_,L,_,rfl,rfl,bO.of hL2,QK ok,k H2 s2⟩
theorem aa_:∀b:Fin 8,vq (Str.ofString "abcdefgh").cps.toList ((b.val:Nat):Int)=some (97+b.val):=by decide +kernel
theorem Qm {i:Int} (h0:0<=i) (h1:i<8):vq (Str.ofString "abcdefgh").cps.toList i=some (97+i.toNat):=by
 have:=aa_ ⟨i.toNat,by omega⟩;simp only [Int.toNat_of_nonneg h0] at this;exact this
theorem Qs:(Str.ofString "abcdefgh").length<=sizeLine:=by rw [sizeLine_eq];decide
theorem Ju {H:Hp} {t:Addr} {a b:V} {d e:PyData} (h:H t=some (.tup [a,b])) (da:Dat H a d) (db:Dat H b e):Dat H (.ref t) (.tuple [d,e]):=by
 simp only [Dat];exact ⟨t,_,rfl,h,by simp only [aQ,and_true];exact ⟨da,db⟩⟩
theorem Qk {H:Hp} {t:Addr} {a b c:V} {d e f:PyData} (h:H t=some (.tup [a,b,c])) (da:Dat H a d) (db:Dat H b e) (dc:Dat H c f):Dat H (.ref t) (.tuple [d,e,f]):=by
 simp only [Dat];exact ⟨t,_,rfl,h,by simp only [aQ,and_true];exact ⟨da,db,dc⟩⟩
theorem VR {H:Hp} {t:Addr} {vs:List V} {ds:List PyData} (h:H t=some (.tup vs)) (d:aQ H vs ds):Dat H (.ref t) (.tuple ds):=by
 simp only [Dat];exact ⟨t,_,rfl,h,d⟩
theorem pO {H:Hp} {x:Str}:Dat H (.str x) (.str x):=by simp only [Dat]
theorem B_ {H:Hp} {x:Int}:Dat H (.int x) (.int x):=by simp only [Dat]
def Ih (K:PySem.W.Frag):Sp:=fun vs H Q _=>∃r:Addr,vs=[.ref r]/\cC H r /\ ∀(v:V) (p:HD) (H':Hp),Dat H' v (Gf p)->J3 p->cC H' r->KR r H H'->Q v H'
theorem aaz (n:Int) (h0:0<n) (h1:n<3):∃v:Int,vq [V.int 0,V.int 1000,V.int 12] n=some (V.int v)/\0<v/\v<=1000:=by
 have:n=1\/n=2:=by omega
 rcases this with rfl|rfl
 ·exact ⟨1000,rfl,by decide,by decide⟩
 ·exact ⟨12,rfl,by decide,by decide⟩
theorem Ue {f:Addr} {fd:FuncData} (F:rm K "_law_plain" "_law_plain" lC f fd) (bY:FnAt P w K mg base 1 "_law_draw" ["reel","many"] (kZ K)):dM P w K mg base tV 2 f fd ["reel"] (Ih K):=by
 refine F.ok G9 (fun vs H Q E h=> ?_) (fun cdv A outer s H vs Q E hr h=> ?_)
 ·obtain ⟨r,rfl,_⟩:=h
  rfl
 ·obtain ⟨r,rfl,R0,k⟩:=h
  refine ⟨_,(aA (aX (i:=1) G9.nd rfl (Or.inl rfl) (bG bY (hr.mono (by decide)) (by rfl) (aj (pv 0) (aj au ak))))
   (aA (bI (aK cB (pv 1) au (aO _)) (aG (aN (cF (aj aM (aj (aV wH aM (bG bY (hr.mono (by decide)) (by rfl) (aj (pv 0) (aj au ak))) (fun _ _=>rfl)) ak))))) aR)
   (aG (aN (cF (aj aM (aj (bG bY (hr.mono (by decide)) (by rfl) (aj (pv 0) (aj (aV (aU (K:=K) rfl) (cO (aj au (aj au (aj au ak)))) (pv 1) (fun _ _=>rfl)) ak))) ak))))))), ?_⟩
  refine ⟨_,rfl,r,3,rfl,R0,by decide,by decide,fun kind H1 d0 d1 R1 k1=> ?_⟩;refine ⟨_,rfl,rfl,_,rfl, ?_⟩;refine cD (fun _=> ?_) (fun w=> ?_)
  ·refine ⟨_,rfl,r,8,rfl,R1,by decide,by decide,fun z H2 z0 z1 R2 k2=> ?_⟩
   refine ⟨_,_,_,rfl,rfl,Qs,Qm z0 (by omega),(by show 2<=sizeLine;decide),fun t ht=> ?_⟩;have st:=aF (o:=HO.tup [V.str (Str.ofString "box"),V.str (BK z.toNat)]) ht;exact k (.ref t) (.box z.toNat) _ (Ju aq pO pO) (by show z.toNat<8;omega) (R2.keep st) ((k1.trans k2).trans (.same R2 st))
  ·have w:0<kind:=by
    have:¬kind=0:=fun z=>w (decide_eq_true (by rw [z]));omega
   obtain ⟨m,em,m0,m1⟩:=aaz kind w d1;refine ⟨_,rfl,(by show 3<=sizeLine;decide),fun p hp=> ?_⟩;have sp:=aF (o:=HO.lst [V.int 0,V.int 1000,V.int 12]) hp;refine ⟨_,rfl,_,_,_,_,rfl,rfl,bO.of aq,em,r,m,rfl,R1.keep sp,m0,by omega,fun z H2 z0 z1 R2 k2=> ?_⟩;refine ⟨(by show 2<=sizeLine;decide),fun t ht=> ?_⟩;have st:=aF (o:=HO.tup [V.str (Str.ofString "number"),V.int z]) ht;exact k (.ref t) (.num z) _ (Ju aq pO B_) ⟨z0,by omega⟩ (R2.keep st) (((k1.trans (.same R1 sp)).trans k2).trans (.same R2 st))
def Ib (K:PySem.W.Frag):Sp:=fun vs H Q _=>∃r:Addr,vs=[.ref r]/\cC H r /\ ∀(v:V) (p:GX) (H':Hp),Dat H' v (Gj p)->Cv p->cC H' r->KR r H H'->Q v H'
theorem Ua {f:Addr} {fd:FuncData} (F:rm K "_law_worth" "_law_worth" lA f fd) (bY:FnAt P w K mg base 1 "_law_draw" ["reel","many"] (kZ K)) (Lx:FnAt P w K mg base 2 "_law_plain" ["reel"] (Ih K)):dM P w K mg base tV 3 f fd ["reel"] (Ib K):=by
 refine F.ok Bd (fun vs H Q E h=> ?_) (fun cdv A outer s H vs Q E hr h=> ?_)
 ·obtain ⟨r,rfl,_⟩:=h
  rfl
 ·obtain ⟨r,rfl,R0,k⟩:=h
  refine ⟨_,(aA (aX (i:=1) Bd.nd rfl (Or.inl rfl) (bG bY (hr.mono (by decide)) (by rfl) (aj (pv 0) (aj au ak))))
   (aA (aX (i:=2) Bd.nd rfl (Or.inl rfl) (bG Lx (hr.mono (by decide)) (by rfl) (aj (pv 0) ak)))
   (aA (bI (aK PK (pv 1) au (aO _)) (aG (aN (pv 2))) aR)
   (aG (aN (cF (aj (aV (aU (K:=K) rfl) (cO (aj aM (aj aM ak))) (bB Et (pv 1) au) (fun _ _=>rfl)) (aj (pv 2) (aj (bG Lx (hr.mono (by decide)) (by rfl) (aj (pv 0) ak)) ak))))))))), ?_⟩
  refine ⟨_,rfl,r,4,rfl,R0,by decide,by decide,fun kind H1 d0 d1 R1 k1=> ?_⟩;refine ⟨_,rfl,r,rfl,R1,fun v p H2 dv Hg R2 k2=> ?_⟩;refine ⟨_,rfl,_,_,rfl,rfl,_,rfl, ?_⟩;refine cD (fun _=> ?_) (fun w=> ?_)
  ·exact ⟨_,rfl,k v (.one p) H2 dv Hg R2 (k1.trans k2)⟩
  ·have w:¬kind<2:=fun z=>w (decide_eq_true z)
   refine ⟨(by show 2<=sizeLine;decide),fun q hq=> ?_⟩;have sq:=aF (o:=HO.lst [V.str (Str.ofString "plus"),V.str (Str.ofString "minus")]) hq
   obtain ⟨o,eo⟩:∃o:Bool,vq [V.str (Str.ofString "plus"),V.str (Str.ofString "minus")] (kind - 2)=some (V.str (if o then Str.ofString "plus" else Str.ofString "minus")):=by
    have:kind=2\/kind=3:=by omega
    rcases this with rfl|rfl
    ·exact ⟨true,rfl⟩
    ·exact ⟨false,rfl⟩
   refine ⟨_,rfl,_,_,rfl,rfl,_,_,_,_,rfl,rfl,bO.of aq,eo,_,rfl,_,rfl,r,rfl,R2.keep sq,fun v2 p2 H3 dv2 aak R3 k3=> ?_⟩;refine ⟨(by show 3<=sizeLine;decide),fun t ht=> ?_⟩;have st:=aF (o:=HO.tup [V.str (if o then Str.ofString "plus" else Str.ofString "minus"),v,v2]) ht;have dv':=Dat.keep st.tups _ (Bo p) (Dat.keep ((R2.keep sq).tups k3.1) _ (Bo p) (Dat.keep sq.tups _ (Bo p) dv));have adx:=Dat.keep st.tups _ (Bo p2) dv2;refine k (.ref t) (.two o p p2) _ ?_ ⟨Hg,aak⟩ (R3.keep st) ((((k1.trans k2).trans (.same R2 sq)).trans k3).trans (.same R3 st));cases o with
   | true=>exact Qk aq pO dv' adx
   | false=>exact Qk aq pO dv' adx
def H_ (s:Int) (r:Rw):Prop:=∀k,M_ r=some k->(k:Int)<=s
def Tr (K:PySem.W.Frag):Sp:=fun vs H Q _=>∃(r:Addr) (m:Nat) (size:Int),vs=[.ref r,.int (m:Nat),.int size]/\cC H r/\(1<=m/\m<=20)/\(0<=size/\size<=100) /\ ∀(v:V) (x:Rw) (H':Hp),Dat H' v (Gg x)->Kg m x->H_ size x->cC H' r->KR r H H'->Q v H'
theorem aas {f:Addr} {fd:FuncData} (F:rm K "_law_row" "_law_row" uN f fd) (bY:FnAt P w K mg base 1 "_law_draw" ["reel","many"] (kZ K)) (tR:FnAt P w K mg base 3 "_law_worth" ["reel"] (Ib K)):dM P w K mg base tV 4 f fd ["reel","many","size"] (Tr K):=by
 refine F.ok zA (fun vs H Q E h=> ?_) (fun cdv A outer s H vs Q E hr h=> ?_)
 ·obtain ⟨r,many,size,rfl,_⟩:=h
  rfl
 ·obtain ⟨r,many,size,rfl,R0,⟨m0,m1⟩,⟨z0,z1⟩,k⟩:=h
  refine ⟨_,(aA (aX (i:=3) zA.nd rfl (Or.inl rfl) (bG bY (hr.mono (by decide)) (by rfl) (aj (pv 0) (aj au ak))))
   (aA (aX (i:=4) zA.nd rfl (Or.inl rfl) (aV wH aM (bG bY (hr.mono (by decide)) (by rfl) (aj (pv 0) (aj au ak))) (fun _ _=>rfl)))
   (aA (aX (i:=5) zA.nd rfl (Or.inl rfl) (bG bY (hr.mono (by decide)) (by rfl) (aj (pv 0) (aj (pv 1) ak))))
   (aA (aX (i:=6) zA.nd rfl (Or.inl rfl) (bG bY (hr.mono (by decide)) (by rfl) (aj (pv 0) (aj (bB dJ (pv 2) au) ak))))
   (aA (bI (aK cB (pv 3) au (aO _)) (aG (aN (cF (aj aM (aj (pv 4) (aj (pv 5) ak)))))) aR)
   (aA (bI (aK cB (pv 3) au (aO _)) (aG (aN (cF (aj aM (aj (pv 5) (aj (bG tR (hr.mono (by decide)) (by rfl) (aj (pv 0) ak)) ak)))))) aR)
   (aA (bI (aK cB (pv 3) au (aO _)) (aG (aN (cF (aj aM (aj (pv 4) (aj (pv 5) (aj (bG tR (hr.mono (by decide)) (by rfl) (aj (pv 0) ak)) ak))))))) aR)
   (aA (bI (aK cB (pv 3) au (aO _)) (aG (aN (cF (aj aM (aj (pv 4) (aj (bG tR (hr.mono (by decide)) (by rfl) (aj (pv 0) ak)) ak)))))) aR)
   (aA (bI (aK cB (pv 3) au (aO _)) (aG (aN (cF (aj aM (aj (bG tR (hr.mono (by decide)) (by rfl) (aj (pv 0) ak)) ak))))) aR)
   (aA (bI (aK cB (pv 3) au (aO _)) (aG (aN (cF (aj aM (aj (pv 6) ak))))) aR)
   (aG (aN (cF (aj aM (aj (aV wH aM (bB Et (pv 3) au) (fun _ _=>rfl)) (aj (bG tR (hr.mono (by decide)) (by rfl) (aj (pv 0) ak)) (aj (bG tR (hr.mono (by decide)) (by rfl) (aj (pv 0) ak)) (aj (pv 6) ak)))))))))))))))))), ?_⟩
  refine ⟨_,rfl,r,8,rfl,R0,by decide,by decide,fun kind H1 d0 d1 R1 k1=> ?_⟩;refine ⟨_,rfl,r,8,rfl,R1,by decide,by decide,fun bx H2 b0 b1 R2 k2=> ?_⟩;refine ⟨_,_,_,rfl,rfl,Qs,Qm b0 (by omega), ?_⟩;refine ⟨_,rfl,_,rfl,r,many,rfl,R2,by omega,by omega,fun cell H3 c0 c1 R3 k3=> ?_⟩;refine ⟨_,rfl,_,rfl,_,_,rfl,rfl,r,size+1,rfl,R3,by omega,by omega,fun to_ H4 t0 t1 R4 k4=> ?_⟩;obtain ⟨c,rfl⟩:=Int.eq_ofNat_of_zero_le c0;obtain ⟨tt,rfl⟩:=Int.eq_ofNat_of_zero_le t0;have k04:=((k1.trans k2).trans k3).trans k4;have bk:bx.toNat<8:=by omega
  have ck:c<many:=by omega
  have done:∀{H5:Hp} {vs:List V} {ds:List PyData} (t:Addr) (x:Rw),Gg x = .tuple ds->Kg many x->H_ size x->cC H5 r->KR r H4 H5->H5 t=none->aQ H5 vs ds->q_ ds=true->Q (.ref t) (upd H5 t (.tup vs)):=fun {H5 vs ds} t x ex rok tok R5 k5 ht d im=>by
   have st:=aF (o:=HO.tup vs) ht;exact k (.ref t) x _ (by rw [ex];exact VR aq (aQ.keep st.tups _ im d)) rok tok (R5.keep st) ((k04.trans k5).trans (.same R5 st))
  have nog:∀{x:Rw},M_ x=none->H_ size x:=fun e k' e'=>by rw [e] at e';cases e'
  refine ⟨_,rfl,rfl,_,rfl, ?_⟩;refine cD (fun _=> ?_) (fun w0=> ?_)
  ·refine ⟨_,rfl,_,rfl,(by show 3<=sizeLine;decide),fun t ht=> ?_⟩
   exact done t (.load bx.toNat c) rfl ⟨bk,ck⟩ (nog rfl) R4 (KR.refl _ _) ht (by simp only [aQ];exact ⟨pO,pO,B_,trivial⟩) rfl
  refine ⟨_,rfl,rfl,_,rfl, ?_⟩;refine cD (fun _=> ?_) (fun w1=> ?_)
  ·refine ⟨_,rfl,_,rfl,r,rfl,R4,fun v p H5 dv Hg R5 k5=> ?_⟩
   refine ⟨(by show 3<=sizeLine;decide),fun t ht=> ?_⟩;exact done t (.store c p) rfl ⟨ck,Hg⟩ (nog rfl) R5 k5 ht (by simp only [aQ];exact ⟨pO,B_,dv,trivial⟩) (by simp only [q_,xT,o8,Bool.and_self])
  refine ⟨_,rfl,rfl,_,rfl, ?_⟩;refine cD (fun _=> ?_) (fun w2=> ?_)
  ·refine ⟨_,rfl,_,rfl,_,rfl,r,rfl,R4,fun v p H5 dv Hg R5 k5=> ?_⟩
   refine ⟨(by show 4<=sizeLine;decide),fun t ht=> ?_⟩;exact done t (.swap bx.toNat c p) rfl ⟨bk,ck,Hg⟩ (nog rfl) R5 k5 ht (by simp only [aQ];exact ⟨pO,pO,B_,dv,trivial⟩) (by simp only [q_,xT,o8,Bool.and_self])
  refine ⟨_,rfl,rfl,_,rfl, ?_⟩;refine cD (fun _=> ?_) (fun w3=> ?_)
  ·refine ⟨_,rfl,_,rfl,r,rfl,R4,fun v p H5 dv Hg R5 k5=> ?_⟩
   refine ⟨(by show 3<=sizeLine;decide),fun t ht=> ?_⟩;exact done t (.uX bx.toNat p) rfl ⟨bk,Hg⟩ (nog rfl) R5 k5 ht (by simp only [aQ];exact ⟨pO,pO,dv,trivial⟩) (by simp only [q_,xT,o8,Bool.and_self])
  refine ⟨_,rfl,rfl,_,rfl, ?_⟩;refine cD (fun _=> ?_) (fun w4=> ?_)
  ·refine ⟨_,rfl,r,rfl,R4,fun v p H5 dv Hg R5 k5=> ?_⟩
   refine ⟨(by show 2<=sizeLine;decide),fun t ht=> ?_⟩;exact done t (.say p) rfl Hg (nog rfl) R5 k5 ht (by simp only [aQ];exact ⟨pO,dv,trivial⟩) (by simp only [q_,xT,o8,Bool.and_self])
  refine ⟨_,rfl,rfl,_,rfl, ?_⟩;refine cD (fun _=> ?_) (fun w5=> ?_)
  ·refine ⟨_,rfl,(by show 2<=sizeLine;decide),fun t ht=> ?_⟩
   exact done t (.go tt) rfl trivial (fun k' e'=>by cases e';omega) R4 (KR.refl _ _) ht (by simp only [aQ];exact ⟨pO,B_,trivial⟩) rfl
  have ne:∀{m:Int},¬decide (V.int kind=V.int m)=true->kind≠m:=fun w z=>w (decide_eq_true (by rw [z]));have:=ne w0;have:=ne w1;have:=ne w2;have:=ne w3;have:=ne w4;have:=ne w5
  obtain ⟨c',q,ec',eq'⟩:∃(c':Nat) (q:Bool),vq (Str.ofString "=<").cps.toList (kind - 6)=some c'/\(⟨#[c']⟩:Str)=(if q then Str.ofString "=" else Str.ofString "<"):=by
   have:kind=6\/kind=7:=by omega
   rcases this with rfl|rfl
   ·exact ⟨61,true,by decide,by decide⟩
   ·exact ⟨60,false,by decide,by decide⟩
  refine ⟨_,rfl,_,_,rfl,rfl,_,_,c',rfl,rfl,(by decide),ec', ?_⟩;rw [eq'];refine ⟨_,rfl,r,rfl,R4,fun v p H5 dv Hg R5 k5=> ?_⟩;refine ⟨_,rfl,r,rfl,R5,fun v2 p2 H6 dv2 aak R6 k6=> ?_⟩;refine ⟨_,rfl,(by show 5<=sizeLine;decide),fun t ht=> ?_⟩;have dv':=Dat.keep (R5.tups k6.1) _ (o8 p) dv;exact done t (.xH q p p2 tt) rfl ⟨Hg,aak⟩ (fun k' e'=>by cases e';omega) R6 (k5.trans k6) ht (by simp only [aQ];exact ⟨pO,pO,dv',dv2,B_,trivial⟩) (by simp only [q_,xT,o8,Bool.and_self])
def Ws (H:Hp) (a:Addr) (rs:List Rw):Prop:=∃vs,H a=some (.lst vs)/\aQ H vs (rs.map Gg)
theorem Ws.same {H H':Hp} {a:Addr} {rs:List Rw} (h:Ws H a rs) (k:Same H H'):Ws H' a rs:=by
 obtain ⟨vs,e,d⟩:=h;exact ⟨vs,k _ _ e,d.same k _⟩
def HsR (H:Hp) (as:List Addr) (dG:List (List Rw)):Prop:=as.length=dG.length /\ ∀(i:Nat) (a:Addr) (rs:List Rw),as[i]? = some a->dG[i]? = some rs->Ws H a rs
theorem HsR.same {H H':Hp} {as:List Addr} {dG:List (List Rw)} (h:HsR H as dG) (k:Same H H'):HsR H' as dG:=⟨h.1,fun i a rs e1 e2=>(h.2 i a rs e1 e2).same k⟩
def ZM (H:Hp) (t p:Addr) (as:List Addr) (m:Nat) (dG:List (List Rw)):Prop:=H t=some (.tup [.int (m:Nat),.ref p])/\H p=some (.lst (as.map V.ref))/\HsR H as dG
section
variable {D r:Addr} {te:TE} {Q:VK} {rest:St} {H1:Hp} {n:Nat} {G:Rw->Prop}
theorem Oh (hD:H1 D=none) (hR:cC H1 r) (hx:n<=100000)
 (hs:∀i H (F:VK),i<n->KR r H1 H->cC H r->(∀v x H',KR r H H'->cC H' r->Dat H' v (Gg x)->G x->F v H')->te (some (.int (0+i))::rest) H F)
 (hd:∀H (rs:List Rw),rs.length=n->(∀x∈rs,G x)->Ws H D rs->KR r H1 H->Off H r D->cC H r->Q (.ref D) H):tU (Wq 0 n) (qO 0) Qy te Q D (none::rest) H1:=by
 have nr:=hR.ne hD;have mv:∀{H:Hp} {o:HO},KR r H1 H->KR r H1 (upd H D o):=fun k=>⟨fun c u e m=>by rw [aW (bw e hD)];exact k.1 c u e m,fun x o e n f=>Off.set nr (k.2 x o e n f)⟩;have s0:=aF (o:=HO.lst []) hD;refine yW (lo:=0) (n:=n) (fun i σ H=>(∃v,σ=v::rest) /\ ∃(vs:List V) (rs:List Rw),rs.length=i/\(∀x∈rs,G x)/\H D=some (.lst vs)/\aQ H vs (rs.map Gg)/\KR r H1 H/\cC H r/\Off H r D) ⟨⟨none,rfl⟩,[],[],rfl,fun x hx=>(by cases hx),aq,by simp [aQ],.same hR s0,hR.keep s0,(hR.off hD).same hR s0⟩ ?_ (fun σ H ⟨_,vs,rs,hl,ro,e,d,k,R,f⟩=>hd H rs hl ro ⟨vs,e,d⟩ k f R);rintro i σ H hi ⟨⟨v,rfl⟩,vs,rs,hl,ro,e,d,k1,R1,f1⟩;refine hs i H _ hi k1 R1 fun y x H' k2 R2 dy xo=> ?_;have vl:vs.length=i:=by rw [d.length,List.length_map,hl]
 have e2:=k2.1 _ _ e nr;have f2:=k2.2 _ _ e nr f1;have kp:Kp D H' (upd H' D (.lst (vs++[y]))):=Kp.set;have tp:=kp.tups e2;refine ⟨vs,e2,by rw [sizeLine_eq];omega,⟨_,rfl⟩,vs++[y],rs++[x],by simp [hl],fun z hz=> ?_,aq, ?_,mv (k1.trans k2),R2.set nr f2,f2.set nr⟩
 ·rcases List.mem_append.mp hz with hz|hz
  ·exact ro z hz
  ·have:z=x:=by simpa using hz
   rw [this];exact xo
 ·rw [List.map_append]
  exact Bx (aQ.keep (fun a xs h=>tp _ _ (R1.tups k2.1 _ _ h)) _ (nR _ Bp _) d) (Dat.keep tp _ (Bp x) dy)
end
def D_:HD->Pl
 | .num n=> .num n
 | .box b=> .box (BK b)
def rW:GX->Wo
 | .one x=> .one (D_ x)
 | .two q x y=> .two q (D_ x) (D_ y)
def pK:Rw->Row
 | .load b c=> .gen "load" [.s (BK b),.n (c:Nat)]
 | .store c e=> .gen "store" [.n (c:Nat),.w (rW e)]
 | .swap b c e=> .gen "swap" [.s (BK b),.n (c:Nat),.w (rW e)]
 | .uX b e=> .gen "let" [.s (BK b),.w (rW e)]
 | .say e=> .gen "say" [.w (rW e)]
 | .go k=> .gen "go" [.n (k:Nat)]
 | .xH q e f k=> .xH (if q then "=" else "<") (rW e) (rW f) (k:Nat)
theorem Nh (x:HD):RX (D_ x)=Gf x:=by cases x<;>rfl
theorem Aw (e:GX):O7 (rW e)=Gj e:=by
 cases e with
 | one x=>exact Nh x
 | two q x y=>cases q<;>(show PyData.tuple [_,RX (D_ x),RX (D_ y)]=PyData.tuple [_,Gf x,Gf y];rw [Nh,Nh];rfl)
theorem Xg (r:Rw):Kl (pK r)=Gg r:=by
 cases r with
 | load b c=>rfl
 | store c e=>show PyData.tuple [_,_,O7 (rW e)]=_;rw [Aw];rfl
 | swap b c e=>show PyData.tuple [_,_,_,O7 (rW e)]=_;rw [Aw];rfl
 | uX b e=>show PyData.tuple [_,_,O7 (rW e)]=_;rw [Aw];rfl
 | say e=>show PyData.tuple [_,O7 (rW e)]=_;rw [Aw];rfl
 | go k=>rfl
 | xH q e f k=>show PyData.tuple [_,_,O7 (rW e),O7 (rW f),_]=_;rw [Aw,Aw];rfl
theorem Dj:∀b:Fin 8,BK b.val∈words:=by decide
theorem T6 {x:HD} (h:J3 x):RN (D_ x):=by
 cases x with
 | num n=>exact ⟨h.1,by have:=h.2;omega⟩
 | box b=>exact Dj ⟨b,h⟩
theorem GZ {e:GX} (h:Cv e):RM (rW e):=by
 cases e with
 | one x=>exact T6 h
 | two q x y=>exact ⟨T6 h.1,T6 h.2⟩
theorem TX {m:Nat} {s:Int} {r:Rw} (hm:m<=20) (hs:s<=900) (h:Kg m r) (g:H_ s r):Ga (pK r):=by
 cases r with
 | load b c=>exact ⟨by decide,by decide,by simp,fun p hp=>by simp only [List.mem_cons,List.not_mem_nil,or_false] at hp;rcases hp with rfl|rfl;exact Dj ⟨b,h.1⟩;exact ⟨by omega,by have:=h.2;omega⟩⟩
 | store c e=>exact ⟨by decide,by decide,by simp,fun p hp=>by simp only [List.mem_cons,List.not_mem_nil,or_false] at hp;rcases hp with rfl|rfl;exact ⟨by omega,by have:=h.1;omega⟩;exact GZ h.2⟩
 | swap b c e=>exact ⟨by decide,by decide,by simp,fun p hp=>by simp only [List.mem_cons,List.not_mem_nil,or_false] at hp;rcases hp with rfl|rfl|rfl;exact Dj ⟨b,h.1⟩;exact ⟨by omega,by have:=h.2.1;omega⟩;exact GZ h.2.2⟩
 | uX b e=>exact ⟨by decide,by decide,by simp,fun p hp=>by simp only [List.mem_cons,List.not_mem_nil,or_false] at hp;rcases hp with rfl|rfl;exact Dj ⟨b,h.1⟩;exact GZ h.2⟩
 | say e=>exact ⟨by decide,by decide,by simp,fun p hp=>by simp only [List.mem_cons,List.not_mem_nil,or_false] at hp;rcases hp with rfl;exact GZ h⟩
 | go k=>exact ⟨by decide,by decide,by simp,fun p hp=>by simp only [List.mem_cons,List.not_mem_nil,or_false] at hp;rcases hp with rfl;have:=g k rfl;exact ⟨by omega,by omega⟩⟩
 | xH q e f k=>have:=g k rfl;exact ⟨by cases q<;>decide,GZ h.1,GZ h.2,by omega,by omega⟩
def PgW (n z m:Nat) (dG:List (List Rw)):Prop:=(1<=m/\m<=20)/\(1<=dG.length/\dG.length<=n) /\ ∀rs∈dG,rs.length<=z /\ ∀x∈rs,Kg m x/\H_ rs.length x
theorem Xp {H:Hp} {t p:Addr} {as:List Addr} {m:Nat} {dG:List (List Rw)} (h:ZM H t p as m dG):Wn H t p as (m:Nat) (dG.map fun rs=>rs.map pK):=by
 obtain ⟨a,b,c,d⟩:=h;refine ⟨a,b,by rw [List.length_map];exact c,fun i x rs' e1 e2=> ?_⟩;rw [List.getElem?_map] at e2;cases e:dG[i]? with
 | none=>rw [e] at e2;cases e2
 | some rs=>
   rw [e] at e2;cases e2;obtain ⟨vs,hx,dx⟩:=d i x rs e1 e;exact ⟨vs,hx,by rw [List.map_map];rw [show (Kl∘pK)=Gg from funext Xg];exact dx⟩
def M7:Str:=Str.ofString " !\"#$&'()*+,-./0123456789:;<=>?@ABCDEFGHIJKLMNOPQRSTUVWXYZ[\\]^_`abcdefghijklmnopqrstuvwxyz{|}~\n"
theorem Pn:M7.cps.toList.length=95:=by decide +kernel
theorem Tw:M7.length<=sizeLine:=by
 have:M7.length=95:=by rw [←len_list];exact Pn
 rw [sizeLine_eq,this];decide
theorem Tz {z:Int} (h0:0<=z) (h1:z<95):∃c,vq M7.cps.toList z=some c:=by
 obtain ⟨n,rfl⟩:=Int.eq_ofNat_of_zero_le h0;exact ⟨_,bW (List.getElem?_eq_getElem (by rw [Pn];omega))⟩
def CK (K:PySem.W.Frag):Sp:=fun vs H Q _=>vs=[]/\Q (.str M7) H
theorem Ub {f:Addr} {fd:FuncData} (F:rm K "_law_signs" "_law_signs" lB f fd):dM P w K mg base tV 1 f fd [] (CK K):=by
 refine F.ok QD (fun vs H Q E h=> ?_) (fun cdv A outer s H vs Q E hr h=> ?_)
 ·obtain ⟨rfl,_⟩:=h
  rfl
 ·obtain ⟨rfl,k⟩:=h
  refine ⟨_,(aG (aN aM)), ?_⟩;exact k
def Mw (K:PySem.W.Frag):Sp:=fun vs H Q _=>∃r:Addr,vs=[.ref r]/\cC H r /\ ∀(x:Str) (H':Hp),x.length<=1->cC H' r->KR r H H'->Q (.str x) H'
theorem XR {f:Addr} {fd:FuncData} (F:rm K "_law_sign" "_law_sign" pW f fd) (bY:FnAt P w K mg base 1 "_law_draw" ["reel","many"] (kZ K)) (Gd:FnAt P w K mg base 1 "_law_signs" [] (CK K)):dM P w K mg base tV 2 f fd ["reel"] (Mw K):=by
 refine F.ok Kf (fun vs H Q E h=> ?_) (fun cdv A outer s H vs Q E hr h=> ?_)
 ·obtain ⟨r,rfl,_⟩:=h
  rfl
 ·obtain ⟨r,rfl,R0,k⟩:=h
  refine ⟨_,(aA (aX (i:=1) Kf.nd rfl (Or.inl rfl) (T9 Gd (hr.mono (by decide)) (by rfl)))
   (aG (aN (aV wH (pv 1) (bG bY (hr.mono (by decide)) (by rfl) (aj (pv 0) (aj au ak))) (fun _ _=>rfl))))), ?_⟩
  refine ⟨rfl,_,rfl,_,rfl,r,95,rfl,R0,by decide,by decide,fun z H1 z0 z1 R1 k1=> ?_⟩;obtain ⟨c,ec⟩:=Tz z0 z1;exact ⟨M7,z,c,rfl,rfl,Tw,ec,k _ H1 (Nat.le_refl 1) R1 k1⟩
section
variable {D r:Addr} {te:TE} {Q:VK} {rest:St} {H1:Hp} {n:Nat}
theorem Ro (hD:H1 D=none) (hR:cC H1 r) (hx:n<=100000)
 (hs:∀i H (F:VK),i<n->KR r H1 H->cC H r->(∀(x:Str) H',x.length<=1->cC H' r->KR r H H'->F (.str x) H')->te (some (.int (0+i))::rest) H F)
 (hd:∀H (xs:List Str),xs.length=n->(∀x∈xs,x.length<=1)->H D=some (.lst (xs.map V.str))->KR r H1 H->cC H r->Q (.ref D) H):tU (Wq 0 n) (qO 0) Qy te Q D (none::rest) H1:=by
 have nr:=hR.ne hD;have mv:∀{H:Hp} {o:HO},KR r H1 H->KR r H1 (upd H D o):=fun k=>⟨fun c u e m=>by rw [aW (bw e hD)];exact k.1 c u e m,fun x o e n f=>Off.set nr (k.2 x o e n f)⟩;have s0:=aF (o:=HO.lst []) hD;refine yW (lo:=0) (n:=n) (fun i σ H=>(∃v,σ=v::rest) /\ ∃(xs:List Str),xs.length=i/\(∀x∈xs,x.length<=1)/\H D=some (.lst (xs.map V.str))/\KR r H1 H/\cC H r/\Off H r D) ⟨⟨none,rfl⟩,[],rfl,fun x hx=>(by cases hx),aq,.same hR s0,hR.keep s0,(hR.off hD).same hR s0⟩ ?_ (fun σ H ⟨_,xs,hl,ro,e,k,R,f⟩=>hd H xs hl ro e k R);rintro i σ H hi ⟨⟨v,rfl⟩,xs,hl,ro,e,k1,R1,f1⟩;refine hs i H _ hi k1 R1 fun x H' xo R2 k2=> ?_;have e2:=k2.1 _ _ e nr;have f2:=k2.2 _ _ e nr f1;refine ⟨xs.map V.str,e2,by rw [sizeLine_eq,List.length_map];omega,⟨_,rfl⟩,xs++[x],by simp [hl],fun z hz=> ?_,by rw [aq,List.map_append];rfl,mv (k1.trans k2),R2.set nr f2,f2.set nr⟩;rcases List.mem_append.mp hz with hz|hz
 ·exact ro z hz
 ·have:z=x:=by simpa using hz
  rw [this];exact xo
end
def M5:List Str:=[Str.ofString "0",Str.ofString "7",Str.ofString "20",Str.ofString "21",Str.ofString "19",Str.ofString "60",Str.ofString "61",Str.ofString "999",Str.ofString "1000",Str.ofString "00",Str.ofString "07",Str.ofString "1_0",Str.ofString "-1",Str.ofString "+1",Str.ofString "a",Str.ofString "h",Str.ofString "i",Str.ofString "A"]
def M4:List Str:=[Str.ofString "a+b",Str.ofString "9-h",Str.ofString "a+b-c",Str.ofString "+",Str.ofString "a+",Str.ofString "-b",Str.ofString "a=b",Str.ofString "",Str.ofString "=",Str.ofString "<",Str.ofString ">",Str.ofString "go",Str.ofString "hand",Str.ofString "cells",Str.ofString "load"]
def Tt:List Str:=[Str.ofString "store",Str.ofString "swap",Str.ofString "let",Str.ofString "say",Str.ofString "unless",Str.ofString "Hand",Str.ofString "ab",Str.ofString "when",Str.ofString "if",Str.ofString "jump",Str.ofString "print"]
def som:List Str:=M5++M4++Tt
theorem Pj:som.length=44:=by decide
theorem Z_:∀x∈som,x.length<=6:=by decide +kernel
theorem Yv:∀(l:List Str),(∀x∈l,x.length<=1)->(Txt.join (Str.ofString "") l).length<=l.length
 | [],_=>by show (Txt.join (Str.ofString "") []).length<=0;decide
 | x::l,h=>by
   have:=zM (Str.ofString "") x l 1 fun y hy=>h y (by simp [hy]);have hx:=h x (by simp);have e:(Str.ofString "").length=0:=rfl;rw [e] at this;rw [List.length_cons];omega
def Mu (K:PySem.W.Frag):Sp:=fun vs H Q _=>∃r:Addr,vs=[.ref r]/\cC H r /\ ∀(x:Str) (H':Hp),x.length<=6->cC H' r->KR r H H'->Q (.str x) H'
theorem XM {f:Addr} {fd:FuncData} (F:rm K "_law_word" "_law_word" pR f fd) (bY:FnAt P w K mg base 1 "_law_draw" ["reel","many"] (kZ K)) (Gd:FnAt P w K mg base 1 "_law_signs" [] (CK K)) (Bt:Cm mg):dM P w K mg base tV 2 f fd ["reel"] (Mu K):=by
 refine F.ok sY (fun vs H Q E h=> ?_) (fun cdv A outer s H vs Q E hr h=> ?_)
 ·obtain ⟨r,rfl,_⟩:=h
  rfl
 ·obtain ⟨r,rfl,R0,k⟩:=h
  refine ⟨_,(aA (aX (i:=1) sY.nd rfl (Or.inl rfl) (bG bY (hr.mono (by decide)) (by rfl) (aj (pv 0) (aj au ak))))
   (aA (bI (aK zJ (pv 1) au (aO _)) (aA (aX (i:=2) sY.nd rfl (Or.inr rfl) (T9 Gd (hr.mono (by decide)) (by rfl)))
   (aG (aN (eX (K:=K) rfl PySem.F.plainAttrs_str PySem.F.slot_str_join PySem.F.type_str_join (tG (K:=K) rfl) aM (aj (uR rfl (N:=["k","signs","reel"]) (own:=["k"]) (caps:=[2,0]) (bZ.of (by kernel_rfl)) (qp (by rfl) Bt.rH (aj (bB dJ au (bG bY (hr.mono (by decide)) (by rfl) (aj (pv 0) (aj au ak)))) ak)) (fun _ _ _ _=>(cM (i:=0) (show List.Nodup (["k","signs","reel"]:List Str) by decide +kernel) rfl (Or.inl rfl))) (fun _ _ _ _=>rD) (fun _ _ _ _=>(aV wH (pv 1) (bB dJ au (bG bY (hr.mono (by decide)) (by rfl) (aj (pv 2) (aj au ak)))) (fun _ _=>rfl)))) ak))))) aR)
   (@aA _ _ _ _ _ (@aX _ _ 3 _ _ _ _ sY.nd rfl (Or.inl rfl) (@IW _ _ _ ["0","7","20","21","19","60","61","999","1000","00","07","1_0","-1","+1","a","h","i","A"] (by decide +kernel)) (by rfl) (by first |exact Or.inr rfl|exact Or.inl rfl))
   (aA (aX (i:=3) sY.nd rfl (Or.inl rfl) (bB o7 (pv 3) (@IW _ _ _ ["a+b","9-h","a+b-c","+","a+","-b","a=b","","=","<",">","go","hand","cells","load"] (by decide +kernel))))
   (aA (aX (i:=3) sY.nd rfl (Or.inl rfl) (bB o7 (pv 3) (@IW _ _ _ ["store","swap","let","say","unless","Hand","ab","when","if","jump","print"] (by decide +kernel))))
   (aG (aN (aV (aU (K:=K) rfl) (pv 3) (pv 1) (fun _ _=>rfl))))))))), ?_⟩
  refine ⟨_,rfl,r,60,rfl,R0,by decide,by decide,fun pk H1 p0 p1 R1 k1=> ?_⟩;refine ⟨_,rfl,_,_,rfl,rfl,_,rfl,cD (fun w=> ?_) (fun w=> ?_)⟩
  ·refine ⟨rfl,rfl,_,rfl,r,6,rfl,R1,by decide,by decide,fun nz H2 n0 n1 R2 k2=>⟨_,_,rfl,rfl,1+nz,rfl,by omega,by omega,fun D hD=> ?_⟩⟩
   refine Ro hD R2 (by omega) (fun j H3 F hj k3 R3 kF=> ?_) (fun H3 xs xl x1 e3 k3 R3=> ?_)
   ·refine ⟨_,rfl,_,rfl,r,93,rfl,R3,by decide,by decide,fun z H4 z0 z1 R4 k4=>⟨_,_,rfl,rfl, ?_⟩⟩
    obtain ⟨c,ec⟩:=Tz (z:=1+z) (by omega) (by omega);exact ⟨M7,1+z,c,rfl,rfl,Tw,ec,kF _ H4 (Nat.le_refl 1) R4 k4⟩
   ·have jl:=Yv xs x1
    have sm:=sum_bound (fun s:Str=>s.length) 1 xs x1
    refine ⟨_,D,xs,rfl,rfl,bO.of e3,by have e:(Str.ofString "").length=0:=rfl
                                       rw [e];omega,k _ H3 (by omega) R3 ((k1.trans k2).trans k3)⟩
  ·refine ⟨(by show 18<=sizeLine;decide),fun q1 hq1=> ?_⟩
   have s1:=aF (o:=HO.lst (M5.map V.str)) hq1;refine ⟨_,rfl,(by show 15<=sizeLine;decide),fun q2 hq2=> ?_⟩;have s2:=aF (o:=HO.lst (M4.map V.str)) hq2;refine ⟨q1,q2,M5.map V.str,M4.map V.str,rfl,rfl,s2 _ _ aq,aq,(by show 18+15<=sizeLine;decide),fun q3 LR=> ?_⟩;have s3:=aF (o:=HO.lst (M5.map V.str++M4.map V.str)) LR;refine ⟨_,rfl,(by show 11<=sizeLine;decide),fun q4 Ym=> ?_⟩;have s4:=aF (o:=HO.lst (Tt.map V.str)) Ym;refine ⟨q3,q4,M5.map V.str++M4.map V.str,Tt.map V.str,rfl,rfl,s4 _ _ aq,aq,(by show 33+11<=sizeLine;decide),fun q5 hq5=> ?_⟩;have s5:=aF (o:=HO.lst (M5.map V.str++M4.map V.str++Tt.map V.str)) hq5;have S5:=(((s1.trans s2).trans s3).trans s4).trans s5;obtain ⟨n,rfl⟩:=Int.eq_ofNat_of_zero_le p0
   have nl:n<44:=by
    have:¬((n:Nat):Int)>43:=fun z=>w (decide_eq_true z);omega
   have en:som[n]? = some (som[n]'(by rw [Pj];exact nl)):=List.getElem?_eq_getElem _;generalize som[n]'(by rw [Pj];exact nl)=x at en;have ea:M5.map V.str++M4.map V.str++Tt.map V.str=som.map V.str:=by unfold som;rw [List.map_append,List.map_append]
   refine ⟨_,rfl,_,rfl,q5,_,_,V.str x,rfl,rfl,bO.of aq,bW (by rw [ea,List.getElem?_map,en];rfl), ?_⟩;exact k x _ (Z_ x (List.mem_of_getElem? en)) (R1.keep S5) (k1.trans (.same R1 S5))
def tot (l:List Str):Nat:=(l.map fun x=>x.length+1).sum
theorem CJ (a b:List Str):tot (a++b)=tot a+tot b:=by unfold tot;rw [List.map_append,List.sum_append]
theorem iR (x:Str) (a:List Str):tot (x::a)=x.length+1+tot a:=by unfold tot;rw [List.map_cons,List.sum_cons]
theorem zm:∀(l:List Str) (i:Nat) (x y:Str),l[i]? = some x->tot (l.set i y)+x.length=tot l+y.length
 | [],i,x,y,h=>by simp at h
 | z::l,0,x,y,h=>by
   cases h;rw [List.set_cons_zero,iR,iR];omega
 | z::l,i+1,x,y,h=>by
   rw [List.set_cons_succ,iR,iR];have:=zm l i x y (by simpa using h);omega
theorem HY:∀{l:List Str} {x:Str},x∈l->x.length+1<=tot l
 | z::l,x,h=>by
   rw [iR];rcases List.mem_cons.mp h with rfl|h
   ·omega
   ·have:=HY h;omega
theorem J_ (l:List Str) (i:Nat):tot (l.take i)+tot (l.drop i)=tot l:=by rw [←CJ,List.take_append_drop]
theorem Tf (l:List Str) (i:Nat):tot (l.drop (i+1))<=tot (l.drop i):=by
 cases h:l.drop i with
 | nil=>rw [show l.drop (i+1)=(l.drop i).drop 1 by rw [List.drop_drop],h];exact Nat.le_refl _
 | cons x m=>rw [show l.drop (i+1)=(l.drop i).drop 1 by rw [List.drop_drop],h,iR];simp
theorem DY (s:Str) (h:s.length=1):∀l:List Str,(Txt.join s l).length<=tot l/\(l≠[]->(Txt.join s l).length+1=tot l)
 | []=>⟨by show (Str.empty).length<=0;decide,fun z=>absurd rfl z⟩
 | x::l=>by
   have e:(Txt.join s (x::l)).length=x.length+tot l:=by
    rw [glued_cons,Str.length_append,Jy,List.map_map];unfold tot;congr 2;refine List.map_congr_left fun y _=> ?_;show (s++y).length=_;rw [Str.length_append,h];omega
   rw [e,iR];exact ⟨by omega,fun _=>by omega⟩
theorem G6 (x s:Str) (h:s.length=1):tot (Txt.split x s)=x.length+1:=by
 have:=(DY s h (Txt.split x s)).2 (qI x s);rw [←this,show Txt.join s (Txt.split x s)=Str.join s (Txt.split x s) from StrLaws.glued_eq_join _ _,StrLaws.join_split]
theorem O_ (l:List Str):l.length<=tot l:=by
 induction l with
 | nil=>exact Nat.le_refl _
 | cons x l ih=>rw [iR,List.length_cons];omega
theorem Pg (l:List Str):(l.map (·.length)).sum+l.length=tot l:=by
 induction l with
 | nil=>rfl
 | cons x l ih=>rw [iR,List.map_cons,List.sum_cons,List.length_cons];omega
theorem adA (l:List Str) (k:Nat):wM (l.map V.str) none (some (k:Int))=(l.take k).map V.str:=by rw [V1,List.map_take]
theorem cutD (l:List Str) (k:Nat):wM (l.map V.str) (some (k:Int)) none=(l.drop k).map V.str:=by rw [zT,List.map_drop]
def Ef (K:PySem.W.Frag):Sp:=fun vs H Q _=>∃(r a:Addr) (xs:List Str) (kd:Int),vs=[.ref r,.ref a,.int kd]/\cC H r/\H a=some (.lst (xs.map V.str))/\xs≠[]/\tot xs<=100000/\a≠r/\(0<=kd/\kd<=3) /\ ∀(b:Addr) (ys:List Str) (H':Hp),H' b=some (.lst (ys.map V.str))->tot ys<=2*tot xs+10->cC H' r->Q (.ref b) H'
theorem QX {f:Addr} {fd:FuncData} (F:rm K "_law_rows_spoilt" "_law_rows_spoilt" cX f fd) (bY:FnAt P w K mg base 1 "_law_draw" ["reel","many"] (kZ K)) (YK:FnAt P w K mg base 2 "_law_word" ["reel"] (Mu K)) (Bt:Cm mg):dM P w K mg base tV 3 f fd ["reel","rows","kind"] (Ef K):=by
 refine F.ok fD (fun vs H Q E h=> ?_) (fun cdv A outer s H vs Q E hr h=> ?_)
 ·obtain ⟨r,a,xs,kd,rfl,_⟩:=h
  rfl
 ·obtain ⟨r,a,xs,kd,rfl,R0,ha,xn,xt,nar,⟨kd0,kd3⟩,k⟩:=h
  refine ⟨_,(aA (aX (i:=3) fD.nd rfl (Or.inl rfl) (bG bY (hr.mono (by decide)) (by rfl) (aj (pv 0) (aj (aY (bD (K:=K) rfl) (by rfl) Bt.eG cY (aj (pv 1) ak)) ak))))
   (aA (aX (i:=4) fD.nd rfl (Or.inl rfl) (bG bY (hr.mono (by decide)) (by rfl) (aj (pv 0) (aj (aY (bD (K:=K) rfl) (by rfl) Bt.eG cY (aj (pv 1) ak)) ak))))
   (aA (bI (aK cB (pv 2) au (aO _)) (aG (aN (bB o7 (d_ (k_ (K:=K) rfl) (pv 1) fQ (fP (pv 3))) (d_ (k_ (K:=K) rfl) (pv 1) (fP (bB dJ (pv 3) au)) fQ)))) aR)
   (aA (bI (aK cB (pv 2) au (aO _)) (aG (aN (bB o7 (bB o7 (d_ (k_ (K:=K) rfl) (pv 1) fQ (fP (pv 4))) (cO (aj (aV (aU (K:=K) rfl) (pv 1) (pv 3) (fun _ _=>rfl)) ak))) (d_ (k_ (K:=K) rfl) (pv 1) (fP (pv 4)) fQ)))) aR)
   (aA (aX (i:=5) fD.nd rfl (Or.inl rfl) (cj (GF (K:=K) rfl) (by rfl) Bt.abb Yw (aj (pv 1) ak)))
   (aA (bI (aK cB (pv 2) au (aO _)) (aA (v9 (aV (aU (K:=K) rfl) (pv 1) (pv 4) (fun _ _=>rfl)) (wj (pv 5) (pv 3) set_list))
   (aG (v9 (aV (aU (K:=K) rfl) (pv 1) (pv 3) (fun _ _=>rfl)) (wj (pv 5) (pv 4) set_list)))) (aA (aX (i:=6) fD.nd rfl (Or.inl rfl) (eX (K:=K) rfl PySem.F.plainAttrs_str PySem.F.slot_str_split PySem.F.type_str_split lG (aV (aU (K:=K) rfl) (pv 1) (pv 3) (fun _ _=>rfl)) (aj aM ak)))
   (aA (v9 (bG YK (hr.mono (by decide)) (by rfl) (aj (pv 0) ak)) (wj (pv 6) (bG bY (hr.mono (by decide)) (by rfl) (aj (pv 0) (aj (aY (bD (K:=K) rfl) (by rfl) Bt.eG cY (aj (pv 6) ak)) ak))) set_list))
   (aG (v9 (eX (K:=K) rfl PySem.F.plainAttrs_str PySem.F.slot_str_join PySem.F.type_str_join (tG (K:=K) rfl) aM (aj (pv 6) ak)) (wj (pv 5) (pv 3) set_list))))))
   (aG (aN (pv 5))))))))), ?_⟩
  have xl:=O_ xs;have x0:0<xs.length:=List.length_pos_iff.mpr xn;refine ⟨_,rfl,_,rfl,a,_,rfl,.inl (bO.of ha),r,_,rfl,R0,by rw [List.length_map];omega,by rw [List.length_map];omega,fun z1 H1 z10 z11 R1 k1=> ?_⟩;rw [List.length_map] at z11;have h1:=k1.1 _ _ ha nar;refine ⟨_,rfl,_,rfl,a,_,rfl,.inl (bO.of h1),r,_,rfl,R1,by rw [List.length_map];omega,by rw [List.length_map];omega,fun z2 H2 z20 z21 R2 k2=> ?_⟩;rw [List.length_map] at z21;have h2:=k2.1 _ _ h1 nar;clear k1 k2 h1 R1 R0;obtain ⟨i,rfl⟩:=Int.eq_ofNat_of_zero_le z10;obtain ⟨j,rfl⟩:=Int.eq_ofNat_of_zero_le z20;have il:i<xs.length:=by omega
  have jl:j<xs.length:=by omega
  obtain ⟨xi,ei⟩:∃y,xs[i]? = some y:=⟨_,List.getElem?_eq_getElem il⟩;obtain ⟨xj,ej⟩:∃y,xs[j]? = some y:=⟨_,List.getElem?_eq_getElem jl⟩;have ti:=HY (List.mem_of_getElem? ei);have tj:=HY (List.mem_of_getElem? ej);have ati:vq (xs.map V.str) ((i:Nat):Int)=some (V.str xi):=bW (by rw [List.getElem?_map,ei];rfl);have atj:vq (xs.map V.str) ((j:Nat):Int)=some (V.str xj):=bW (by rw [List.getElem?_map,ej];rfl);refine ⟨_,rfl,rfl,_,rfl,cD (fun _=> ?_) (fun w0=> ?_)⟩
  ·
   refine ⟨_,rfl,_,rfl,_,rfl,_,_,rfl,bO.of h2,fun q1 hq1=> ?_⟩;rw [adA];have s1:=aF (o:=HO.lst ((xs.take i).map V.str)) hq1;refine ⟨_,rfl,_,rfl,_,_,rfl,rfl,_,rfl,_,_,rfl,bO.of (s1 _ _ h2),fun q2 hq2=> ?_⟩;rw [show ((i:Nat):Int)+1=((i+1:Nat):Int) by omega,cutD];have s2:=aF (o:=HO.lst ((xs.drop (i+1)).map V.str)) hq2;refine ⟨q1,q2,_,_,rfl,rfl,s2 _ _ aq,aq,by rw [List.length_map,List.length_map,List.length_take,List.length_drop,sizeLine_eq];omega,fun q3 LR=> ?_⟩;have s3:=aF (o:=HO.lst ((xs.take i).map V.str++(xs.drop (i+1)).map V.str)) LR;have t1:=J_ xs i;have t2:=Tf xs i;exact k q3 (xs.take i++xs.drop (i+1)) _ (by rw [aq,List.map_append]) (by rw [CJ];omega) (R2.keep ((s1.trans s2).trans s3))
  refine ⟨_,rfl,rfl,_,rfl,cD (fun _=> ?_) (fun w1=> ?_)⟩
  ·
   refine ⟨_,rfl,_,rfl,_,rfl,_,_,rfl,bO.of h2,fun q1 hq1=> ?_⟩;rw [adA];have s1:=aF (o:=HO.lst ((xs.take j).map V.str)) hq1;refine ⟨_,rfl,_,rfl,_,_,_,_,rfl,rfl,bO.of (s1 _ _ h2),ati,(by show 1<=sizeLine;decide),fun q2 hq2=> ?_⟩;have s2:=aF (o:=HO.lst [V.str xi]) hq2;refine ⟨q1,q2,_,_,rfl,rfl,s2 _ _ aq,aq,by rw [List.length_map,List.length_take,List.length_singleton,sizeLine_eq];omega,fun q3 LR=> ?_⟩;have s3:=aF (o:=HO.lst ((xs.take j).map V.str++[V.str xi])) LR;have S3:=(s1.trans s2).trans s3;refine ⟨_,rfl,_,rfl,_,rfl,_,_,rfl,bO.of (S3 _ _ h2),fun q4 Ym=> ?_⟩;rw [cutD];have s4:=aF (o:=HO.lst ((xs.drop j).map V.str)) Ym;refine ⟨q3,q4,_,_,rfl,rfl,s4 _ _ aq,aq,by rw [List.length_append,List.length_map,List.length_map,List.length_take,List.length_drop,List.length_singleton,sizeLine_eq];omega,fun q5 hq5=> ?_⟩;have s5:=aF (o:=HO.lst (((xs.take j).map V.str++[V.str xi])++(xs.drop j).map V.str)) hq5;have t1:=J_ xs j;exact k q5 (xs.take j++[xi]++xs.drop j) _ (by rw [aq,List.map_append,List.map_append];rfl) (by rw [CJ,CJ,iR,show tot []=0 from rfl];omega) (R2.keep ((S3.trans s4).trans s5))
  refine ⟨_,rfl,a,_,rfl,.inl (bO.of h2),fun C hC=> ?_⟩;have sC:=aF (o:=HO.lst (xs.map V.str)) hC;have Ze:=R2.ne hC;have fC:=(R2.off hC).same R2 sC;have R3:=R2.keep sC;have h3:=sC _ _ h2;have naC:a≠C:=bw h2 hC;have eC:(upd H2 C (.lst (xs.map V.str))) C=some (.lst (xs.map V.str)):=aq;generalize upd H2 C (.lst (xs.map V.str))=H3 at fC R3 h3 eC ⊢
  have ixi:∀l:List V,l.length=xs.length->Jj l.length ((i:Nat):Int)=some i:=fun l hl=>by
   unfold Jj;rw [hl,if_pos (by omega),if_pos (by omega)];rfl
  have ixj:∀l:List V,l.length=xs.length->Jj l.length ((j:Nat):Int)=some j:=fun l hl=>by
   unfold Jj;rw [hl,if_pos (by omega),if_pos (by omega)];rfl
  refine ⟨_,rfl,rfl,_,rfl,cD (fun _=> ?_) (fun w2=> ?_)⟩
  ·
   refine ⟨_,rfl,_,rfl,_,_,_,_,rfl,rfl,bO.of h3,atj,_,rfl,_,rfl,C,_,_,i,rfl,rfl,eC,ixi _ (List.length_map ..), ?_⟩;have h4:(upd H3 C (.lst ((xs.map V.str).set i (V.str xj)))) a=_:=(aW naC).trans h3;refine ⟨_,rfl,_,rfl,_,_,_,_,rfl,rfl,bO.of h4,ati,_,rfl,_,rfl,C,_,_,j,rfl,rfl,aq,ixj _ (by rw [List.length_set,List.length_map]), ?_⟩;refine ⟨_,rfl,k C ((xs.set i xj).set j xi) _ (by rw [aq,List.map_set,List.map_set]) ?_ ((R3.set Ze fC).set Ze (fC.set Ze))⟩;have t1:=zm xs i xi xj ei
   have e2:(xs.set i xj)[j]? = some xj:=by
    by_cases e:i=j
    ·subst e;exact List.getElem?_set_self il
    ·rw [List.getElem?_set_ne e];exact ej
   have t2:=zm (xs.set i xj) j xj xi e2;omega
  ·
   have xil:xi.length<=100000:=by omega
   refine ⟨_,rfl,_,rfl,_,_,_,_,rfl,rfl,bO.of h3,ati,rfl,_,_,rfl,rfl,rfl,by rw [sizeLine_eq];omega,fun W hW=> ?_⟩;have wn:=qI xi (Str.ofString " ");have wt:=G6 xi (Str.ofString " ") rfl;generalize Txt.split xi (Str.ofString " ")=ws at wn wt ⊢;have sW:=aF (o:=HO.lst (ws.map V.str)) hW;have nWr:=R3.ne hW;have nWC:W≠C:=(bw eC hW).symm;have fW:=(R3.off hW).same R3 sW;have fC4:=fC.same R3 sW;have R4:=R3.keep sW;have eC4:=sW _ _ eC;have eW:(upd H3 W (.lst (ws.map V.str))) W=some (.lst (ws.map V.str)):=aq;generalize upd H3 W (.lst (ws.map V.str))=H4 at fW fC4 R4 eC4 eW ⊢;refine ⟨_,rfl,r,rfl,R4,fun y H5 yl R5 k5=> ?_⟩;have eW5:=k5.1 _ _ eW nWr;have eC5:=k5.1 _ _ eC4 Ze;have fW5:=k5.2 _ _ eW nWr fW;have fC5:=k5.2 _ _ eC4 Ze fC4;have w0:0<ws.length:=List.length_pos_iff.mpr wn;have wl:=O_ ws;refine ⟨_,rfl,_,rfl,_,rfl,W,_,rfl,.inl (bO.of eW5),r,_,rfl,R5,by rw [List.length_map];omega,by rw [List.length_map];omega,fun z6 H6 z60 z61 R6 k6=> ?_⟩;rw [List.length_map] at z61;obtain ⟨m,rfl⟩:=Int.eq_ofNat_of_zero_le z60;have eW6:=k6.1 _ _ eW5 nWr;have eC6:=k6.1 _ _ eC5 Ze;have fW6:=k6.2 _ _ eW5 nWr fW5;have fC6:=k6.2 _ _ eC5 Ze fC5;have ml:m<ws.length:=by omega
   obtain ⟨xm,em⟩:∃y,ws[m]? = some y:=⟨_,List.getElem?_eq_getElem ml⟩;refine ⟨W,_,_,m,rfl,rfl,eW6,by unfold Jj;rw [List.length_map,if_pos (by omega),if_pos (by omega)];rfl, ?_⟩;have t1:=zm ws m xm y em;have eC7:(upd H6 W (.lst ((ws.map V.str).set m (V.str y)))) C=_:=(aW nWC.symm).trans eC6;have eW7:(upd H6 W (.lst ((ws.map V.str).set m (V.str y)))) W=some (.lst ((ws.set m y).map V.str)):=by rw [aq,List.map_set]
   have R7:=R6.set (o:=HO.lst ((ws.map V.str).set m (V.str y))) nWr fW6;have fC7:=fC6.set (o:=HO.lst ((ws.map V.str).set m (V.str y))) nWr;generalize upd H6 W (.lst ((ws.map V.str).set m (V.str y)))=H7 at eC7 eW7 R7 fC7 ⊢;generalize ws.set m y=vs at t1 eW7;have tv:tot vs<=xi.length+7:=by omega
   have sv:=Pg vs;refine ⟨rfl,_,rfl,_,W,vs,rfl,rfl,bO.of eW7,by rw [Jh];omega,_,rfl,_,rfl,C,_,_,i,rfl,rfl,eC7,ixi _ (List.length_map ..), ?_⟩;have tj:=(DY (Str.ofString " ") rfl vs).1;have t2:=zm xs i xi (Txt.join (Str.ofString " ") vs) ei;exact ⟨_,rfl,k C (xs.set i (Txt.join (Str.ofString " ") vs)) _ (by rw [aq,List.map_set]) (by omega) (R7.set Ze fC7)⟩
theorem Yh (b:Bool):(if b=true then (1:Int) else 0)=0\/(if b=true then (1:Int) else 0)=1:=by cases b<;>simp
def Ed (K:PySem.W.Frag):Sp:=fun vs H Q _=>∃(r:Addr) (x:Str),vs=[.ref r,.str x]/\cC H r/\x.length<=45000 /\ ∀(y:Str) (H':Hp),y.length<=2*x.length+12->cC H' r->Q (.str y) H'
theorem QV {f:Addr} {fd:FuncData} (F:rm K "_law_spoilt" "_law_spoilt" gG f fd) (bY:FnAt P w K mg base 1 "_law_draw" ["reel","many"] (kZ K)) (YM:FnAt P w K mg base 2 "_law_sign" ["reel"] (Mw K)) (Ge:FnAt P w K mg base 3 "_law_rows_spoilt" ["reel","rows","kind"] (Ef K)) (Bt:Cm mg):dM P w K mg base tV 4 f fd ["reel","text"] (Ed K):=by
 refine F.ok uK (fun vs H Q E h=> ?_) (fun cdv A outer s H vs Q E hr h=> ?_)
 ·obtain ⟨r,x,rfl,_⟩:=h
  rfl
 ·obtain ⟨r,x,rfl,R0,xl,k⟩:=h
  refine ⟨_,(aA (aX (i:=2) uK.nd rfl (Or.inl rfl) (bG bY (hr.mono (by decide)) (by rfl) (aj (pv 0) (aj au ak))))
   (aA (bI (aK cB (pv 2) au (aO _)) (aG (aN (pv 1))) aR)
   (aA (bI (aK zJ (pv 2) au (aO _)) (aG (aN (eX (K:=K) rfl PySem.F.plainAttrs_str PySem.F.slot_str_join PySem.F.type_str_join (tG (K:=K) rfl) aM (aj (bG Ge (hr.mono (by decide)) (by rfl) (aj (pv 0) (aj (eX (K:=K) rfl PySem.F.plainAttrs_str PySem.F.slot_str_split PySem.F.type_str_split lG (pv 1) (aj aM ak)) (aj (bB wz (bB PN (pv 2) au) au) ak)))) ak)))) aR)
   (aA (aX (i:=3) uK.nd rfl (Or.inl rfl) (bG YM (hr.mono (by decide)) (by rfl) (aj (pv 0) ak)))
   (aA (aX (i:=4) uK.nd rfl (Or.inl rfl) (bG bY (hr.mono (by decide)) (by rfl) (aj (pv 0) (aj (bB dJ (aY fH (by rfl) Bt.eG cY (aj (pv 1) ak)) au) ak))))
   (aG (aN (bB ju (bB ju (d_ Il (pv 1) fQ (fP (pv 4))) (aV (aU (K:=K) rfl) (cO (aj aM (aj (pv 3) ak))) (cj tQ (by rfl) Bt.vo o_ (aj (dU PK (pv 2) au (aO _)) ak)) (fun _ _=>rfl))) (d_ Il (pv 1) (fP (bB dJ (pv 4) (cj tQ (by rfl) Bt.vo o_ (aj (dU zJ (pv 2) au (aO _)) ak)))) fQ))))))))), ?_⟩
  have hz:x.length<=sizeLine:=by rw [sizeLine_eq];omega
  refine ⟨_,rfl,r,10,rfl,R0,by decide,by decide,fun kd H1 z0 z1 R1 k1=> ?_⟩;refine ⟨_,rfl,rfl,_,rfl,cD (fun _=> ?_) (fun w9=> ?_)⟩
  ·exact ⟨_,rfl,k x H1 (by omega) R1⟩
  have w9:kd≠9:=fun z=>w9 (decide_eq_true (by rw [z]));refine ⟨_,rfl,_,_,rfl,rfl,_,rfl,cD (fun w2=> ?_) (fun w2=> ?_)⟩
  ·have w2:=of_decide_eq_true w2
   refine ⟨rfl,_,rfl,_,rfl,rfl,_,_,rfl,rfl,rfl,by rw [sizeLine_eq];omega,fun q hq=> ?_⟩;have sn:=qI x (Str.ofString "\n");have st:=G6 x (Str.ofString "\n") rfl;generalize Txt.split x (Str.ofString "\n")=xs at sn st ⊢;have sq:=aF (o:=HO.lst (xs.map V.str)) hq;refine ⟨_,rfl,_,_,rfl,rfl,⟨by decide,by decide⟩,_,_,rfl,rfl,by show (0:Int)<4;decide,r,q,xs,_,rfl,R1.keep sq,aq,sn,by omega,R1.ne hq,⟨?_, ?_⟩,fun b ys H2 e2 yt R2=> ?_⟩
   ·exact Int.emod_nonneg _ (by decide)
   ·have:=Int.emod_lt_of_pos (kd / 2) (show (0:Int)<4 by decide);omega
   ·have:=Pg ys
    have tj:=(DY (Str.ofString "\n") rfl ys).1;exact ⟨_,b,ys,rfl,rfl,bO.of e2,by rw [Ny];omega,k _ H2 (by omega) R2⟩
  ·refine ⟨_,rfl,r,rfl,R1,fun y H2 yl R2 k2=> ?_⟩
   refine ⟨_,rfl,_,rfl,x,rfl,hz,_,_,rfl,rfl,r,_,rfl,R2,by omega,by omega,fun at_ H3 a0 a1 R3 k3=> ?_⟩;have c1:=Txt.slice_le x none (some at_);refine ⟨_,rfl,_,rfl,_,rfl,x,rfl,hz,_,rfl,(by show 2<=sizeLine;decide),fun q hq=> ?_⟩;have sq:=aF (o:=HO.lst [V.str (Str.ofString ""),V.str y]) hq
   obtain ⟨u,eu,ul⟩:∃u:Str,vq [V.str (Str.ofString ""),V.str y] (if decide (kd<2)=true then 1 else 0)=some (V.str u)/\u.length<=1:=by
    rcases Yh (decide (kd<2)) with e|e
    ·rw [e];exact ⟨_,rfl,by decide⟩
    ·rw [e];exact ⟨_,rfl,yl⟩
   refine ⟨_,rfl,_,_,rfl,rfl,.inr ⟨_,rfl,_,_,_,_,rfl,rfl,bO.of aq,eu,_,_,rfl,rfl,by rw [sizeLine_eq];omega, ?_⟩⟩;refine ⟨_,rfl,_,rfl,_,rfl,_,_,rfl,rfl,.inr ⟨_,rfl,_,_,rfl,rfl,_,rfl,x,rfl,hz, ?_⟩⟩;have c2:∀lo,(Txt.slice x lo none).length<=x.length:=fun lo=>Txt.slice_le x lo none;have fin:∀u2:Str,u2.length<=x.length->(∃i j:Str,V.str (Txt.slice x none (some at_)++u)=V.str i/\V.str u2=V.str j/\i.length+j.length<=sizeLine/\Q (.str (i++j)) (upd H3 q (HO.lst [V.str (Str.ofString ""),V.str y]))):=fun u2 c2=>⟨_,_,rfl,rfl,by rw [Str.length_append,sizeLine_eq];omega,k _ _ (by rw [Str.length_append,Str.length_append];omega) (R3.keep sq)⟩;exact fin _ (c2 _)
def rws (dG:List (List Rw)):Nat:=(dG.map List.length).sum
def MJ (K:PySem.W.Frag):Sp:=fun vs H Q _=>∃r:Addr,vs=[.ref r]/\cC H r /\ ∀(t p:Addr) (as:List Addr) (m:Nat) (dG:List (List Rw)) (H':Hp),ZM H' t p as m dG->PgW 9 62 m dG->rws dG<=145->cC H' r->Q (.ref t) H'
theorem X5 {f:Addr} {fd:FuncData} (F:rm K "_law_full" "_law_full" pY f fd) (bY:FnAt P w K mg base 1 "_law_draw" ["reel","many"] (kZ K)) (abp:FnAt P w K mg base 4 "_law_row" ["reel","many","size"] (Tr K)) (Bt:Cm mg):dM P w K mg base tV 5 f fd ["reel"] (MJ K):=by
 refine F.ok nM (fun vs H Q E h=> ?_) (fun cdv A outer s H vs Q E hr h=> ?_)
 ·obtain ⟨r,rfl,_⟩:=h
  rfl
 ·obtain ⟨r,rfl,R0,k⟩:=h
  refine ⟨_,(aA (aX (i:=1) nM.nd rfl (Or.inr rfl) (bB dJ au (bG bY (hr.mono (by decide)) (by rfl) (aj (pv 0) (aj au ak)))))
   (aA (aX (i:=2) nM.nd rfl (Or.inl rfl) (bB dJ (aV (aU (K:=K) rfl) (cO (aj au (aj au ak))) (bG bY (hr.mono (by decide)) (by rfl) (aj (pv 0) (aj au ak))) (fun _ _=>rfl)) (bG bY (hr.mono (by decide)) (by rfl) (aj (pv 0) (aj au ak)))))
   (aA (aX (i:=3) nM.nd rfl (Or.inl rfl) (cO (aj (bG bY (hr.mono (by decide)) (by rfl) (aj (pv 0) (aj (pv 2) ak))) (aj (bG bY (hr.mono (by decide)) (by rfl) (aj (pv 0) (aj (bB Eu au (pv 2)) ak))) ak))))
   (aA (aX (i:=4) nM.nd rfl (Or.inl rfl) (cO ak))
   (aA (oZ PassesOwn.never rfl (qp (by rfl) Bt.rH (aj (pv 2) ak)) (cM (i:=5) nM.nd rfl (Or.inl rfl))
   (aA (aX (i:=6) nM.nd rfl (Or.inr rfl) (bG bY (hr.mono (by decide)) (by rfl) (aj (pv 0) (aj au ak))))
   (aA (bI (aK (qL (K:=K) rfl) (pv 5) (pv 3) (by with_unfolding_all rfl)) (aG (aX (i:=6) nM.nd rfl (Or.inr rfl) (bB dJ au (bG bY (hr.mono (by decide)) (by rfl) (aj (pv 0) (aj au ak)))))) aR)
   (aG (lF (m_ (K:=K) rfl (pv 4) (aj (uR rfl (N:=["at","reel","many","size"]) (own:=["at"]) (caps:=[0,1,6]) (bZ.of (by kernel_rfl)) (qp (by rfl) Bt.rH (aj (pv 6) ak)) (fun _ _ _ _=>(cM (i:=0) (show List.Nodup (["at","reel","many","size"]:List Str) by decide +kernel) rfl (Or.inl rfl))) (fun _ _ _ _=>rD) (fun _ _ _ _=>(bG abp (hr.mono (by decide)) (by rfl) (aj (pv 1) (aj (pv 2) (aj (pv 3) ak)))))) ak)))))))
   (aG (aN (cF (aj (pv 1) (aj (pv 4) ak)))))))))), ?_⟩
  refine ⟨_,rfl,r,20,rfl,R0,by decide,by decide,fun mz H1 m0 m1 R1 k1=>⟨_,_,rfl,rfl, ?_⟩⟩;have em:(((1+mz).toNat:Nat):Int)=1+mz:=by omega
  refine ⟨(by show 2<=sizeLine;decide),fun q hq=> ?_⟩;have sq:=aF (o:=HO.lst [V.int 1,V.int 7]) hq;have hq1:(upd H1 q (HO.lst [V.int 1,V.int 7])) q=some (HO.lst [V.int 1,V.int 7]):=aq;have nqr:=R1.ne hq;refine ⟨_,rfl,r,2,rfl,R1.keep sq,by decide,by decide,fun c0 H2 c00 c01 R2 k2=> ?_⟩
  obtain ⟨cb,ecb,cb1⟩:∃v:Int,vq [V.int 1,V.int 7] c0=some (V.int v)/\(v=1\/v=7):=by
   have:c0=0\/c0=1:=by omega
   rcases this with rfl|rfl
   ·exact ⟨1,rfl,.inl rfl⟩
   ·exact ⟨7,rfl,.inr rfl⟩
  refine ⟨_,_,_,_,rfl,rfl,bO.of (k2.1 _ _ hq1 nqr),ecb,_,rfl,r,3,rfl,R2,by decide,by decide,fun c1 H3 c10 c11 R3 k3=>⟨_,_,rfl,rfl, ?_⟩⟩;have cn:1<=cb+c1/\cb+c1<=9:=by rcases cb1 with rfl|rfl<;>omega
  refine ⟨_,rfl,_,rfl,r,(cb+c1),rfl,R3,by omega,by omega,fun l0 H4 l00 l01 R4 k4=> ?_⟩;refine ⟨_,rfl,_,rfl,_,_,rfl,rfl,.inl ⟨by decide,by decide⟩,r,2*(cb+c1),rfl,R4,by omega,by omega,fun l1 H5 l10 l11 R5 k5=> ?_⟩;refine ⟨(by show 2<=sizeLine;decide),fun L hL=> ?_⟩;have sL:=aF (o:=HO.lst [V.int l0,V.int l1]) hL;have nLr:=R5.ne hL;have R6:=R5.keep sL;have eL:(upd H5 L (HO.lst [V.int l0,V.int l1])) L=some (HO.lst [V.int l0,V.int l1]):=aq;generalize upd H5 L (HO.lst [V.int l0,V.int l1])=H6 at R6 eL ⊢;clear k1 k2 k3 k4 k5 R5 R4 R3 R2 hq1 sL hL;refine ⟨(by show 0<=sizeLine;decide),fun P hP=> ?_⟩;have s3:=aF (o:=HO.lst []) hP;have Zd:=R6.ne hP;have nPL:P≠L:=(bw eL hP).symm;have R7:=R6.keep s3;have eL7:=s3 _ _ eL;have fP7:Off (upd H6 P (HO.lst [])) r P:=(R6.off hP).same R6 s3;obtain ⟨n0,rfl⟩:=Int.eq_ofNat_of_zero_le l00;obtain ⟨n1,rfl⟩:=Int.eq_ofNat_of_zero_le l10;refine ⟨_,rfl,(cb+c1),rfl,by omega,by omega, ?_⟩
  refine tL (lo:=0) (n:=(cb+c1).toNat) (fun i σ H6=>∃(x1 x2:Option V) (as:List Addr) (dG:List (List Rw)),σ=[some (.ref r),some (.int (1+mz)),some (.int (cb+c1)),some (.ref L),some (.ref P),x1,x2]/\H6 L=some (HO.lst [V.int (n0:Nat),V.int (n1:Nat)])/\H6 P=some (.lst (as.map V.ref))/\dG.length=i/\HsR H6 as dG/\(∀a∈as,a≠r/\a≠P/\Off H6 r a)/\(∀rs∈dG,rs.length<=62 /\ ∀x∈rs,Kg (1+mz).toNat x/\H_ rs.length x)/\rws dG<=3*i+(if n0<i then 59 else 0)+(if n1<i then 59 else 0)/\cC H6 r/\Off H6 r P)
   ⟨none,none,[],[],rfl,eL7,aq,rfl,⟨rfl,fun i a rs e=>(by simp at e)⟩,fun a ha=>(by cases ha),fun rs h=>(by cases h),Nat.zero_le _,R7,fP7⟩ ?_ ?_
  ·rintro i σ H6 hi ⟨x1,x2,as,dG,rfl,eL6,hP6,rl,U6,as6,ro6,Xc,R6,fP6⟩
   refine ⟨_,rfl,r,4,rfl,R6,by decide,by decide,fun sz0 H7 z00 z01 R7 k7=> ?_⟩;dsimp only [qO];refine Im (fun σ H'=>∃size:Int,σ=[some (.ref r),some (.int (1+mz)),some (.int (cb+c1)),some (.ref L),some (.ref P),some (.int (0+(i:Int))),some (.int size)]/\0<=size/\(size<=3\/size<=62/\(i=n0\/i=n1))/\KR r H6 H'/\cC H' r) (fun D' hD' rt'=> ?_) ?_
   ·refine ⟨_,rfl,_,rfl,_,_,rfl,.inl (bO.of (k7.1 _ _ eL6 nLr)),rfl,rfl,_,rfl,cD (fun w=> ?_) (fun w=> ?_)⟩
    ·have w:i=n0\/i=n1:=by
      have w:inV (.int (0+(i:Int))) [V.int (n0:Nat),V.int (n1:Nat)]=true:=w;simp only [inV,List.any_cons,List.any_nil,Bool.or_false,Bool.or_eq_true,Rj] at w;rcases w with w|w
      ·left;have:=of_decide_eq_true w;omega
      ·right;have:=of_decide_eq_true w;omega
     refine ⟨_,rfl,r,5,rfl,R7,by decide,by decide,fun z8 H8 z80 z81 R8 k8=>⟨_,_,rfl,rfl, ?_⟩⟩;exact hD' _ _ ⟨58+z8,rfl,by omega,.inr ⟨by omega,w⟩,k7.trans k8,R8⟩
    ·exact hD' _ _ ⟨sz0,rfl,z00,.inl (by omega),k7,R7⟩
   rintro σ H8 ⟨size,rfl,z0,z1,k68,R8⟩;have ama:size<=62:=by rcases z1 with z|z<;>omega
   have hP8:=k68.1 _ _ hP6 Zd;have eL8:=k68.1 _ _ eL6 nLr;have fP8:=k68.2 _ _ hP6 Zd fP6;have al:as.length<=9:=by rw [U6.1];omega
   refine ⟨_,rfl,.inl ⟨rfl,_,bO.of hP8⟩,_,rfl,size,rfl,by omega,by omega,fun D hD=> ?_⟩;refine Oh (G:=fun x=>Kg (1+mz).toNat x/\H_ size x) hD R8 (by omega) (fun j H9 F hj k9 R9 kF=> ?_) (fun H9 rs rl9 ro9 A9 k9 fD9 R9=> ?_)
   ·exact ⟨_,rfl,_,rfl,_,rfl,r,(1+mz).toNat,_,by rw [em];rfl,R9,⟨by omega,by omega⟩,⟨z0,by omega⟩,fun v x H10 dv xo xt R10 k10=>kF v x H10 k10 R10 dv ⟨xo,xt⟩⟩
   have nDr:=R8.ne hD;have hP9:=k9.1 _ _ hP8 Zd;have eL9:=k9.1 _ _ eL8 nLr;have fP9:=k9.2 _ _ hP8 Zd fP8;have nPD:P≠D:=bw hP8 hD;have k69:=k68.trans k9;refine ⟨P,_,_,rfl,rfl,hP9,by rw [List.length_map,sizeLine_eq];omega, ?_⟩;have kp:Kp P H9 (upd H9 P (.lst (as.map V.ref++[V.ref D]))):=Kp.set;have tp:=kp.tups hP9;have tp6:∀a xs,H6 a=some (HO.tup xs)->(upd H9 P (.lst (as.map V.ref++[V.ref D]))) a=some (HO.tup xs):=fun a xs h=>tp _ _ ((R8.tups k9.1) _ _ (R6.tups k68.1 _ _ h));refine ⟨_,_,as++[D],dG++[rs],rfl,kp _ _ eL9 nPL.symm,by rw [aq,List.map_append];rfl,by simp [rl],⟨by simp [U6.1],fun j a rs' ea er=> ?_⟩,fun a ha=> ?_,fun rs' U7=> ?_, ?_,R9.set Zd fP9,fP9.set Zd⟩
   ·by_cases hj:j<as.length
    ·rw [List.getElem?_append_left hj] at ea
     rw [List.getElem?_append_left (by rw [←U6.1];exact hj)] at er;obtain ⟨n1',n2',f'⟩:=as6 a (List.mem_of_getElem? ea);obtain ⟨vs,ha,d⟩:=U6.2 j a rs' ea er;exact ⟨vs,kp _ _ (k69.1 _ _ ha n1') n2',aQ.keep tp6 _ (nR _ Bp _) d⟩
    ·rw [List.getElem?_append_right (by omega)] at ea
     rw [List.getElem?_append_right (by rw [←U6.1];omega)] at er
     have j0:j - as.length=0:=by
      have:=(List.getElem?_eq_some_iff.mp ea).1;simp at this;omega
     rw [j0] at ea;rw [←U6.1,j0] at er;cases ea;cases er;obtain ⟨vs,ha,d⟩:=A9;exact ⟨vs,kp _ _ ha nPD.symm,aQ.keep tp _ (nR _ Bp _) d⟩
   ·rcases List.mem_append.mp ha with ha|ha
    ·obtain ⟨n1',n2',f'⟩:=as6 a ha
     obtain ⟨j,ej⟩:=List.getElem?_of_mem ha;have jl:j<dG.length:=by have:=(List.getElem?_eq_some_iff.mp ej).1;rw [U6.1] at this;exact this
     obtain ⟨vs,ha',_⟩:=U6.2 j a dG[j] ej (by simp [jl]);exact ⟨n1',n2',(k69.2 _ _ ha' n1' f').set Zd⟩
    ·have:a=D:=by simpa using ha
     subst this;exact ⟨nDr,nPD.symm,fD9.set Zd⟩
   ·rcases List.mem_append.mp U7 with h|h
    ·exact ro6 rs' h
    ·have:rs'=rs:=by simpa using h
     subst this;exact ⟨by omega,fun x hx=>⟨(ro9 x hx).1,by rw [show (rs'.length:Int)=size by omega];exact (ro9 x hx).2⟩⟩
   ·have er:rws (dG++[rs])=rws dG+rs.length:=by unfold rws;rw [List.map_append,List.sum_append];simp
    rw [er];have rl:rs.length=size.toNat:=by omega
    clear ro9 A9 k9 ro6 as6 U6 tp6 tp kp;rcases z1 with z|⟨z,z|z⟩
    ·split at Xc<;>split at Xc<;>split<;>split<;>omega
    ·subst z;rw [if_neg (Nat.lt_irrefl _)] at Xc;rw [if_pos (Nat.lt_succ_self _)];split at Xc<;>split<;>omega
    ·subst z;rw [if_neg (Nat.lt_irrefl i) (α:=Nat) (t:=59)] at Xc;rw [if_pos (Nat.lt_succ_self i) (α:=Nat) (t:=59)];split at Xc<;>split<;>omega
  ·rintro σ H6 ⟨x1,x2,as,dG,rfl,_,hP6,rl,U6,as6,ro6,Xc,R6,fP6⟩
   refine ⟨_,rfl,_,rfl,(by show 2<=sizeLine;decide),fun t ht=> ?_⟩;have st:=aF (o:=HO.tup [V.int (1+mz),V.ref P]) ht;exact k t P as (1+mz).toNat dG _ ⟨by rw [aq,em],st _ _ hP6,U6.same st⟩ ⟨⟨by omega,by omega⟩,⟨by omega,by omega⟩,ro6⟩ (by split at Xc<;>split at Xc<;>omega) (R6.keep st)
theorem Iw {x:HD} (h:J3 x):(LQ (D_ x)).length<=4:=by
 cases x with
 | num n=>
   have h:0<=n/\n<1000:=h;exact rE h.1 (by omega)
 | box b=>show (1:Nat)<=4;decide
theorem xG {e:GX} (h:Cv e):(woT (rW e)).length<=9:=by
 cases e with
 | one x=>have:=Iw (x:=x) h;show (LQ (D_ x)).length<=9;omega
 | two o p q=>
   have a:=Iw (x:=p) h.1;have b:=Iw (x:=q) h.2;show (LQ (D_ p)++(if o then Str.ofString "+" else Str.ofString "-")++LQ (D_ q)).length<=9;rw [Str.length_append,Str.length_append];have:(if o then Str.ofString "+" else Str.ofString "-").length=1:=by cases o<;>rfl
   omega
theorem abO {m:Nat} {s:Int} {r:Rw} (hm:m<=20) (hs:s<=900) (h:Kg m r) (g:H_ s r):∀p∈Iu (pK r),(Gh p).length<=9:=by
 have Ur:∀{n:Nat},n<=1000->(Gh (.n ((n:Nat):Int))).length<=9:=fun {n} hn=>by
  have:=rE (i:=((n:Nat):Int)) (by omega) (by omega);show (num ((n:Nat):Int)).length<=9;omega
 have w9:∀x∈words,x.length<=9:=fun x hx=>by have:=(DX x hx).1;omega
 have b9:∀b:Nat,(Gh (.s (BK b))).length<=9:=fun b=>by show (1:Nat)<=9;decide
 cases r with
 | load b c=>
   intro p hp;have hp:p∈[Pt.s (Str.ofString "load"),.s (BK b),.n ((c:Nat):Int)]:=hp;simp only [List.mem_cons,List.not_mem_nil,or_false] at hp;rcases hp with rfl|rfl|rfl
   ·show (Str.ofString "load").length<=9;decide
   ·exact b9 b
   ·exact Ur (by have:=h.2;omega)
 | store c e=>
   intro p hp;have hp:p∈[Pt.s (Str.ofString "store"),.n ((c:Nat):Int),.w (rW e)]:=hp;simp only [List.mem_cons,List.not_mem_nil,or_false] at hp;rcases hp with rfl|rfl|rfl
   ·show (Str.ofString "store").length<=9;decide
   ·exact Ur (by have:=h.1;omega)
   ·exact xG h.2
 | swap b c e=>
   intro p hp;have hp:p∈[Pt.s (Str.ofString "swap"),.s (BK b),.n ((c:Nat):Int),.w (rW e)]:=hp;simp only [List.mem_cons,List.not_mem_nil,or_false] at hp;rcases hp with rfl|rfl|rfl|rfl
   ·show (Str.ofString "swap").length<=9;decide
   ·exact b9 b
   ·exact Ur (by have:=h.2.1;omega)
   ·exact xG h.2.2
 | uX b e=>
   intro p hp;have hp:p∈[Pt.s (Str.ofString "let"),.s (BK b),.w (rW e)]:=hp;simp only [List.mem_cons,List.not_mem_nil,or_false] at hp;rcases hp with rfl|rfl|rfl
   ·show (Str.ofString "let").length<=9;decide
   ·exact b9 b
   ·exact xG h.2
 | say e=>
   intro p hp;have hp:p∈[Pt.s (Str.ofString "say"),.w (rW e)]:=hp;simp only [List.mem_cons,List.not_mem_nil,or_false] at hp;rcases hp with rfl|rfl
   ·show (Str.ofString "say").length<=9;decide
   ·exact xG h
 | go k=>
   intro p hp;have:=g k rfl;have hp:p∈[Pt.s (Str.ofString "go"),.n ((k:Nat):Int)]:=hp;simp only [List.mem_cons,List.not_mem_nil,or_false] at hp;rcases hp with rfl|rfl
   ·show (Str.ofString "go").length<=9;decide
   ·exact Ur (by omega)
 | xH q e f k=>
   intro p hp;have:=g k rfl;have hp:p∈[Pt.s uW,.w (rW e),.s (if q then Str.ofString "=" else Str.ofString "<"),.w (rW f),.s (Str.ofString "go"),.n ((k:Nat):Int)]:=hp;simp only [List.mem_cons,List.not_mem_nil,or_false] at hp;rcases hp with rfl|rfl|rfl|rfl|rfl|rfl
   ·show uW.length<=9;decide
   ·exact xG h.1
   ·show (if q then Str.ofString "=" else Str.ofString "<").length<=9;cases q<;>decide
   ·exact xG h.2
   ·show (Str.ofString "go").length<=9;decide
   ·exact Ur (by omega)
theorem ab6 {m:Nat} {s:Int} {r:Rw} (hm:m<=20) (hs:s<=900) (h:Kg m r) (g:H_ s r):(Gp (pK r)).length<=59:=by
 have l6:=(Ir (TX hm hs h g)).1;have w9:=abO hm hs h g;unfold Gp;cases e:Iu (pK r) with
 | nil=>simp [Txt.join];decide
 | cons p ps=>
   rw [e] at l6 w9;rw [List.length_cons] at l6;rw [List.map_cons];have a:=w9 p (by simp)
   have:=zM (Str.ofString " ") (Gh p) (ps.map Gh) 9 fun y hy=>by
    obtain ⟨q,hq,rfl⟩:=List.mem_map.mp hy;exact w9 q (by simp [hq])
   rw [Jh,List.length_map] at this;have:(1+9)*ps.length<=10*5:=Nat.mul_le_mul_left 10 (by omega);omega
theorem P_:∀(dG:List (List Rw)),(Gi (dG.map fun rs=>rs.map pK)).length=dG.length+rws dG
 | []=>rfl
 | rs::dG=>by
   have e:Gi ((rs::dG).map fun rs=>rs.map pK)=(Str.ofString "hand" :: (rs.map pK).map Gp)++Gi (dG.map fun rs=>rs.map pK):=rfl;have e2:rws (rs::dG)=rs.length+rws dG:=by unfold rws;rw [List.map_cons,List.sum_cons]
   rw [e,e2,List.length_append,P_ dG,List.length_cons,List.length_map,List.length_map,List.length_cons];omega
theorem Nf {m:Nat} {dG:List (List Rw)} (h:PgW 9 62 m dG):JR (m:Nat) (dG.map fun rs=>rs.map pK):=⟨⟨by have:=h.1.1;omega,by have:=h.1.2;omega⟩,by rw [List.length_map];exact h.2.1.2,fun rs' U7=>by
 obtain ⟨rs,hrs,rfl⟩:=List.mem_map.mp U7;obtain ⟨o1,o2⟩:=h.2.2 rs hrs;refine ⟨by rw [List.length_map];omega,fun r' hr'=> ?_⟩;obtain ⟨r,hr,rfl⟩:=List.mem_map.mp hr';exact TX h.1.2 (s:=rs.length) (by omega) (o2 r hr).1 (o2 r hr).2⟩
theorem QJ {m:Nat} {dG:List (List Rw)} (h:PgW 9 62 m dG) (hr:rws dG<=145):(Px (m:Nat) (dG.map fun rs=>rs.map pK)).length<=9280:=by
 have l2:∀y∈Gi (dG.map fun rs=>rs.map pK),y.length<=59:=fun y hy=>by
  unfold Gi at hy;obtain ⟨l,hl,hy⟩:=List.mem_flatten.mp hy;obtain ⟨rs',U7,rfl⟩:=List.mem_map.mp hl;obtain ⟨rs,hrs,rfl⟩:=List.mem_map.mp U7;rcases List.mem_cons.mp hy with rfl|hy
  ·decide
  ·rw [List.map_map] at hy
   obtain ⟨r,hr,rfl⟩:=List.mem_map.mp hy;obtain ⟨o1,o2⟩:=h.2.2 rs hrs;exact ab6 h.1.2 (s:=rs.length) (by omega) (o2 r hr).1 (o2 r hr).2
 have hl:=U9 (many:=(m:Nat)) (by have:=h.1.1;omega) (by have:=h.1.2;omega);unfold Px;have:=zM (Str.ofString "\n") (hd (m:Nat)) (Gi (dG.map fun rs=>rs.map pK)) 59 l2;rw [Ny,P_] at this;have:=h.2.1.2;omega
def Ph (K:PySem.W.Frag):Sp:=fun vs H Q _=>∃(a:Addr) (ns:List Int),vs=[.ref a]/\bO K H a (ns.map V.int)/\ns.length<=63 /\ ∀H',Q (.bl true) H'
theorem Qj {H:Hp} {b:Addr} {x y:Int} (e:H b=some (.tup [.int x,.int y])):Dat H (.ref b) (.tuple [.int x,.int y]):=Ju e B_ B_
theorem aat {f:Addr} {fd:FuncData} (F:rm K "law" "law" zG f fd) (YQ:FnAt P w K mg base 1 "_law_reel" ["script"] (Ig K)) (bY:FnAt P w K mg base 1 "_law_draw" ["reel","many"] (kZ K)) (YS:FnAt P w K mg base 5 "_law_full" ["reel"] (MJ K)) (YL:FnAt P w K mg base 3 "_law_text" ["program"] (Mv K)) (RT:FnAt P w K mg base 4 "_law_spoilt" ["reel","text"] (Ed K)) (Ww:FnAt P w K mg base 8 "_law_asked" ["text"] (Ij K)) (abq:FnAt P w K mg base 7 "_law_due" ["text"] (MP K)) (Bt:Cm mg):dM P w K mg base tV 9 f fd ["script"] (Ph K):=by
 refine F.ok yV (fun vs H Q E h=> ?_) (fun cdv A outer s H vs Q E hr h=> ?_)
 ·obtain ⟨a,ns,rfl,_⟩:=h
  rfl
 ·obtain ⟨sa,sns,rfl,hS,hlen,k⟩:=h
  have Bq:=hr.units
  refine ⟨_,(aA (aX (i:=1) yV.nd rfl (Or.inl rfl) (bG YQ (hr.mono (by decide)) (by rfl) (aj (pv 0) ak)))
   (aA (oZ PassesOwn.never rfl (qp (by rfl) Bt.rH (aj (bB dJ au (aY (Rt rfl) (by rfl) Bt.ad4 aa9 (aj (bB PN (aY (bD (K:=K) rfl) (by rfl) Bt.eG cY (aj (pv 0) ak)) au) (aj au ak)))) ak)) (cM (i:=2) yV.nd rfl (Or.inl rfl))
   (aA (aX (i:=3) yV.nd rfl (Or.inl rfl) (bB dJ au (bG bY (hr.mono (by decide)) (by rfl) (aj (pv 1) (aj au ak)))))
   (aA (aX (i:=4) yV.nd rfl (Or.inl rfl) (bG YL (hr.mono (by decide)) (by rfl) (aj (bG YS (hr.mono (by decide)) (by rfl) (aj (pv 1) ak)) ak)))
   (aA (oZ PassesOwn.never rfl (qp (by rfl) Bt.rH (aj (pv 3) ak)) (cM (i:=5) yV.nd rfl (Or.inl rfl))
   (aG (aX (i:=4) yV.nd rfl (Or.inl rfl) (bG RT (hr.mono (by decide)) (by rfl) (aj (pv 1) (aj (pv 4) ak))))))
   (aG (bI (aK (PB (K:=K) rfl Bq) (bG Ww (hr.mono (by decide)) (by rfl) (aj (pv 4) ak)) (bG abq (hr.mono (by decide)) (by rfl) (aj (pv 4) ak)) (aO _)) (aG (aN Ks)) aR))))))
   (aG (aN Ks)))), ?_⟩
  refine ⟨_,rfl,sa,sns,rfl,hS,hlen,fun r H1 hr1 R1 sm1=> ?_⟩;refine ⟨_,rfl,sa,_,rfl,.inl (sm1.seq hS),_,_,rfl,rfl,(by show aed _ 16;exact ⟨by decide,by decide⟩),_,_,rfl,_,_,rfl,rfl,_,rfl, ?_, ?_, ?_⟩
  ·rw [List.length_map];split<;>omega
  ·rw [List.length_map];split<;>omega
  refine tL (lo:=0) (n:=_) (fun i σ H2=>∃(x1 x2 x3 x4:Option V),σ=[some (.ref sa),some (.ref r),x1,x2,x3,x4]/\cC H2 r)
   ⟨none,none,none,none,rfl,R1⟩ ?_ ?_
  ·rintro i σ H2 hi ⟨x1,x2,x3,x4,rfl,R2⟩
   refine ⟨_,rfl,r,3,rfl,R2,by decide,by decide,fun sz H3 s0 s1 R3 k3=>⟨_,_,rfl,rfl, ?_⟩⟩;refine ⟨_,rfl,r,rfl,R3,fun t p as m dG H4 G4 ok4 rw4 R4=> ?_⟩;refine ⟨t,p,as,(m:Nat),_,rfl,Xp G4,Nf ok4,fun H5 s5=> ?_⟩;have R5:=R4.keep s5;have pl:=QJ ok4 rw4;generalize Px ((m:Nat):Int) (dG.map fun rs=>rs.map pK)=tx at pl ⊢;clear G4 ok4 R4 s5 k3 R3;refine ⟨_,rfl,1+sz,rfl,by omega,by omega, ?_⟩
   refine tL (lo:=0) (n:=(1+sz).toNat) (fun j σ H6=>∃(x:Str) (x4:Option V),σ=[some (.ref sa),some (.ref r),some (.int (0+(i:Int))),some (.int (1+sz)),some (.str x),x4]/\cC H6 r/\x.length+12<=9300*2 ^ j)
    ⟨tx,_,rfl,R5,by omega⟩ ?_ ?_
   ·rintro j σ H6 hj ⟨x,x4,rfl,R6,xl⟩
    have p2:2 ^ j<=2 ^ 2:=Nat.pow_le_pow_right (by decide) (by omega);refine ⟨_,rfl,_,rfl,r,x,rfl,R6,by omega,fun y H7 yl R7=> ?_⟩;exact ⟨y,_,rfl,R7,by rw [Nat.pow_succ];omega⟩
   ·rintro σ H6 ⟨x,x4,rfl,R6,xl⟩
    have p2:2 ^ (1+sz).toNat<=2 ^ 3:=Nat.pow_le_pow_right (by decide) (by omega);refine ⟨_,rfl,x,rfl,by omega,fun ta H8 eta s8=> ?_⟩;refine ⟨_,rfl,x,rfl,by omega,fun td H9 etd s9=> ?_⟩;refine ⟨_,_,Qj (s9 _ _ eta),Qj etd,rfl,rfl,_,rfl, ?_⟩;rw [if_pos rfl,aa2 rfl];exact cP ⟨_,_,_,_,rfl,R6.keep (s8.trans s9)⟩
  ·rintro σ H2 ⟨x1,x2,x3,x4,rfl,R2⟩
   exact k _
end
theorem len0 {us:List Value} (h:us.length=0):us=[]:=List.eq_nil_of_length_eq_zero h
theorem dB {us:List Value} {n:Nat} (h:us.length=n+1):∃a vs,us=a::vs/\vs.length=n:=by
 cases us with
 | nil=>cases h
 | cons a t=>exact ⟨a,t,rfl,Nat.succ.inj h⟩
theorem gK (kV doc pm:Value) (an:Option Addr) (cdv ct:Value) (us:List Value) (hl:us.length=(["self","row"]:List Str).length):bindArgs (PySem.W.fnOf "__init__" "RowError.__init__" (aL cL) (aJ cL) (aB cL) .none kV doc pm an cdv ct) ⟨us,[]⟩=pure ((["self","row"]:List Str).zip us):=by obtain ⟨_,_,rfl,h1⟩:=dB hl;obtain ⟨_,_,rfl,h2⟩:=dB h1;cases len0 h2;rfl
theorem JG (kV doc pm:Value) (an:Option Addr) (cdv ct:Value) (us:List Value) (hl:us.length=(["word"]:List Str).length):bindArgs (PySem.W.fnOf "number_of" "number_of" (aL dZ) (aJ dZ) (aB dZ) .none kV doc pm an cdv ct) ⟨us,[]⟩=pure ((["word"]:List Str).zip us):=by obtain ⟨_,_,rfl,h1⟩:=dB hl;cases len0 h1;rfl
theorem Ry (kV doc pm:Value) (an:Option Addr) (cdv ct:Value) (us:List Value) (hl:us.length=(["word"]:List Str).length):bindArgs (PySem.W.fnOf "is_box" "is_box" (aL lu) (aJ lu) (aB lu) .none kV doc pm an cdv ct) ⟨us,[]⟩=pure ((["word"]:List Str).zip us):=by obtain ⟨_,_,rfl,h1⟩:=dB hl;cases len0 h1;rfl
theorem JF (kV doc pm:Value) (an:Option Addr) (cdv ct:Value) (us:List Value) (hl:us.length=(["word"]:List Str).length):bindArgs (PySem.W.fnOf "single_of" "single_of" (aL dY) (aJ dY) (aB dY) .none kV doc pm an cdv ct) ⟨us,[]⟩=pure ((["word"]:List Str).zip us):=by obtain ⟨_,_,rfl,h1⟩:=dB hl;cases len0 h1;rfl
theorem Ot (kV doc pm:Value) (an:Option Addr) (cdv ct:Value) (us:List Value) (hl:us.length=(["kind","halves"]:List Str).length):bindArgs (PySem.W.fnOf "pair_of" "pair_of" (aL gD) (aJ gD) (aB gD) .none kV doc pm an cdv ct) ⟨us,[]⟩=pure ((["kind","halves"]:List Str).zip us):=by obtain ⟨_,_,rfl,h1⟩:=dB hl;obtain ⟨_,_,rfl,h2⟩:=dB h1;cases len0 h2;rfl
theorem Rv (kV doc pm:Value) (an:Option Addr) (cdv ct:Value) (us:List Value) (hl:us.length=(["word"]:List Str).length):bindArgs (PySem.W.fnOf "sum_of" "sum_of" (aL lg) (aJ lg) (aB lg) .none kV doc pm an cdv ct) ⟨us,[]⟩=pure ((["word"]:List Str).zip us):=by obtain ⟨_,_,rfl,h1⟩:=dB hl;cases len0 h1;rfl
theorem Oq (kV doc pm:Value) (an:Option Addr) (cdv ct:Value) (us:List Value) (hl:us.length=(["kind","word"]:List Str).length):bindArgs (PySem.W.fnOf "part_of" "part_of" (aL gC) (aJ gC) (aB gC) .none kV doc pm an cdv ct) ⟨us,[]⟩=pure ((["kind","word"]:List Str).zip us):=by obtain ⟨_,_,rfl,h1⟩:=dB hl;obtain ⟨_,_,rfl,h2⟩:=dB h1;cases len0 h2;rfl
theorem Rx (kV doc pm:Value) (an:Option Addr) (cdv ct:Value) (us:List Value) (hl:us.length=(["line"]:List Str).length):bindArgs (PySem.W.fnOf "row_of" "row_of" (aL lq) (aJ lq) (aB lq) .none kV doc pm an cdv ct) ⟨us,[]⟩=pure ((["line"]:List Str).zip us):=by obtain ⟨_,_,rfl,h1⟩:=dB hl;cases len0 h1;rfl
theorem Ou (kV doc pm:Value) (an:Option Addr) (cdv ct:Value) (us:List Value) (hl:us.length=(["row"]:List Str).length):bindArgs (PySem.W.fnOf "cell_of" "cell_of" (aL gF) (aJ gF) (aB gF) .none kV doc pm an cdv ct) ⟨us,[]⟩=pure ((["row"]:List Str).zip us):=by obtain ⟨_,_,rfl,h1⟩:=dB hl;cases len0 h1;rfl
theorem GP (kV doc pm:Value) (an:Option Addr) (cdv ct:Value) (us:List Value) (hl:us.length=(["row","number","hands"]:List Str).length):bindArgs (PySem.W.fnOf "check_form" "check_form" (aL dO) (aJ dO) (aB dO) .none kV doc pm an cdv ct) ⟨us,[]⟩=pure ((["row","number","hands"]:List Str).zip us):=by obtain ⟨_,_,rfl,h1⟩:=dB hl;obtain ⟨_,_,rfl,h2⟩:=dB h1;obtain ⟨_,_,rfl,h3⟩:=dB h2;cases len0 h3;rfl
theorem FQ (kV doc pm:Value) (an:Option Addr) (cdv ct:Value) (us:List Value) (hl:us.length=(["row","number","count"]:List Str).length):bindArgs (PySem.W.fnOf "check_cells" "check_cells" (aL dD) (aJ dD) (aB dD) .none kV doc pm an cdv ct) ⟨us,[]⟩=pure ((["row","number","count"]:List Str).zip us):=by obtain ⟨_,_,rfl,h1⟩:=dB hl;obtain ⟨_,_,rfl,h2⟩:=dB h1;obtain ⟨_,_,rfl,h3⟩:=dB h2;cases len0 h3;rfl
theorem GK (kV doc pm:Value) (an:Option Addr) (cdv ct:Value) (us:List Value) (hl:us.length=(["row","number","hands"]:List Str).length):bindArgs (PySem.W.fnOf "check_room" "check_room" (aL dN) (aJ dN) (aB dN) .none kV doc pm an cdv ct) ⟨us,[]⟩=pure ((["row","number","hands"]:List Str).zip us):=by obtain ⟨_,_,rfl,h1⟩:=dB hl;obtain ⟨_,_,rfl,h2⟩:=dB h1;obtain ⟨_,_,rfl,h3⟩:=dB h2;cases len0 h3;rfl
theorem BP (kV doc pm:Value) (an:Option Addr) (cdv ct:Value) (us:List Value) (hl:us.length=(["hands"]:List Str).length):bindArgs (PySem.W.fnOf "check_targets" "check_targets" (aL cJ) (aJ cJ) (aB cJ) .none kV doc pm an cdv ct) ⟨us,[]⟩=pure ((["hands"]:List Str).zip us):=by obtain ⟨_,_,rfl,h1⟩:=dB hl;cases len0 h1;rfl
theorem Yz (kV doc pm:Value) (an:Option Addr) (cdv ct:Value) (us:List Value) (hl:us.length=(["text"]:List Str).length):bindArgs (PySem.W.fnOf "read" "read" (aL uM) (aJ uM) (aB uM) .none kV doc pm an cdv ct) ⟨us,[]⟩=pure ((["text"]:List Str).zip us):=by obtain ⟨_,_,rfl,h1⟩:=dB hl;cases len0 h1;rfl
theorem Wc (kV doc pm:Value) (an:Option Addr) (cdv ct:Value) (us:List Value) (hl:us.length=(["script"]:List Str).length):bindArgs (PySem.W.fnOf "_law_reel" "_law_reel" (aL pX) (aJ pX) (aB pX) .none kV doc pm an cdv ct) ⟨us,[]⟩=pure ((["script"]:List Str).zip us):=by obtain ⟨_,_,rfl,h1⟩:=dB hl;cases len0 h1;rfl
theorem Wh (kV doc pm:Value) (an:Option Addr) (cdv ct:Value) (us:List Value) (hl:us.length=(["reel","many"]:List Str).length):bindArgs (PySem.W.fnOf "_law_draw" "_law_draw" (aL qb) (aJ qb) (aB qb) .none kV doc pm an cdv ct) ⟨us,[]⟩=pure ((["reel","many"]:List Str).zip us):=by obtain ⟨_,_,rfl,h1⟩:=dB hl;obtain ⟨_,_,rfl,h2⟩:=dB h1;cases len0 h2;rfl
theorem RK (kV doc pm:Value) (an:Option Addr) (cdv ct:Value) (us:List Value) (hl:us.length=(["text"]:List Str).length):bindArgs (PySem.W.fnOf "_law_asked" "_law_asked" (aL lE) (aJ lE) (aB lE) .none kV doc pm an cdv ct) ⟨us,[]⟩=pure ((["text"]:List Str).zip us):=by obtain ⟨_,_,rfl,h1⟩:=dB hl;cases len0 h1;rfl
theorem RG (kV doc pm:Value) (an:Option Addr) (cdv ct:Value) (us:List Value) (hl:us.length=(["reel"]:List Str).length):bindArgs (PySem.W.fnOf "_law_plain" "_law_plain" (aL lC) (aJ lC) (aB lC) .none kV doc pm an cdv ct) ⟨us,[]⟩=pure ((["reel"]:List Str).zip us):=by obtain ⟨_,_,rfl,h1⟩:=dB hl;cases len0 h1;rfl
theorem RB (kV doc pm:Value) (an:Option Addr) (cdv ct:Value) (us:List Value) (hl:us.length=(["reel"]:List Str).length):bindArgs (PySem.W.fnOf "_law_worth" "_law_worth" (aL lA) (aJ lA) (aB lA) .none kV doc pm an cdv ct) ⟨us,[]⟩=pure ((["reel"]:List Str).zip us):=by obtain ⟨_,_,rfl,h1⟩:=dB hl;cases len0 h1;rfl
theorem YB (kV doc pm:Value) (an:Option Addr) (cdv ct:Value) (us:List Value) (hl:us.length=(["reel","many","size"]:List Str).length):bindArgs (PySem.W.fnOf "_law_row" "_law_row" (aL uN) (aJ uN) (aB uN) .none kV doc pm an cdv ct) ⟨us,[]⟩=pure ((["reel","many","size"]:List Str).zip us):=by obtain ⟨_,_,rfl,h1⟩:=dB hl;obtain ⟨_,_,rfl,h2⟩:=dB h1;obtain ⟨_,_,rfl,h3⟩:=dB h2;cases len0 h3;rfl
theorem Wd (kV doc pm:Value) (an:Option Addr) (cdv ct:Value) (us:List Value) (hl:us.length=(["reel"]:List Str).length):bindArgs (PySem.W.fnOf "_law_full" "_law_full" (aL pY) (aJ pY) (aB pY) .none kV doc pm an cdv ct) ⟨us,[]⟩=pure ((["reel"]:List Str).zip us):=by obtain ⟨_,_,rfl,h1⟩:=dB hl;cases len0 h1;rfl
theorem FW (kV doc pm:Value) (an:Option Addr) (cdv ct:Value) (us:List Value) (hl:us.length=(["told"]:List Str).length):bindArgs (PySem.W.fnOf "_law_worth_text" "_law_worth_text" (aL dF) (aJ dF) (aB dF) .none kV doc pm an cdv ct) ⟨us,[]⟩=pure ((["told"]:List Str).zip us):=by obtain ⟨_,_,rfl,h1⟩:=dB hl;cases len0 h1;rfl
theorem JH (kV doc pm:Value) (an:Option Addr) (cdv ct:Value) (us:List Value) (hl:us.length=(["row"]:List Str).length):bindArgs (PySem.W.fnOf "_law_row_text" "_law_row_text" (aL d7) (aJ d7) (aB d7) .none kV doc pm an cdv ct) ⟨us,[]⟩=pure ((["row"]:List Str).zip us):=by obtain ⟨_,_,rfl,h1⟩:=dB hl;cases len0 h1;rfl
theorem Wa (kV doc pm:Value) (an:Option Addr) (cdv ct:Value) (us:List Value) (hl:us.length=(["program"]:List Str).length):bindArgs (PySem.W.fnOf "_law_text" "_law_text" (aL pU) (aJ pU) (aB pU) .none kV doc pm an cdv ct) ⟨us,[]⟩=pure ((["program"]:List Str).zip us):=by obtain ⟨_,_,rfl,h1⟩:=dB hl;cases len0 h1;rfl
theorem RD (kV doc pm:Value) (an:Option Addr) (cdv ct:Value) (us:List Value) (hl:us.length=([]:List Str).length):bindArgs (PySem.W.fnOf "_law_signs" "_law_signs" (aL lB) (aJ lB) (aB lB) .none kV doc pm an cdv ct) ⟨us,[]⟩=pure (([]:List Str).zip us):=by cases len0 hl;rfl
theorem Wb (kV doc pm:Value) (an:Option Addr) (cdv ct:Value) (us:List Value) (hl:us.length=(["reel"]:List Str).length):bindArgs (PySem.W.fnOf "_law_sign" "_law_sign" (aL pW) (aJ pW) (aB pW) .none kV doc pm an cdv ct) ⟨us,[]⟩=pure ((["reel"]:List Str).zip us):=by obtain ⟨_,_,rfl,h1⟩:=dB hl;cases len0 h1;rfl
theorem V_ (kV doc pm:Value) (an:Option Addr) (cdv ct:Value) (us:List Value) (hl:us.length=(["reel"]:List Str).length):bindArgs (PySem.W.fnOf "_law_word" "_law_word" (aL pR) (aJ pR) (aB pR) .none kV doc pm an cdv ct) ⟨us,[]⟩=pure ((["reel"]:List Str).zip us):=by obtain ⟨_,_,rfl,h1⟩:=dB hl;cases len0 h1;rfl
theorem Cw (kV doc pm:Value) (an:Option Addr) (cdv ct:Value) (us:List Value) (hl:us.length=(["reel","rows","kind"]:List Str).length):bindArgs (PySem.W.fnOf "_law_rows_spoilt" "_law_rows_spoilt" (aL cX) (aJ cX) (aB cX) .none kV doc pm an cdv ct) ⟨us,[]⟩=pure ((["reel","rows","kind"]:List Str).zip us):=by obtain ⟨_,_,rfl,h1⟩:=dB hl;obtain ⟨_,_,rfl,h2⟩:=dB h1;obtain ⟨_,_,rfl,h3⟩:=dB h2;cases len0 h3;rfl
theorem Ov (kV doc pm:Value) (an:Option Addr) (cdv ct:Value) (us:List Value) (hl:us.length=(["reel","text"]:List Str).length):bindArgs (PySem.W.fnOf "_law_spoilt" "_law_spoilt" (aL gG) (aJ gG) (aB gG) .none kV doc pm an cdv ct) ⟨us,[]⟩=pure ((["reel","text"]:List Str).zip us):=by obtain ⟨_,_,rfl,h1⟩:=dB hl;obtain ⟨_,_,rfl,h2⟩:=dB h1;cases len0 h2;rfl
theorem GQ (kV doc pm:Value) (an:Option Addr) (cdv ct:Value) (us:List Value) (hl:us.length=(["word"]:List Str).length):bindArgs (PySem.W.fnOf "_law_is_number" "_law_is_number" (aL dR) (aJ dR) (aB dR) .none kV doc pm an cdv ct) ⟨us,[]⟩=pure ((["word"]:List Str).zip us):=by obtain ⟨_,_,rfl,h1⟩:=dB hl;cases len0 h1;rfl
theorem JL (kV doc pm:Value) (an:Option Addr) (cdv ct:Value) (us:List Value) (hl:us.length=(["word"]:List Str).length):bindArgs (PySem.W.fnOf "_law_is_plain" "_law_is_plain" (aL d9) (aJ d9) (aB d9) .none kV doc pm an cdv ct) ⟨us,[]⟩=pure ((["word"]:List Str).zip us):=by obtain ⟨_,_,rfl,h1⟩:=dB hl;cases len0 h1;rfl
theorem JK (kV doc pm:Value) (an:Option Addr) (cdv ct:Value) (us:List Value) (hl:us.length=(["word"]:List Str).length):bindArgs (PySem.W.fnOf "_law_is_worth" "_law_is_worth" (aL d8) (aJ d8) (aB d8) .none kV doc pm an cdv ct) ⟨us,[]⟩=pure ((["word"]:List Str).zip us):=by obtain ⟨_,_,rfl,h1⟩:=dB hl;cases len0 h1;rfl
theorem Wg (kV doc pm:Value) (an:Option Addr) (cdv ct:Value) (us:List Value) (hl:us.length=(["word","part"]:List Str).length):bindArgs (PySem.W.fnOf "_law_fits" "_law_fits" (aL p7) (aJ p7) (aB p7) .none kV doc pm an cdv ct) ⟨us,[]⟩=pure ((["word","part"]:List Str).zip us):=by obtain ⟨_,_,rfl,h1⟩:=dB hl;obtain ⟨_,_,rfl,h2⟩:=dB h1;cases len0 h2;rfl
theorem Wf (kV doc pm:Value) (an:Option Addr) (cdv ct:Value) (us:List Value) (hl:us.length=(["words"]:List Str).length):bindArgs (PySem.W.fnOf "_law_form" "_law_form" (aL pZ) (aJ pZ) (aB pZ) .none kV doc pm an cdv ct) ⟨us,[]⟩=pure ((["words"]:List Str).zip us):=by obtain ⟨_,_,rfl,h1⟩:=dB hl;cases len0 h1;rfl
theorem RJ (kV doc pm:Value) (an:Option Addr) (cdv ct:Value) (us:List Value) (hl:us.length=(["row","many","lengths"]:List Str).length):bindArgs (PySem.W.fnOf "_law_fault" "_law_fault" (aL lD) (aJ lD) (aB lD) .none kV doc pm an cdv ct) ⟨us,[]⟩=pure ((["row","many","lengths"]:List Str).zip us):=by obtain ⟨_,_,rfl,h1⟩:=dB hl;obtain ⟨_,_,rfl,h2⟩:=dB h1;obtain ⟨_,_,rfl,h3⟩:=dB h2;cases len0 h3;rfl
theorem Ow (kV doc pm:Value) (an:Option Addr) (cdv ct:Value) (us:List Value) (hl:us.length=(["rows","lengths"]:List Str).length):bindArgs (PySem.W.fnOf "_law_beyond" "_law_beyond" (aL gH) (aJ gH) (aB gH) .none kV doc pm an cdv ct) ⟨us,[]⟩=pure ((["rows","lengths"]:List Str).zip us):=by obtain ⟨_,_,rfl,h1⟩:=dB hl;obtain ⟨_,_,rfl,h2⟩:=dB h1;cases len0 h2;rfl
theorem YC (kV doc pm:Value) (an:Option Addr) (cdv ct:Value) (us:List Value) (hl:us.length=(["text"]:List Str).length):bindArgs (PySem.W.fnOf "_law_due" "_law_due" (aL uO) (aJ uO) (aB uO) .none kV doc pm an cdv ct) ⟨us,[]⟩=pure ((["text"]:List Str).zip us):=by obtain ⟨_,_,rfl,h1⟩:=dB hl;cases len0 h1;rfl
theorem all_mk {l:PySem.W.OpenLaw} {w:World} {K:PySem.W.Frag} {h:Heap} {mg:Str->Option Value} {fa f0 f1 f2 f3 f4 f5 f6 f7 f8 f9 f10 f11 f12 f13 f14 f15 f16 f17 f18 f19 f20 f21 f22 f23 f24 f25 f26 f27 f28 f29 f30 f31 f32 f33 f34 f35 f36 f37 aD aC aH ao bN bf dh cA bV bU bK bT bA bM bL bR dg bJ:Addr} (X:K.In h) (G:h.Ns mainGlobals mg) (hfa:mg "law" = some (.ref fa))
 {od0 an0 od1 an1 od2 an2 od3 an3 od4 an4 od5 an5 od6 an6 od7 an7 od8 an8 od9 an9 ahi akW ahh akV ahg akU ahf akT ahe akS ahd akR ahc akQ ahb akP aha akO ag' akN ag9 akM ag8 akL ag7 akK ag6 akJ ag5 akI ag4 akH ag3 akG ag2 akF ag1 akE ag0 akD agZ akC agY akB agX akA agW akz agV aky agU akx agT akv agS ad6:Option Addr} {sl0 sl1 sl2 sl3 sl4 sl5 sl6 sl7 sl8 sl9 agb aga af' af_ af9 af8 af7 af6 af5 af4 af3 af2 af0 afZ afY afX afW afV afU afT afS afR afQ afP afO afN afM afL:Array (Option Value)} {oc0 kV0 dc0 pm0 cd0 ct0 oc1 kV1 dc1 pm1 cd1 ct1 oc2 kV2 dc2 pm2 cd2 ct2 oc3 kV3 dc3 pm3 cd3 ct3 oc4 kV4 dc4 pm4 cd4 ct4 oc5 kV5 dc5 pm5 cd5 ct5 oc6 kV6 dc6 pm6 cd6 ct6 oc7 kV7 dc7 pm7 cd7 ct7 oc8 kV8 dc8 pm8 cd8 ct8 oc9 kV9 dc9 pm9 cd9 ct9 ahK aiR ajE agQ ad3 aj5 ahJ aiQ ajD agP ad2 aj4 ahI aiP ajC agO ad1 aj3 ahH aiO ajB agN ad0 aj2 ahG aiN ajA agM adZ aj1 ahF aiM ajz agL adY aj0 ahE aiL ajy agK adX ajZ ahD aiK ajx agJ adW ajY ahC aiJ ajw agI adV ajX ahB aiI ajv agH adU ajW ahA aiH aju agG adT ajV ahz aiG ajt agF adS ajU ahy aiF ajs agE adR ajT ahx aiE ajr agD adQ ajS ahw aiD ajq agC adP ajR ahv aiC ajp agB adO ajQ ahu aiB ajo agA adN ajP aht aiA ajn agz adM ajO ahs aiz ajm agy adL ajN ahr aiy ajl agx adK ajM ahq aix ajk agw adJ ajL ahp aiw ajj agv adI ajK aho aiv aji agu adH ajJ ahn aiu ajh agt adG ajI ahm ait ajg ags adF ajH ahl ais ajf agr adE ajG ahk air aje agq adD ajF ahj acJ adz acn aa7 adB:Value}
 (a0:PySem.W.findIn K (.ref aD) "__init__" = some (some (.ref f0))) (l0:K.lookup f0=some ⟨oc0,od0,.func (PySem.W.fnOf "__init__" "RowError.__init__" (aL cL) (aJ cL) (aB cL) .none kV0 dc0 pm0 an0 cd0 ct0),sl0⟩) (c0:PySem.W.codeIn K cd0 "RowError.__init__" = true) (k0:PySem.W.keepIn K (.ref f0)=true) (n0:PySem.W.isFn K (.ref f0)=true) (BR:PySem.W.findIn K (.ref aC) "__init__" = some (some (.ref f0))) (JQ:PySem.W.findIn K (.ref aH) "__init__" = some (some (.ref f0))) (wR:PySem.W.findIn K (.ref ao) "__init__" = some (some (.ref f0)))
 (a1:PySem.W.nsIn K mainGlobals "number_of" = some (some (.ref f1))) (l1:K.lookup f1=some ⟨oc1,od1,.func (PySem.W.fnOf "number_of" "number_of" (aL dZ) (aJ dZ) (aB dZ) .none kV1 dc1 pm1 an1 cd1 ct1),sl1⟩) (c1:PySem.W.codeIn K cd1 "number_of" = true) (k1:PySem.W.keepIn K (.ref f1)=true)
 (a2:PySem.W.nsIn K mainGlobals "is_box" = some (some (.ref f2))) (l2:K.lookup f2=some ⟨oc2,od2,.func (PySem.W.fnOf "is_box" "is_box" (aL lu) (aJ lu) (aB lu) .none kV2 dc2 pm2 an2 cd2 ct2),sl2⟩) (c2:PySem.W.codeIn K cd2 "is_box" = true) (k2:PySem.W.keepIn K (.ref f2)=true)
 (a3:PySem.W.nsIn K mainGlobals "single_of" = some (some (.ref f3))) (l3:K.lookup f3=some ⟨oc3,od3,.func (PySem.W.fnOf "single_of" "single_of" (aL dY) (aJ dY) (aB dY) .none kV3 dc3 pm3 an3 cd3 ct3),sl3⟩) (c3:PySem.W.codeIn K cd3 "single_of" = true) (k3:PySem.W.keepIn K (.ref f3)=true)
 (a4:PySem.W.nsIn K mainGlobals "pair_of" = some (some (.ref f4))) (l4:K.lookup f4=some ⟨oc4,od4,.func (PySem.W.fnOf "pair_of" "pair_of" (aL gD) (aJ gD) (aB gD) .none kV4 dc4 pm4 an4 cd4 ct4),sl4⟩) (c4:PySem.W.codeIn K cd4 "pair_of" = true) (k4:PySem.W.keepIn K (.ref f4)=true)
 (a5:PySem.W.nsIn K mainGlobals "sum_of" = some (some (.ref f5))) (l5:K.lookup f5=some ⟨oc5,od5,.func (PySem.W.fnOf "sum_of" "sum_of" (aL lg) (aJ lg) (aB lg) .none kV5 dc5 pm5 an5 cd5 ct5),sl5⟩) (c5:PySem.W.codeIn K cd5 "sum_of" = true) (k5:PySem.W.keepIn K (.ref f5)=true)
 (a6:PySem.W.nsIn K mainGlobals "part_of" = some (some (.ref f6))) (l6:K.lookup f6=some ⟨oc6,od6,.func (PySem.W.fnOf "part_of" "part_of" (aL gC) (aJ gC) (aB gC) .none kV6 dc6 pm6 an6 cd6 ct6),sl6⟩) (c6:PySem.W.codeIn K cd6 "part_of" = true) (k6:PySem.W.keepIn K (.ref f6)=true)
 (a7:PySem.W.nsIn K mainGlobals "row_of" = some (some (.ref f7))) (l7:K.lookup f7=some ⟨oc7,od7,.func (PySem.W.fnOf "row_of" "row_of" (aL lq) (aJ lq) (aB lq) .none kV7 dc7 pm7 an7 cd7 ct7),sl7⟩) (c7:PySem.W.codeIn K cd7 "row_of" = true) (k7:PySem.W.keepIn K (.ref f7)=true)
 (a8:PySem.W.nsIn K mainGlobals "cell_of" = some (some (.ref f8))) (l8:K.lookup f8=some ⟨oc8,od8,.func (PySem.W.fnOf "cell_of" "cell_of" (aL gF) (aJ gF) (aB gF) .none kV8 dc8 pm8 an8 cd8 ct8),sl8⟩) (c8:PySem.W.codeIn K cd8 "cell_of" = true) (k8:PySem.W.keepIn K (.ref f8)=true)
 (a9:PySem.W.nsIn K mainGlobals "check_form" = some (some (.ref f9))) (l9:K.lookup f9=some ⟨oc9,od9,.func (PySem.W.fnOf "check_form" "check_form" (aL dO) (aJ dO) (aB dO) .none kV9 dc9 pm9 an9 cd9 ct9),sl9⟩) (c9:PySem.W.codeIn K cd9 "check_form" = true) (k9:PySem.W.keepIn K (.ref f9)=true)
 (a10:PySem.W.nsIn K mainGlobals "check_cells" = some (some (.ref f10))) (l10:K.lookup f10=some ⟨ahK,ahi,.func (PySem.W.fnOf "check_cells" "check_cells" (aL dD) (aJ dD) (aB dD) .none aiR ajE agQ akW ad3 aj5),agb⟩) (c10:PySem.W.codeIn K ad3 "check_cells" = true) (k10:PySem.W.keepIn K (.ref f10)=true)
 (a11:PySem.W.nsIn K mainGlobals "check_room" = some (some (.ref f11))) (l11:K.lookup f11=some ⟨ahJ,ahh,.func (PySem.W.fnOf "check_room" "check_room" (aL dN) (aJ dN) (aB dN) .none aiQ ajD agP akV ad2 aj4),aga⟩) (c11:PySem.W.codeIn K ad2 "check_room" = true) (k11:PySem.W.keepIn K (.ref f11)=true)
 (a12:PySem.W.nsIn K mainGlobals "check_targets" = some (some (.ref f12))) (l12:K.lookup f12=some ⟨ahI,ahg,.func (PySem.W.fnOf "check_targets" "check_targets" (aL cJ) (aJ cJ) (aB cJ) .none aiP ajC agO akU ad1 aj3),af'⟩) (c12:PySem.W.codeIn K ad1 "check_targets" = true) (k12:PySem.W.keepIn K (.ref f12)=true)
 (a13:PySem.W.nsIn K mainGlobals "read" = some (some (.ref f13))) (l13:K.lookup f13=some ⟨ahH,ahf,.func (PySem.W.fnOf "read" "read" (aL uM) (aJ uM) (aB uM) .none aiO ajB agN akT ad0 aj2),af_⟩) (c13:PySem.W.codeIn K ad0 "read" = true) (k13:PySem.W.keepIn K (.ref f13)=true)
 (a14:PySem.W.nsIn K mainGlobals "_law_reel" = some (some (.ref f14))) (l14:K.lookup f14=some ⟨ahG,ahe,.func (PySem.W.fnOf "_law_reel" "_law_reel" (aL pX) (aJ pX) (aB pX) .none aiN ajA agM akS adZ aj1),af9⟩) (c14:PySem.W.codeIn K adZ "_law_reel" = true) (k14:PySem.W.keepIn K (.ref f14)=true)
 (a15:PySem.W.nsIn K mainGlobals "_law_draw" = some (some (.ref f15))) (l15:K.lookup f15=some ⟨ahF,ahd,.func (PySem.W.fnOf "_law_draw" "_law_draw" (aL qb) (aJ qb) (aB qb) .none aiM ajz agL akR adY aj0),af8⟩) (c15:PySem.W.codeIn K adY "_law_draw" = true) (k15:PySem.W.keepIn K (.ref f15)=true)
 (a16:PySem.W.nsIn K mainGlobals "_law_asked" = some (some (.ref f16))) (l16:K.lookup f16=some ⟨ahE,ahc,.func (PySem.W.fnOf "_law_asked" "_law_asked" (aL lE) (aJ lE) (aB lE) .none aiL ajy agK akQ adX ajZ),af7⟩) (c16:PySem.W.codeIn K adX "_law_asked" = true) (k16:PySem.W.keepIn K (.ref f16)=true)
 (a17:PySem.W.nsIn K mainGlobals "_law_plain" = some (some (.ref f17))) (l17:K.lookup f17=some ⟨ahD,ahb,.func (PySem.W.fnOf "_law_plain" "_law_plain" (aL lC) (aJ lC) (aB lC) .none aiK ajx agJ akP adW ajY),af6⟩) (c17:PySem.W.codeIn K adW "_law_plain" = true) (k17:PySem.W.keepIn K (.ref f17)=true)
 (a18:PySem.W.nsIn K mainGlobals "_law_worth" = some (some (.ref f18))) (l18:K.lookup f18=some ⟨ahC,aha,.func (PySem.W.fnOf "_law_worth" "_law_worth" (aL lA) (aJ lA) (aB lA) .none aiJ ajw agI akO adV ajX),af5⟩) (c18:PySem.W.codeIn K adV "_law_worth" = true) (k18:PySem.W.keepIn K (.ref f18)=true)
 (a19:PySem.W.nsIn K mainGlobals "_law_row" = some (some (.ref f19))) (l19:K.lookup f19=some ⟨ahB,ag',.func (PySem.W.fnOf "_law_row" "_law_row" (aL uN) (aJ uN) (aB uN) .none aiI ajv agH akN adU ajW),af4⟩) (c19:PySem.W.codeIn K adU "_law_row" = true) (k19:PySem.W.keepIn K (.ref f19)=true)
 (a20:PySem.W.nsIn K mainGlobals "_law_full" = some (some (.ref f20))) (l20:K.lookup f20=some ⟨ahA,ag9,.func (PySem.W.fnOf "_law_full" "_law_full" (aL pY) (aJ pY) (aB pY) .none aiH aju agG akM adT ajV),af3⟩) (c20:PySem.W.codeIn K adT "_law_full" = true) (k20:PySem.W.keepIn K (.ref f20)=true)
 (a21:PySem.W.nsIn K mainGlobals "_law_worth_text" = some (some (.ref f21))) (l21:K.lookup f21=some ⟨ahz,ag8,.func (PySem.W.fnOf "_law_worth_text" "_law_worth_text" (aL dF) (aJ dF) (aB dF) .none aiG ajt agF akL adS ajU),af2⟩) (c21:PySem.W.codeIn K adS "_law_worth_text" = true) (k21:PySem.W.keepIn K (.ref f21)=true)
 (a22:PySem.W.nsIn K mainGlobals "_law_row_text" = some (some (.ref f22))) (l22:K.lookup f22=some ⟨ahy,ag7,.func (PySem.W.fnOf "_law_row_text" "_law_row_text" (aL d7) (aJ d7) (aB d7) .none aiF ajs agE akK adR ajT),af0⟩) (c22:PySem.W.codeIn K adR "_law_row_text" = true) (k22:PySem.W.keepIn K (.ref f22)=true)
 (a23:PySem.W.nsIn K mainGlobals "_law_text" = some (some (.ref f23))) (l23:K.lookup f23=some ⟨ahx,ag6,.func (PySem.W.fnOf "_law_text" "_law_text" (aL pU) (aJ pU) (aB pU) .none aiE ajr agD akJ adQ ajS),afZ⟩) (c23:PySem.W.codeIn K adQ "_law_text" = true) (k23:PySem.W.keepIn K (.ref f23)=true)
 (a24:PySem.W.nsIn K mainGlobals "_law_signs" = some (some (.ref f24))) (l24:K.lookup f24=some ⟨ahw,ag5,.func (PySem.W.fnOf "_law_signs" "_law_signs" (aL lB) (aJ lB) (aB lB) .none aiD ajq agC akI adP ajR),afY⟩) (c24:PySem.W.codeIn K adP "_law_signs" = true) (k24:PySem.W.keepIn K (.ref f24)=true)
 (a25:PySem.W.nsIn K mainGlobals "_law_sign" = some (some (.ref f25))) (l25:K.lookup f25=some ⟨ahv,ag4,.func (PySem.W.fnOf "_law_sign" "_law_sign" (aL pW) (aJ pW) (aB pW) .none aiC ajp agB akH adO ajQ),afX⟩) (c25:PySem.W.codeIn K adO "_law_sign" = true) (k25:PySem.W.keepIn K (.ref f25)=true)
 (a26:PySem.W.nsIn K mainGlobals "_law_word" = some (some (.ref f26))) (l26:K.lookup f26=some ⟨ahu,ag3,.func (PySem.W.fnOf "_law_word" "_law_word" (aL pR) (aJ pR) (aB pR) .none aiB ajo agA akG adN ajP),afW⟩) (c26:PySem.W.codeIn K adN "_law_word" = true) (k26:PySem.W.keepIn K (.ref f26)=true)
 (a27:PySem.W.nsIn K mainGlobals "_law_rows_spoilt" = some (some (.ref f27))) (l27:K.lookup f27=some ⟨aht,ag2,.func (PySem.W.fnOf "_law_rows_spoilt" "_law_rows_spoilt" (aL cX) (aJ cX) (aB cX) .none aiA ajn agz akF adM ajO),afV⟩) (c27:PySem.W.codeIn K adM "_law_rows_spoilt" = true) (k27:PySem.W.keepIn K (.ref f27)=true)
 (a28:PySem.W.nsIn K mainGlobals "_law_spoilt" = some (some (.ref f28))) (l28:K.lookup f28=some ⟨ahs,ag1,.func (PySem.W.fnOf "_law_spoilt" "_law_spoilt" (aL gG) (aJ gG) (aB gG) .none aiz ajm agy akE adL ajN),afU⟩) (c28:PySem.W.codeIn K adL "_law_spoilt" = true) (k28:PySem.W.keepIn K (.ref f28)=true)
 (a29:PySem.W.nsIn K mainGlobals "_law_is_number" = some (some (.ref f29))) (l29:K.lookup f29=some ⟨ahr,ag0,.func (PySem.W.fnOf "_law_is_number" "_law_is_number" (aL dR) (aJ dR) (aB dR) .none aiy ajl agx akD adK ajM),afT⟩) (c29:PySem.W.codeIn K adK "_law_is_number" = true) (k29:PySem.W.keepIn K (.ref f29)=true)
 (a30:PySem.W.nsIn K mainGlobals "_law_is_plain" = some (some (.ref f30))) (l30:K.lookup f30=some ⟨ahq,agZ,.func (PySem.W.fnOf "_law_is_plain" "_law_is_plain" (aL d9) (aJ d9) (aB d9) .none aix ajk agw akC adJ ajL),afS⟩) (c30:PySem.W.codeIn K adJ "_law_is_plain" = true) (k30:PySem.W.keepIn K (.ref f30)=true)
 (a31:PySem.W.nsIn K mainGlobals "_law_is_worth" = some (some (.ref f31))) (l31:K.lookup f31=some ⟨ahp,agY,.func (PySem.W.fnOf "_law_is_worth" "_law_is_worth" (aL d8) (aJ d8) (aB d8) .none aiw ajj agv akB adI ajK),afR⟩) (c31:PySem.W.codeIn K adI "_law_is_worth" = true) (k31:PySem.W.keepIn K (.ref f31)=true)
 (a32:PySem.W.nsIn K mainGlobals "_law_fits" = some (some (.ref f32))) (l32:K.lookup f32=some ⟨aho,agX,.func (PySem.W.fnOf "_law_fits" "_law_fits" (aL p7) (aJ p7) (aB p7) .none aiv aji agu akA adH ajJ),afQ⟩) (c32:PySem.W.codeIn K adH "_law_fits" = true) (k32:PySem.W.keepIn K (.ref f32)=true)
 (a33:PySem.W.nsIn K mainGlobals "_law_form" = some (some (.ref f33))) (l33:K.lookup f33=some ⟨ahn,agW,.func (PySem.W.fnOf "_law_form" "_law_form" (aL pZ) (aJ pZ) (aB pZ) .none aiu ajh agt akz adG ajI),afP⟩) (c33:PySem.W.codeIn K adG "_law_form" = true) (k33:PySem.W.keepIn K (.ref f33)=true)
 (a34:PySem.W.nsIn K mainGlobals "_law_fault" = some (some (.ref f34))) (l34:K.lookup f34=some ⟨ahm,agV,.func (PySem.W.fnOf "_law_fault" "_law_fault" (aL lD) (aJ lD) (aB lD) .none ait ajg ags aky adF ajH),afO⟩) (c34:PySem.W.codeIn K adF "_law_fault" = true) (k34:PySem.W.keepIn K (.ref f34)=true)
 (a35:PySem.W.nsIn K mainGlobals "_law_beyond" = some (some (.ref f35))) (l35:K.lookup f35=some ⟨ahl,agU,.func (PySem.W.fnOf "_law_beyond" "_law_beyond" (aL gH) (aJ gH) (aB gH) .none ais ajf agr akx adE ajG),afN⟩) (c35:PySem.W.codeIn K adE "_law_beyond" = true) (k35:PySem.W.keepIn K (.ref f35)=true)
 (a36:PySem.W.nsIn K mainGlobals "_law_due" = some (some (.ref f36))) (l36:K.lookup f36=some ⟨ahk,agT,.func (PySem.W.fnOf "_law_due" "_law_due" (aL uO) (aJ uO) (aB uO) .none air aje agq akv adD ajF),afM⟩) (c36:PySem.W.codeIn K adD "_law_due" = true) (k36:PySem.W.keepIn K (.ref f36)=true)
 (a37:PySem.W.nsIn K mainGlobals "law" = some (some (.ref f37))) (l37:K.lookup f37=some ⟨ahj,agS,.func (PySem.W.fnOf "law" "law" (aL zG) (aJ zG) (aB zG) .none acJ adz acn ad6 aa7 adB),afL⟩) (c37:PySem.W.codeIn K aa7 "law" = true) (k37:PySem.W.keepIn K (.ref f37)=true)
 (za:PySem.W.nsIn K mainGlobals "NoRow" = some (some (.ref aD)))
 (xr:(PySem.W.clsIn K aD).isSome=true)
 (zZ:PySem.W.typeIn K (.ref aD)=some (.type "type"))
 (Ak:PySem.W.subIn K (.ref aD) (.type "BaseException")=some true)
 (xu:PySem.W.nsIn K mainGlobals "NoCell" = some (some (.ref aC)))
 (uz:(PySem.W.clsIn K aC).isSome=true)
 (yp:PySem.W.typeIn K (.ref aC)=some (.type "type"))
 (yO:PySem.W.subIn K (.ref aC) (.type "BaseException")=some true)
 (Cz:PySem.W.nsIn K mainGlobals "Full" = some (some (.ref aH)))
 (yZ:(PySem.W.clsIn K aH).isSome=true)
 (Dp:PySem.W.typeIn K (.ref aH)=some (.type "type"))
 (DR:PySem.W.subIn K (.ref aH) (.type "BaseException")=some true)
 (rz:PySem.W.nsIn K mainGlobals "NoTarget" = some (some (.ref ao)))
 (pQ:(PySem.W.clsIn K ao).isSome=true)
 (t_:PySem.W.typeIn K (.ref ao)=some (.type "type"))
 (uF:PySem.W.subIn K (.ref ao) (.type "BaseException")=some true)
 (vQ:PySem.W.nsIn K mainGlobals "RowError" = some (some (.ref bN)))
 (ux:(PySem.W.clsIn K bN).isSome=true)
 (tZ:PySem.W.typeIn K (.ref bN)=some (.type "type"))
 (uE:PySem.W.subIn K (.ref bN) (.type "BaseException")=some true)
 (uH:PySem.W.nsIn K mainGlobals "NoteError" = some (some (.ref bf)))
 (rR:(PySem.W.clsIn K bf).isSome=true)
 (rM:PySem.W.typeIn K (.ref bf)=some (.type "type"))
 (rT:PySem.W.subIn K (.ref bf) (.type "BaseException")=some true)
 (HW:PySem.W.nsIn K mainGlobals "Held" = some (some (.ref dh)))
 (DK:(PySem.W.clsIn K dh).isSome=true)
 (Dn:PySem.W.typeIn K (.ref dh)=some (.type "type"))
 (DQ:PySem.W.subIn K (.ref dh) (.type "BaseException")=some true)
 (DW:PySem.W.nsIn K mainGlobals "NoCut" = some (some (.ref cA)))
 (Ai:(PySem.W.clsIn K cA).isSome=true)
 (z9:PySem.W.typeIn K (.ref cA)=some (.type "type"))
 (Al:PySem.W.subIn K (.ref cA) (.type "BaseException")=some true)
 (Ar:PySem.W.nsIn K mainGlobals "NoForm" = some (some (.ref bV)))
 (yI:(PySem.W.clsIn K bV).isSome=true)
 (yj:PySem.W.typeIn K (.ref bV)=some (.type "type"))
 (yN:PySem.W.subIn K (.ref bV) (.type "BaseException")=some true)
 (Aq:PySem.W.nsIn K mainGlobals "NoHand" = some (some (.ref bU)))
 (yH:(PySem.W.clsIn K bU).isSome=true)
 (yg:PySem.W.typeIn K (.ref bU)=some (.type "type"))
 (yM:PySem.W.subIn K (.ref bU) (.type "BaseException")=some true)
 (yQ:PySem.W.nsIn K mainGlobals "NoneYet" = some (some (.ref bK)))
 (vJ:(PySem.W.clsIn K bK).isSome=true)
 (vC:PySem.W.typeIn K (.ref bK)=some (.type "type"))
 (vN:PySem.W.subIn K (.ref bK) (.type "BaseException")=some true)
 (Ao:PySem.W.nsIn K mainGlobals "NoNote" = some (some (.ref bT)))
 (yG:(PySem.W.clsIn K bT).isSome=true)
 (yd:PySem.W.typeIn K (.ref bT)=some (.type "type"))
 (yL:PySem.W.subIn K (.ref bT) (.type "BaseException")=some true)
 (vR:PySem.W.nsIn K mainGlobals "NoNumber" = some (some (.ref bA)))
 (uy:(PySem.W.clsIn K bA).isSome=true)
 (uc:PySem.W.typeIn K (.ref bA)=some (.type "type"))
 (uG:PySem.W.subIn K (.ref bA) (.type "BaseException")=some true)
 (yS:PySem.W.nsIn K mainGlobals "NoOrder" = some (some (.ref bM)))
 (vL:(PySem.W.clsIn K bM).isSome=true)
 (vG:PySem.W.typeIn K (.ref bM)=some (.type "type"))
 (vP:PySem.W.subIn K (.ref bM) (.type "BaseException")=some true)
 (yR:PySem.W.nsIn K mainGlobals "NoPlace" = some (some (.ref bL)))
 (vK:(PySem.W.clsIn K bL).isSome=true)
 (vD:PySem.W.typeIn K (.ref bL)=some (.type "type"))
 (vO:PySem.W.subIn K (.ref bL) (.type "BaseException")=some true)
 (Am:PySem.W.nsIn K mainGlobals "NoText" = some (some (.ref bR)))
 (yF:(PySem.W.clsIn K bR).isSome=true)
 (yc:PySem.W.typeIn K (.ref bR)=some (.type "type"))
 (yK:PySem.W.subIn K (.ref bR) (.type "BaseException")=some true)
 (HS:PySem.W.nsIn K mainGlobals "Over" = some (some (.ref dg)))
 (DG:(PySem.W.clsIn K dg).isSome=true)
 (Dm:PySem.W.typeIn K (.ref dg)=some (.type "type"))
 (DP:PySem.W.subIn K (.ref dg) (.type "BaseException")=some true)
 (yP:PySem.W.nsIn K mainGlobals "TooMany" = some (some (.ref bJ)))
 (vI:(PySem.W.clsIn K bJ).isSome=true)
 (vB:PySem.W.typeIn K (.ref bJ)=some (.type "type"))
 (vM:PySem.W.subIn K (.ref bJ) (.type "BaseException")=some true)
 (mZ:(Value.ref aC==Value.ref aD)=false)
 (mJ:PySem.W.subIn K (.ref aC) (.ref aD)=some false)
 (qG:(Value.ref aH==Value.ref aD)=false)
 (qy:PySem.W.subIn K (.ref aH) (.ref aD)=some false)
 (jg:(Value.ref ao==Value.ref aD)=false)
 (iU:PySem.W.subIn K (.ref ao) (.ref aD)=some false)
 (mY:(Value.ref aD==Value.ref aC)=false)
 (mH:PySem.W.subIn K (.ref aD) (.ref aC)=some false)
 (oW:(Value.ref aH==Value.ref aC)=false)
 (oH:PySem.W.subIn K (.ref aH) (.ref aC)=some false)
 (iC:(Value.ref ao==Value.ref aC)=false)
 (gZ:PySem.W.subIn K (.ref ao) (.ref aC)=some false)
 (qF:(Value.ref aD==Value.ref aH)=false)
 (qx:PySem.W.subIn K (.ref aD) (.ref aH)=some false)
 (oN:(Value.ref aC==Value.ref aH)=false)
 (ou:PySem.W.subIn K (.ref aC) (.ref aH)=some false)
 (j7:(Value.ref ao==Value.ref aH)=false)
 (jO:PySem.W.subIn K (.ref ao) (.ref aH)=some false)
 (jj:(Value.ref aD==Value.ref ao)=false)
 (iY:PySem.W.subIn K (.ref aD) (.ref ao)=some false)
 (iH:(Value.ref aC==Value.ref ao)=false)
 (ig:PySem.W.subIn K (.ref aC) (.ref ao)=some false)
 (kW:(Value.ref aH==Value.ref ao)=false)
 (jZ:PySem.W.subIn K (.ref aH) (.ref ao)=some false)
 (ji:(Value.ref aD==Value.ref bN)=false)
 (iW:PySem.W.subIn K (.ref aD) (.ref bN)=some true)
 (iG:(Value.ref aC==Value.ref bN)=false)
 (h_:PySem.W.subIn K (.ref aC) (.ref bN)=some true)
 (kO:(Value.ref aH==Value.ref bN)=false)
 (jY:PySem.W.subIn K (.ref aH) (.ref bN)=some true)
 (fL:(Value.ref ao==Value.ref bN)=false)
 (fJ:PySem.W.subIn K (.ref ao) (.ref bN)=some true)
 (iD:(Value.ref aD==Value.ref bf)=false)
 (g_:PySem.W.subIn K (.ref aD) (.ref bf)=some true)
 (gw:(Value.ref aC==Value.ref bf)=false)
 (fZ:PySem.W.subIn K (.ref aC) (.ref bf)=some true)
 (jt:(Value.ref aH==Value.ref bf)=false)
 (jf:PySem.W.subIn K (.ref aH) (.ref bf)=some true)
 (fj:(Value.ref ao==Value.ref bf)=false)
 (eZ:PySem.W.subIn K (.ref ao) (.ref bf)=some true)
 (qD:(Value.ref aD==Value.ref dh)=false)
 (qw:PySem.W.subIn K (.ref aD) (.ref dh)=some false)
 (oM:(Value.ref aC==Value.ref dh)=false)
 (oh:PySem.W.subIn K (.ref aC) (.ref dh)=some false)
 (rQ:(Value.ref aH==Value.ref dh)=false)
 (rO:PySem.W.subIn K (.ref aH) (.ref dh)=some false)
 (j6:(Value.ref ao==Value.ref dh)=false)
 (jN:PySem.W.subIn K (.ref ao) (.ref dh)=some false)
 (oJ:(Value.ref aD==Value.ref cA)=false)
 (n6:PySem.W.subIn K (.ref aD) (.ref cA)=some false)
 (m5:(Value.ref aC==Value.ref cA)=false)
 (mK:PySem.W.subIn K (.ref aC) (.ref cA)=some false)
 (qH:(Value.ref aH==Value.ref cA)=false)
 (qz:PySem.W.subIn K (.ref aH) (.ref cA)=some false)
 (jh:(Value.ref ao==Value.ref cA)=false)
 (iV:PySem.W.subIn K (.ref ao) (.ref cA)=some false)
 (mX:(Value.ref aD==Value.ref bV)=false)
 (mG:PySem.W.subIn K (.ref aD) (.ref bV)=some false)
 (kJ:(Value.ref aC==Value.ref bV)=false)
 (jX:PySem.W.subIn K (.ref aC) (.ref bV)=some false)
 (oV:(Value.ref aH==Value.ref bV)=false)
 (oG:PySem.W.subIn K (.ref aH) (.ref bV)=some false)
 (iB:(Value.ref ao==Value.ref bV)=false)
 (gY:PySem.W.subIn K (.ref ao) (.ref bV)=some false)
 (mW:(Value.ref aD==Value.ref bU)=false)
 (mF:PySem.W.subIn K (.ref aD) (.ref bU)=some false)
 (kI:(Value.ref aC==Value.ref bU)=false)
 (jW:PySem.W.subIn K (.ref aC) (.ref bU)=some false)
 (oU:(Value.ref aH==Value.ref bU)=false)
 (oF:PySem.W.subIn K (.ref aH) (.ref bU)=some false)
 (iz:(Value.ref ao==Value.ref bU)=false)
 (gW:PySem.W.subIn K (.ref ao) (.ref bU)=some false)
 (j9:(Value.ref aD==Value.ref bK)=false)
 (jQ:PySem.W.subIn K (.ref aD) (.ref bK)=some false)
 (jo:(Value.ref aC==Value.ref bK)=false)
 (jc:PySem.W.subIn K (.ref aC) (.ref bK)=some false)
 (m7:(Value.ref aH==Value.ref bK)=false)
 (mO:PySem.W.subIn K (.ref aH) (.ref bK)=some false)
 (gj:(Value.ref ao==Value.ref bK)=false)
 (fV:PySem.W.subIn K (.ref ao) (.ref bK)=some false)
 (mV:(Value.ref aD==Value.ref bT)=false)
 (mD:PySem.W.subIn K (.ref aD) (.ref bT)=some false)
 (kE:(Value.ref aC==Value.ref bT)=false)
 (jV:PySem.W.subIn K (.ref aC) (.ref bT)=some false)
 (oR:(Value.ref aH==Value.ref bT)=false)
 (oE:PySem.W.subIn K (.ref aH) (.ref bT)=some false)
 (iy:(Value.ref ao==Value.ref bT)=false)
 (gU:PySem.W.subIn K (.ref ao) (.ref bT)=some false)
 (jk:(Value.ref aD==Value.ref bA)=false)
 (iZ:PySem.W.subIn K (.ref aD) (.ref bA)=some false)
 (iI:(Value.ref aC==Value.ref bA)=false)
 (iu:PySem.W.subIn K (.ref aC) (.ref bA)=some false)
 (kY:(Value.ref aH==Value.ref bA)=false)
 (j4:PySem.W.subIn K (.ref aH) (.ref bA)=some false)
 (fM:(Value.ref ao==Value.ref bA)=false)
 (fK:PySem.W.subIn K (.ref ao) (.ref bA)=some false)
 (kh:(Value.ref aD==Value.ref bM)=false)
 (jT:PySem.W.subIn K (.ref aD) (.ref bM)=some false)
 (jr:(Value.ref aC==Value.ref bM)=false)
 (je:PySem.W.subIn K (.ref aC) (.ref bM)=some false)
 (m9:(Value.ref aH==Value.ref bM)=false)
 (mR:PySem.W.subIn K (.ref aH) (.ref bM)=some false)
 (gq:(Value.ref ao==Value.ref bM)=false)
 (fY:PySem.W.subIn K (.ref ao) (.ref bM)=some false)
 (j_:(Value.ref aD==Value.ref bL)=false)
 (jR:PySem.W.subIn K (.ref aD) (.ref bL)=some false)
 (jq:(Value.ref aC==Value.ref bL)=false)
 (jd:PySem.W.subIn K (.ref aC) (.ref bL)=some false)
 (m8:(Value.ref aH==Value.ref bL)=false)
 (mQ:PySem.W.subIn K (.ref aH) (.ref bL)=some false)
 (gk:(Value.ref ao==Value.ref bL)=false)
 (fX:PySem.W.subIn K (.ref ao) (.ref bL)=some false)
 (mU:(Value.ref aD==Value.ref bR)=false)
 (mC:PySem.W.subIn K (.ref aD) (.ref bR)=some false)
 (kj:(Value.ref aC==Value.ref bR)=false)
 (jU:PySem.W.subIn K (.ref aC) (.ref bR)=some false)
 (oO:(Value.ref aH==Value.ref bR)=false)
 (oA:PySem.W.subIn K (.ref aH) (.ref bR)=some false)
 (iw:(Value.ref ao==Value.ref bR)=false)
 (gR:PySem.W.subIn K (.ref ao) (.ref bR)=some false)
 (qC:(Value.ref aD==Value.ref dg)=false)
 (qu:PySem.W.subIn K (.ref aD) (.ref dg)=some false)
 (oK:(Value.ref aC==Value.ref dg)=false)
 (n_:PySem.W.subIn K (.ref aC) (.ref dg)=some false)
 (rP:(Value.ref aH==Value.ref dg)=false)
 (rN:PySem.W.subIn K (.ref aH) (.ref dg)=some false)
 (j5:(Value.ref ao==Value.ref dg)=false)
 (jM:PySem.W.subIn K (.ref ao) (.ref dg)=some false)
 (j8:(Value.ref aD==Value.ref bJ)=false)
 (jP:PySem.W.subIn K (.ref aD) (.ref bJ)=some false)
 (jm:(Value.ref aC==Value.ref bJ)=false)
 (i_:PySem.W.subIn K (.ref aC) (.ref bJ)=some false)
 (m6:(Value.ref aH==Value.ref bJ)=false)
 (mL:PySem.W.subIn K (.ref aH) (.ref bJ)=some false)
 (gb:(Value.ref ao==Value.ref bJ)=false)
 (fU:PySem.W.subIn K (.ref ao) (.ref bJ)=some false)
 (xcg:PySem.W.specialIn K (.builtin "object.__class__") "__get__" = some (some (.builtin "getset_descriptor.__get__")))
 (xct:PySem.W.takesIn K (.builtin "object.__class__")=some true)
 (Ag:PySem.W.findIn K (.ref aD) "__getattribute__" = some (some (.builtin "BaseException.__getattribute__")))
 (Af:PySem.W.findIn K (.ref aD) "__getattr__" = some none)
 (Ac:PySem.W.mroIn K aD (.type "BaseException")=some true)
 (Aj:PySem.W.findIn K (.ref aD) "__class__" = some (some (.builtin "object.__class__")))
 (xq:PySem.W.mroIn K aD (.type "object")=some true)
 (zY:PySem.W.subIn K (.ref aD) (.type "ValueError")=some true)
 (z_:PySem.W.findIn K (.ref aD) "__setattr__" = some (some (.builtin "object.__setattr__")))
 (Aa:((PySem.W.clsIn K aD).any fun cd=>cd.hasDict&&PySem.W.uP cd.mro)=true)
 (Ah:PySem.W.hasDictIn K aD=true)
 (Ab:PySem.W.findIn K (.ref aD) "row" = some none)
 (Dv:PySem.W.Od K aD=true)
 (Ad:PySem.W.keepIn K (.ref aD)=true)
 (yD:PySem.W.findIn K (.ref aC) "__getattribute__" = some (some (.builtin "BaseException.__getattribute__")))
 (yC:PySem.W.findIn K (.ref aC) "__getattr__" = some none)
 (yw:PySem.W.mroIn K aC (.type "BaseException")=some true)
 (yJ:PySem.W.findIn K (.ref aC) "__class__" = some (some (.builtin "object.__class__")))
 (uh:PySem.W.mroIn K aC (.type "object")=some true)
 (xZ:PySem.W.subIn K (.ref aC) (.type "ValueError")=some true)
 (yq:PySem.W.findIn K (.ref aC) "__setattr__" = some (some (.builtin "object.__setattr__")))
 (yr:((PySem.W.clsIn K aC).any fun cd=>cd.hasDict&&PySem.W.uP cd.mro)=true)
 (yE:PySem.W.hasDictIn K aC=true)
 (yu:PySem.W.findIn K (.ref aC) "row" = some none)
 (Ae:PySem.W.Od K aC=true)
 (yx:PySem.W.keepIn K (.ref aC)=true)
 (Dy:PySem.W.findIn K (.ref aH) "__getattribute__" = some (some (.builtin "BaseException.__getattribute__")))
 (Dw:PySem.W.findIn K (.ref aH) "__getattr__" = some none)
 (Dt:PySem.W.mroIn K aH (.type "BaseException")=some true)
 (DN:PySem.W.findIn K (.ref aH) "__class__" = some (some (.builtin "object.__class__")))
 (yX:PySem.W.mroIn K aH (.type "object")=some true)
 (Dl:PySem.W.subIn K (.ref aH) (.type "ValueError")=some true)
 (Dq:PySem.W.findIn K (.ref aH) "__setattr__" = some (some (.builtin "object.__setattr__")))
 (Dr:((PySem.W.clsIn K aH).any fun cd=>cd.hasDict&&PySem.W.uP cd.mro)=true)
 (Dz:PySem.W.hasDictIn K aH=true)
 (Ds:PySem.W.findIn K (.ref aH) "row" = some none)
 (HN:PySem.W.Od K aH=true)
 (Du:PySem.W.keepIn K (.ref aH)=true)
 (ur:PySem.W.findIn K (.ref ao) "__getattribute__" = some (some (.builtin "BaseException.__getattribute__")))
 (uq:PySem.W.findIn K (.ref ao) "__getattr__" = some none)
 (um:PySem.W.mroIn K ao (.type "BaseException")=some true)
 (uD:PySem.W.findIn K (.ref ao) "__class__" = some (some (.builtin "object.__class__")))
 (pP:PySem.W.mroIn K ao (.type "object")=some true)
 (tY:PySem.W.subIn K (.ref ao) (.type "ValueError")=some true)
 (ud:PySem.W.findIn K (.ref ao) "__setattr__" = some (some (.builtin "object.__setattr__")))
 (uf:((PySem.W.clsIn K ao).any fun cd=>cd.hasDict&&PySem.W.uP cd.mro)=true)
 (uw:PySem.W.hasDictIn K ao=true)
 (ug:PySem.W.findIn K (.ref ao) "row" = some none)
 (vH:PySem.W.Od K ao=true)
 (uo:PySem.W.keepIn K (.ref ao)=true)
 {U_:Tok} (Jq:PySem.W.nsIn K mainGlobals "BOXES" = some (some (.str "abcdefgh" U_)))
 {NQ:Tok} (Br:PySem.W.nsIn K mainGlobals "FIGURES" = some (some (.str "0123456789" NQ)))
 {Cu:Tok} (qN:PySem.W.nsIn K mainGlobals "MOST_FIGURES" = some (some (.int 3 Cu)))
 {Gy:Tok} (uZ:PySem.W.nsIn K mainGlobals "MOST_CELLS" = some (some (.int 20 Gy)))
 {Gx:Tok} (uY:PySem.W.nsIn K mainGlobals "MOST_HANDS" = some (some (.int 8 Gx)))
 {Jp:Tok} (wJ:PySem.W.nsIn K mainGlobals "MOST_ROWS" = some (some (.int 60 Jp)))
 {aa0 Zv Zu Zt Zr Zq Zo Zn Zm Zk:Addr} {Zj:Array DictEntry} {ada:Nat} {acT:Array (Option Value)}
 (aaY:PySem.W.nsIn K mainGlobals "FORMS" = some (some (.ref aa0)))
 (aaZ:K.lookup aa0=some ⟨.type "dict",none,.dict Zj ada,acT⟩)
 (Jr:(aa0==sysModules)=false)
 (Js:Zj.toList.map Rk=([("cells",Zv),("hand",Zu),("load",Zt),("store",Zr),("swap",Zq),("let",Zo),("say",Zn),("go",Zm),("unless",Zk)]:List (Str×Addr)).map some)
 {adn:Option Addr} {Vx:Array Value} {ac':Nat} {ac2:Array (Option Value)}
 (Vo:K.lookup Zv=some ⟨.type "tuple",adn,.seq Vx ac',ac2⟩)
 (Fp:Vx.toList.map Ea=(["number"]:List Str).map some)
 (Ob:Vx.size<=10)
 {adl:Option Addr} {Vw:Array Value} {ac_:Nat} {ac1:Array (Option Value)}
 (Vn:K.lookup Zu=some ⟨.type "tuple",adl,.seq Vw ac_,ac1⟩)
 (Fo:Vw.toList.map Ea=([]:List Str).map some)
 (Oa:Vw.size<=10)
 {adk:Option Addr} {Vv:Array Value} {ac9:Nat} {ac0:Array (Option Value)}
 (Vm:K.lookup Zt=some ⟨.type "tuple",adk,.seq Vv ac9,ac0⟩)
 (Fl:Vv.toList.map Ea=(["box","number"]:List Str).map some)
 (N_:Vv.size<=10)
 {adi:Option Addr} {Vu:Array Value} {ac8:Nat} {acZ:Array (Option Value)}
 (Vl:K.lookup Zr=some ⟨.type "tuple",adi,.seq Vu ac8,acZ⟩)
 (Fj:Vu.toList.map Ea=(["number","sum"]:List Str).map some)
 (N8:Vu.size<=10)
 {adh:Option Addr} {Vt:Array Value} {ac7:Nat} {acY:Array (Option Value)}
 (Vk:K.lookup Zq=some ⟨.type "tuple",adh,.seq Vt ac7,acY⟩)
 (Fi:Vt.toList.map Ea=(["box","number","sum"]:List Str).map some)
 (N7:Vt.size<=10)
 {adg:Option Addr} {Vs:Array Value} {ac6:Nat} {acX:Array (Option Value)}
 (Vj:K.lookup Zo=some ⟨.type "tuple",adg,.seq Vs ac6,acX⟩)
 (Fg:Vs.toList.map Ea=(["box","sum"]:List Str).map some)
 (N6:Vs.size<=10)
 {adf:Option Addr} {Vr:Array Value} {ac5:Nat} {acW:Array (Option Value)}
 (Vi:K.lookup Zn=some ⟨.type "tuple",adf,.seq Vr ac5,acW⟩)
 (Fe:Vr.toList.map Ea=(["sum"]:List Str).map some)
 (N5:Vr.size<=10)
 {ade:Option Addr} {Vq:Array Value} {ac4:Nat} {acV:Array (Option Value)}
 (Vh:K.lookup Zm=some ⟨.type "tuple",ade,.seq Vq ac4,acV⟩)
 (Fd:Vq.toList.map Ea=(["number"]:List Str).map some)
 (NZ:Vq.size<=10)
 {adb:Option Addr} {Vp:Array Value} {ac3:Nat} {acU:Array (Option Value)}
 (Vg:K.lookup Zk=some ⟨.type "tuple",adb,.seq Vp ac3,acU⟩)
 (Fb:Vp.toList.map Ea=(["sum","sign","sum","go","number"]:List Str).map some)
 (NT:Vp.size<=10)
 (tX:PySem.W.nsIn K mainGlobals "ValueError" = some none) (SM:PySem.W.nsIn K mainGlobals "all" = some none) (Mg:PySem.W.nsIn K mainGlobals "bool" = some none) (vA:PySem.W.nsIn K mainGlobals "enumerate" = some none) (SJ:PySem.W.nsIn K mainGlobals "int" = some none) (tW:PySem.W.nsIn K mainGlobals "isinstance" = some none) (Sy:PySem.W.nsIn K mainGlobals "len" = some none) (Mf:PySem.W.nsIn K mainGlobals "list" = some none) (Sx:PySem.W.nsIn K mainGlobals "max" = some none) (Sw:PySem.W.nsIn K mainGlobals "min" = some none) (HJ:PySem.W.nsIn K mainGlobals "range" = some none) (Sv:PySem.W.nsIn K mainGlobals "str" = some none) (HF:PySem.W.nsIn K mainGlobals "tuple" = some none) (Ss:PySem.W.nsIn K mainGlobals "zip" = some none):
 ∃fd:FuncData,(∀(s:Shared) (v:Value),BindsTo s fd ⟨[v],[]⟩ [("script",v)]) /\ ∀base:Heap,K.In base->base.Ns mainGlobals mg->dM l.prog w K mg base tV 9 fa fd ["script"] (Ph K):=by
 have e:=hfa.symm.trans (PySem.W.mg_of X G a37);cases e;have Bt:Cm mg:=⟨PySem.W.mg_none_of X G tX,PySem.W.mg_none_of X G SM,PySem.W.mg_none_of X G Mg,PySem.W.mg_none_of X G vA,PySem.W.mg_none_of X G SJ,PySem.W.mg_none_of X G tW,PySem.W.mg_none_of X G Sy,PySem.W.mg_none_of X G Mf,PySem.W.mg_none_of X G Sx,PySem.W.mg_none_of X G Sw,PySem.W.mg_none_of X G HJ,PySem.W.mg_none_of X G Sv,PySem.W.mg_none_of X G HF,PySem.W.mg_none_of X G Ss⟩;have Dk:Gv mg "BOXES" (.str "abcdefgh"):=⟨_,PySem.W.mg_of X G Jq,⟨_,rfl⟩⟩;have xV:Gv mg "FIGURES" (.str "0123456789"):=⟨_,PySem.W.mg_of X G Br,⟨_,rfl⟩⟩;have lZ:Gv mg "MOST_FIGURES" (.int 3):=⟨_,PySem.W.mg_of X G qN,⟨_,rfl⟩⟩;have qm:Gv mg "MOST_CELLS" (.int 20):=⟨_,PySem.W.mg_of X G uZ,⟨_,rfl⟩⟩;have ql:Gv mg "MOST_HANDS" (.int 8):=⟨_,PySem.W.mg_of X G uY,⟨_,rfl⟩⟩;have rJ:Gv mg "MOST_ROWS" (.int 60):=⟨_,PySem.W.mg_of X G wJ,⟨_,rfl⟩⟩;have cW:Xf K mg aD "NoRow" "row" :=⟨PySem.W.mg_of X G za,⟨xr,zZ,Ak⟩,⟨Ag,Af,Ac,xr,Aj,xcg,xct,xq⟩,zY,⟨z_,xq,Aa⟩,Ah,Ab⟩;have cT:Xf K mg aC "NoCell" "row" :=⟨PySem.W.mg_of X G xu,⟨uz,yp,yO⟩,⟨yD,yC,yw,uz,yJ,xcg,xct,uh⟩,xZ,⟨yq,uh,yr⟩,yE,yu⟩;have iK:Xf K mg aH "Full" "row" :=⟨PySem.W.mg_of X G Cz,⟨yZ,Dp,DR⟩,⟨Dy,Dw,Dt,yZ,DN,xcg,xct,yX⟩,Dl,⟨Dq,yX,Dr⟩,Dz,Ds⟩;have cH:Xf K mg ao "NoTarget" "row" :=⟨PySem.W.mg_of X G rz,⟨pQ,t_,uF⟩,⟨ur,uq,um,pQ,uD,xcg,xct,pP⟩,tY,⟨ud,pP,uf⟩,uw,ug⟩;have jC:Xo K mg aD bN "RowError" true:=⟨PySem.W.mg_of X G vQ,⟨ux,tZ,uE⟩,⟨ji,iW⟩⟩;have eN:Xo K mg aD bf "NoteError" true:=⟨PySem.W.mg_of X G uH,⟨rR,rM,rT⟩,⟨iD,g_⟩⟩;have vg:Xo K mg aD dh "Held" false:=⟨PySem.W.mg_of X G HW,⟨DK,Dn,DQ⟩,⟨qD,qw⟩⟩;have qj:Xo K mg aD cA "NoCut" false:=⟨PySem.W.mg_of X G DW,⟨Ai,z9,Al⟩,⟨oJ,n6⟩⟩;have lY:Xo K mg aD bV "NoForm" false:=⟨PySem.W.mg_of X G Ar,⟨yI,yj,yN⟩,⟨mX,mG⟩⟩;have lX:Xo K mg aD bU "NoHand" false:=⟨PySem.W.mg_of X G Aq,⟨yH,yg,yM⟩,⟨mW,mF⟩⟩;have gO:Xo K mg aD bK "NoneYet" false:=⟨PySem.W.mg_of X G yQ,⟨vJ,vC,vN⟩,⟨j9,jQ⟩⟩;have lW:Xo K mg aD bT "NoNote" false:=⟨PySem.W.mg_of X G Ao,⟨yG,yd,yL⟩,⟨mV,mD⟩⟩;have fB:Xo K mg aD bA "NoNumber" false:=⟨PySem.W.mg_of X G vR,⟨uy,uc,uG⟩,⟨jk,iZ⟩⟩;have gQ:Xo K mg aD bM "NoOrder" false:=⟨PySem.W.mg_of X G yS,⟨vL,vG,vP⟩,⟨kh,jT⟩⟩;have gP:Xo K mg aD bL "NoPlace" false:=⟨PySem.W.mg_of X G yR,⟨vK,vD,vO⟩,⟨j_,jR⟩⟩;have lV:Xo K mg aD bR "NoText" false:=⟨PySem.W.mg_of X G Am,⟨yF,yc,yK⟩,⟨mU,mC⟩⟩;have vf:Xo K mg aD dg "Over" false:=⟨PySem.W.mg_of X G HS,⟨DG,Dm,DP⟩,⟨qC,qu⟩⟩;have gM:Xo K mg aD bJ "TooMany" false:=⟨PySem.W.mg_of X G yP,⟨vI,vB,vM⟩,⟨j8,jP⟩⟩;have qR:aP K aD aC false:=⟨mY,mH⟩;have u9:aP K aD aH false:=⟨qF,qx⟩;have nu:aP K aD ao false:=⟨jj,iY⟩;have qT:aP K aC aD false:=⟨mZ,mJ⟩;have sI:aP K aC aH false:=⟨oN,ou⟩;have lR:aP K aC ao false:=⟨iH,ig⟩;have lQ:aP K aC bN true:=⟨iG,h_⟩;have jB:aP K aC bf true:=⟨gw,fZ⟩;have sH:aP K aC dh false:=⟨oM,oh⟩;have qU:aP K aC cA false:=⟨m5,mK⟩;have pG:aP K aC bV false:=⟨kJ,jX⟩;have pF:aP K aC bU false:=⟨kI,jW⟩;have nD:aP K aC bK false:=⟨jo,jc⟩;have pD:aP K aC bT false:=⟨kE,jV⟩;have lU:aP K aC bA false:=⟨iI,iu⟩;have nG:aP K aC bM false:=⟨jr,je⟩;have nF:aP K aC bL false:=⟨jq,jd⟩;have pC:aP K aC bR false:=⟨kj,jU⟩;have sG:aP K aC dg false:=⟨oK,n_⟩;have nA:aP K aC bJ false:=⟨jm,i_⟩;have u_:aP K aH aD false:=⟨qG,qy⟩;have sV:aP K aH aC false:=⟨oW,oH⟩;have pI:aP K aH ao false:=⟨kW,jZ⟩;have pH:aP K aH bN true:=⟨kO,jY⟩;have nH:aP K aH bf true:=⟨jt,jf⟩;have wW:aP K aH dh false:=⟨rQ,rO⟩;have vd:aP K aH cA false:=⟨qH,qz⟩;have sU:aP K aH bV false:=⟨oV,oG⟩;have sS:aP K aH bU false:=⟨oU,oF⟩;have qX:aP K aH bK false:=⟨m7,mO⟩;have sO:aP K aH bT false:=⟨oR,oE⟩;have pJ:aP K aH bA false:=⟨kY,j4⟩;have qZ:aP K aH bM false:=⟨m9,mR⟩;have qY:aP K aH bL false:=⟨m8,mQ⟩;have sJ:aP K aH bR false:=⟨oO,oA⟩;have wV:aP K aH dg false:=⟨rP,rN⟩;have qW:aP K aH bJ false:=⟨m6,mL⟩;have ni:aP K ao aD false:=⟨jg,iU⟩;have lO:aP K ao aC false:=⟨iC,gZ⟩;have pB:aP K ao aH false:=⟨j7,jO⟩;have iM:aP K ao bN true:=⟨fL,fJ⟩;have gA:aP K ao bf true:=⟨fj,eZ⟩;have pA:aP K ao dh false:=⟨j6,jN⟩;have nj:aP K ao cA false:=⟨jh,iV⟩;have lN:aP K ao bV false:=⟨iB,gY⟩;have lM:aP K ao bU false:=⟨iz,gW⟩;have jy:aP K ao bK false:=⟨gj,fV⟩;have lK:aP K ao bT false:=⟨iy,gU⟩;have iQ:aP K ao bA false:=⟨fM,fK⟩;have jA:aP K ao bM false:=⟨gq,fY⟩;have jz:aP K ao bL false:=⟨gk,fX⟩;have lJ:aP K ao bR false:=⟨iw,gR⟩;have pq:aP K ao dg false:=⟨j5,jM⟩;have jx:aP K ao bJ false:=⟨gb,fU⟩;have FT:JV K mg:=Vc (PySem.W.mg_of X G aaY) ⟨Jr,_,_,_,aaZ,Js⟩ ⟨_,_,_,_,Vo,Fp,Nat.le_trans Ob (by rw [sizeLine_eq];decide)⟩ ⟨_,_,_,_,Vn,Fo,Nat.le_trans Oa (by rw [sizeLine_eq];decide)⟩ ⟨_,_,_,_,Vm,Fl,Nat.le_trans N_ (by rw [sizeLine_eq];decide)⟩ ⟨_,_,_,_,Vl,Fj,Nat.le_trans N8 (by rw [sizeLine_eq];decide)⟩ ⟨_,_,_,_,Vk,Fi,Nat.le_trans N7 (by rw [sizeLine_eq];decide)⟩ ⟨_,_,_,_,Vj,Fg,Nat.le_trans N6 (by rw [sizeLine_eq];decide)⟩ ⟨_,_,_,_,Vi,Fe,Nat.le_trans N5 (by rw [sizeLine_eq];decide)⟩ ⟨_,_,_,_,Vh,Fd,Nat.le_trans NZ (by rw [sizeLine_eq];decide)⟩ ⟨_,_,_,_,Vg,Fb,Nat.le_trans NT (by rw [sizeLine_eq];decide)⟩;have F0:=b_ (st:=cL) l0 c0 k0;have F1:=b_ (st:=dZ) l1 c1 k1;have F2:=b_ (st:=lu) l2 c2 k2;have F3:=b_ (st:=dY) l3 c3 k3;have F4:=b_ (st:=gD) l4 c4 k4;have F5:=b_ (st:=lg) l5 c5 k5;have F6:=b_ (st:=gC) l6 c6 k6;have F7:=b_ (st:=lq) l7 c7 k7;have F8:=b_ (st:=gF) l8 c8 k8;have F9:=b_ (st:=dO) l9 c9 k9;have F10:=b_ (st:=dD) l10 c10 k10;have F11:=b_ (st:=dN) l11 c11 k11;have F12:=b_ (st:=cJ) l12 c12 k12;have F13:=b_ (st:=uM) l13 c13 k13;have F14:=b_ (st:=pX) l14 c14 k14;have F15:=b_ (st:=qb) l15 c15 k15;have F16:=b_ (st:=lE) l16 c16 k16;have F17:=b_ (st:=lC) l17 c17 k17;have F18:=b_ (st:=lA) l18 c18 k18;have F19:=b_ (st:=uN) l19 c19 k19;have F20:=b_ (st:=pY) l20 c20 k20;have F21:=b_ (st:=dF) l21 c21 k21;have F22:=b_ (st:=d7) l22 c22 k22;have F23:=b_ (st:=pU) l23 c23 k23;have F24:=b_ (st:=lB) l24 c24 k24;have F25:=b_ (st:=pW) l25 c25 k25;have F26:=b_ (st:=pR) l26 c26 k26;have F27:=b_ (st:=cX) l27 c27 k27;have F28:=b_ (st:=gG) l28 c28 k28;have F29:=b_ (st:=dR) l29 c29 k29;have F30:=b_ (st:=d9) l30 c30 k30;have F31:=b_ (st:=d8) l31 c31 k31;have F32:=b_ (st:=p7) l32 c32 k32;have F33:=b_ (st:=pZ) l33 c33 k33;have F34:=b_ (st:=lD) l34 c34 k34;have F35:=b_ (st:=gH) l35 c35 k35;have F36:=b_ (st:=uO) l36 c36 k36;have F37:=b_ (st:=zG) l37 c37 k37;refine ⟨PySem.W.fnOf "law" "law" (aL zG) (aJ zG) (aB zG) .none acJ adz acn ad6 aa7 adB,fun s v=> .of_eq rfl,fun base _ _=> ?_⟩;have LK:wU l.prog w K mg base 1 aD "NoRow" ["self","row"] (oX K):=⟨f0,_,Dd F0,a0,beq_iff_eq.mp n0,Dv,PySem.W.mg_of X G za,Ad,F0.binds (ps:=["self","row"]) gK⟩;have RW:wU l.prog w K mg base 1 aC "NoCell" ["self","row"] (oX K):=⟨f0,_,Dd F0,BR,beq_iff_eq.mp n0,Ae,PySem.W.mg_of X G xu,yx,F0.binds (ps:=["self","row"]) gK⟩;have YX:wU l.prog w K mg base 1 aH "Full" ["self","row"] (oX K):=⟨f0,_,Dd F0,JQ,beq_iff_eq.mp n0,HN,PySem.W.mg_of X G Cz,Du,F0.binds (ps:=["self","row"]) gK⟩;have LC:wU l.prog w K mg base 1 ao "NoTarget" ["self","row"] (oX K):=⟨f0,_,Dd F0,wR,beq_iff_eq.mp n0,vH,PySem.W.mg_of X G rz,uo,F0.binds (ps:=["self","row"]) gK⟩;have A1:FnAt l.prog w K mg base 1 "number_of" ["word"] (CP K):=⟨f1,_,Ug F1 xV lZ Bt,PySem.W.mg_of X G a1,k1,F1.binds (ps:=["word"]) JG⟩;have A2:FnAt l.prog w K mg base 1 "is_box" ["word"] (CQ K):=⟨f2,_,Ui F2 Dk Bt,PySem.W.mg_of X G a2,k2,F2.binds (ps:=["word"]) Ry⟩;have A3:FnAt l.prog w K mg base 2 "single_of" ["word"] (zq K):=⟨f3,_,QW F3 A2 A1,PySem.W.mg_of X G a3,k3,F3.binds (ps:=["word"]) JF⟩;have A4:FnAt l.prog w K mg base 3 "pair_of" ["kind","halves"] (MF K):=⟨f4,_,X4 F4 A3,PySem.W.mg_of X G a4,k4,F4.binds (ps:=["kind","halves"]) Ot⟩;have A5:FnAt l.prog w K mg base 4 "sum_of" ["word"] (Tq K):=⟨f5,_,aar F5 A4 A3,PySem.W.mg_of X G a5,k5,F5.binds (ps:=["word"]) Rv⟩;have A6:FnAt l.prog w K mg base 5 "part_of" ["kind","word"] (Mz K):=⟨f6,_,X3 F6 A1 A5 A2,PySem.W.mg_of X G a6,k6,F6.binds (ps:=["kind","word"]) Oq⟩;have A7:FnAt l.prog w K mg base 6 "row_of" ["line"] (Ie K):=⟨f7,_,Uc FT F7 A6 Bt,PySem.W.mg_of X G a7,k7,F7.binds (ps:=["line"]) Rx⟩;have A8:FnAt l.prog w K mg base 1 "cell_of" ["row"] (Ei K):=⟨f8,_,Q0 F8,PySem.W.mg_of X G a8,k8,F8.binds (ps:=["row"]) Ou⟩;have A9:wZ l.prog w K mg base 3 "check_form" ["row","number","hands"] (vX aD K):=⟨f9,_,Jc cW F9 LK,PySem.W.mg_of X G a9,k9,F9.binds (ps:=["row","number","hands"]) GP⟩;have A10:wZ l.prog w K mg base 3 "check_cells" ["row","number","count"] (uJ aC K):=⟨f10,_,Gs cT F10 RW A8 qm,PySem.W.mg_of X G a10,k10,F10.binds (ps:=["row","number","count"]) FQ⟩;have A11:wZ l.prog w K mg base 3 "check_room" ["row","number","hands"] (vW aH K):=⟨f11,_,Jb iK F11 YX ql rJ Bt,PySem.W.mg_of X G a11,k11,F11.binds (ps:=["row","number","hands"]) GK⟩;have A12:wZ l.prog w K mg base 3 "check_targets" ["hands"] (Eh ao K):=⟨f12,_,QZ cH F12 LC Bt,PySem.W.mg_of X G a12,k12,F12.binds (ps:=["hands"]) BP⟩;have A13:wZ l.prog w K mg base 7 "read" ["text"] (Mx aD aC aH ao K):=⟨f13,_,XS cW F13 LK A7 A9 A10 A11 A12 Bt,PySem.W.mg_of X G a13,k13,F13.binds (ps:=["text"]) Yz⟩;have A14:FnAt l.prog w K mg base 1 "_law_reel" ["script"] (Ig K):=⟨f14,_,Ud F14 Bt,PySem.W.mg_of X G a14,k14,F14.binds (ps:=["script"]) Wc⟩;have A15:FnAt l.prog w K mg base 1 "_law_draw" ["reel","many"] (kZ K):=⟨f15,_,Uk F15 Bt,PySem.W.mg_of X G a15,k15,F15.binds (ps:=["reel","many"]) Wh⟩;have A16:FnAt l.prog w K mg base 8 "_law_asked" ["text"] (Ij K):=⟨f16,_,Ul cW cT iK cH jC eN vg qj lY lX gO lW fB gQ gP lV vf gM (YG cW cT iK cH jC eN vg qj lY lX gO lW fB gQ gP lV vf gM qR u9 nu qT sI lR lQ jB sH qU pG pF nD pD lU nG nF pC sG nA u_ sV pI pH nH wW vd sU sS qX sO pJ qZ qY sJ wV qW ni lO pB iM gA pA nj lN lM jy lK iQ jA jz lJ pq jx) F16 A13 Bt,PySem.W.mg_of X G a16,k16,F16.binds (ps:=["text"]) RK⟩;have A17:FnAt l.prog w K mg base 2 "_law_plain" ["reel"] (Ih K):=⟨f17,_,Ue F17 A15,PySem.W.mg_of X G a17,k17,F17.binds (ps:=["reel"]) RG⟩;have A18:FnAt l.prog w K mg base 3 "_law_worth" ["reel"] (Ib K):=⟨f18,_,Ua F18 A15 A17,PySem.W.mg_of X G a18,k18,F18.binds (ps:=["reel"]) RB⟩;have A19:FnAt l.prog w K mg base 4 "_law_row" ["reel","many","size"] (Tr K):=⟨f19,_,aas F19 A15 A18,PySem.W.mg_of X G a19,k19,F19.binds (ps:=["reel","many","size"]) YB⟩;have A20:FnAt l.prog w K mg base 5 "_law_full" ["reel"] (MJ K):=⟨f20,_,X5 F20 A15 A19 Bt,PySem.W.mg_of X G a20,k20,F20.binds (ps:=["reel"]) Wd⟩;have A21:FnAt l.prog w K mg base 1 "_law_worth_text" ["told"] (Ec K):=⟨f21,_,QT F21 Bt,PySem.W.mg_of X G a21,k21,F21.binds (ps:=["told"]) FW⟩;have A22:FnAt l.prog w K mg base 2 "_law_row_text" ["row"] (Az K):=⟨f22,_,Ni F22 A21 Bt,PySem.W.mg_of X G a22,k22,F22.binds (ps:=["row"]) JH⟩;have A23:FnAt l.prog w K mg base 3 "_law_text" ["program"] (Mv K):=⟨f23,_,XQ F23 A22 Bt,PySem.W.mg_of X G a23,k23,F23.binds (ps:=["program"]) Wa⟩;have A24:FnAt l.prog w K mg base 1 "_law_signs" [] (CK K):=⟨f24,_,Ub F24,PySem.W.mg_of X G a24,k24,F24.binds (ps:=[]) RD⟩;have A25:FnAt l.prog w K mg base 2 "_law_sign" ["reel"] (Mw K):=⟨f25,_,XR F25 A15 A24,PySem.W.mg_of X G a25,k25,F25.binds (ps:=["reel"]) Wb⟩;have A26:FnAt l.prog w K mg base 2 "_law_word" ["reel"] (Mu K):=⟨f26,_,XM F26 A15 A24 Bt,PySem.W.mg_of X G a26,k26,F26.binds (ps:=["reel"]) V_⟩;have A27:FnAt l.prog w K mg base 3 "_law_rows_spoilt" ["reel","rows","kind"] (Ef K):=⟨f27,_,QX F27 A15 A26 Bt,PySem.W.mg_of X G a27,k27,F27.binds (ps:=["reel","rows","kind"]) Cw⟩;have A28:FnAt l.prog w K mg base 4 "_law_spoilt" ["reel","text"] (Ed K):=⟨f28,_,QV F28 A15 A25 A27 Bt,PySem.W.mg_of X G a28,k28,F28.binds (ps:=["reel","text"]) Ov⟩;have A29:FnAt l.prog w K mg base 1 "_law_is_number" ["word"] (zu K):=⟨f29,_,Uh F29 Bt,PySem.W.mg_of X G a29,k29,F29.binds (ps:=["word"]) GQ⟩;have A30:FnAt l.prog w K mg base 2 "_law_is_plain" ["word"] (Ba K):=⟨f30,_,Nk F30 A29 Bt,PySem.W.mg_of X G a30,k30,F30.binds (ps:=["word"]) JL⟩;have A31:FnAt l.prog w K mg base 3 "_law_is_worth" ["word"] (A_ K):=⟨f31,_,Nj F31 A30 Bt,PySem.W.mg_of X G a31,k31,F31.binds (ps:=["word"]) JK⟩;have A32:FnAt l.prog w K mg base 4 "_law_fits" ["word","part"] (MN K):=⟨f32,_,X7 F32 A29 A31 Bt,PySem.W.mg_of X G a32,k32,F32.binds (ps:=["word","part"]) Wg⟩;have A33:FnAt l.prog w K mg base 5 "_law_form" ["words"] (MK K):=⟨f33,_,X6 F33 A32 Bt,PySem.W.mg_of X G a33,k33,F33.binds (ps:=["words"]) Wf⟩;have A34:FnAt l.prog w K mg base 6 "_law_fault" ["row","many","lengths"] (Ii K):=⟨f34,_,Uj F34 A33 Bt,PySem.W.mg_of X G a34,k34,F34.binds (ps:=["row","many","lengths"]) RJ⟩;have A35:FnAt l.prog w K mg base 1 "_law_beyond" ["rows","lengths"] (Ej K):=⟨f35,_,Q5 F35 Bt,PySem.W.mg_of X G a35,k35,F35.binds (ps:=["rows","lengths"]) Ow⟩;have A36:FnAt l.prog w K mg base 7 "_law_due" ["text"] (MP K):=⟨f36,_,X8 F36 A29 A34 A35 Bt,PySem.W.mg_of X G a36,k36,F36.binds (ps:=["text"]) YC⟩;exact aat F37 A14 A15 A20 A23 A28 A16 A36 Bt
theorem walk {l:PySem.W.OpenLaw} {q:Program} {loose:List Str} {XP:(Str->Option Value)->Heap->Prop} {YP:World->Heap->Prop} {d:DefRec} {K:Params->PySem.W.Frag} (hn:l.most=some 63) (hdf:d.params.defaults=[])
 (hY:∀(w:World) (h:Heap),YP w h->(K w.params).In h)
 (F:∀(w:World) (mg:Str->Option Value) (fa:Addr) (h:Heap),(K w.params).In h->h.Ns mainGlobals mg->mg d.name=some (.ref fa) ->
   ∃fd:FuncData,(∀(s:Shared) (u:Value),BindsTo s fd ⟨[u],[]⟩ [("script",u)]) /\ ∀base:Heap,(K w.params).In base->base.Ns mainGlobals mg->dM l.prog w (K w.params) mg base tV 9 fa fd ["script"] (Ph (K w.params))):
 PySem.W.WalkO q loose XP YP l.row.toRowW d [] (fun f vs=>PySem.call f vs):=
 L2.WR (n:=63) (k:=9) (x:= "script") (CX:=fun _=>tV) (sp:=fun w=>Ph (K w.params)) hn (by decide) hdf ⟨rfl,by decide,by decide⟩ hY F (fun _ _ a ns hl _ hS=>⟨a,ns,rfl,hS,hl,fun _=>rfl⟩) fun _ _ _ _ _ z=>z
end Prf
namespace PySem.W.Fast
def tw7204435270834472148:=()
def tw16536409123628470283:=()
def tw15586220140588824410:=()
def tw14023383082492125649:=()
def tw7902767806093015745:=()
def tw14930300479081513550:=()
def tw16633817632870476439:=()
def tw11600136045091323951:=()
def tw16588546039486661596:=()
def tw16411957698806680435:=()
def tw4616980584669885830:=()
def tw1927100631494455212:=()
def tw18002148878705525712:=()
def tw4022426552220496371:=()
def tw16857844165293033643:=()
def tw12162425049959248582:=()
def tw16977224600009634648:=()
def tw888013021917160285:=()
def tw7092954906531309827:=()
def tw10508048867844939952:=()
def tw13679840101536562139:=()
def tw2247211837424448109:=()
def tw5459844921453253155:=()
def tw9244976085547589879:=()
def tw15804981694784928094:=()
def tw12888957596592909924:=()
def tw13032685746809305165:=()
def tw7278737710056622833:=()
def tw2130500418925389458:=()
def tw17613592760002914169:=()
def tw16472005521618039699:=()
def tw18147842884457436105:=()
def tw8297662573014965680:=()
def tw18420551777330752129:=()
def tw13295561085110603590:=()
def tw17751938271347780155:=()
def tw18102239015072146526:=()
def tw6175950701682870829:=()
def tw7974932674642211625:=()
def tw16723720489729179594:=()
def tw197933094227766323:=()
def tw9864164172106479989:=()
def tw13411871043345881869:=()
def tw3206412437003390343:=()
def tw15397168342352543886:=()
def tw10549243837713607902:=()
def tw11998986621424848594:=()
def tw151472478733293288:=()
def tw12230885685232427073:=()
def tw123344566393867005:=()
def tw10449467426357169558:=()
def tw6726318748813855582:=()
def tw15308036247600965213:=()
def tw6551450944540967136:=()
def tw13055038635766254351:=()
def tw12769487668886808729:=()
def tw17040978587123157201:=()
def tw8087947038179450432:=()
def tw11317007124077167321:=()
def tw12648816538095226212:=()
def tw6829736977178719535:=()
def tw7419059455033396914:=()
def tw17314601370142155898:=()
def tw3884874018533600517:=()
def tw9760015234398282242:=()
def tw13746771447452530546:=()
def tw4448500232540031583:=()
def tw4550735103739930376:=()
def tw3085120530816794033:=()
def tw5454231276201202387:=()
def tw17501581904414963823:=()
def tw7483655384130113518:=()
def tw5222608953908070220:=()
def tw11497237492666005593:=()
def tw11878835866252532965:=()
def tw5651083914220522074:=()
def tw7529394525456448315:=()
def tw7437928900475972428:=()
def tw16639415866582553866:=()
def tw320936666892034941:=()
def tw16156989777864026635:=()
def tw5933933252101905048:=()
def tw4904799484911872026:=()
def tw6330905496886014124:=()
def tw1220407094484282159:=()
def tw353532857513712530:=()
def tw15409327785090906470:=()
def tw5877972324675928411:=()
def tw17025313854354606793:=()
def tw17291066764894526886:=()
def tw570238793650075726:=()
def tw17517173125377009173:=()
def tw12111296484557919242:=()
def tw7311457598830769611:=()
def tw3607927547318598285:=()
def tw3351959975775359738:=()
def tw6178706744947894076:=()
def tw3671250954057030186:=()
def tw17785719244049405656:=()
def tw14342843094730759843:=()
def tw15565694817136355539:=()
def tw10847216518696190939:=()
def tw14019690586892965636:=()
def tw13681592164495467738:=()
def tw16728338776277355317:=()
def tw5432904421480341279:=()
def tw5068080671098853540:=()
def tw5056846192759564867:=()
def tw14034404371448340213:=()
def tw1618454194681130702:=()
def tw17088493139364516926:=()
def tw5875282820449627327:=()
def tw8177024964366074202:=()
def tw4383575277642321833:=()
def tw10260904509274647135:=()
def tw147797565414336486:=()
def tw13893832681458861948:=()
def tw7419677928865519873:=()
def tw4567465379381493784:=()
def tw11707983581922717134:=()
def tw1797178219096200902:=()
def tw10547921659054444432:=()
def tw14918799553955355290:=()
def tw434590830897035167:=()
def tw7795840390339660235:=()
def tw16871530010834452286:=()
def tw17357938416473693538:=()
def tw3010051379296793012:=()
def tw13959225654131003488:=()
def tw17904152314035681322:=()
def tw17873229818428347051:=()
def tw11563968716392883251:=()
def tw17384224435753425336:=()
def tw15026000346881964130:=()
def tw16983152398686622155:=()
def tw4829014084126184707:=()
def tw8575698955191237355:=()
def tw2214672583309425066:=()
def tw5646246640180559160:=()
def tw9644577378845253504:=()
def tw8929483141279321201:=()
def tw9017869236586701845:=()
def tw4095821582997533466:=()
def tw9520245719854573648:=()
def tw8922662051922020406:=()
def tw6044721449322929903:=()
def tw12087309344482193335:=()
def tw9226253450279174400:=()
def tw3782718387757594390:=()
def tw7640204810340303092:=()
def tw15846164273612775812:=()
def tw9237497851179039119:=()
def tw6923659531297327034:=()
def tw9090608663287694135:=()
def tw7659736217978747295:=()
def tw16427107498060367209:=()
def tw1899266662523330131:=()
def tw15552939483395446891:=()
def tw11821535568327544152:=()
def tw13019845335469117863:=()
def tw12313707641065288899:=()
def tw14911009713812561951:=()
def tw10055330135298709232:=()
def tw16338222356236502563:=()
def tw9208493625087406438:=()
def tw7844438293432915490:=()
def tw4682475677866431100:=()
def tw15101702639282463645:=()
def tw4560287161745546828:=()
def tw6289419684255129879:=()
def tw7223927679287997661:=()
def tw3946760229589306561:=()
def tw11724462311981549924:=()
def tw6109202599613008375:=()
def tw13553169580734240553:=()
def tw721946208051404586:=()
def tw4890006793890977565:=()
def tw9803014919907045380:=()
def tw11312361844308913963:=()
def tw13892409621404126640:=()
def tw1840130677102938210:=()
def tw7026626257700684637:=()
def tw12421688754160169526:=()
def tw1429328186386380483:=()
def tw11846982673961169504:=()
def tw4167163832357685761:=()
def tw12135455295388134391:=()
def tw13139274932041719736:=()
def tw14725940656449288945:=()
def tw1340292189668075155:=()
def tw12498606032090740360:=()
def tw7799231285648378829:=()
def tw3304878759101813306:=()
def tw8213624296300319761:=()
def tw723358671343481258:=()
def tw7555679975081531494:=()
def tw10666643397522032779:=()
def tw5693213982782077093:=()
def tw11537261746199686983:=()
def tw9216867047070951894:=()
def tw14973496298080943909:=()
def tw18005264673820601144:=()
def tw6229104556425022107:=()
def tw4441714167678071888:=()
def tw3131302852873383755:=()
def tw3358305416137101418:=()
def tw16493866080253554220:=()
def tw17632117561839747406:=()
def tw17457357859034200746:=()
def tw12504349916669690175:=()
def tw5696736518673191209:=()
def tw8846693632592323317:=()
def tw4511685815228890952:=()
def tw12954552110987182740:=()
def tw11903549109449859919:=()
def tw14503401843562649266:=()
def tw18035058283774027092:=()
def tw15266943145914658983:=()
def tw4490957196490354937:=()
def tw6734303012456754466:=()
def tw11593201037817215014:=()
def tw10223499827840292219:=()
def tw6942950030827310697:=()
def tw200511455488658313:=()
def tw7973972775654851914:=()
def tw930469380042057220:=()
def tw14638723197927382680:=()
def tw9542591147314992132:=()
def tw5337532278601011883:=()
def tw8775870892934376877:=()
def tw11181386811685787586:=()
def tw6583056105516405454:=()
def tw10225726382406573610:=()
def tw343080227445432757:=()
def tw13082442456761851653:=()
def tw5930418178418084829:=()
def tw8839922085334790096:=()
def tw3154639973164307539:=()
def tw7493946759076868195:=()
def tw2327581449210600171:=()
def tw4130270897081270877:=()
def tw680516702480743511:=()
def tw3772496365797070585:=()
def tw10928763832242122122:=()
def tw10358349213192654050:=()
def tw9224121920741618405:=()
def tw15766761934874892836:=()
def tw16884192804264876693:=()
def tw11982439561612076549:=()
def tw3511739725048380287:=()
def tw10277702636897853661:=()
def tw18049675172530712064:=()
def tw4085528347263126030:=()
def tw13428916838256851681:=()
def tw17384104359655081093:=()
def tw1759581289642414772:=()
def tw2988393261488138408:=()
def tw12945698787974409260:=()
def tw17341073769568256078:=()
def tw14610770549170312567:=()
def tw5080358933244980340:=()
def tw4984668097715136263:=()
def tw16142710193062806411:=()
def tw422696162193254006:=()
def tw8665225503729407879:=()
def tw9686817569671858470:=()
def tw15853310938815899787:=()
def tw14266618422744538224:=()
def tw4835528286000227013:=()
def tw11154854699218174440:=()
def tw5255990042497122834:=()
def tw13918706780680637667:=()
def tw1567567317113719245:=()
def tw11836370818601921378:=()
def tw10580449693622173730:=()
def tw13292501431607064626:=()
def tw5637503397539594774:=()
def tw15110509211753463091:=()
def tw12593318889572780013:=()
def tw16801648356792010823:=()
def tw8869706496312929768:=()
def tw11545187456271349805:=()
def tw418996465950249571:=()
def tw3668050694833385675:=()
def tw12128480165129428949:=()
def tw2996244723362669250:=()
def tw8015334572293399830:=()
def tw12730116970663226939:=()
def tw17273281746301752483:=()
def tw1047043819996523629:=()
def tw5457180847758338085:=()
def tw906136925911969709:=()
def tw5938146205193171861:=()
def tw794755144915055756:=()
def tw6860885838525115387:=()
def tw11947656158809628284:=()
def tw18353607941344455595:=()
def tw10219885345019865982:=()
def tw6865227799167550957:=()
def tw873400068758740279:=()
def tw11675278571045507287:=()
def tw525237030409146870:=()
def tw2345471325160535638:=()
def tw3546803256488498090:=()
def tw14582092569952086694:=()
def tw16978585955303717960:=()
def tw3321286566829677169:=()
def tw10653106999138117334:=()
def tw225924511847124574:=()
def tw13853374357682256790:=()
def tw15144054768862390440:=()
def tw15615004927853885076:=()
def tw3154079069907656284:=()
def tw6120454274406326172:=()
def tw2856015227728323503:=()
def tw2561060971741596597:=()
def tw15226217200333555037:=()
def tw2910269138307212991:=()
def tw9241855681022366179:=()
def tw6288290360536598938:=()
def tw3898537163631622674:=()
def tw18318829682431482057:=()
def tw2746220085666168809:=()
def tw15414537034336506074:=()
def tw3445893160345553641:=()
def tw95079392461397469:=()
def tw9286627047347444123:=()
def tw5728516897957735299:=()
def tw3509856509174933783:=()
def tw2608561854675312613:=()
def tw981530628245249592:=()
def tw3007599034341729754:=()
def tw7994615072450141078:=()
def tw8890157999292415065:=()
def tw18321804403336494551:=()
def tw12979674367450175998:=()
def tw10687057586010319997:=()
def tw6324956839361529504:=()
def tw2656597006347985364:=()
def tw3766560527353621299:=()
def tw1242946016329360544:=()
def tw5069339269308013170:=()
def tw1525850585124301682:=()
def tw16915617207682161697:=()
def tw9554321023451473606:=()
def tw6977305963668655539:=()
def tw66815292902820690:=()
def tw6902523026321072727:=()
def tw16707033080038005291:=()
def tw2004615306593279509:=()
def tw12613903069435015073:=()
def tw11836293730310603817:=()
def tw3910407147624158781:=()
def tw9959036802385381116:=()
def tw1157398594985680814:=()
def tw4773310523955611925:=()
def tw7931798150909619757:=()
def tw5717106872727700570:=()
def tw5714218218458577803:=()
def tw2210345479293502585:=()
def tw8869921630239656070:=()
def tw440595565576527639:=()
def tw18075809324206247048:=()
def tw12301973951463098699:=()
def tw7994433000932933399:=()
def tw4114285576008219236:=()
def tw6078591387592576970:=()
def tw17899091552489040838:=()
def tw16529625039870159961:=()
def tw14991094798097918523:=()
def tw4248802437224486098:=()
def tw4379712089544445928:=()
def tw16997815355001364773:=()
def tw3824549558673748493:=()
def tw10991266112702116486:=()
def tw9094334788155724055:=()
def tw8013554033791775687:=()
def tw15114125538117543595:=()
def tw9802550946038302167:=()
def tw2034452654598196393:=()
def tw14012119615198570946:=()
def tw18315095206138050854:=()
def tw10812840386185638013:=()
def tw13274437094483536770:=()
def tw652243565331616991:=()
def tw4365006421727184675:=()
def tw9189071687161117547:=()
def tw2111040735828843077:=()
def tw4973721816871438983:=()
def tw10418869418551050631:=()
def tw14800492377474271042:=()
def tw10335769987570380124:=()
def tw1410092888716954427:=()
def tw3187383224505822922:=()
def tw11426982611855517925:=()
def tw9039212627017093601:=()
def tw17928748610537147724:=()
def tw7800536861464086702:=()
def tw17293220684312923883:=()
def tw17098854150198860705:=()
def tw16199338011394687018:=()
def tw6407331684907171117:=()
def tw11955761518766109912:=()
def tw1741653192150298004:=()
def tw1762616068380144482:=()
def tw15268520739059676924:=()
def tw16340361698103360156:=()
def tw13272157464327507785:=()
def tw14783339109883291547:=()
def tw1382071834426047716:=()
def tw14878690078366165755:=()
def tw715837165802607702:=()
def tw6020408349398767368:=()
def tw3588501972634748083:=()
def tw5606967476216749656:=()
def tw15952317449783064338:=()
def tw559310579489307513:=()
def tw16893176465419285671:=()
def tw7024369167512142089:=()
def tw15598851077789531285:=()
def tw11201775436286134324:=()
def tw14776056475062162845:=()
def tw10087725039721108216:=()
def tw588516288720386728:=()
def tw13154870045830931806:=()
def tw18284514770452182834:=()
def tw14340592678118709638:=()
def tw208418526054982958:=()
def tw3260669864622951670:=()
def tw9407939850911758742:=()
def tw8755379978545791072:=()
def tw7023267272482782480:=()
def tw5516804552402792515:=()
def tw14626047293032523770:=()
def tw8879229515911913052:=()
def tw2929103456253378556:=()
def tw17141301160418789476:=()
def tw4238117071538298451:=()
def tw6797165267092437952:=()
def tw9154483209634723894:=()
def tw10170928370563357714:=()
def tw610544005317825540:=()
def tw12964432096483901994:=()
def tw12654453102912883662:=()
def tw16950200682170193587:=()
def tw14297941974051768947:=()
def tw7361578016226851022:=()
def tw12135573103156391524:=()
def tw11288267721387860862:=()
def tw11629495716549156494:=()
def tw4736967981715220692:=()
def tw4195949191750641297:=()
def tw15826069776936161227:=()
def tw8528472884884806830:=()
def tw13372598904995127805:=()
def tw1611739318647669971:=()
def tw17331968494754681051:=()
def tw8566830356774104645:=()
def tw12804884048917373042:=()
def tw17958496845604644408:=()
def tw14777685664474362914:=()
def tw6439306590817124637:=()
def tw6660820838363334934:=()
def tw12951449445525699157:=()
def tw2174459758834038571:=()
def tw8302475508638520892:=()
def tw16576010737687786076:=()
def tw14608208978032059696:=()
def tw10223248872821842461:=()
def tw2900120612996507473:=()
def tw10609448619708005148:=()
def tw15187410348870602678:=()
def tw13041802744922014794:=()
def tw4518752693825669754:=()
def tw17687842702980803185:=()
def tw11155103365492520236:=()
def tw1477138429151091186:=()
def tw399258745188850908:=()
def tw13088901267782090082:=()
def tw8935945196882736275:=()
def tw10209363590945339703:=()
def tw5268360158755997980:=()
def tw6626407811531751688:=()
def tw14290081233657550454:=()
def tw1715761595240351235:=()
def tw7052489071169026944:=()
def tw14223780672645102937:=()
def tw10079524652690827754:=()
def tw11023751113472287296:=()
def tw4548550573435853867:=()
def tw3956570353446116126:=()
def tw1213436083107775830:=()
def tw2169322263201904949:=()
def tw1341095751921292004:=()
def tw9903866275114755343:=()
def tw10385576359602799902:=()
def tw14157443394319839261:=()
def tw12386549556186703173:=()
def tw8619655991906895390:=()
def tw8493640290902016022:=()
def tw17822284896545493000:=()
def tw3287471849752624256:=()
def tw6378584348835242574:=()
def tw407527671174229140:=()
def tw327820921539767575:=()
def tw6133845309173959119:=()
def tw15682049461757727208:=()
def tw2467746214529282658:=()
def tw5268004965553057865:=()
def tw17442122462957074752:=()
def tw4929976756346485130:=()
def tw7106679630147048148:=()
def tw4433694263345265564:=()
def tw15241670165205905467:=()
def tw18049444217340584560:=()
def tw3609852742673298035:=()
def tw547134275281764270:=()
def tw17022193566887353638:=()
def tw3814195867030507241:=()
end PySem.W.Fast
open PySem PySem.W PyProof.Rows
set_option maxRecDepth 100000 in
set_option maxHeartbeats 0 in
theorem PySem.Challenge.cw_fewnotes_k06_two_faults_holds : PySem.Challenge.rw_fewnotes_k06_two_faults.Holds := by
 w_on;o_law;k_head;(case hw=>w_witness2)
 k_fill
 refine Prf.walk (l:=PySem.Challenge.rw_fewnotes_k06_two_faults) rfl rfl (fun w h Y=>PySem.W.kIn_of Y) ?F
 case F=>
  intro w mg fa h KX G hmg
  replace hmg:mg (Str.ofString "law")=some (.ref fa):=hmg
  refine' Prf.all_mk KX G hmg ?a0 ?l0 ?c0 ?k0 ?n0 ?BR ?JQ ?wR ?a1 ?l1 ?c1 ?k1 ?a2 ?l2 ?c2 ?k2 ?a3 ?l3 ?c3 ?k3 ?a4 ?l4 ?c4 ?k4 ?a5 ?l5 ?c5 ?k5 ?a6 ?l6 ?c6 ?k6 ?a7 ?l7 ?c7 ?k7 ?a8 ?l8 ?c8 ?k8 ?a9 ?l9 ?c9 ?k9 ?a10 ?l10 ?c10 ?k10 ?a11 ?l11 ?c11 ?k11 ?a12 ?l12 ?c12 ?k12 ?a13 ?l13 ?c13 ?k13 ?a14 ?l14 ?c14 ?k14 ?a15 ?l15 ?c15 ?k15 ?a16 ?l16 ?c16 ?k16 ?a17 ?l17 ?c17 ?k17 ?a18 ?l18 ?c18 ?k18 ?a19 ?l19 ?c19 ?k19 ?a20 ?l20 ?c20 ?k20 ?a21 ?l21 ?c21 ?k21 ?a22 ?l22 ?c22 ?k22 ?a23 ?l23 ?c23 ?k23 ?a24 ?l24 ?c24 ?k24 ?a25 ?l25 ?c25 ?k25 ?a26 ?l26 ?c26 ?k26 ?a27 ?l27 ?c27 ?k27 ?a28 ?l28 ?c28 ?k28 ?a29 ?l29 ?c29 ?k29 ?a30 ?l30 ?c30 ?k30 ?a31 ?l31 ?c31 ?k31 ?a32 ?l32 ?c32 ?k32 ?a33 ?l33 ?c33 ?k33 ?a34 ?l34 ?c34 ?k34 ?a35 ?l35 ?c35 ?k35 ?a36 ?l36 ?c36 ?k36 ?a37 ?l37 ?c37 ?k37 ?za ?xr ?zZ ?Ak ?xu ?uz ?yp ?yO ?Cz ?yZ ?Dp ?DR ?rz ?pQ ?t_ ?uF ?vQ ?ux ?tZ ?uE ?uH ?rR ?rM ?rT ?HW ?DK ?Dn ?DQ ?DW ?Ai ?z9 ?Al ?Ar ?yI ?yj ?yN ?Aq ?yH ?yg ?yM ?yQ ?vJ ?vC ?vN ?Ao ?yG ?yd ?yL ?vR ?uy ?uc ?uG ?yS ?vL ?vG ?vP ?yR ?vK ?vD ?vO ?Am ?yF ?yc ?yK ?HS ?DG ?Dm ?DP ?yP ?vI ?vB ?vM ?mZ ?mJ ?qG ?qy ?jg ?iU ?mY ?mH ?oW ?oH ?iC ?gZ ?qF ?qx ?oN ?ou ?j7 ?jO ?jj ?iY ?iH ?ig ?kW ?jZ ?ji ?iW ?iG ?h_ ?kO ?jY ?fL ?fJ ?iD ?g_ ?gw ?fZ ?jt ?jf ?fj ?eZ ?qD ?qw ?oM ?oh ?rQ ?rO ?j6 ?jN ?oJ ?n6 ?m5 ?mK ?qH ?qz ?jh ?iV ?mX ?mG ?kJ ?jX ?oV ?oG ?iB ?gY ?mW ?mF ?kI ?jW ?oU ?oF ?iz ?gW ?j9 ?jQ ?jo ?jc ?m7 ?mO ?gj ?fV ?mV ?mD ?kE ?jV ?oR ?oE ?iy ?gU ?jk ?iZ ?iI ?iu ?kY ?j4 ?fM ?fK ?kh ?jT ?jr ?je ?m9 ?mR ?gq ?fY ?j_ ?jR ?jq ?jd ?m8 ?mQ ?gk ?fX ?mU ?mC ?kj ?jU ?oO ?oA ?iw ?gR ?qC ?qu ?oK ?n_ ?rP ?rN ?j5 ?jM ?j8 ?jP ?jm ?i_ ?m6 ?mL ?gb ?fU ?xcg ?xct ?Ag ?Af ?Ac ?Aj ?xq ?zY ?z_ ?Aa ?Ah ?Ab ?Dv ?Ad ?yD ?yC ?yw ?yJ ?uh ?xZ ?yq ?yr ?yE ?yu ?Ae ?yx ?Dy ?Dw ?Dt ?DN ?yX ?Dl ?Dq ?Dr ?Dz ?Ds ?HN ?Du ?ur ?uq ?um ?uD ?pP ?tY ?ud ?uf ?uw ?ug ?vH ?uo ?Jq ?Br ?qN ?uZ ?uY ?wJ ?aaY ?aaZ ?Jr ?Js ?Vo ?Fp ?Ob ?Vn ?Fo ?Oa ?Vm ?Fl ?N_ ?Vl ?Fj ?N8 ?Vk ?Fi ?N7 ?Vj ?Fg ?N6 ?Vi ?Fe ?N5 ?Vh ?Fd ?NZ ?Vg ?Fb ?NT ?tX ?SM ?Mg ?vA ?SJ ?tW ?Sy ?Mf ?Sx ?Sw ?HJ ?Sv ?HF ?Ss
  (case za=>k_is)
  (case xr=>rfl)
  (case zZ=>k_is)
  (case Ak=>k_is)
  (case xu=>k_is)
  (case uz=>rfl)
  (case yp=>k_is)
  (case yO=>k_is)
  (case Cz=>k_is)
  (case yZ=>rfl)
  (case Dp=>k_is)
  (case DR=>k_is)
  (case rz=>k_is)
  (case pQ=>rfl)
  (case t_=>k_is)
  (case uF=>k_is)
  (case vQ=>k_is)
  (case ux=>rfl)
  (case tZ=>k_is)
  (case uE=>k_is)
  (case uH=>k_is)
  (case rR=>rfl)
  (case rM=>k_is)
  (case rT=>k_is)
  (case HW=>k_is)
  (case DK=>rfl)
  (case Dn=>k_is)
  (case DQ=>k_is)
  (case DW=>k_is)
  (case Ai=>rfl)
  (case z9=>k_is)
  (case Al=>k_is)
  (case Ar=>k_is)
  (case yI=>rfl)
  (case yj=>k_is)
  (case yN=>k_is)
  (case Aq=>k_is)
  (case yH=>rfl)
  (case yg=>k_is)
  (case yM=>k_is)
  (case yQ=>k_is)
  (case vJ=>rfl)
  (case vC=>k_is)
  (case vN=>k_is)
  (case Ao=>k_is)
  (case yG=>rfl)
  (case yd=>k_is)
  (case yL=>k_is)
  (case vR=>k_is)
  (case uy=>rfl)
  (case uc=>k_is)
  (case uG=>k_is)
  (case yS=>k_is)
  (case vL=>rfl)
  (case vG=>k_is)
  (case vP=>k_is)
  (case yR=>k_is)
  (case vK=>rfl)
  (case vD=>k_is)
  (case vO=>k_is)
  (case Am=>k_is)
  (case yF=>rfl)
  (case yc=>k_is)
  (case yK=>k_is)
  (case HS=>k_is)
  (case DG=>rfl)
  (case Dm=>k_is)
  (case DP=>k_is)
  (case yP=>k_is)
  (case vI=>rfl)
  (case vB=>k_is)
  (case vM=>k_is)
  (case mZ=>rfl)
  (case mJ=>k_is)
  (case qG=>rfl)
  (case qy=>k_is)
  (case jg=>rfl)
  (case iU=>k_is)
  (case mY=>rfl)
  (case mH=>k_is)
  (case oW=>rfl)
  (case oH=>k_is)
  (case iC=>rfl)
  (case gZ=>k_is)
  (case qF=>rfl)
  (case qx=>k_is)
  (case oN=>rfl)
  (case ou=>k_is)
  (case j7=>rfl)
  (case jO=>k_is)
  (case jj=>rfl)
  (case iY=>k_is)
  (case iH=>rfl)
  (case ig=>k_is)
  (case kW=>rfl)
  (case jZ=>k_is)
  (case ji=>rfl)
  (case iW=>k_is)
  (case iG=>rfl)
  (case h_=>k_is)
  (case kO=>rfl)
  (case jY=>k_is)
  (case fL=>rfl)
  (case fJ=>k_is)
  (case iD=>rfl)
  (case g_=>k_is)
  (case gw=>rfl)
  (case fZ=>k_is)
  (case jt=>rfl)
  (case jf=>k_is)
  (case fj=>rfl)
  (case eZ=>k_is)
  (case qD=>rfl)
  (case qw=>k_is)
  (case oM=>rfl)
  (case oh=>k_is)
  (case rQ=>rfl)
  (case rO=>k_is)
  (case j6=>rfl)
  (case jN=>k_is)
  (case oJ=>rfl)
  (case n6=>k_is)
  (case m5=>rfl)
  (case mK=>k_is)
  (case qH=>rfl)
  (case qz=>k_is)
  (case jh=>rfl)
  (case iV=>k_is)
  (case mX=>rfl)
  (case mG=>k_is)
  (case kJ=>rfl)
  (case jX=>k_is)
  (case oV=>rfl)
  (case oG=>k_is)
  (case iB=>rfl)
  (case gY=>k_is)
  (case mW=>rfl)
  (case mF=>k_is)
  (case kI=>rfl)
  (case jW=>k_is)
  (case oU=>rfl)
  (case oF=>k_is)
  (case iz=>rfl)
  (case gW=>k_is)
  (case j9=>rfl)
  (case jQ=>k_is)
  (case jo=>rfl)
  (case jc=>k_is)
  (case m7=>rfl)
  (case mO=>k_is)
  (case gj=>rfl)
  (case fV=>k_is)
  (case mV=>rfl)
  (case mD=>k_is)
  (case kE=>rfl)
  (case jV=>k_is)
  (case oR=>rfl)
  (case oE=>k_is)
  (case iy=>rfl)
  (case gU=>k_is)
  (case jk=>rfl)
  (case iZ=>k_is)
  (case iI=>rfl)
  (case iu=>k_is)
  (case kY=>rfl)
  (case j4=>k_is)
  (case fM=>rfl)
  (case fK=>k_is)
  (case kh=>rfl)
  (case jT=>k_is)
  (case jr=>rfl)
  (case je=>k_is)
  (case m9=>rfl)
  (case mR=>k_is)
  (case gq=>rfl)
  (case fY=>k_is)
  (case j_=>rfl)
  (case jR=>k_is)
  (case jq=>rfl)
  (case jd=>k_is)
  (case m8=>rfl)
  (case mQ=>k_is)
  (case gk=>rfl)
  (case fX=>k_is)
  (case mU=>rfl)
  (case mC=>k_is)
  (case kj=>rfl)
  (case jU=>k_is)
  (case oO=>rfl)
  (case oA=>k_is)
  (case iw=>rfl)
  (case gR=>k_is)
  (case qC=>rfl)
  (case qu=>k_is)
  (case oK=>rfl)
  (case n_=>k_is)
  (case rP=>rfl)
  (case rN=>k_is)
  (case j5=>rfl)
  (case jM=>k_is)
  (case j8=>rfl)
  (case jP=>k_is)
  (case jm=>rfl)
  (case i_=>k_is)
  (case m6=>rfl)
  (case mL=>k_is)
  (case gb=>rfl)
  (case fU=>k_is)
  (case xcg=>k_is)
  (case xct=>k_is)
  (case Ag=>k_is)
  (case Af=>k_is)
  (case Ac=>k_is)
  (case Aj=>k_is)
  (case xq=>k_is)
  (case zY=>k_is)
  (case z_=>k_is)
  (case Aa=>rfl)
  (case Ah=>k_is)
  (case Ab=>k_is)
  (case Dv=>rfl)
  (case Ad=>k_is)
  (case yD=>k_is)
  (case yC=>k_is)
  (case yw=>k_is)
  (case yJ=>k_is)
  (case uh=>k_is)
  (case xZ=>k_is)
  (case yq=>k_is)
  (case yr=>rfl)
  (case yE=>k_is)
  (case yu=>k_is)
  (case Ae=>rfl)
  (case yx=>k_is)
  (case Dy=>k_is)
  (case Dw=>k_is)
  (case Dt=>k_is)
  (case DN=>k_is)
  (case yX=>k_is)
  (case Dl=>k_is)
  (case Dq=>k_is)
  (case Dr=>rfl)
  (case Dz=>k_is)
  (case Ds=>k_is)
  (case HN=>rfl)
  (case Du=>k_is)
  (case ur=>k_is)
  (case uq=>k_is)
  (case um=>k_is)
  (case uD=>k_is)
  (case pP=>k_is)
  (case tY=>k_is)
  (case ud=>k_is)
  (case uf=>rfl)
  (case uw=>k_is)
  (case ug=>k_is)
  (case vH=>rfl)
  (case uo=>k_is)
  (case Jq=>k_is)
  (case Br=>k_is)
  (case qN=>k_is)
  (case uZ=>k_is)
  (case uY=>k_is)
  (case wJ=>k_is)
  (case aaY=>k_is)
  (case aaZ=>k_is)
  (case Jr=>rfl)
  (case Js=>rfl)
  (case Vo=>k_is)
  (case Fp=>rfl)
  (case Ob=>decide)
  (case Vn=>k_is)
  (case Fo=>rfl)
  (case Oa=>decide)
  (case Vm=>k_is)
  (case Fl=>rfl)
  (case N_=>decide)
  (case Vl=>k_is)
  (case Fj=>rfl)
  (case N8=>decide)
  (case Vk=>k_is)
  (case Fi=>rfl)
  (case N7=>decide)
  (case Vj=>k_is)
  (case Fg=>rfl)
  (case N6=>decide)
  (case Vi=>k_is)
  (case Fe=>rfl)
  (case N5=>decide)
  (case Vh=>k_is)
  (case Fd=>rfl)
  (case NZ=>decide)
  (case Vg=>k_is)
  (case Fb=>rfl)
  (case NT=>decide)
  (case a0=>k_is)
  (case l0=>k_is)
  (case c0=>k_is)
  (case k0=>k_is)
  (case n0=>k_is)
  (case BR=>k_is)
  (case JQ=>k_is)
  (case wR=>k_is)
  (case a1=>k_is)
  (case l1=>k_is)
  (case c1=>k_is)
  (case k1=>k_is)
  (case a2=>k_is)
  (case l2=>k_is)
  (case c2=>k_is)
  (case k2=>k_is)
  (case a3=>k_is)
  (case l3=>k_is)
  (case c3=>k_is)
  (case k3=>k_is)
  (case a4=>k_is)
  (case l4=>k_is)
  (case c4=>k_is)
  (case k4=>k_is)
  (case a5=>k_is)
  (case l5=>k_is)
  (case c5=>k_is)
  (case k5=>k_is)
  (case a6=>k_is)
  (case l6=>k_is)
  (case c6=>k_is)
  (case k6=>k_is)
  (case a7=>k_is)
  (case l7=>k_is)
  (case c7=>k_is)
  (case k7=>k_is)
  (case a8=>k_is)
  (case l8=>k_is)
  (case c8=>k_is)
  (case k8=>k_is)
  (case a9=>k_is)
  (case l9=>k_is)
  (case c9=>k_is)
  (case k9=>k_is)
  (case a10=>k_is)
  (case l10=>k_is)
  (case c10=>k_is)
  (case k10=>k_is)
  (case a11=>k_is)
  (case l11=>k_is)
  (case c11=>k_is)
  (case k11=>k_is)
  (case a12=>k_is)
  (case l12=>k_is)
  (case c12=>k_is)
  (case k12=>k_is)
  (case a13=>k_is)
  (case l13=>k_is)
  (case c13=>k_is)
  (case k13=>k_is)
  (case a14=>k_is)
  (case l14=>k_is)
  (case c14=>k_is)
  (case k14=>k_is)
  (case a15=>k_is)
  (case l15=>k_is)
  (case c15=>k_is)
  (case k15=>k_is)
  (case a16=>k_is)
  (case l16=>k_is)
  (case c16=>k_is)
  (case k16=>k_is)
  (case a17=>k_is)
  (case l17=>k_is)
  (case c17=>k_is)
  (case k17=>k_is)
  (case a18=>k_is)
  (case l18=>k_is)
  (case c18=>k_is)
  (case k18=>k_is)
  (case a19=>k_is)
  (case l19=>k_is)
  (case c19=>k_is)
  (case k19=>k_is)
  (case a20=>k_is)
  (case l20=>k_is)
  (case c20=>k_is)
  (case k20=>k_is)
  (case a21=>k_is)
  (case l21=>k_is)
  (case c21=>k_is)
  (case k21=>k_is)
  (case a22=>k_is)
  (case l22=>k_is)
  (case c22=>k_is)
  (case k22=>k_is)
  (case a23=>k_is)
  (case l23=>k_is)
  (case c23=>k_is)
  (case k23=>k_is)
  (case a24=>k_is)
  (case l24=>k_is)
  (case c24=>k_is)
  (case k24=>k_is)
  (case a25=>k_is)
  (case l25=>k_is)
  (case c25=>k_is)
  (case k25=>k_is)
  (case a26=>k_is)
  (case l26=>k_is)
  (case c26=>k_is)
  (case k26=>k_is)
  (case a27=>k_is)
  (case l27=>k_is)
  (case c27=>k_is)
  (case k27=>k_is)
  (case a28=>k_is)
  (case l28=>k_is)
  (case c28=>k_is)
  (case k28=>k_is)
  (case a29=>k_is)
  (case l29=>k_is)
  (case c29=>k_is)
  (case k29=>k_is)
  (case a30=>k_is)
  (case l30=>k_is)
  (case c30=>k_is)
  (case k30=>k_is)
  (case a31=>k_is)
  (case l31=>k_is)
  (case c31=>k_is)
  (case k31=>k_is)
  (case a32=>k_is)
  (case l32=>k_is)
  (case c32=>k_is)
  (case k32=>k_is)
  (case a33=>k_is)
  (case l33=>k_is)
  (case c33=>k_is)
  (case k33=>k_is)
  (case a34=>k_is)
  (case l34=>k_is)
  (case c34=>k_is)
  (case k34=>k_is)
  (case a35=>k_is)
  (case l35=>k_is)
  (case c35=>k_is)
  (case k35=>k_is)
  (case a36=>k_is)
  (case l36=>k_is)
  (case c36=>k_is)
  (case k36=>k_is)
  (case a37=>k_is)
  (case l37=>k_is)
  (case c37=>k_is)
  (case k37=>k_is)
  (case tX=>k_is)
  (case SM=>k_is)
  (case Mg=>k_is)
  (case vA=>k_is)
  (case SJ=>k_is)
  (case tW=>k_is)
  (case Sy=>k_is)
  (case Mf=>k_is)
  (case Sx=>k_is)
  (case Sw=>k_is)
  (case HJ=>k_is)
  (case Sv=>k_is)
  (case HF=>k_is)
  (case Ss=>k_is)
#print axioms PySem.Challenge.cw_fewnotes_k06_two_faults_holds
