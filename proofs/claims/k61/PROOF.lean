import PyProof.Rows.All
import Wide.All
import OpenK.AllK
import Wide.FinOn
import Lean
import PyProof.EqAt
import PyProof.EqKinds
import PyProof.TupleCall
import PyProof.EqLayable
import PyProof.ExcArgsOwn
import PyProof.ExcAttrAll.Exception
import PyProof.RulesAs
import PyProof.ExcBaseAll.ValueError
import PyProof.NsDelKeeps
import KE.KRevSl
import OpenK.KOps
import OpenK.KWalk
import PyProof.TupleIter
import PyProof.ZipIter
import PyProof.DictUpdate
import PyProof.StrLawsIdx
import PyProof.DictTruth
import PyProof.DictDisplay
import KE.KLam
import KE.KNestM
import KE.KMinKey
import PyProof.NeKinds
import PySem.Challenge.RW_fewnotes_k61_no_such_way
set_option Elab.async false
set_option linter.all false
set_option maxRecDepth 100000
noncomputable section
section
open PySem PySem.Spec PyProof.Rows
theorem Z {α:Sort _} {a:α}:a=a:=rfl
def aad:=@List.length_map
def aae:=@List.getElem?_eq_getElem
def aaf:=@List.getElem?_eq_some_iff
def aah:=@List.getElem?_map
def aaj:=@Heap.get?_push_of_some
def aam:=@Heap.get?_push_size
def aaB:=@Heap.lt_size
def aaG:=@Nat.le_refl
def aaH:=@wpAny_bind
def aaI:=@wpAny_pure
def aaJ:=@wpS_bind
def aaK:=@wpS_pure
def aaL:=@Array.length_toList
def aaM:=@List.mem_of_getElem?
def aaN:=@decide_eq_true
def aaO:=@decide_eq_false
def aaP:=@of_decide_eq_true
def aaQ:=@Bool.false_ne_true
def aaR:=@List.size_toArray
def aaS:=@Option.some.inj
def aaT:=@List.length_append
def aaU:=@List.getElem?_append_right
def aaV:=@List.getElem?_append_left
def aaW:=@Nat.ne_of_lt
def aaX:=@Nat.lt_of_lt_of_le
def aaY:=@List.map_append
def aaZ:=@Int.toNat_natCast
def aa0:=@Bool.and_eq_true
def aa1:=@List.mem_cons_of_mem
def aa2:=@List.mem_append
def aa3:=@List.mem_map
def aa4:=@List.take_length
def aa5:=@List.length_singleton
def aa6:=@List.take_add_one
def aa7:=@List.length_set
def abe:=@List.length_take
def abw:=@List.mem_filter
def aby:=@List.mem_range
def abD:=@List.filter_cons
def abE:=@List.length_cons
def abQ:=@Int.eq_ofNat_of_zero_le
def abV:=@Nat.lt_irrefl
def abX:=@Nat.le_trans
def ab0:=@List.filter_append
def ab6:=@if_neg
def ab9:=@if_pos
def acq:=@absurd
end
namespace L2
open PySem PySem.Spec PyProof.Rows
noncomputable abbrev Key:=Sum Int Str
noncomputable def yP:Key->Value->Bool
 | .inl k,v=>Value.isInt k v
 | .inr x,v=>Value.isStrOf x v
noncomputable def afQ(w:World):Key->Int
 | .inl k=>hashInt k
 | .inr x=>hashStr w x
theorem dJ:∀{k:Key}{v:Value},yP k v=true->(∃i t,k=Sum.inl i/\v=Value.int i t)\/(∃x t,k=Sum.inr x/\v=Value.str x t)
 | .inl i,v,h=>by
   obtain⟨t,e⟩:=Value.isInt_shape (k:=i) (v:=v) h;exact .inl ⟨i,t,Z,e⟩
 | .inr x,v,h=>by
   obtain⟨t,e⟩:=Value.isStrOf_shape (x:=x) (v:=v) h;exact .inr ⟨x,t,Z,e⟩
theorem Oo(i:Int)(t:Tok):yP (.inl i) (.int i t)=true:=by simp[yP,Value.isInt]
theorem Om(x:Str)(t:Tok):yP (.inr x) (.str x t)=true:=by simp[yP,Value.isStrOf]
theorem ZS(a b:Int):decide ((Sum.inl a:Key)=Sum.inl b)=(a==b):=by
 by_cases e:a=b
 .subst e;simp
 .have h:¬(Sum.inl a:Key)=Sum.inl b:=λq=>e (Sum.inl.inj q)
  rw[aaO h];exact(beq_eq_false_iff_ne.mpr e).symm
theorem ZP(a b:Str):decide ((Sum.inr a:Key)=Sum.inr b)=decide (a=b):=by
 by_cases e:a=b
 .subst e;simp
 .have h:¬(Sum.inr a:Key)=Sum.inr b:=λq=>e (Sum.inr.inj q)
  rw[aaO h,aaO e]
theorem ZR(a:Int)(b:Str):decide ((Sum.inl a:Key)=Sum.inr b)=false:=aaO (λq=>nomatch q)
theorem ZQ(a:Str)(b:Int):decide ((Sum.inr a:Key)=Sum.inl b)=false:=aaO (λq=>nomatch q)
noncomputable def cR(prog:Program)(w:World):PySem.KeyKind prog w Key where
 is:=yP
 hash:=afQ w
 inj:=λv a b ha hb=>by
  rcases dJ ha with ⟨i,t,rfl,rfl⟩|⟨x,t,rfl,rfl⟩
  .rcases dJ hb with ⟨j,u,rfl,e⟩|⟨y,u,rfl,e⟩
   .injection e with e1 _;rw[e1]
   .exact nomatch e
  .rcases dJ hb with ⟨j,u,rfl,e⟩|⟨y,u,rfl,e⟩
   .exact nomatch e
   .injection e with e1 _;rw[e1]
 byValue:=λk v h=>by
  rcases dJ h with ⟨i,t,rfl,rfl⟩|⟨x,t,rfl,rfl⟩<;>rfl
 pyHash:=λhv h=>by
  rcases dJ hv with ⟨i,t,rfl,rfl⟩|⟨x,t,rfl,rfl⟩
  .exact wpAny_pyHash_int h
  .exact wpAny_pyHash_str h
 eqBool:=λhu hv h=>by
  rcases dJ hu with ⟨i,t,rfl,rfl⟩|⟨x,t,rfl,rfl⟩
  .rcases dJ hv with ⟨j,u,rfl,rfl⟩|⟨y,u,rfl,rfl⟩
   .rw[ZS] at h;exact wpAny_eqBool_int h
   .rw[ZR] at h;exact SeqAt.EqAt.int_str i t y u _ _ _ _ h
  .rcases dJ hv with ⟨j,u,rfl,rfl⟩|⟨y,u,rfl,rfl⟩
   .rw[ZQ] at h;exact SeqAt.EqAt.str_int x t j u _ _ _ _ h
   .rw[ZP] at h;exact wpAny_eqBool_str h
 «strs» :=λk x t v h=>by
  rcases dJ h with ⟨i,u,rfl,e⟩|⟨y,u,rfl,e⟩
  .exact nomatch e
  .injection e with e1 _
   subst e1;cases v<;>rfl
theorem Jo(prog:Program)(w:World)(k:Key)(v:Value):(cR prog w).is k v=yP k v:=Z
theorem Gz(prog:Program)(w:World)(i:Int)(t:Tok):(cR prog w).is (.inl i) (.int i t)=true:=Oo i t
theorem Gy(prog:Program)(w:World)(x:Str)(t:Tok):(cR prog w).is (.inr x) (.str x t)=true:=Om x t
inductive V where
 | non|bl (b:Bool)|int (i:Int)|str (x:Str)|JN (b:Array UInt8)|flt (b:UInt64)|ref (a:Addr)|ty (n:String)
 deriving DecidableEq
noncomputable def RelV:V->Value->Prop
 | .non,u=>u=Value.none
 | .bl b,u=>u=Value.bool b
 | .int i,u=>∃t,u=Value.int i t
 | .str x,u=>∃t,u=Value.str x t
 | .JN b,u=>∃t,u=Value.bytes b t
 | .flt b,u=>∃t,u=Value.float b t
 | .ref a,u=>u=Value.ref a
 | .ty n,u=>u=Value.type n
noncomputable abbrev Vals:List V->List Value->Prop:=Paired RelV
theorem Vals.length{xs:List V}{us:List Value}(r:Vals xs us):xs.length=us.length:=Paired.length r
theorem Vals.get:∀{xs:List V}{us:List Value}{i:Nat}{x:V},Vals xs us->xs[i]? = some x -> ∃u,us[i]? = some u/\RelV x u
 | _,_,_,_,.nil,e=>by simp at e
 | _,_,0,_,.cons r _,e=>by simp at e;subst e;exact⟨_,Z,r⟩
 | _,_,i+1,x,.cons _ t,e=>by
   obtain⟨u,h1,h2⟩:=Vals.get (i:=i) (x:=x) t (by simpa using e);exact⟨u,by simpa using h1,h2⟩
theorem Vals.set{x:V}{u:Value}(r:RelV x u):∀{xs:List V}{us:List Value}(i:Nat),Vals xs us->Vals (xs.set i x) (us.set i u)
 | _,_,_,.nil=> .nil
 | _,_,0,.cons _ t=> .cons r t
 | _,_,i+1,.cons q t=> .cons q (Vals.set r i t)
theorem Vals.append{xs ys:List V}{us ws:List Value}(h:Vals xs us)(s:Vals ys ws):Vals (xs++ys) (us++ws):=by
 induction h with
 | nil=>exact s
 | cons r t ih=>exact .cons r ih
theorem Vals.take:∀{xs:List V}{us:List Value}(n:Nat),Vals xs us->Vals (xs.take n) (us.take n)
 | _,_,0,_=> .nil
 | _,_,_+1,.nil=> .nil
 | _,_,n+1,.cons r t=> .cons r (Vals.take n t)
theorem Vals.drop:∀{xs:List V}{us:List Value}(n:Nat),Vals xs us->Vals (xs.drop n) (us.drop n)
 | _,_,0,r=>r
 | _,_,_+1,.nil=> .nil
 | _,_,n+1,.cons _ t=>Vals.drop n t
noncomputable def nU:Option V->Option Value->Prop
 | some v,some u=>RelV v u
 | none,none=>True
 | _,_=>False
noncomputable def KV{κ:Type}:List (κ×V)->List (κ×Value)->Prop:=Paired λ(p:κ×V) (q:κ×Value)=>p.1=q.1/\RelV p.2 q.2
noncomputable def kV:Key->V
 | .inl i=> .int i
 | .inr x=> .str x
inductive HO where
 | lst (xs:List V)
 | tup (xs:List V)
 | dK (kvs:List (Key×V))|dT (kvs:List (List Key×V))
 | set (S:Int->Bool) (n:Nat)
 | ins (C dx:Addr) (fs:List (Str×V))
 | own (x:Addr)
 | xd (fs:List (Str×V))
 | met (f x:Addr)
 | rng (lo hi:Int)
 | m_ (o:Obj) (u:HO)
 | Vc (ps:Array Value)
 | ext (φ:Heap->Prop)
noncomputable abbrev Hp:=Addr->Option HO
noncomputable def upd(H:Hp)(a:Addr)(o:HO):Hp:=λb=>if b=a then some o else H b
theorem ak{H:Hp}{a:Addr}{o:HO}:upd H a o a=some o:=by unfold upd;rw[ab9 rfl]
theorem aF{H:Hp}{a b:Addr}{o:HO}(h:b≠a):upd H a o b=H b:=by unfold upd;rw[ab6 h]
theorem Ks{H:Hp}{a:Addr}{o u:HO}:upd (upd H a o) a u=upd H a u:=by
 funext b;unfold upd;split<;>rfl
theorem cD{H:Hp}{a b:Addr}{o u:HO}(h:H a=some o)(h':H b=some u)(d:o≠u):a≠b:=by
 intro e;subst e;rw[h] at h';exact d (aaS h')
theorem aA{H:Hp}{a b:Addr}{o:HO}(h:H a=some o)(h':H b=none):a≠b:=by
 intro e;subst e;rw[h] at h';cases h'
section
variable(P:Program)(w:World)
noncomputable def cU(H:Hp)(h:Heap)(a:Addr):HO->Prop
 | .lst xs=>xs.length<=sizeLine /\ ∃(its:List Value) (n:Nat),Vals xs its/\h.get? a=some {cls:= .type "list",data:= .seq its.toArray n}
 | .tup xs=>xs.length<=sizeLine /\ ∃its:List Value,Vals xs its/\IsTup h a its.toArray
 | .dK kvs=>kvs.length<=sizeLine/\(a==sysModules)=false /\ ∃vs,KV kvs vs/\h.DictOf (cR P w) a vs
 | .dT kvs=>kvs.length<=sizeLine/\(a==sysModules)=false /\ ∃xs:List (List Key×Addr×Value),
    Paired (λ(p:List Key×V) (q:List Key×Addr×Value)=>p.1=q.1/\H q.2.1=some (.tup (p.1.map kV))/\RelV p.2 q.2.2) kvs xs /\
    ∃o es ep,h.get? a=some o/\o.ExactDict/\o.data = .dict es ep/\es.toList=xs.map (entryOfKey (tupleKind (cR P w)))/\(xs.map (·.1)).Nodup
 | .set S n=>h.SetOf (intKind P w) a S n
 | .ins C dx fs=>H dx=some (.own a)/\fs.length<=1000/\dx≠a/\h.get? a=some (PySem.W.instObj C dx) /\
    ∃mA,h.Ns1 dx mA/\(∀f,nU (fs.lookup f) (mA f))/\PySem.Within mA (fs.map (·.1))
 | .own _=>∃o,h.get? a=some o
 | .xd fs=>∃mA,h.Ns1 a mA /\ ∀f,nU (fs.lookup f) (mA f)
 | .rng lo hi=>∃t u v,h.get? a=some {cls:= .type "range",data:= .fields #[.int lo t,.int hi u,.int 1 v]}
 | .m_ o u=>h.get? a=some o/\cU H h a u
 | .Vc ps=>h.get? a=some {cls:= .none,data:= .fields ps}
 | .met f x=>h.get? a=some (PySem.W.methodObj (.ref f) (.ref x))
 | .ext φ=>φ h/\(∃o,h.get? a=some o) /\ ∀h1 h2:Heap,φ h1->(∀o,h1.get? a=some o->h2.get? a=some o)->φ h2
noncomputable def mF(H:Hp)(h:Heap):Prop:=∀a o,H a=some o->cU P w H h a o
end
section
variable{P:Program}{w:World}{H H':Hp}{h h':Heap}{a:Addr}{o:HO}
theorem cU.lt(x:cU P w H h a o):a<h.objs.size:=by
 cases o with
 | lst xs=>obtain⟨_,_,_,_,e⟩:=x;exact aaB e
 | tup xs=>obtain⟨_,_,_,p⟩:=x;exact p.lt
 | dK kvs=>obtain⟨_,_,_,_,o,_,_,e,_⟩:=x;exact aaB e
 | dT kvs=>obtain⟨_,_,_,_,o,_,_,e,_⟩:=x;exact aaB e
 | set S n=>obtain⟨o,_,_,_,e,_⟩:=x;exact aaB e
 | ins C dx fs=>obtain⟨_,_,_,e,_⟩:=x;exact aaB e
 | own y=>obtain⟨_,e⟩:=x;exact aaB e
 | xd fs=>obtain⟨_,⟨_,_,_,e,_⟩,_⟩:=x;exact aaB e
 | rng lo hi=>obtain⟨_,_,_,e⟩:=x;exact aaB e
 | m_ ob u=>obtain⟨e,_⟩:=x;exact aaB e
 | Vc ps=>exact aaB (show h.get? a=some _ from x)
 | met f y=>exact aaB (show h.get? a=some _ from x)
 | ext φ=>obtain⟨_,⟨_,e⟩,_⟩:=x;exact aaB e
theorem Paired.ab3{α β:Type}{F G:α->β->Prop}:∀{l₁:List α}{l₂:List β},Paired F l₁ l₂->(∀a b,F a b->G a b)->Paired G l₁ l₂
 :=by
 intro l₁ l₂ h f
 induction h with
 | nil=>exact .nil
 | cons r t ih=>exact .cons (f _ _ r) ih
theorem cU.stay(x:cU P w H h a o)(k:∀b u,(b=a\/H b=some (.own a))->h.get? b=some u->h'.get? b=some u)(ho:∀b,H b=some (.own a)->H' b=some (.own a))(ht:∀b xs,H b=some (.tup xs)->H' b=some (.tup xs)):cU P w H' h' a o:=by
 induction o with
 | lst xs=>obtain⟨z,its,n,r,e⟩:=x;exact⟨z,its,n,r,k _ _ (.inl rfl) e⟩
 | tup xs=>obtain⟨z,its,r,ob,e,c⟩:=x;exact⟨z,its,r,ob,k _ _ (.inl rfl) e,c⟩
 | dK kvs=>obtain⟨z,y,vs,r,ob,es,ep,e,c⟩:=x;exact⟨z,y,vs,r,ob,es,ep,k _ _ (.inl rfl) e,c⟩
 | dT kvs=>
   obtain⟨z,y,xs,r,ob,es,ep,e,c⟩:=x;exact⟨z,y,xs,Paired.ab3 r λp q z=>⟨z.1,ht _ _ z.2.1,z.2.2⟩,ob,es,ep,k _ _ (.inl rfl) e,c⟩
 | set S n=>obtain⟨ob,es,ep,t,e,c⟩:=x;exact⟨ob,es,ep,t,k _ _ (.inl rfl) e,c⟩
 | ins C dx fs=>
   obtain⟨d,z,ne,e,mA,⟨od,es,ep,e2,c⟩,r⟩:=x;exact⟨ho _ d,z,ne,k _ _ (.inl rfl) e,mA,⟨od,es,ep,k _ _ (.inr d) e2,c⟩,r⟩
 | own y=>obtain⟨ob,e⟩:=x;exact⟨ob,k _ _ (.inl rfl) e⟩
 | xd fs=>obtain⟨mA,⟨od,es,ep,e,c⟩,r⟩:=x;exact⟨mA,⟨od,es,ep,k _ _ (.inl rfl) e,c⟩,r⟩
 | rng lo hi=>obtain⟨t,u,v,e⟩:=x;exact⟨t,u,v,k _ _ (.inl rfl) e⟩
 | m_ ob u ih=>obtain⟨e,q⟩:=x;exact⟨k _ _ (.inl rfl) e,ih q⟩
 | Vc ps=>
   have e:h.get? a=some {cls:= .none,data:= .fields ps}:=x;show h'.get? a=some {cls:= .none,data:= .fields ps};exact k a _ (.inl rfl) e
 | met f y=>
   have e:h.get? a=some (PySem.W.methodObj (.ref f) (.ref y)):=x;show h'.get? a=some (PySem.W.methodObj (.ref f) (.ref y));exact k a _ (.inl rfl) e
 | ext φ=>obtain⟨p,⟨o,e⟩,st⟩:=x;exact⟨st _ _ p λo q=>k _ _ (.inl rfl) q,⟨o,k _ _ (.inl rfl) e⟩,st⟩
theorem mF.lt(x:mF P w H h)(e:H a=some o):a<h.objs.size:=(x a o e).lt
theorem mF.fresh(x:mF P w H h)(e:h.objs.size<=a):H a=none:=by
 cases q:H a with
 | none=>rfl
 | some u=>exact acq (aaX (x.lt q) e) (abV _)
theorem mF.kept(x:mF P w H h)(k:∀b u,h.get? b=some u->h'.get? b=some u):mF P w H h':=λa o e=>
 (x a o e).stay (λb u _ q=>k b u q) (λ_ q=>q) λ_ _ q=>q
theorem mF.laid(x:mF P w H h)(k:∀b u,h.get? b=some u->h'.get? b=some u)(hp:h.objs.size<=a)(new:cU P w (upd H a o) h' a o):mF P w (upd H a o) h':=λb u e=>by
 have hn:=x.fresh hp
 by_cases hb:b=a
 .subst hb;rw[ak] at e;cases e;exact new
 .rw[aF hb] at e
  exact(x b u e).stay (λc v _ q=>k c v q) (λc q=>by rw[aF (aA q hn)];exact q) λc xs q=>by rw[aF (aA q hn)];exact q
end
noncomputable def Rd(H:Hp)(a:Addr)(u:HO):Prop:=H a=some u \/ ∃o,H a=some (.m_ o u)
theorem Rd.ok{P:Program}{w:World}{H:Hp}{h:Heap}{a:Addr}{u:HO}(r:Rd H a u)(x:mF P w H h):cU P w H h a u:=by
 rcases r with r|⟨o,r⟩
 .exact x a u r
 .obtain⟨_,q⟩:=x a _ r
  exact q
noncomputable def Mut:Option HO->Prop
 | some (.lst _)=>True
 | some (.dK _)=>True
 | some (.dT _)=>True
 | some (.set _ _)=>True
 | some (.ins _ _ _)=>True
 | some (.ext _)=>True
 | _=>False
section
variable{P:Program}{w:World}{H:Hp}{h h':Heap}{x e:Addr}{o':HO}
theorem mF.write(ok:mF P w H h)(mu:Mut (H x))(he:e=x\/H e=some (.own x))(k:∀b u,b≠e->h.get? b=some u->h'.get? b=some u)(heo:∃u,h'.get? e=some u)(new:cU P w (upd H x o') h' x o'):mF P w (upd H x o') h':=λb u q=>by
 have abU:∀c y,H c=some (.own y)->c≠x:=λc y r z=>by subst z;rw[r] at mu;exact mu
 have afu:∀c xs,H c=some (.tup xs)->c≠x:=λc xs r z=>by subst z;rw[r] at mu;exact mu
 by_cases hb:b=x
 .subst hb;rw[ak] at q;cases q;exact new
 .rw[aF hb] at q
  by_cases hbe:b=e
  .have q':H b=some (.own x):=by
    rcases he with z|z
    .exact acq (hbe.trans z) hb
    .rw[hbe];exact z
   rw[q] at q';cases q';obtain⟨v,hv⟩:=heo;exact⟨v,by rw[hbe];exact hv⟩
  .refine(ok b u q).stay (λc v hc r=>k c v ?_ r) (λc r=>by rw[aF (abU c b r)];exact r) λc xs r=>by rw[aF (afu c xs r)];exact r
   rcases hc with rfl|hc
   .exact hbe
   .rintro rfl
    rcases he with z|z
    .exact abU c b hc z
    .rw[hc] at z;cases z;exact hb rfl
end
structure Un(fs ex:List Addr)(H H':Hp)(h h':Heap):Prop where
 keep:∀b o,h.get? b=some o->H b=none->b∉fs->b∉ex->h'.get? b=some o
 slot:∀b o,h.get? b=some o->H b=none->b∈fs->b∉ex -> ∃sl,h'.get? b=some {o with slots:=sl}
 free:∀b o,h.get? b=some o->H b=none->b∉ex->H' b=none
 there:∀b o,h.get? b=some o->b∉ex -> ∃o',h'.get? b=some o'
 tups:∀b xs,H b=some (.tup xs)->H' b=some (.tup xs)
 rE:∀b o u,H b=some (.m_ o u)->H' b=some (.m_ o u)
 uo:∀b ps,H b=some (.Vc ps) -> ∃more,H' b=some (.Vc (ps++more))
section
variable{fs fs' ex ex':List Addr}{H H1 H2:Hp}{h h1 h2 h':Heap}{a x e:Addr}{o:HO}
theorem Un.any(u:Un fs ex H H1 h h1){b:Addr}{ob:Obj}(q:h.get? b=some ob)(n:H b=none)(hx:b∉ex):∃sl,h1.get? b=some {ob with slots:=sl}:=by
 by_cases hb:b∈fs
 .exact u.slot b ob q n hb hx
 .exact⟨ob.slots,u.keep b ob q n hb hx⟩
theorem Un.kept(k:∀b u,h.get? b=some u->h'.get? b=some u):Un fs ex H H h h':=
 ⟨λb ob q _ _ _=>k b ob q,λb ob q _ _ _=>⟨ob.slots,k b ob q⟩,λ_ _ _ n _=>n,λb ob q _=>⟨ob,k b ob q⟩,λ_ _ q=>q,λ_ _ _ q=>q,λ_ ps q=>⟨#[],by rw[q];simp⟩⟩
theorem Un.refl:Un fs ex H H h h:=Un.kept λ_ _ q=>q
theorem Un.laid(k:∀b u,h.get? b=some u->h'.get? b=some u)(hp:h.objs.size<=a)(hn:H a=none):Un fs ex H (upd H a o) h h' where
 keep:=λb u q _ _ _=>k b u q
 slot:=λb u q _ _ _=>⟨u.slots,k b u q⟩
 free:=λb u q n _=>by rw[aF (aaW (aaX (aaB q) hp))];exact n
 there:=λb u q _=>⟨u,k b u q⟩
 tups:=λb xs q=>by rw[aF (aA q hn)];exact q
 rE:=λb u xs q=>by rw[aF (aA q hn)];exact q
 uo:=λb ps q=>⟨#[],by rw[aF (aA q hn),q];simp⟩
theorem Un.write(mu:Mut (H x))(he:e=x\/H e=some (.own x))(k:∀b u,b≠e->h.get? b=some u->h'.get? b=some u)(heo:∃u,h'.get? e=some u):Un fs ex H (upd H x o) h h':=by
 have hx:∀b,H b=none->b≠x:=λb n z=>by subst z;rw[n] at mu;exact mu
 have hb:∀b,H b=none->b≠e:=λb n z=>by
  subst z;rcases he with r|r
  .exact hx b n r
  .rw[n] at r;cases r
 have hm:∀b u,H b=some u -> ¬Mut (some u)->b≠x:=λb u q nm z=>by subst z;rw[q] at mu;exact nm mu
 refine⟨λb u q n _ _=>k b u (hb b n) q,λb u q n _ _=>⟨u.slots,k b u (hb b n) q⟩,λb u q n _=>by rw[aF (hx b n)];exact n,λb u q _=>?_,
  λb xs q=>by rw[aF (hm b _ q λz=>z)];exact q,λb u xs q=>by rw[aF (hm b _ q λz=>z)];exact q,λb ps q=>⟨#[],by rw[aF (hm b _ q λz=>z),q];simp⟩⟩
 by_cases hbe:b=e
 .subst hbe;exact heo
 .exact⟨u,k b u hbe q⟩
end
noncomputable def Us(h:Heap)(H:Hp):List Addr:=(List.range h.objs.size).filter λa=>(H a).isSome
noncomputable def Dz(h:Heap)(H:Hp):Heap:=PySem.W.hideAll h (Us h H)
theorem Ov(h:Heap)(H:Hp):(Dz h H).objs.size=h.objs.size:=PySem.W.hideAll_size _ _
theorem Ss{h:Heap}{H:Hp}{b:Addr}{o:Obj}(e:h.get? b=some o)(n:H b=none):(Dz h H).get? b=some o:=
 PySem.W.hideAll_get _ e λhm=>by
  have q:(H b).isSome=true:=(abw.mp hm).2;rw[n] at q;simp at q
theorem V5{h:Heap}{H:Hp}{b:Addr}{o:Obj}(e:(Dz h H).get? b=some o):h.get? b=some o/\H b=none:=by
 have e':h.get? b=some o:=PySem.W.of_hideAll (Us h H) e;refine⟨e', ?_⟩;cases q:H b with
 | none=>rfl
 | some x=>
   have hm:b∈Us h H:=abw.mpr ⟨aby.mpr (aaB e'),by simp[q]⟩;have z:(Dz h H).get? b=none:=PySem.W.hideAll_none (Us h H) hm;rw[z] at e;cases e
noncomputable def Xh(g h:Heap)(L:Addr):List (Addr×Obj):=(List.range h.objs.size).filterMap λa=>if a=L\/(g.get? a).isSome=true then none else (h.get? a).map λo=>(a,o)
noncomputable def rest(g h:Heap)(L d:Addr):List (Addr×Obj):=(Xh g h L).filter λp=>decide (p.1≠d)
structure Mod(K:PySem.W.Frag)(mg:Str->Option Value)(base:Heap):Prop where
 Wi:K.In base
 glob:base.Ns mainGlobals mg
 blt:∃mb,base.Ns builtinsNs mb /\ ∀x:Str,x ≠ "__name__" -> mb x=bootBuiltins x
 nolimit:base.NoLimit
structure Cx where
 prog:Program
 w:World
 K:PySem.W.Frag
 mg:Str->Option Value
 base:Heap
 A:Around
 N:List Str
 s₀:Shared
 H₀:Hp
 env:Env
 outer:List Env
 stack:List Env
 ex:List Addr
 fn:Str->Bool
 calm:Bool
 pn:List (Addr×Obj)
 xe:Value->Shared->Prop
noncomputable def frs(l:List Env):List Addr:=l.filterMap (·.frame)
noncomputable abbrev Cx.fs(X:Cx):List Addr:=frs X.outer
noncomputable def Vis(sc:Scope)(x:Str):Prop:=sc.names.lookup x=some .local\/sc.names.lookup x=some .cell\/sc.names.lookup x=some .free
noncomputable def Loc(sc:Scope)(x:Str):Prop:=sc.names.lookup x=some .local\/sc.names.lookup x=some .cell
noncomputable def Look(env:Env)(h:Heap)(m:Str->Option Value)(x:Str)(u:Value):Prop:=
 (env.kindOf x=some .local/\m x=some u)\/((env.kindOf x=some .cell\/env.kindOf x=some .free) /\ ∃c,env.cells.lookup x=some c/\h.IsCell c (some u))
structure Cx.Ok(X:Cx):Prop where
 mod:Mod X.K X.mg X.base
 kind:X.env.scope.kind = .function
 glob:X.env.globals=mainGlobals
 blt:X.env.builtins=builtinsNs
 above:X.s₀.heap.objs.size<=X.env.locals
 inj:∀x y c,X.env.cells.lookup x=some c->X.env.cells.lookup y=some c->x=y
 has:∀x,(X.env.kindOf x=some .cell\/X.env.kindOf x=some .free) -> ∃c,X.env.cells.lookup x=some c
 cab:∀x c,X.fn x=true->X.env.cells.lookup x=some c->X.s₀.heap.objs.size<=c
 hd:X.calm=true->X.A.handled=none
 frames:X.A.frames=some X.stack
 stk:X.stack=X.outer\/(X.stack=X.env::X.outer/\X.env.frame=some X.env.locals)
 exf:∀b∈X.ex,b≠X.env.locals /\ ∀x c,X.env.cells.lookup x=some c->c≠b
 bs:∀b o,X.base.get? b=some o->X.s₀.heap.get? b=some o/\X.H₀ b=none
 Px:X.base.objs.size<=X.s₀.heap.objs.size
 Dp:∀b o,X.base.get? b=some o->b∉X.ex
 G8:∀b∈X.ex,b∉X.fs
 pC:X.s₀.heap.FunFrames X.base X.outer
 S5:∀b∈X.fs,X.H₀ b=none
structure Inv(X:Cx)(pins:List (Addr×Obj))(σ:List (Option V))(H:Hp)(s:Shared):Prop where
 ok:X.Ok
 os:s.os=X.s₀.os
 bare:AllBare s.gens
 base:Un X.fs X.ex X.H₀ H X.s₀.heap s.heap
 loc:∃m,s.heap.Ns X.env.locals m /\ ∀(i:Nat)(x:Str)(v:V),X.N[i]? = some x->σ[i]? = some (some v)->Vis X.env.scope x -> ∃u,RelV v u/\Look X.env s.heap m x u
 cell:∀x c,X.env.cells.lookup x=some c -> ∃v,s.heap.IsCell c v
 free:H X.env.locals=none
 iM:∀x c,X.env.cells.lookup x=some c->H c=none
 pin:∀p∈X.pn++pins,s.heap.get? p.1=some p.2/\H p.1=none/\p.1≠X.env.locals/\p.1∉X.fs /\ ∀v,p.2.data ≠ .cell v
 hok:mF X.prog X.w H s.heap
 len:σ.length=X.N.length
section
variable{X:Cx}{pins:List (Addr×Obj)}{σ:List (Option V)}{H H':Hp}{s:Shared}{h':Heap}
theorem Cx.Ok.afB(ok:X.Ok){b:Addr}{o:Obj}(e:X.base.get? b=some o):b∉X.fs:=λhb=>by
 have:=(ok.pC.mem hb).1;rw[e] at this;cases this
theorem Inv.bs(I:Inv X pins σ H s):∀b o,X.base.get? b=some o->s.heap.get? b=some o/\H b=none:=λb o e=>
 ⟨I.base.keep b o (I.ok.bs b o e).1 (I.ok.bs b o e).2 (I.ok.afB e) (I.ok.Dp b o e),I.base.free b o (I.ok.bs b o e).1 (I.ok.bs b o e).2 (I.ok.Dp b o e)⟩
theorem Inv.bk(I:Inv X pins σ H s):∀b o,X.base.get? b=some o->s.heap.get? b=some o:=λb o e=>(I.bs b o e).1
theorem Inv.mod(I:Inv X pins σ H s):Mod X.K X.mg X.base:=I.ok.mod
theorem Inv.nW(I:Inv X pins σ H s):X.K.In s.heap:=I.ok.mod.Wi.keeps I.bk
theorem Inv.lt(I:Inv X pins σ H s):X.env.locals<s.heap.objs.size:=let ⟨_,hn,_⟩:=I.loc;hn.lt
theorem Inv.sz(I:Inv X pins σ H s):X.s₀.heap.objs.size<=s.heap.objs.size:=abX I.ok.above (Nat.le_of_lt I.lt)
theorem Inv.afA(I:Inv X pins σ H s){a:Addr}(h:s.heap.objs.size<=a):a∉X.fs:=λhb=>by
 obtain⟨_,o,ho,_⟩:=I.ok.pC.mem hb;exact acq (aaX (aaB ho) (abX I.sz h)) (abV _)
theorem Inv.Ym(I:Inv X pins σ H s):∀x c,X.env.cells.lookup x=some c->c≠X.env.locals:=λx c e z=>by
 obtain⟨v,o,ho,hd⟩:=I.cell x c e;obtain⟨m,⟨o',es,ep,ho',hd',_⟩,_⟩:=I.loc;rw[z,ho'] at ho;cases ho;rw[hd'] at hd;cases hd
theorem Inv.pC(I:Inv X pins σ H s):s.heap.FunFrames X.base X.outer:=by
 have all:∀(l:List Env),(∀b∈frs l,b∈X.fs)->X.s₀.heap.FunFrames X.base l->s.heap.FunFrames X.base l:=by
  intro l
  induction l with
  | nil=>intro _ _;trivial
  | cons env r ih=>
    intro hs hl;obtain⟨hk,⟨L,o,hf,hn,ho,hd⟩,hr⟩:=hl;have hL:L∈X.fs:=hs L (by unfold frs;rw[List.filterMap_cons,hf];exact List.mem_cons_self);obtain⟨sl,e⟩:=I.base.slot L o ho (I.ok.S5 L hL) hL λz=>I.ok.G8 L z hL;exact⟨hk,⟨L,_,hf,hn,e,hd⟩,ih (λb hb=>hs b (by unfold frs;rw[List.filterMap_cons,hf];exact aa1 _ hb)) hr⟩
 exact all X.outer (λ_ hb=>hb) I.ok.pC
theorem Inv.stack(I:Inv X pins σ H s):s.heap.FunFrames X.base X.stack:=by
 rcases I.ok.stk with e|⟨e,hf⟩
 .rw[e];exact I.pC
 .rw[e]
  obtain⟨m,hn,_⟩:=I.loc;refine .cons (by rw[I.ok.kind];decide) hf hn ?_ I.pC;exact Heap.get?_none_of_le (abX I.ok.Px I.ok.above)
theorem Inv.xM(I:Inv X pins σ H s):∀b∈frs X.stack,b∈X.env.locals::X.fs:=λb hb=>by
 rcases I.ok.stk with e|⟨e,hf⟩
 .rw[e] at hb;exact aa1 _ hb
 .rw[e] at hb
  unfold frs at hb;rw[List.filterMap_cons,hf] at hb;exact hb
theorem Inv.Cm(I:Inv X pins σ H s):∀b∈frs X.stack,H b=none:=λb hb=>by
 rcases List.mem_cons.mp (I.xM b hb) with e|hb
 .rw[e];exact I.free
 .obtain⟨_,o,ho,_⟩:=I.ok.pC.mem hb
  exact I.base.free b o ho (I.ok.S5 b hb) λz=>I.ok.G8 b z hb
theorem Inv.step{g':Array GenState}{t':Nat}{d':Drawn}{ch:List Addr}(I:Inv X pins σ H s)(hch:∀b∈ch,(b∈X.ex\/X.s₀.heap.objs.size<=b)/\b≠X.env.locals/\(∀x c,X.env.cells.lookup x=some c->c≠b) /\ ∀p∈X.pn++pins,p.1≠b)(keep:∀b o,b≠X.env.locals->b∉X.fs->b∉ch->s.heap.get? b=some o->H b=none->h'.get? b=some o)(slot:∀b o,b≠X.env.locals->b∈X.fs->b∉ch->s.heap.get? b=some o->H b=none -> ∃sl,h'.get? b=some {o with slots:=sl})(free:∀b o,b∉ch->s.heap.get? b=some o->H b=none->H' b=none)(there:∀b o,b∉ch->s.heap.get? b=some o -> ∃o',h'.get? b=some o')(tups:∀b xs,H b=some (.tup xs)->H' b=some (.tup xs))(rE:∀b o u,H b=some (.m_ o u)->H' b=some (.m_ o u))(uo:∀b ps,H b=some (.Vc ps) -> ∃more,H' b=some (.Vc (ps++more)))(ns:∀m,s.heap.Ns X.env.locals m->h'.Ns X.env.locals m)(hok:mF X.prog X.w H' h')(hg:AllBare g'):
 Inv X pins σ H' {s with heap:=h',gens:=g',drawn:=d',toks:=t'}:=by
 have Yd:∀b o,X.s₀.heap.get? b=some o->b≠X.env.locals:=λb o e=>aaW (aaX (aaB e) I.ok.above)
 have neC:∀b o,X.s₀.heap.get? b=some o->b∉X.ex->b∉ch:=λb o e hx hb=>by
  rcases(hch b hb).1 with z|z
  .exact hx z
  .exact acq (aaX (aaB e) z) (abV _)
 have cellK:∀x c,X.env.cells.lookup x=some c -> ∀v,s.heap.IsCell c v->h'.IsCell c v:=λx c e v ⟨o,ho,hd⟩=>by
  have nch:c∉ch:=λz=>(hch c z).2.2.1 x c e rfl
  by_cases hc:c∈X.fs
  .obtain⟨sl,q⟩:=slot c o (I.Ym x c e) hc nch ho (I.iM x c e)
   exact⟨_,q,hd⟩
  .exact⟨o,keep c o (I.Ym x c e) hc nch ho (I.iM x c e),hd⟩
 refine⟨I.ok,I.os,hg,⟨λb o e n hb hx=>?_,λb o e n hb hx=>?_,λb o e n hx=>?_,λb o e hx=>?_,λb xs e=>tups b xs (I.base.tups b xs e),λb o xs e=>rE b o xs (I.base.rE b o xs e),λb ps e=>?_⟩, ?_,λx c e=>?_, ?_,λx c e=>?_,λp hp=>?_,hok,I.len⟩
 .exact keep b o (Yd b o e) hb (neC b o e hx) (I.base.keep b o e n hb hx) (I.base.free b o e n hx)
 .obtain⟨sl,e1⟩:=I.base.slot b o e n hb hx
  obtain⟨sl',e2⟩:=slot b _ (Yd b o e) hb (neC b o e hx) e1 (I.base.free b o e n hx);exact⟨sl',e2⟩
 .obtain⟨o',e1⟩:=I.base.there b o e hx
  exact free b o' (neC b o e hx) e1 (I.base.free b o e n hx)
 .obtain⟨o',e1⟩:=I.base.there b o e hx
  exact there b o' (neC b o e hx) e1
 .obtain⟨m1,e1⟩:=I.base.uo b ps e
  obtain⟨m2,e2⟩:=uo b _ e1;exact⟨m1++m2,by rw[e2,Array.append_assoc]⟩
 .obtain⟨m,hn,hl⟩:=I.loc
  refine⟨m,ns m hn,λi x v e1 e2 e3=>?_⟩;obtain⟨u,r,l⟩:=hl i x v e1 e2 e3;refine⟨u,r, ?_⟩;rcases l with l|⟨k,c,e,z⟩
  .exact .inl l
  .exact .inr ⟨k,c,e,cellK x c e _ z⟩
 .obtain⟨v,z⟩:=I.cell x c e
  exact⟨v,cellK x c e v z⟩
 .obtain⟨m,⟨o,_,_,ho,_⟩,_⟩:=I.loc
  exact free _ o (λz=>(hch _ z).2.1 rfl) ho I.free
 .obtain⟨v,o,ho,hd⟩:=I.cell x c e
  exact free c o (λz=>(hch c z).2.2.1 x c e rfl) ho (I.iM x c e)
 .obtain⟨e,n,ne,nf,d⟩:=I.pin p hp
  have nch:p.1∉ch:=λz=>(hch p.1 z).2.2.2 p hp rfl;exact⟨keep p.1 p.2 ne nf nch e n,free p.1 p.2 nch e n,ne,nf,d⟩
theorem Inv.un{t':Nat}(I:Inv X pins σ H s)(u:Un X.fs [] H H' s.heap h')(hok:mF X.prog X.w H' h'):Inv X pins σ H' {s with heap:=h',toks:=t'}:=by
 obtain⟨m,⟨o,es,ep,ho,r⟩,_⟩:=id I.loc;obtain⟨sl,hL⟩:=u.any ho I.free (by simp)
 exact I.step (g':=s.gens) (d':=s.drawn) (ch:=[]) (λ_ z=>nomatch z) (λb o _ hb _ e n=>u.keep b o e n hb (by simp)) (λb o _ hb _ e n=>u.slot b o e n hb (by simp)) (λb o _ e n=>u.free b o e n (by simp)) (λb o _ e=>u.there b o e (by simp)) u.tups u.rE u.uo (λm' hm=>by
  obtain⟨o',es',ep',ho',r'⟩:=hm;rw[ho] at ho';cases ho';exact⟨_,es',ep',hL,r'⟩) hok I.bare
theorem Inv.call{g':Array GenState}{t':Nat}{d':Drawn}{ch:List Addr}(I:Inv X pins σ H s)(u:Un (frs X.stack) ch H H' s.heap h')(hok:mF X.prog X.w H' h')(hg:AllBare g')(hch:∀b∈ch,(b∈X.ex\/X.s₀.heap.objs.size<=b)/\b≠X.env.locals/\(∀x c,X.env.cells.lookup x=some c->c≠b) /\ ∀p∈X.pn++pins,p.1≠b):
 Inv X pins σ H' {s with heap:=h',gens:=g',drawn:=d',toks:=t'}:=by
 obtain⟨m,⟨o,es,ep,ho,r⟩,_⟩:=id I.loc;obtain⟨sl,hL⟩:=u.any ho I.free λz=>(hch _ z).2.1 rfl
 exact I.step (ch:=ch) hch (λb o hL hb hc e n=>u.keep b o e n (λz=>(List.mem_cons.mp (I.xM b z)).elim hL hb) hc) (λb o _ _ hc e n=>u.any e n hc) (λb o hc e n=>u.free b o e n hc) (λb o hc e=>u.there b o e hc) u.tups u.rE u.uo (λm' hm=>by
  obtain⟨o',es',ep',ho',r'⟩:=hm;rw[ho] at ho';cases ho';exact⟨_,es',ep',hL,r'⟩) hok hg
theorem Inv.turned{t':Nat}{it:Addr}(I:Inv X pins σ H s)(k:∀b o,b≠it->s.heap.get? b=some o->h'.get? b=some o)(hn:H it=none)(hL:it≠X.env.locals)(h1:it∈X.ex\/X.s₀.heap.objs.size<=it)(h2:∀x c,X.env.cells.lookup x=some c->c≠it)(h3:∀p∈X.pn++pins,p.1≠it):Inv X pins σ H {s with heap:=h',toks:=t'}:=by
 have ZD:∀b u,H b=some u->b≠it:=λb u e z=>by rw[z,hn] at e;cases e
 refine I.step (g':=s.gens) (d':=s.drawn) (ch:=[it]) (λb hb=>?_) (λb o _ _ hc e _=>k b o (λz=>hc (by simp[z])) e) (λb o _ _ hc e _=>⟨o.slots,k b o (λz=>hc (by simp[z])) e⟩) (λ_ _ _ _ n=>n)
  (λb o hc e=>⟨o,k b o (λz=>hc (by simp[z])) e⟩) (λ_ _ e=>e) (λ_ _ _ e=>e) (λb ps e=>⟨#[],by rw[e];simp⟩) (λm hm=>?_) (λb u e=>?_) I.bare
 .have e:b=it:=by simpa using hb
  subst e;exact⟨h1,hL,h2,h3⟩
 .obtain⟨o,es,ep,ho,r⟩:=hm
  exact⟨o,es,ep,k _ o (Ne.symm hL) ho,r⟩
 .refine(I.hok b u e).stay (λc v hc q=>k c v ?_ q) (λ_ q=>q) λ_ _ q=>q
  rcases hc with z|z
  .rw[z];exact ZD b u e
  .exact ZD c _ z
theorem Inv.tok(I:Inv X pins σ H s)(t:Nat):Inv X pins σ H {s with toks:=t}:=I.un (h':=s.heap) (t':=t) Un.refl I.hok
theorem Inv.kept{t':Nat}(I:Inv X pins σ H s)(k:∀b u,s.heap.get? b=some u->h'.get? b=some u):Inv X pins σ H {s with heap:=h',toks:=t'}:=I.un (Un.kept k) (I.hok.kept k)
theorem Inv.laid{a:Addr}{o:HO}{t':Nat}(I:Inv X pins σ H s)(k:∀b u,s.heap.get? b=some u->h'.get? b=some u)(hp:s.heap.objs.size<=a)(new:cU X.prog X.w (upd H a o) h' a o):
 Inv X pins σ (upd H a o) {s with heap:=h',toks:=t'}:=I.un (Un.laid k hp (I.hok.fresh hp)) (I.hok.laid k hp new)
theorem Inv.write{x e:Addr}{o:HO}{t':Nat}(I:Inv X pins σ H s)(mu:Mut (H x))(he:e=x\/H e=some (.own x))(k:∀b u,b≠e->s.heap.get? b=some u->h'.get? b=some u)(heo:∃u,h'.get? e=some u)(new:cU X.prog X.w (upd H x o) h' x o):Inv X pins σ (upd H x o) {s with heap:=h',toks:=t'}:=I.un (Un.write mu he k heo) (I.hok.write mu he k heo new)
theorem Inv.La{i_:List (Addr×Obj)}(I:Inv X pins σ H s)(h:∀p∈i_,s.heap.get? p.1=some p.2/\H p.1=none/\p.1≠X.env.locals/\p.1∉X.fs /\ ∀v,p.2.data ≠ .cell v):Inv X i_ σ H s:=
 ⟨I.ok,I.os,I.bare,I.base,I.loc,I.cell,I.free,I.iM,λp hp=>(aa2.mp hp).elim (λz=>I.pin p (List.mem_append_left _ z)) (h p),I.hok,I.len⟩
theorem yG{N:List Str}(hN:N.Nodup){i j:Nat}{x:Str}(a:N[i]? = some x)(b:N[j]? = some x):i=j:=by
 obtain⟨h1,e1⟩:=aaf.mp a;obtain⟨h2,e2⟩:=aaf.mp b;exact(List.getElem_inj hN).mp (e1.trans e2.symm)
theorem A_{M:Model}{A:Around}{E:Value->Shared->Prop}{i:Nat}{x:Str}{v:V}{u:Value}{Q:Unit->Shared->Prop}(I:Inv X pins σ H s)(hN:X.N.Nodup)(hi:X.N[i]? = some x)(hx:Loc X.env.scope x)(r:RelV v u)(h:∀s',Inv X pins (σ.set i (some v)) H s'->(∃a,Heap.SameBut a s.heap s'.heap/\(a=X.env.locals\/X.env.cells.lookup x=some a))->Q () s')(hf:X.fn x=true\/X.env.scope.names.lookup x=some .local:=by first |exact .inl rfl|exact .inr rfl|assumption):wpAny M A (storeName X.env x u) Q E s:=by
 obtain⟨m,hn,hl⟩:=id I.loc;have hcls:(X.env.scope.kind == .class||(X.env.scope.kind == .module&&X.env.locals != X.env.globals))=false:=by rw[I.ok.kind];rfl
 have ah4:i<σ.length:=by rw[I.len];exact(aaf.mp hi).1
 have Ym:=I.Ym
 have tracked:∀{a:Addr}{h':Heap},(∃o,s.heap.get? a=some o/\H a=none)->Heap.SameBut a s.heap h'->mF X.prog X.w H h':=fun {a h'} ha hs b ob e=>by
  obtain⟨_,_,hfree⟩:=ha;refine(I.hok b ob e).stay (λc w' hc q=>(hs.2 c ?_).trans q) (λ_ q=>q) λ_ _ q=>q;rintro rfl;rcases hc with rfl|hc
  .rw[hfree] at e;cases e
  .rw[hfree] at hc;cases hc
 rcases hx with hk|hk
 .refine wpAny_storeName_local hk hn (λh' hn' hs=>?_) hcls
  obtain⟨oL,_,_,hoL,_⟩:=id hn;refine h _ ⟨I.ok,I.os,I.bare,⟨λb o e n hb hx=>?_,λb o e n hb hx=>?_,I.base.free,λb o e hx=>?_,I.base.tups,I.base.rE,I.base.uo⟩,⟨_,hn',λj y v' e1 e2 e3=>?_⟩,λy c e=>?_,I.free,I.iM,λp hp=>?_,tracked ⟨oL,hoL,I.free⟩ hs,by simpa using I.len⟩ ⟨_,hs,.inl rfl⟩
  .exact(hs.2 b (aaW (aaX (aaB e) I.ok.above))).trans (I.base.keep b o e n hb hx)
  .obtain⟨sl,e1⟩:=I.base.slot b o e n hb hx
   exact⟨sl,(hs.2 b (aaW (aaX (aaB e) I.ok.above))).trans e1⟩
  .obtain⟨o',e1⟩:=I.base.there b o e hx
   exact⟨o',(hs.2 b (aaW (aaX (aaB e) I.ok.above))).trans e1⟩
  .by_cases hj:j=i
   .subst hj
    rw[hi] at e1;cases e1;rw[List.getElem?_set_self ah4] at e2;cases e2;exact⟨u,r,.inl ⟨hk,by simp⟩⟩
   .rw[List.getElem?_set_ne (Ne.symm hj)] at e2
    obtain⟨u',r',q⟩:=hl j y v' e1 e2 e3;refine⟨u',r', ?_⟩;rcases q with ⟨k,e⟩|⟨k,c,e,z⟩
    .refine .inl ⟨k, ?_⟩
     have:y≠x:=λe=>hj (yG hN e1 (e▸hi));simp[this,e]
    .exact .inr ⟨k,c,e,z.sameBut hs (Ym y c e)⟩
  .obtain⟨w',z⟩:=I.cell y c e
   exact⟨w',z.sameBut hs (Ym y c e)⟩
  .obtain⟨e,n,ne,nf,d⟩:=I.pin p hp
   exact⟨(hs.2 p.1 ne).trans e,n,ne,nf,d⟩
 .have hfn:X.fn x=true:=by
   rcases hf with z|z
   .exact z
   .rw[z] at hk;cases hk
  obtain⟨c,hc⟩:=I.ok.has x (.inl hk);obtain⟨w',z⟩:=I.cell x c hc;refine wpAny_storeName_cell I.ok.kind hk hc z (λh' hc' hs=>?_);obtain⟨oc,hoc,af8⟩:=id z;refine h {s with heap:=h'} ⟨I.ok,I.os,I.bare,⟨λb o e n hb hx=>?_,λb o e n hb hx=>?_,I.base.free,λb o e hx=>?_,I.base.tups,I.base.rE,I.base.uo⟩,⟨m,hn.sameBut hs (Ne.symm (Ym x c hc)),λj y v' e1 e2 e3=>?_⟩,λy c' e=>?_,I.free,I.iM,λp hp=>?_,tracked ⟨oc,hoc,I.iM x c hc⟩ hs,by simpa using I.len⟩ ⟨c,hs,.inr hc⟩
  .exact(hs.2 b (aaW (aaX (aaB e) (I.ok.cab x c hfn hc)))).trans (I.base.keep b o e n hb hx)
  .obtain⟨sl,e1⟩:=I.base.slot b o e n hb hx
   exact⟨sl,(hs.2 b (aaW (aaX (aaB e) (I.ok.cab x c hfn hc)))).trans e1⟩
  .obtain⟨o',e1⟩:=I.base.there b o e hx
   exact⟨o',(hs.2 b (aaW (aaX (aaB e) (I.ok.cab x c hfn hc)))).trans e1⟩
  .by_cases hj:j=i
   .subst hj
    rw[hi] at e1;cases e1;rw[List.getElem?_set_self ah4] at e2;cases e2;exact⟨u,r,.inr ⟨.inl hk,c,hc,hc'⟩⟩
   .rw[List.getElem?_set_ne (Ne.symm hj)] at e2
    obtain⟨u',r',q⟩:=hl j y v' e1 e2 e3;refine⟨u',r', ?_⟩;rcases q with q|⟨k,c',e,z'⟩
    .exact .inl q
    .refine .inr ⟨k,c',e,z'.sameBut hs ?_⟩
     rintro rfl;exact hj (yG hN e1 (I.ok.inj _ _ _ e hc▸hi))
  .by_cases hcc:c'=c
   .subst hcc;exact⟨_,hc'⟩
   .obtain⟨w2,z2⟩:=I.cell y c' e
    exact⟨w2,z2.sameBut hs hcc⟩
  .obtain⟨e,n,ne,nf,d⟩:=I.pin p hp
   refine⟨(hs.2 p.1 ?_).trans e,n,ne,nf,d⟩;intro q;rw[q,hoc] at e;have q':oc=p.2:=aaS e;exact d w' (by rw[←q'];exact af8)
theorem rT{M:Model}{A:Around}{E:Value->Shared->Prop}{i:Nat}{x:Str}{v:V}{u:Value}{Q:Unit->Shared->Prop}(I:Inv X pins σ H s)(hN:X.N.Nodup)(hi:X.N[i]? = some x)(hx:Loc X.env.scope x)(r:RelV v u)(h:∀s',Inv X pins (σ.set i (some v)) H s'->Q () s')(hf:X.fn x=true\/X.env.scope.names.lookup x=some .local:=by first |exact .inl rfl|exact .inr rfl|assumption):wpAny M A (storeName X.env x u) Q E s:=
 A_ I hN hi hx r (λs' I' _=>h s' I') hf
theorem Inv.call'{s':Shared}{ch:List Addr}(I:Inv X pins σ H s)(ho:s'.os=s.os)(u:Un (frs X.stack) ch H H' s.heap s'.heap)(hok:mF X.prog X.w H' s'.heap)(hg:AllBare s'.gens)(hch:∀b∈ch,(b∈X.ex\/X.s₀.heap.objs.size<=b)/\b≠X.env.locals/\(∀x c,X.env.cells.lookup x=some c->c≠b) /\ ∀p∈X.pn++pins,p.1≠b):Inv X pins σ H' s':=by
 obtain⟨h',g',d',t',o'⟩:=s';have e:o'=s.os:=ho;subst e;exact I.call (g':=g') (t':=t') (d':=d') u hok hg hch
end
noncomputable abbrev XK:=Value->Option Addr->Hp->Prop
noncomputable abbrev St:=List (Option V)
noncomputable abbrev VK:=V->Hp->Prop
noncomputable abbrev TE:=St->Hp->VK->Prop
noncomputable abbrev TT:=St->Hp->(Bool->Hp->Prop)->Prop
noncomputable abbrev TA:=St->Hp->(List V->Hp->Prop)->Prop
structure Ends where
 nx:St->Hp->Prop
 rt:VK
 bk:St->Hp->Prop:=λ_ _=>False
 ct:St->Hp->Prop:=λ_ _=>False
noncomputable abbrev TS:=Ends->St->Hp->Prop
noncomputable def EP(X:Cx)(pins:List (Addr×Obj))(σ:St)(Q:VK)(u:Value)(s':Shared):Prop:=∃v H',Inv X pins σ H' s'/\RelV v u/\Q v H'
noncomputable def TP(X:Cx)(pins:List (Addr×Obj))(σ:St)(Q:Bool->Hp->Prop)(b:Bool)(s':Shared):Prop:=∃H',Inv X pins σ H' s'/\Q b H'
noncomputable def AP(X:Cx)(pins:List (Addr×Obj))(σ:St)(Q:List V->Hp->Prop)(us:List Value)(s':Shared):Prop:=∃vs H',Inv X pins σ H' s'/\Vals vs us/\Q vs H'
noncomputable def SP(X:Cx)(pins:List (Addr×Obj))(D:Ends)(f:Flow)(s':Shared):Prop:=
 match f with
 | .next=>∃σ' H',Inv X pins σ' H' s'/\D.nx σ' H'
 | .brk=>∃σ' H',Inv X pins σ' H' s'/\D.bk σ' H'
 | .cont=>∃σ' H',Inv X pins σ' H' s'/\D.ct σ' H'
 | .ret u=>∃v σ' H',Inv X pins σ' H' s'/\RelV v u/\D.rt v H'
noncomputable def PE(X:Cx)(e:Expr)(t:TE):Prop:=
 ∀(pins:List (Addr×Obj))(s:Shared)(σ:St)(H:Hp)(Q:VK),Inv X pins σ H s->t σ H Q->wpAny (model X.prog X.w) X.A (eval e X.env) (EP X pins σ Q) X.xe s
noncomputable def PT(X:Cx)(e:Expr)(t:TT):Prop:=
 ∀(pins:List (Addr×Obj))(s:Shared)(σ:St)(H:Hp)(Q:Bool->Hp->Prop),Inv X pins σ H s->t σ H Q->wpAny (model X.prog X.w) X.A (isTrue e X.env (eval e X.env)) (TP X pins σ Q) X.xe s
noncomputable def PW(X:Cx)(e:Expr)(t:TT):Prop:=
 ∀(whole:Sem Value)(pins:List (Addr×Obj))(s:Shared)(σ:St)(H:Hp)(Q:Bool->Hp->Prop),Inv X pins σ H s->t σ H Q->wpAny (model X.prog X.w) X.A (isTrue e X.env whole) (TP X pins σ Q) X.xe s
theorem PW.pt{X:Cx}{e:Expr}{t:TT}(h:PW X e t):PT X e t:=h _
noncomputable def PA(X:Cx)(es:List Expr)(t:TA):Prop:=
 ∀(pos:Pos)(pins:List (Addr×Obj))(s:Shared)(σ:St)(H:Hp)(Q:List V->Hp->Prop),Inv X pins σ H s->t σ H Q->wpAny (model X.prog X.w) X.A (spliced (backTo pos (starEach es X.env))) (AP X pins σ Q) X.xe s
noncomputable def PS(X:Cx)(st:Stmt)(t:TS):Prop:=
 ∀(pins:List (Addr×Obj))(s:Shared)(σ:St)(H:Hp)(D:Ends),Inv X pins σ H s->t D σ H->wpAny (model X.prog X.w) X.A (exec st X.env) (SP X pins D) X.xe s
noncomputable def Eh(X:Cx)(st:List Stmt)(t:TS):Prop:=
 ∀(pins:List (Addr×Obj))(s:Shared)(σ:St)(H:Hp)(D:Ends),Inv X pins σ H s->t D σ H->wpAny (model X.prog X.w) X.A (execs st X.env) (SP X pins D) X.xe s
theorem cZ{α:Type}{t:Sem α}{Q Q':α->Shared->Prop}{M:Model}{A:Around}{E:Value->Shared->Prop}{s:Shared}(h:wpAny M A t Q E s)(hQ:∀a s,Q a s->Q' a s):wpAny M A t Q' E s:=wpAny_mono h hQ λ_ _ x=>x
section
variable{X:Cx}
noncomputable def rR(i:Nat):TE:=λσ H Q=>∃v,σ[i]? = some (some v)/\Q v H
noncomputable def tC(v:V):TE:=λ_ H Q=>Q v H
theorem Zi{i:Nat}{x:Str}{pos:Pos}(hN:X.N[i]? = some x)(hv:Vis X.env.scope x)(hd:(x==("__debug__" :Str))=false:=by decide)(hcd:(x==("__classdict__" :Str))=false:=by decide):PE X (.Name x pos) (rR i):=by
 intro pins s σ H Q I h;obtain⟨v,e,h⟩:=h;obtain⟨m,hn,hl⟩:=I.loc;obtain⟨u,r,l⟩:=hl i x v hN e hv;have fin:EP X pins σ Q u s:=⟨v,H,I,r,h⟩;rcases l with ⟨hk,hm⟩|⟨hk,c,hc,hcell⟩
 .exact wpAny_Name (wpAny_loadName_local I.ok.kind hk hn hm fin) hd
 .rcases hk with hk|hk
  .exact wpAny_Name (wpAny_loadName_cell I.ok.kind hk hc hcell fin) hd
  .exact wpAny_Name (wpAny_loadName_free I.ok.kind hk hc hcell fin hcd) hd
theorem au{i j pos}:PE X (.Constant (.int i) j pos) (tC (.int i)):=λ_ _ _ H _ I h=>wpAny_Constant_int ⟨.int i,H,I.tok _,⟨_,Z⟩,h⟩
theorem sV{b j pos}:PE X (.Constant (.bool b) j pos) (tC (.bl b)):=λ_ _ _ H _ I h=>Constant_bool ⟨.bl b,H,I,Z,h⟩
theorem j8{j pos}:PE X (.Constant .none j pos) (tC .non):=λ_ _ _ H _ I h=>Constant_none ⟨.non,H,I,Z,h⟩
theorem bw{x j pos}:PE X (.Constant (.str x) j pos) (tC (.str x)):=λ_ _ _ H _ I h=>Calls.Constant_str ⟨.str x,H,I.tok _,⟨_,Z⟩,h⟩
noncomputable def Gl(X:Cx)(x:Str):Prop:=X.env.kindOf x=some .globalImplicit
theorem lB{E:Value->Shared->Prop}{pins:List (Addr×Obj)}{s:Shared}{σ:St}{H:Hp}{x:Str}{u:Value}{pos:Pos}{Q:Value->Shared->Prop}(I:Inv X pins σ H s)(hg:Gl X x)(hm:X.mg x=some u)(h:Q u s)(hd:(x==("__debug__" :Str))=false:=by decide):wpAny (model X.prog X.w) X.A (eval (.Name x pos) X.env) Q E s:=
 Calls.Name_function_global I.ok.kind hg (Calls.loadGlobal_global (by rw[I.ok.glob];exact I.mod.glob.keeps I.bk) hm h) hd
theorem rA{E:Value->Shared->Prop}{pins:List (Addr×Obj)}{s:Shared}{σ:St}{H:Hp}{x:Str}{u:Value}{pos:Pos}{Q:Value->Shared->Prop}(I:Inv X pins σ H s)(hg:Gl X x)(hm:X.mg x=none)(hv:bootBuiltins x=some u)(h:Q u s)(hn:x ≠ "__name__" :=by decide)(hd:(x==("__debug__" :Str))=false:=by decide):wpAny (model X.prog X.w) X.A (eval (.Name x pos) X.env) Q E s:=by
 obtain⟨mb,h1,h2⟩:=I.mod.blt;exact Calls.Name_function_global I.ok.kind hg (Calls.loadGlobal_builtin (by rw[I.ok.glob];exact I.mod.glob.keeps I.bk) hm (by rw[I.ok.blt];exact h1.keeps I.bk) ((h2 x hn).trans hv) h) hd
theorem iI{x:Str}{v:V}{u:Value}{pos:Pos}(hg:Gl X x)(hm:X.mg x=some u)(r:RelV v u)(hd:(x==("__debug__" :Str))=false:=by decide):PE X (.Name x pos) (tC v):=
 λ_ _ _ H _ I h=>lB I hg hm ⟨v,H,I,r,h⟩ hd
theorem sU{x:Str}{v:V}{u:Value}{pos:Pos}(hg:Gl X x)(hm:X.mg x=none)(hv:bootBuiltins x=some u)(r:RelV v u)(hn:x ≠ "__name__" :=by decide)(hd:(x==("__debug__" :Str))=false:=by decide):PE X (.Name x pos) (tC v):=
 λ_ _ _ H _ I h=>rA I hg hm hv ⟨v,H,I,r,h⟩ hn hd
variable{a b:Expr}{ta tb:TE}{pos:Pos}
noncomputable def PC(X:Cx)(op:CmpOp)(a b:Expr)(t:TE):Prop:=
 ∀(pins:List (Addr×Obj))(s:Shared)(σ:St)(H:Hp)(Q:VK),Inv X pins σ H s->t σ H Q ->
  wpAny (model X.prog X.w) X.A (eval a X.env) (λv s₁=>wpAny (model X.prog X.w) X.A (eval b X.env) (λu s₂=>wpAny (model X.prog X.w) X.A (compareOp op v u) (EP X pins σ Q) X.xe s₂) X.xe s₁) X.xe s
theorem RQ(b:Expr){op:CmpOp}(h:op ≠ .In)(h2:op ≠ .NotIn):behindInMarks op b=false:=by
 have e1:(op==CmpOp.In)=false:=by cases op<;>first |rfl|exact acq rfl h
 have e2:(op==CmpOp.NotIn)=false:=by cases op<;>first |rfl|exact acq rfl h2
 cases b<;>simp[behindInMarks,e1,e2]
noncomputable def tB(t:TE):TT:=λσ H Q=>t σ H λx H1=>∃c,x = .bl c/\Q c H1
theorem Za{op:CmpOp}{t:TE}(h:PC X op a b t)(h1:behindInMarks op b=false:=by first |exact RQ _ (by decide) (by decide)|rfl):PT X (.Compare a [op] [b] pos) (tB t):=by
 intro pins s σ H Q I hw;refine wpAny_isTrue_Compare1 (cZ (h pins s σ H _ I hw) λv s1 h1=>cZ h1 λu s2 h2=>cZ h2 λc s3 ⟨x,H1,I1,r1,q1⟩=>?_) h1;obtain⟨d,rfl,q⟩:=q1;cases r1;exact wpAny_truthy_bool ⟨H1,I1,q⟩
theorem jC{e:Expr}{t:TE}(h:PE X e t)(he:∀whole,isTrue e X.env whole=(do let v ←whole;standAt e.pos;holding [v] (truthy v)):=by intro _;rfl):PT X e (tB t):=by
 intro pins s σ H Q I hw;refine isTrue_plain (cZ (h pins s σ H _ I hw) λv s1 ⟨x,H1,I1,r1,q1⟩=>?_) (he _);obtain⟨d,rfl,q⟩:=q1;cases r1;exact wpAny_truthy_bool ⟨H1,I1,q⟩
variable{tA tB':TT}{rest:List Expr}
noncomputable def aeo(t u:TT):TT:=λσ H Q=>t σ H λc H1=>if c=true then u σ H1 Q else Q false H1
noncomputable def tOr(t u:TT):TT:=λσ H Q=>t σ H λc H1=>if c=true then Q true H1 else u σ H1 Q
noncomputable def aeh(t:TT):TT:=λσ H Q=>t σ H λc H1=>Q (!c) H1
theorem pZ(ha:PT X a tA):PW X (.BoolOp .And [a] pos) tA:=by
 intro wh pins s σ H Q I h;refine isTrue_and (cZ (ha pins s σ H Q I h) λc s1 e=>?_);cases c with
 | true=>exact isTrue_and_nil e
 | false=>exact e
theorem oM(ha:PT X a tA):PW X (.BoolOp .Or [a] pos) tA:=by
 intro wh pins s σ H Q I h;refine isTrue_or (cZ (ha pins s σ H Q I h) λc s1 e=>?_);cases c with
 | false=>exact isTrue_or_nil e
 | true=>exact e
theorem uM(ha:PT X a tA)(hb:PW X (.BoolOp .And (b::rest) pos) tB'):PW X (.BoolOp .And (a::b::rest) pos) (aeo tA tB'):=by
 intro wh pins s σ H Q I h;refine isTrue_and (cZ (ha pins s σ H _ I h) λc s1 ⟨H1,I1,q1⟩=>?_);cases c with
 | true=>exact hb wh pins s1 σ H1 Q I1 q1
 | false=>exact⟨H1,I1,q1⟩
theorem vA(ha:PT X a tA)(hb:PW X (.BoolOp .Or (b::rest) pos) tB'):PW X (.BoolOp .Or (a::b::rest) pos) (tOr tA tB'):=by
 intro wh pins s σ H Q I h;refine isTrue_or (cZ (ha pins s σ H _ I h) λc s1 ⟨H1,I1,q1⟩=>?_);cases c with
 | true=>exact⟨H1,I1,q1⟩
 | false=>exact hb wh pins s1 σ H1 Q I1 q1
theorem qZ(ha:PT X a tA):PT X (.UnaryOp .Not a pos) (aeh tA):=by
 intro pins s σ H Q I h;exact isTrue_not (ha pins s σ H (λc H1=>Q (!c) H1) I h)
noncomputable def abu(ta tb:TE):TE:=λσ H Q=>ta σ H λx H1=>∃c,x = .bl c/\if c=true then tb σ H1 Q else Q (.bl false) H1
noncomputable def abk(ta tb:TE):TE:=λσ H Q=>ta σ H λx H1=>∃c,x = .bl c/\if c=true then Q (.bl true) H1 else tb σ H1 Q
noncomputable def abl(ta:TE):TE:=λσ H Q=>ta σ H λx H1=>∃c,x = .bl c/\Q (.bl (!c)) H1
theorem q_{op}{t:TE}(h:PE X a t):PE X (.BoolOp op [a] pos) t:=λpins s σ H Q I hw=>BoolOp_one (h pins s σ H Q I hw)
theorem yx(ha:PE X a ta)(hb:PE X (.BoolOp .And (b::rest) pos) tb):PE X (.BoolOp .And (a::b::rest) pos) (abu ta tb):=by
 intro pins s σ H Q I h;refine BoolOp_and (cZ (ha pins s σ H _ I h) λv s1 iB=>?_);obtain⟨x,H1,I1,r1,q1⟩:=iB;obtain⟨c,rfl,q1⟩:=q1;cases r1;refine wpAny_truthy_bool ?_;cases c with
 | true=>exact hb pins s1 σ H1 Q I1 q1
 | false=>exact⟨.bl false,H1,I1,Z,q1⟩
theorem Rg(ha:PE X a ta)(hb:PE X (.BoolOp .Or (b::rest) pos) tb):PE X (.BoolOp .Or (a::b::rest) pos) (abk ta tb):=by
 intro pins s σ H Q I h;refine BoolOp_or (cZ (ha pins s σ H _ I h) λv s1 iB=>?_);obtain⟨x,H1,I1,r1,q1⟩:=iB;obtain⟨c,rfl,q1⟩:=q1;cases r1;refine wpAny_truthy_bool ?_;cases c with
 | false=>exact hb pins s1 σ H1 Q I1 q1
 | true=>exact⟨.bl true,H1,I1,Z,q1⟩
theorem Zj(ha:PE X a ta):PE X (.UnaryOp .Not a pos) (abl ta):=by
 intro pins s σ H Q I h;refine UnaryOp_ (cZ (ha pins s σ H _ I h) λv s1 iB=>?_);obtain⟨x,H1,I1,r1,q1⟩:=iB;obtain⟨c,rfl,q1⟩:=q1;cases r1;exact not_of (wpAny_truthy_bool ⟨.bl (!c),H1,I1,Z,q1⟩)
noncomputable def tIf(t:TT)(ta tb:TE):TE:=λσ H Q=>t σ H λc H1=>if c=true then ta σ H1 Q else tb σ H1 Q
theorem j9{c:Expr}(hc:PT X c tA)(ha:PE X a ta)(hb:PE X b tb):PE X (.IfExp c a b pos) (tIf tA ta tb):=by
 intro pins s σ H Q I h;refine wpAny_IfExp (cZ (hc pins s σ H _ I h) λd s1 ⟨H1,I1,q1⟩=>?_);cases d with
 | true=>exact ha pins s1 σ H1 Q I1 q1
 | false=>exact hb pins s1 σ H1 Q I1 q1
end
noncomputable def bH(K:PySem.W.Frag)(H:Hp)(a:Addr)(xs:List V):Prop:=
 Rd H a (.lst xs) \/
  ∃(o:Obj) (its:Array Value) (n:Nat),K.lookup a=some o/\o.cls = .type "list" /\ o.dict=none/\o.data = .seq its n/\its.size<=sizeLine/\Vals xs its.toList
noncomputable def cA(K:PySem.W.Frag)(H:Hp)(a:Addr)(xs:List V):Prop:=
 Rd H a (.tup xs) \/
  ∃(o:Obj) (its:Array Value) (n:Nat),K.lookup a=some o/\o.cls = .type "tuple" /\ o.data = .seq its n/\its.size<=sizeLine/\Vals xs its.toList
noncomputable def agP:Value->Option V
 | .none=>some .non
 | .bool b=>some (.bl b)
 | .int i _=>some (.int i)
 | .str x _=>some (.str x)
 | .bytes b _=>some (.JN b)
 | .float b _=>some (.flt b)
 | .ref a=>some (.ref a)
 | .type n=>some (.ty n)
 | _=>none
theorem RelV.abs{x:V}{u:Value}(r:RelV x u):agP u=some x:=by
 cases x with
 | non=>cases r;rfl
 | bl _=>cases r;rfl
 | int _=>obtain⟨t,rfl⟩:=r;rfl
 | str _=>obtain⟨t,rfl⟩:=r;rfl
 | JN _=>obtain⟨t,rfl⟩:=r;rfl
 | flt _=>obtain⟨t,rfl⟩:=r;rfl
 | ref _=>cases r;rfl
 | ty _=>cases r;rfl
theorem RelV.inj{x y:V}{u:Value}(r:RelV x u)(q:RelV y u):x=y:=aaS (r.abs.symm.trans q.abs)
theorem Vals.inj{xs ys:List V}{us:List Value}(h:Vals xs us)(h':Vals ys us):xs=ys:=by
 induction h generalizing ys with
 | nil=>cases h';rfl
 | cons r t ih=>cases h' with
   | cons r' t'=>rw[r.inj r',ih t']
section
variable{X:Cx}{pins:List (Addr×Obj)}{σ:St}{H:Hp}{s:Shared}{a:Addr}{xs ys:List V}
theorem bH.of{K:PySem.W.Frag}(h:H a=some (.lst xs)):bH K H a xs:= .inl (.inl h)
theorem cA.of{K:PySem.W.Frag}(h:H a=some (.tup xs)):cA K H a xs:= .inl (.inl h)
theorem Inv.list(I:Inv X pins σ H s)(h:bH X.K H a xs):∃its:List Value,Vals xs its/\PlainL s.heap a its.toArray/\xs.length<=sizeLine:=by
 rcases h with h|⟨o,its,n,hk,hc,hd,hs,hz,r⟩
 .obtain⟨z,its,n,r,e⟩:=h.ok I.hok
  exact⟨its,r,⟨_,n,e,Z,Z,Z⟩,z⟩
 .refine⟨its.toList,r,⟨o,n,I.nW a o hk,hc,hd,by simpa using hs⟩, ?_⟩
  have e:=r.length;simp only[aaL] at e;lia
theorem Inv.tuple(I:Inv X pins σ H s)(h:cA X.K H a xs):∃its:List Value,Vals xs its/\IsTup s.heap a its.toArray/\xs.length<=sizeLine:=by
 rcases h with h|⟨o,its,n,hk,hc,hs,hz,r⟩
 .obtain⟨z,its,r,p⟩:=h.ok I.hok
  exact⟨its,r,p,z⟩
 .refine⟨its.toList,r,⟨o,I.nW a o hk,hc,n,by simpa using hs⟩, ?_⟩
  have e:=r.length;simp only[aaL] at e;lia
theorem Inv.sX(I:Inv X pins σ H s)(h:bH X.K H a xs)(h':bH X.K H a ys):xs=ys:=by
 obtain⟨its,r,⟨o,n,e,_,_,d⟩,_⟩:=I.list h;obtain⟨its',r',⟨o',n',e',_,_,d'⟩,_⟩:=I.list h';rw[e] at e';cases e';rw[d] at d';injection d' with d1 _
 have:its=its':=by simpa using congrArg Array.toList d1
 subst this;exact r.inj r'
theorem Inv.Nb(I:Inv X pins σ H s)(h:cA X.K H a xs)(h':cA X.K H a ys):xs=ys:=by
 obtain⟨its,r,⟨o,e,_,n,d⟩,_⟩:=I.tuple h;obtain⟨its',r',⟨o',e',_,n',d'⟩,_⟩:=I.tuple h';rw[e] at e';cases e';rw[d] at d';injection d' with d1 _
 have:its=its':=by simpa using congrArg Array.toList d1
 subst this;exact r.inj r'
end
noncomputable abbrev Cx.wish(X:Cx)(E:Value->Shared->Prop):Cx:={X with xe:=E}
noncomputable abbrev Cx.nox(X:Cx):Cx:=X.wish λ_ _=>False
theorem Cx.Ok.wish{X:Cx}(ok:X.Ok)(E:Value->Shared->Prop):(X.wish E).Ok:=
 ⟨ok.mod,ok.kind,ok.glob,ok.blt,ok.above,ok.inj,ok.has,ok.cab,ok.hd,ok.frames,ok.stk,ok.exf,ok.bs,ok.Px,ok.Dp,ok.G8,ok.pC,ok.S5⟩
theorem Cx.Ok.oh{X:Cx}{E:Value->Shared->Prop}(ok:(X.wish E).Ok):X.Ok:=
 ⟨ok.mod,ok.kind,ok.glob,ok.blt,ok.above,ok.inj,ok.has,ok.cab,ok.hd,ok.frames,ok.stk,ok.exf,ok.bs,ok.Px,ok.Dp,ok.G8,ok.pC,ok.S5⟩
section
variable{X:Cx}{pins:List (Addr×Obj)}{σ:St}{H:Hp}{s:Shared}{E:Value->Shared->Prop}
theorem Inv.wish(I:Inv X pins σ H s)(E:Value->Shared->Prop):Inv (X.wish E) pins σ H s:=⟨I.ok.wish E,I.os,I.bare,I.base,I.loc,I.cell,I.free,I.iM,I.pin,I.hok,I.len⟩
theorem Inv.oh(I:Inv (X.wish E) pins σ H s):Inv X pins σ H s:=⟨I.ok.oh,I.os,I.bare,I.base,I.loc,I.cell,I.free,I.iM,I.pin,I.hok,I.len⟩
theorem SP.oh{D:Ends}{f:Flow}{s':Shared}(h:SP (X.wish E) pins D f s'):SP X pins D f s':=by
 cases f with
 | next=>obtain⟨σ',H',I,q⟩:=h;exact⟨σ',H',I.oh,q⟩
 | brk=>obtain⟨σ',H',I,q⟩:=h;exact⟨σ',H',I.oh,q⟩
 | cont=>obtain⟨σ',H',I,q⟩:=h;exact⟨σ',H',I.oh,q⟩
 | ret u=>obtain⟨v,σ',H',I,r,q⟩:=h;exact⟨v,σ',H',I.oh,r,q⟩
theorem Eh.nox{st:List Stmt}{t:TS}(h:Eh X.nox st t):Eh X st t:=λpins s σ H D I hw=>
 wpAny_mono (h pins s σ H D (I.wish _) hw) (λ_ _ q=>q.oh) λ_ _ z=>False.elim z
end
section
variable{X:Cx}{st:Stmt}{rest:List Stmt}{t u:TS}{e:Expr}{te:TE}{pos:Pos}
noncomputable def XC:TS:=λD σ H=>D.nx σ H
noncomputable def Qt(t u:TS):TS:=λD σ H=>t {D with nx:=u D} σ H
theorem bh:Eh X [] XC:=λ_ _ σ H _ I h=>wpAny_execs_nil ⟨σ,H,I,h⟩
theorem aq(h1:PS X st t)(h2:Eh X rest u):Eh X (st::rest) (Qt t u):=by
 intro pins s σ H D I h;refine wpAny_execs_cons (cZ (h1 pins s σ H {D with nx:=u D} I h) λf s1 q=>?_);cases f with
 | next=>
   obtain⟨σ',H',I',q⟩:=q;exact h2 pins s1 σ' H' D I' q
 | ret v=>exact q
 | brk=>exact q
 | cont=>exact q
theorem aG(h1:PS X st t):Eh X [st] t:=by
 intro pins s σ H D I h;refine wpAny_execs_cons (cZ (h1 pins s σ H D I h) λf s1 q=>?_);cases f with
 | next=>exact wpAny_execs_nil q
 | ret v=>exact q
 | brk=>exact q
 | cont=>exact q
theorem Inv.quiet{pins:List (Addr×Obj)}{σ:St}{H:Hp}{s:Shared}(I:Inv X pins σ H s):interactive X.env=false:=by simp[interactive,I.ok.kind]
noncomputable def abq(te:TE):TS:=λD σ H=>te σ H λ_ H1=>D.nx σ H1
theorem cB(he:PE X e te)(hs:swapsWith e none pos.line X.env=pure false:=by rfl):PS X (.Expr e pos) (abq te):=by
 intro pins s σ H D I h;exact wpAny_Expr_any (cZ (he pins s σ H _ I h) λv s1 ⟨x,H1,I1,r1,q1⟩=>⟨σ,H1,I1,q1⟩) I.quiet hs
noncomputable def Vd(te:TE):TS:=λD σ H=>te σ H D.rt
theorem aW(he:PE X e te):PS X (.Return (some e) pos) (Vd te):=by
 intro pins s σ H D I h;exact wpAny_Return_some (cZ (he pins s σ H _ I h) λv s1 ⟨x,H1,I1,r1,q1⟩=>⟨x,σ,H1,I1,r1,q1⟩)
noncomputable def abh:TS:=λD _ H=>D.rt .non H
theorem Vs:PS X (.Return none pos) abh:=λ_ _ σ H _ I h=>wpAny_Return_none ⟨.non,σ,H,I,Z,h⟩
noncomputable def abo(c:TT)(t u:TS):TS:=λD σ H=>c σ H λb H1=>if b=true then t D σ H1 else u D σ H1
theorem bQ{c:Expr}{a b:List Stmt}{tc:TT}(hc:PT X c tc)(ha:Eh X a t)(hb:Eh X b u):PS X (.If c a b pos) (abo tc t u):=by
 intro pins s σ H D I h;refine wpAny_If (cZ (hc pins s σ H _ I h) λd s1 ⟨H1,I1,q1⟩=>?_);cases d with
 | true=>exact ha pins s1 σ H1 D I1 q1
 | false=>exact hb pins s1 σ H1 D I1 q1
end
noncomputable abbrev TG:=V->St->Hp->(St->Hp->Prop)->Prop
noncomputable abbrev Ys:=List V->St->Hp->(St->Hp->Prop)->Prop
noncomputable def PG(X:Cx)(target:Expr)(t:TG):Prop:=
 ∀(pins:List (Addr×Obj))(s:Shared)(σ:St)(H:Hp)(v:V)(u:Value)(Q:St->Hp->Prop),Inv X pins σ H s->RelV v u->t v σ H Q ->
  wpAny (model X.prog X.w) X.A (assign target X.env u) (λ_ s'=>∃σ' H',Inv X pins σ' H' s'/\Q σ' H') X.xe s
noncomputable def PGs(X:Cx)(ts:List Expr)(t:Ys):Prop:=
 ∀(pins:List (Addr×Obj))(s:Shared)(σ:St)(H:Hp)(vs:List V)(us:List Value)(Q:St->Hp->Prop),Inv X pins σ H s->Vals vs us->t vs σ H Q ->
  wpAny (model X.prog X.w) X.A (assignInOrder ((assignEach ts X.env).map (·.2)) us) (λ_ s'=>∃σ' H',Inv X pins σ' H' s'/\Q σ' H') X.xe s
noncomputable abbrev aay:=V->V->V->Hp->(Hp->Prop)->Prop
noncomputable def acY(X:Cx)(t:aay):Prop:=
 ∀(pins:List (Addr×Obj))(s:Shared)(σ:St)(H:Hp)(o i v:V)(ov iv u:Value)(Q:Hp->Prop),Inv X pins σ H s->RelV o ov->RelV i iv->RelV v u->t o i v H Q ->
  wpAny (model X.prog X.w) X.A (setItem ov iv u) (λ_ s'=>∃H',Inv X pins σ H' s'/\Q H') X.xe s
noncomputable abbrev TIp:=V->V->Hp->VK->Prop
noncomputable def PIp(X:Cx)(op:Operator)(t:TIp):Prop:=
 ∀(pins:List (Addr×Obj))(s:Shared)(σ:St)(H:Hp)(x y:V)(v u:Value)(Q:VK),Inv X pins σ H s->RelV x v->RelV y u->t x y H Q ->
  wpAny (model X.prog X.w) X.A (inplaceOp op v u) (EP X pins σ Q) X.xe s
section
variable{X:Cx}{pos:Pos}
noncomputable def iK(i:Nat):TG:=λv σ H Q=>Q (σ.set i (some v)) H
theorem bD{i:Nat}{x:Str}(hN:X.N.Nodup)(hi:X.N[i]? = some x)(hx:Loc X.env.scope x)(hf:X.fn x=true\/X.env.scope.names.lookup x=some .local:=by first |exact .inl rfl|exact .inr rfl|assumption):PG X (.Name x pos) (iK i):=by
 intro pins s σ H v u Q I r h;exact wpAny_assign_Name (rT I hN hi hx r (λs' I'=>⟨_,H,I',h⟩) hf)
noncomputable def acC:Ys:=λvs σ H Q=>vs=[]/\Q σ H
noncomputable def SQ(t:TG)(u:Ys):Ys:=λvs σ H Q=>∃v r,vs=v::r/\t v σ H λσ' H'=>u r σ' H' Q
theorem p7:PGs X [] acC:=by
 intro pins s σ H vs us Q I r h;obtain⟨e,h⟩:=h;subst e;cases r;exact assignInOrder_nil ⟨σ,H,I,h⟩
theorem eF{e:Expr}{es:List Expr}{t:TG}{u:Ys}(h1:PG X e t)(h2:PGs X es u)(hs:(assignEach (e::es) X.env).map (·.2)=assign e X.env::(assignEach es X.env).map (·.2):=by rfl):PGs X (e::es) (SQ t u):=by
 intro pins s σ H vs us Q I r h;obtain⟨v,vr,e1,h⟩:=h;subst e1;cases r with
 | cons r rr=>
   rw[hs];refine assignInOrder_cons (cZ (h1 pins s σ H _ _ _ I r h) λ_ s1 iB=>?_);obtain⟨σ1,H1,I1,q1⟩:=iB;exact h2 pins s1 σ1 H1 _ _ Q I1 rr q1
noncomputable def Z6(K:PySem.W.Frag)(n:Nat)(t:Ys):TG:=λv σ H Q=>∃a xs,v = .ref a/\cA K H a xs/\xs.length=n/\t xs σ H Q
theorem Zh{es:List Expr}{k:Nat}{t:Ys}{n:Nat}(hc:X.calm=true)(h:PGs X es t)(hn:(assignEach es X.env).length=n:=by rfl)(hst:(assignEach es X.env).findIdx? (·.1)=none:=by rfl):PG X (.Tuple es k pos) (Z6 X.K n t):=by
 intro pins s σ H v u Q I r hw;obtain⟨a,xs,e1,hq,hl,hw⟩:=hw;subst e1;cases r;obtain⟨its,rv,ht,hz⟩:=I.tuple hq;refine assign_Tuple_tuple (I.ok.hd hc) ht (by simp[hn,←hl,rv.length]) hst λh' hx=>?_;have I1:Inv X pins σ H {s with heap:=h'}:=I.kept (t':=s.toks) λb o e=>hx b o (aaW (aaB e)) e;exact h pins _ σ H xs _ Q I1 (by simpa using rv) hw
noncomputable def agl(to ti:TE)(t:aay):TG:=λv σ H Q=>to σ H λo H1=>ti σ H1 λi H2=>t o i v H2 λH3=>Q σ H3
theorem oR{o i:Expr}{to ti:TE}{t:aay}(ho:PE X o to)(hi:PE X i ti)(hs:acY X t)(ha:∀v,assign (.Subscript o i pos) X.env v=(do
   let ov ←holding [v] (eval o X.env)
   let iv ←holding [v,ov] (eval i X.env)
   standAt pos
   holding [v,ov,iv] (setItem ov iv v)
   release [v,ov,iv] []):=by intro _;rfl):PG X (.Subscript o i pos) (agl to ti t):=by
 intro pins s σ H v u Q I r h;rw[ha];refine aaH (wpAny_holding (cZ (ho pins s σ H _ I h) λov s1 iB=>?_));obtain⟨x,H1,I1,r1,q1⟩:=iB;refine aaH (wpAny_holding (cZ (hi pins s1 σ H1 _ I1 q1) λiv s2 iB=>?_));obtain⟨y,H2,I2,r2,q2⟩:=iB;refine aaH (wpAny_standAt (aaH (wpAny_holding (cZ (hs pins s2 σ H2 x y v ov iv u _ I2 r1 r2 r q2) λ_ s3 ⟨H3,I3,q3⟩=>?_))));exact wpAny_release ⟨σ,H3,I3,q3⟩
noncomputable def Ve(te:TE)(g:TG):TS:=λD σ H=>te σ H λx H1=>g x σ H1 D.nx
theorem lM{tg e:Expr}{te:TE}{g:TG}(he:PE X e te)(hg:PG X tg g)(hs:swapsWithSole [tg] e pos.line X.env=pure false:=by rfl)(hw:swappedStores [tg] e X.env=pure none:=by rfl)(h1:(assignEach [tg] X.env).map (·.2)=[assign tg X.env]:=by rfl):PS X (.Assign [tg] e pos) (Ve te g):=by
 intro pins s σ H D I h;refine wpAny_Assign_stores (cZ (he pins s σ H _ I h) λv s1 ⟨x,H1,I1,r1,q1⟩=>?_) hs hw;rw[h1];exact cZ (hg pins s1 σ H1 x v _ I1 r1 q1) λ_ s2 q=>q
theorem aM{i:Nat}{x:Str}{e:Expr}{te:TE}{pos':Pos}(hN:X.N.Nodup)(hi:X.N[i]? = some x)(hx:Loc X.env.scope x)(he:PE X e te)(hs:swapsWith e (some (.Name x pos')) pos.line X.env=pure false:=by rfl)(hf:X.fn x=true\/X.env.scope.names.lookup x=some .local:=by first |exact .inl rfl|exact .inr rfl|assumption):
 PS X (.Assign [.Name x pos'] e pos) (Ve te (iK i)):=by
 intro pins s σ H D I h;refine wpAny_Assign_Name (cZ (he pins s σ H _ I h) λv s1 ⟨y,H1,I1,r1,q1⟩=>?_) hs;exact rT I1 hN hi hx r1 (λs2 I2=>⟨_,H1,I2,q1⟩) hf
noncomputable def aen(i:Nat)(te:TE)(ti:TIp):TS:=λD σ H=>∃x,σ[i]? = some (some x)/\te σ H λy H1=>ti x y H1 λz H2=>D.nx (σ.set i (some z)) H2
theorem Zd{i:Nat}{x:Str}{e:Expr}{te:TE}{op:Operator}{ti:TIp}{pos':Pos}(hN:X.N.Nodup)(hi:X.N[i]? = some x)(hx:Loc X.env.scope x)(he:PE X e te)(ho:PIp X op ti)(hf:X.fn x=true\/X.env.scope.names.lookup x=some .local:=by first |exact .inl rfl|exact .inr rfl|assumption):
 PS X (.AugAssign (.Name x pos') op e pos) (aen i te ti):=by
 intro pins s σ H D I h;obtain⟨v,e1,h⟩:=h;obtain⟨m,hn,hl⟩:=I.loc;have vis:Vis X.env.scope x:=by rcases hx with k|k;exact .inl k;exact .inr (.inl k)
 obtain⟨u,r,l⟩:=hl i x v hi e1 vis;refine wpAny_AugAssign_Name ?_
 have go:wpAny (model X.prog X.w) X.A (eval e X.env) (λw s₂=>wpAny (model X.prog X.w) X.A (inplaceOp op u w) (λr s₃=>wpAny (model X.prog X.w) X.A (storeName X.env x r) (λ_=>SP X pins D .next) X.xe s₃) X.xe s₂) X.xe s:=by
  refine cZ (he pins s σ H _ I h) λw s1 iB=>?_;obtain⟨y,H1,I1,r1,q1⟩:=iB;refine cZ (ho pins s1 σ H1 v y u w _ I1 r r1 q1) λz s2 iB=>?_;obtain⟨zv,H2,I2,r2,q2⟩:=iB;exact rT I2 hN hi hx r2 (λs3 I3=>⟨_,H2,I3,q2⟩) hf
 rcases l with ⟨hk,hm⟩|⟨hk,c,hc,hcell⟩
 .exact wpAny_loadName_local I.ok.kind hk hn hm go
 .rcases hk with hk|hk
  .exact wpAny_loadName_cell I.ok.kind hk hc hcell go
  .rcases hx with k|k
   .have:X.env.scope.names.lookup x=some .free:=hk
    rw[k] at this;cases this
   .have:X.env.scope.names.lookup x=some .free:=hk
    rw[k] at this;cases this
noncomputable def ipI(f:Int->Int->Int):TIp:=λx y H Q=>∃i j,x = .int i/\y = .int j/\Q (.int (f i j)) H
theorem Ju:PIp X .Add (ipI λi j=>i+j):=by
 intro pins s σ H x y v u Q I r1 r2 h;obtain⟨i,j,e1,e2,q⟩:=h;subst e1;subst e2;obtain⟨t,rfl⟩:=r1;obtain⟨t',rfl⟩:=r2;exact iadd_int ⟨.int _,H,I.tok _,⟨_,Z⟩,q⟩
end
section
variable{X:Cx}{pos:Pos}
noncomputable def YG(c:TT)(tb:TS):TS:=λD σ H=>∃W:Nat->St->Hp->Prop,(∃m,W m σ H) /\ ∀m σ H,W m σ H ->
 c σ H λb H1=>if b=true then ∃N:St->Hp->Prop,(∀σ' H',N σ' H' -> ∃m',m'<m/\W m' σ' H')/\tb {D with nx:=N,ct:=N,bk:=D.nx} σ H1 else D.nx σ H1
theorem Rb{c:Expr}{body:List Stmt}{tc:TT}{tb:TS}(hp:PassesOwn (model X.prog X.w) X.A X.env X.xe)(hc:PT X c tc)(hb:Eh X body tb):PS X (.While c body [] pos) (YG tc tb):=by
 intro pins s σ H D I h;obtain⟨W,⟨m0,w0⟩,turn⟩:=h;refine wpAny_While (codeAny_whileLoop (λn s'=>∃σ' H',Inv X pins σ' H' s'/\W n σ' H') ?_ m0 ⟨σ,H,I,w0⟩);rintro n s1 ⟨σ1,H1,I1,w1⟩;refine wpAny_passesOwn hp (cZ (hc pins s1 σ1 H1 _ I1 (turn n σ1 H1 w1)) λb s2 ⟨H2,I2,q2⟩=>?_);cases b with
 | true=>
   obtain⟨N,hN,q2⟩:=q2;rw[ab9 rfl];refine wpAny_passesOwn hp (cZ (hb pins s2 σ1 H2 _ I2 q2) λf s3 q3=>?_);cases f with
   | next=>
     obtain⟨σ3,H3,I3,n3⟩:=q3;obtain⟨m',hm,w3⟩:=hN σ3 H3 n3;exact⟨m',hm,σ3,H3,I3,w3⟩
   | cont=>
     obtain⟨σ3,H3,I3,n3⟩:=q3;obtain⟨m',hm,w3⟩:=hN σ3 H3 n3;exact⟨m',hm,σ3,H3,I3,w3⟩
   | brk=>exact q3
   | ret v=>exact q3
 | false=>
   rw[ab6 aaQ];exact wpAny_execs_nil ⟨σ1,H2,I2,q2⟩
end
structure It where
 go:Nat->Hp->Prop
 Xx:Nat->Hp->V->Hp->Prop
 stop:Nat->Hp->Prop
noncomputable def qG(X:Cx)(pins:List (Addr×Obj))(H:Hp)(b:Addr):Prop:=
 H b=none/\b≠X.env.locals/\b∉X.fs/\(b∈X.ex\/X.s₀.heap.objs.size<=b)/\(∀x c,X.env.cells.lookup x=some c->c≠b) /\ ∀p∈X.pn++pins,p.1≠b
theorem Inv.v8{X:Cx}{pins:List (Addr×Obj)}{σ:St}{H H':Hp}{s:Shared}{b:Addr}(I:Inv X pins σ H s)(hb:s.heap.objs.size<=b)(hn:H' b=none):qG X pins H' b:=by
 refine⟨hn,Nat.ne_of_gt (aaX I.lt hb),I.afA hb,.inr (abX I.sz hb),λx c e z=>?_,λp hp z=>?_⟩
 .obtain⟨v,q⟩:=I.cell x c e
  exact acq (aaX q.lt (by rw[z];exact hb)) (abV _)
 .exact acq (aaX (aaB (I.pin p hp).1) (by rw[z];exact hb)) (abV _)
structure Turn(P:Program)(w:World)(K:PySem.W.Frag)(tg:Expr)(J:It)(fp:List Addr)(it:Addr)(tn:Nat->Heap->Prop):Prop where
 mem:it∈fp
 obj:∀i h,tn i h -> ∀b∈fp,∃o,h.get? b=some o /\ ∀v,o.data ≠ .cell v
 keep:∀i h h',tn i h->(∀b∈fp,∀o,h.get? b=some o->h'.get? b=some o)->tn i h'
 item:∀(X:Cx),X.prog=P->X.w=w->X.K=K->X.calm=true -> ∀(i:Nat)(pins:List (Addr×Obj))(s:Shared)(σ:St)(H:Hp)(E:Value->Shared->Prop),Inv X pins σ H s->(∀b∈fp,qG X pins H b)->tn i s.heap->J.go i H ->
  wpAny (model P w) X.A (pyNext (.ref it)) (λr s1=>∃u,r=some u /\
   wpAny (model P w) X.A (letOwnedTupleGo tg (.ref it) u) (λ_ s2=>∃x H',Inv X pins σ H' s2/\RelV x u/\J.Xx i H x H'/\tn (i+1) s2.heap /\ ∀b∈fp,H' b=none) E s1) E s
 done:∀(X:Cx),X.prog=P->X.w=w->X.K=K->X.calm=true -> ∀(i:Nat)(pins:List (Addr×Obj))(s:Shared)(σ:St)(H:Hp)(E:Value->Shared->Prop),Inv X pins σ H s->(∀b∈fp,qG X pins H b)->tn i s.heap->J.stop i H ->
  wpAny (model P w) X.A (pyNext (.ref it)) (λr s1=>r=none/\Inv X pins σ H s1) E s
 self:∀(A:Around)(i:Nat)(s:Shared)(Q:Value->Shared->Prop)(E:Value->Shared->Prop),tn i s.heap->Q (.ref it) s->wpAny (model P w) A (pyIter (.ref it)) Q E s
noncomputable abbrev TI:=St->Hp->(It->Hp->Prop)->Prop
noncomputable def PIE(X:Cx)(pins:List (Addr×Obj))(σ:St)(tg:Expr)(R:It->Hp->Prop)(itv:Value)(s2:Shared):Prop:=
 ∃(it:Addr) (fp:List Addr) (tn:Nat->Heap->Prop) (J:It) (H':Hp),itv = .ref it/\Inv X pins σ H' s2/\Turn X.prog X.w X.K tg J fp it tn/\tn 0 s2.heap/\(∀b∈fp,qG X pins H' b)/\R J H'
noncomputable def PI(X:Cx)(tg iter:Expr)(wi:TI):Prop:=
 ∀(pins:List (Addr×Obj))(s:Shared)(σ:St)(H:Hp)(R:It->Hp->Prop),Inv X pins σ H s->wi σ H R ->
  wpAny (model X.prog X.w) X.A (eval iter X.env) (λv s1=>wpAny (model X.prog X.w) X.A (pyIter v) (PIE X pins σ tg R) X.xe s1) X.xe s
theorem yX{M:Model}{A:Around}{E:Value->Shared->Prop}{s:Shared}{tg:Expr}{it:Addr}{u:Value}{o:Obj}{n:String}{vs:Array Value}{Q:Unit->Shared->Prop}(ho:s.heap.get? it=some o)(hc:o.cls = .type n)(hd:o.data = .fields vs)(hn:["enumerate","zip","dict_itemiterator","dict_reverseitemiterator","odict_iterator","itertools.zip_longest","itertools.pairwise"].contains n=false)(hQ:Q () s):wpAny M A (letOwnedTupleGo tg (.ref it) u) Q E s:=by
 unfold letOwnedTupleGo
 cases tg<;>first
  | exact aaI hQ
  | (cases u<;>first
      | exact aaI hQ
      | (refine aaH (wpAny_load ho ?_)
         rw[hc,hd];show wpAny M A (if (["enumerate","zip","dict_itemiterator","dict_reverseitemiterator","odict_iterator","itertools.zip_longest","itertools.pairwise"].contains n&&vs[0]? == some (rawInt _))=true then _ else _) Q E s;rw[ab6 (by intro h;rw[hn,Bool.false_and] at h;cases h)];exact aaI hQ))
noncomputable def Yu(K:PySem.W.Frag)(a:Addr):It:=
 ⟨λi H=>∃xs x,bH K H a xs/\xs[i]? = some x,λi H x H'=>H'=H /\ ∀xs,bH K H a xs->xs[i]? = some x,λi H=>∃xs,bH K H a xs/\xs.length<=i⟩
noncomputable def Itt(K:PySem.W.Frag)(a:Addr):It:=
 ⟨λi H=>∃xs x,cA K H a xs/\xs[i]? = some x,λi H x H'=>H'=H /\ ∀xs,cA K H a xs->xs[i]? = some x,λi H=>∃xs,cA K H a xs/\xs.length<=i⟩
noncomputable def Yt(lo:Int)(n:Nat):It:=⟨λi _=>i<n,λi H x H'=>H'=H/\x = .int (lo+i),λi _=>n<=i⟩
theorem M8{P:Program}{w:World}{K:PySem.W.Frag}{tg:Expr}(a it:Addr):Turn P w K tg (Yu K a) [it] it (λi h=>h.IsListIter it a i) where
 mem:=by simp
 obj:=λi h st b hb=>by
  have e:b=it:=by simpa using hb
  subst e;obtain⟨o,e,c,d⟩:=st;exact⟨o,e,λv z=>by rw[d] at z;cases z⟩
 keep:=λi h h' st k=>st.at λo e=>k it (by simp) o e
 item:=by
  intro X hP hw hK hc i pins s σ H E I hf st hg;subst hP hw hK;obtain⟨xs,x,hq,hx⟩:=hg;obtain⟨its,rv,p,hz⟩:=I.list hq;obtain⟨u,hu,ru⟩:=rv.get hx;obtain⟨f0,f1,f2,f3,f4,f5⟩:=hf it (by simp);refine wpAny_pyNext_list_item st p.isList (x:=u) (by simpa using hu) λh' st' sb=>?_;have I1:Inv X pins σ H {s with heap:=h'}:=I.turned (t':=s.toks) (λb o hb e=>(sb.2 b hb).trans e) f0 f1 f3 f4 f5;obtain⟨o,e,c,d⟩:=id st';exact⟨u,Z,yX (s:={s with heap:=h'}) e c d (by decide) ⟨x,H,I1,ru,⟨Z,λys hy=>by rw[I.sX hy hq];exact hx⟩,st',λb hb=>(hf b hb).1⟩⟩
 done:=by
  intro X hP hw hK hc i pins s σ H E I hf st hg;subst hP hw hK;obtain⟨xs,hq,hx⟩:=hg;obtain⟨its,rv,p,hz⟩:=I.list hq;obtain⟨f0,f1,f2,f3,f4,f5⟩:=hf it (by simp);have hl:=rv.length;exact wpAny_pyNext_list_end (I.ok.hd hc) st p.isList (by simp;lia) λh' eb=>⟨Z,I.turned (t':=s.toks) (λb o hb e=>eb b o hb e) f0 f1 f3 f4 f5⟩
 self:=λ_ _ _ _ _ st h=>wpAny_pyIter_listiter st h
theorem Ia{P:Program}{w:World}{K:PySem.W.Frag}{tg:Expr}(a it:Addr):Turn P w K tg (Itt K a) [it] it (λi h=>h.IsTupleIter it a i) where
 mem:=by simp
 obj:=λi h st b hb=>by
  have e:b=it:=by simpa using hb
  subst e;obtain⟨o,e,c,d⟩:=st;exact⟨o,e,λv z=>by rw[d] at z;cases z⟩
 keep:=λi h h' st k=>st.at λo e=>k it (by simp) o e
 item:=by
  intro X hP hw hK hc i pins s σ H E I hf st hg;subst hP hw hK;obtain⟨xs,x,hq,hx⟩:=hg;obtain⟨its,rv,p,hz⟩:=I.tuple hq;obtain⟨u,hu,ru⟩:=rv.get hx;obtain⟨f0,f1,f2,f3,f4,f5⟩:=hf it (by simp);refine wpAny_pyNext_tuple_item st (show s.heap.IsTuple a its.toArray from p) (x:=u) (by simpa using hu) λh' st' sb=>?_;have I1:Inv X pins σ H {s with heap:=h'}:=I.turned (t':=s.toks) (λb o hb e=>(sb.2 b hb).trans e) f0 f1 f3 f4 f5;obtain⟨o,e,c,d⟩:=id st';exact⟨u,Z,yX (s:={s with heap:=h'}) e c d (by decide) ⟨x,H,I1,ru,⟨Z,λys hy=>by rw[I.Nb hy hq];exact hx⟩,st',λb hb=>(hf b hb).1⟩⟩
 done:=by
  intro X hP hw hK hc i pins s σ H E I hf st hg;subst hP hw hK;obtain⟨xs,hq,hx⟩:=hg;obtain⟨its,rv,p,hz⟩:=I.tuple hq;obtain⟨f0,f1,f2,f3,f4,f5⟩:=hf it (by simp);have hl:=rv.length;exact wpAny_pyNext_tuple_end (I.ok.hd hc) st (show s.heap.IsTuple a its.toArray from p) (by simp;lia) λh' eb=>⟨Z,I.turned (t':=s.toks) (λb o hb e=>eb b o hb e) f0 f1 f3 f4 f5⟩
 self:=λ_ _ _ _ _ st h=>wpAny_pyIter_tupleiter st h
theorem Ib{P:Program}{w:World}{K:PySem.W.Frag}{tg:Expr}(it:Addr)(lo:Int)(n:Nat):Turn P w K tg (Yt lo n) [it] it (λi h=>IsRangeIter h it (lo+(i:Nat)*1) ((n:Int) - (i:Nat)) 1) where
 mem:=by simp
 obj:=λi h st b hb=>by
  have e:b=it:=by simpa using hb
  subst e
  exact⟨_,st,λv z=>by
   have z':Data.fields _=Data.cell v:=z;cases z'⟩
 keep:=λi h h' st k=>k it (by simp) _ st
 item:=by
  intro X hP hw hK hc i pins s σ H E I hf st hg;subst hP hw hK;obtain⟨f0,f1,f2,f3,f4,f5⟩:=hf it (by simp);have W:=Walks.range (prog:=X.prog) (w:=X.w) (I.ok.hd hc) it lo 1 n;refine W.item i s _ _ hg st λv h' tk hv st' kk=>?_;obtain⟨t,rfl⟩:=hv;have I1:Inv X pins σ H {s with heap:=h',toks:=tk}:=I.turned (λb o hb e=>kk b o (by simpa using hb) e) f0 f1 f3 f4 f5;refine⟨_,Z,yX (s:={s with heap:=h',toks:=tk}) (n:= "range_iterator") st' rfl rfl (by decide) ⟨.int (lo+i),H,I1,⟨t, ?_⟩,⟨Z,Z⟩,st',λb hb=>(hf b hb).1⟩⟩;rw[Int.mul_one]
 done:=by
  intro X hP hw hK hc i pins s σ H E I hf st hg;subst hP hw hK;obtain⟨f0,f1,f2,f3,f4,f5⟩:=hf it (by simp);exact wpAny_pyNext_range_end (I.ok.hd hc) st (by have:n<=i:=hg;lia) λh' eb=>⟨Z,I.turned (t':=s.toks) (λb o hb e=>eb b o hb e) f0 f1 f3 f4 f5⟩
 self:=λ_ _ _ _ _ st h=>wpAny_pyIter_rangeiter st h
section
variable{X:Cx}{tg:Expr}
noncomputable def Ye(K:PySem.W.Frag)(tl:TE):TI:=λσ H R=>tl σ H λx H1=>∃a,x = .ref a/\(∃xs,bH K H1 a xs)/\R (Yu K a) H1
noncomputable def acd(K:PySem.W.Frag)(tl:TE):TI:=λσ H R=>tl σ H λx H1=>∃a,x = .ref a/\(∃xs,cA K H1 a xs)/\R (Itt K a) H1
theorem Vw{l:Expr}{tl:TE}(hl:PE X l tl):PI X tg l (Ye X.K tl):=by
 intro pins s σ H R I h;refine cZ (hl pins s σ H _ I h) λv s1 iB=>?_;obtain⟨x,H1,I1,r1,q1⟩:=iB;obtain⟨a,e,⟨xs,hq⟩,q⟩:=q1;subst e;cases r1;obtain⟨its,rv,p,hz⟩:=I1.list hq;refine wpAny_pyIter_list p.isList ?_;refine⟨s1.heap.objs.size,[s1.heap.objs.size],_,_,H1,Z,I1.kept (t':=s1.toks) λb o e=>aaj _ e,M8 a _,⟨_,aam _ rfl,Z,Z⟩,λb hb=>?_,q⟩;have e:b=s1.heap.objs.size:=by simpa using hb
 subst e;exact I1.v8 (aaG _) (I1.hok.fresh (aaG _))
theorem Zf{l:Expr}{tl:TE}(hl:PE X l tl):PI X tg l (acd X.K tl):=by
 intro pins s σ H R I h;refine cZ (hl pins s σ H _ I h) λv s1 iB=>?_;obtain⟨x,H1,I1,r1,q1⟩:=iB;obtain⟨a,e,⟨xs,hq⟩,q⟩:=q1;subst e;cases r1;obtain⟨its,rv,p,hz⟩:=I1.tuple hq;refine wpAny_pyIter_tuple (show s1.heap.IsTuple a its.toArray from p) ?_;refine⟨s1.heap.objs.size,[s1.heap.objs.size],_,_,H1,Z,I1.kept (t':=s1.toks) λb o e=>aaj _ e,Ia a _,⟨_,aam _ rfl,Z,Z⟩,λb hb=>?_,q⟩;have e:b=s1.heap.objs.size:=by simpa using hb
 subst e;exact I1.v8 (aaG _) (I1.hok.fresh (aaG _))
theorem QX{pins:List (Addr×Obj)}{σ:St}{H:Hp}{s:Shared}{R:It->Hp->Prop}{E:Value->Shared->Prop}{lo hi:Int}{t u v:Tok}{tk:Nat}(I:Inv X pins σ H s)(h1: -(2 ^ 62)<=lo)(h2:lo<2 ^ 62)(h3: -(2 ^ 62)<=hi)(h4:hi<2 ^ 62)(q:R (Yt lo (hi - lo).toNat) H):wpAny (model X.prog X.w) X.A (pyIter (.ref s.heap.objs.size)) (PIE X pins σ tg R) E {s with heap:=s.heap.push {cls:= .type "range",data:= .fields #[.int lo t,.int hi u,.int 1 v]},toks:=tk}:=by
 refine wpAny_pyIter_range (IsRange.new ..) (small_one h1 h2 h3 h4) ?_;have I1:Inv X pins σ H {s with heap:=s.heap.push {cls:= .type "range",data:= .fields #[.int lo t,.int hi u,.int 1 v]},toks:=tk}:=I.kept λb o e=>aaj _ e
 refine⟨(s.heap.push {cls:= .type "range",data:= .fields #[.int lo t,.int hi u,.int 1 v]}).objs.size,[(s.heap.push {cls:= .type "range",data:= .fields #[.int lo t,.int hi u,.int 1 v]}).objs.size],_,_,H,Z,
  I1.kept (t':=tk) λb o e=>aaj _ e,Ib _ lo (hi - lo).toNat, ?_,λb hb=>?_,q⟩
 .have e1:lo+((0:Nat):Int)*1=lo:=by simp
  have e2:(((hi - lo).toNat:Nat):Int) - ((0:Nat):Int)=Builtin.Range.rangeSize lo hi 1:=by rw[rangeSize_one];split<;>lia
  show IsRangeIter _ _ (lo+((0:Nat):Int)*1) ((((hi - lo).toNat:Nat):Int) - ((0:Nat):Int)) 1;rw[e1,e2];exact aam _ rfl
 .have e:b=(s.heap.push {cls:= .type "range",data:= .fields #[.int lo t,.int hi u,.int 1 v]}).objs.size:=by simpa using hb
  subst e;exact I1.v8 (aaG _) (I1.hok.fresh (aaG _))
noncomputable def acf(ta:TA):TI:=λσ H R=>ta σ H λvs H1=>∃j:Int,vs=[.int j] /\ -(2 ^ 62)<=j/\j<2 ^ 62/\R (Yt 0 j.toNat) H1
theorem je{a:Expr}{ta:TA}{p pos:Pos}(hg:Gl X "range")(hm:X.mg "range" = none)(ha:PA X [a] ta)(hs:starEach [a] X.env=[(false,eval a X.env)]:=by rfl):PI X tg (.Call (.Name "range" p) [a] [] pos) (acf ta):=by
 intro pins s σ H R I h;refine Call_ (rA I hg hm boot_range (PyProof.Rows.callWith_type1 (cZ (ha pos pins s σ H _ I h) λus s1 ⟨vs,H1,I1,r1,q1⟩=>?_) hs rfl));obtain⟨j,e,q1,q2,q⟩:=q1;subst e;cases r1 with
 | cons r rr=>
   cases rr;obtain⟨t,rfl⟩:=r;exact call_range_1 (QX I1 (by lia) (by lia) q1 q2 (by simpa using q))
noncomputable def aej(wi:TI)(g:TG)(tb:TS):TS:=λD σ H=>wi σ H λJ H1=>∃W:Nat->Nat->St->Hp->Prop,(∃m,W 0 m σ H1) /\ ∀i m σ H,W i m σ H ->
 (J.stop i H/\D.nx σ H)\/(J.go i H /\ ∃N:St->Hp->Prop,(∀σ' H',N σ' H' -> ∃m',m'<m/\W (i+1) m' σ' H') /\ ∀x H',J.Xx i H x H'->g x σ H' λσ2 H2=>tb {D with nx:=N,ct:=N,bk:=D.nx} σ2 H2)
noncomputable def yu(fp:List Addr)(h:Heap):List (Addr×Obj):=fp.filterMap λb=>(h.get? b).map λo=>(b,o)
theorem m7{fp:List Addr}{h:Heap}{b:Addr}{o:Obj}(hb:b∈fp)(e:h.get? b=some o):(b,o)∈yu fp h:=List.mem_filterMap.mpr ⟨b,hb,by rw[e];rfl⟩
theorem Oe{fp:List Addr}{h:Heap}{p:Addr×Obj}(hp:p∈yu fp h):p.1∈fp/\h.get? p.1=some p.2:=by
 obtain⟨b,hb,e⟩:=List.mem_filterMap.mp hp;cases q:h.get? b with
 | none=>rw[q] at e;cases e
 | some o=>
   rw[q] at e;have e':(b,o)=p:=aaS e;subst e';exact⟨hb,q⟩
theorem Inv.pinned{pins:List (Addr×Obj)}{σ:St}{H:Hp}{s:Shared}{fp:List Addr}(I:Inv X pins σ H s)(hf:∀b∈fp,qG X pins H b)(ho:∀b∈fp,∃o,s.heap.get? b=some o /\ ∀v,o.data ≠ .cell v):Inv X (pins++yu fp s.heap) σ H s:=
 I.La λp hp=>(aa2.mp hp).elim (λz=>I.pin p (List.mem_append_right _ z)) λz=>by
  obtain⟨hb,e⟩:=Oe z;obtain⟨f0,f1,f2,_⟩:=hf p.1 hb;obtain⟨o,e',d⟩:=ho p.1 hb;rw[e] at e';cases e';exact⟨e,f0,f1,f2,d⟩
theorem Inv.rP{pins pl:List (Addr×Obj)}{σ:St}{H:Hp}{s:Shared}(I:Inv X (pins++pl) σ H s):Inv X pins σ H s:=I.La λp hp=>I.pin p (List.mem_append_right _ (List.mem_append_left _ hp))
theorem iy{iter:Expr}{body:List Stmt}{wi:TI}{g:TG}{tb:TS}{pos:Pos}(hp:PassesOwn (model X.prog X.w) X.A X.env X.xe)(hc:X.calm=true)(hi:PI X tg iter wi)(hg:PG X tg g)(hb:Eh X body tb)(hs:∀x,foldedSetIterable iter X.env x=pure x:=by intro _;rfl):PS X (.For tg iter body [] pos) (aej wi g tb):=by
 intro pins s σ H D I h;refine wpAny_For (cZ (hi pins s σ H _ I h) λv s1 h1=>cZ h1 λitv s2 h2=>?_) hs;obtain⟨it,fp,tn,J,H2,e,I2,T,st2,f2,W,⟨m0,w0⟩,turn⟩:=h2;subst e;have stat:∀{H':Hp},(∀b∈fp,H' b=none) -> ∀b∈fp,qG X pins H' b:=λhn b hb=>⟨hn b hb,(f2 b hb).2⟩;refine codeAny_forLoop_any (λn s'=>∃i σ' H',Inv X pins σ' H' s'/\tn i s'.heap/\(∀b∈fp,H' b=none)/\W i n σ' H') ?_ m0 ⟨0,σ,H2,I2,st2,λb hb=>(f2 b hb).1,w0⟩;rintro n s3 ⟨i,σ3,H3,I3,st3,fr3,w3⟩;rcases turn i n σ3 H3 w3 with ⟨stop,qn⟩|⟨go,N,hN,step⟩
 .refine wpAny_passesOwn hp (cZ (T.done X rfl rfl rfl hc i pins s3 σ3 H3 X.xe I3 (stat fr3) st3 stop) λr s4 ⟨hr,I4⟩=>?_)
  subst hr;exact wpAny_execs_nil ⟨σ3,H3,I4,qn⟩
 .refine wpAny_passesOwn hp (cZ (T.item X rfl rfl rfl hc i pins s3 σ3 H3 X.xe I3 (stat fr3) st3 go) λr s4 ⟨u,hr,h4⟩=>?_)
  subst hr;refine wpAny_passesOwn hp (cZ h4 λ_ s5 iB=>?_);obtain⟨x,H5,I5,r5,y5,Vi,fr5⟩:=iB;have I5':=I5.pinned (stat fr5) (T.obj _ _ Vi);refine wpAny_passesOwn hp (cZ (hg _ s5 σ3 H5 x u _ I5' r5 (step x H5 y5)) λ_ s6 iB=>?_);obtain⟨σ6,H6,I6,q6⟩:=iB;refine wpAny_passesOwn hp (cZ (hb _ s6 σ6 H6 _ I6 q6) λf s7 q7=>?_)
  have again:∀{σ7:St}{H7:Hp},Inv X (pins++yu fp s5.heap) σ7 H7 s7->N σ7 H7 -> ∃m,m<n /\ ∃i σ' H',Inv X pins σ' H' s7/\tn i s7.heap/\(∀b∈fp,H' b=none)/\W i m σ' H':=fun {σ7 H7} I7 n7=>by
   obtain⟨m',hm,w7⟩:=hN σ7 H7 n7;refine⟨m',hm,i+1,σ7,H7,I7.rP,T.keep _ _ _ Vi λb hb o e=>(I7.pin (b,o) (List.mem_append_right _ (List.mem_append_right _ (m7 hb e)))).1,λb hb=>?_,w7⟩;obtain⟨o,e,d⟩:=T.obj _ _ Vi b hb;exact(I7.pin (b,o) (List.mem_append_right _ (List.mem_append_right _ (m7 hb e)))).2.1
  cases f with
  | next=>obtain⟨σ7,H7,I7,n7⟩:=q7;exact again I7 n7
  | cont=>obtain⟨σ7,H7,I7,n7⟩:=q7;exact again I7 n7
  | brk=>obtain⟨σ7,H7,I7,q7⟩:=q7;exact⟨σ7,H7,I7.rP,q7⟩
  | ret v=>obtain⟨x7,σ7,H7,I7,r7,q7⟩:=q7;exact⟨x7,σ7,H7,I7.rP,r7,q7⟩
end
theorem jo{K:PySem.W.Frag}{a:Addr}{xs:List V}{g:TG}{tb:TS}{D:Ends}{σ:St}{H:Hp}(Pv:Nat->St->Hp->Prop)(h0:Pv 0 σ H)(hl:∀i σ H,i<=xs.length->Pv i σ H->bH K H a xs)(hs:∀i x σ H,xs[i]? = some x->Pv i σ H->g x σ H λσ2 H2=>tb {D with nx:=Pv (i+1),ct:=Pv (i+1),bk:=D.nx} σ2 H2)(hd:∀σ H,Pv xs.length σ H->D.nx σ H):
 ∃W:Nat->Nat->St->Hp->Prop,(∃m,W 0 m σ H) /\ ∀i m σ H,W i m σ H ->
  ((Yu K a).stop i H/\D.nx σ H)\/((Yu K a).go i H /\ ∃N:St->Hp->Prop,(∀σ' H',N σ' H' -> ∃m',m'<m/\W (i+1) m' σ' H') /\ ∀x H',(Yu K a).Xx i H x H'->g x σ H' λσ2 H2=>tb {D with nx:=N,ct:=N,bk:=D.nx} σ2 H2):=by
 refine⟨λi m σ H=>m=xs.length - i/\i<=xs.length/\Pv i σ H,⟨xs.length,by simp,Nat.zero_le _,h0⟩, ?_⟩;rintro i m σ H ⟨rfl,hi,p⟩;have q:=hl i σ H hi p
 by_cases hlt:i<xs.length
 .refine .inr ⟨⟨xs,xs[i],q,by simp[hlt]⟩,Pv (i+1),λσ' H' p'=>⟨xs.length - (i+1),by lia,Z,hlt,p'⟩,λx H' y=>?_⟩
  obtain⟨e,y⟩:=y;subst e;exact hs i x σ _ (y xs q) p
 .have e:i=xs.length:=by lia
  subst e;exact .inl ⟨⟨xs,q,aaG _⟩,hd σ H p⟩
theorem OD{lo:Int}{n:Nat}{g:TG}{tb:TS}{D:Ends}{σ:St}{H:Hp}(Pv:Nat->St->Hp->Prop)(h0:Pv 0 σ H)(hs:∀i σ H,i<n->Pv i σ H->g (.int (lo+i)) σ H λσ2 H2=>tb {D with nx:=Pv (i+1),ct:=Pv (i+1),bk:=D.nx} σ2 H2)(hd:∀σ H,Pv n σ H->D.nx σ H):
 ∃W:Nat->Nat->St->Hp->Prop,(∃m,W 0 m σ H) /\ ∀i m σ H,W i m σ H ->
  ((Yt lo n).stop i H/\D.nx σ H)\/((Yt lo n).go i H /\ ∃N:St->Hp->Prop,(∀σ' H',N σ' H' -> ∃m',m'<m/\W (i+1) m' σ' H') /\ ∀x H',(Yt lo n).Xx i H x H'->g x σ H' λσ2 H2=>tb {D with nx:=N,ct:=N,bk:=D.nx} σ2 H2):=by
 refine⟨λi m σ H=>m=n - i/\i<=n/\Pv i σ H,⟨n,by simp,Nat.zero_le _,h0⟩, ?_⟩;rintro i m σ H ⟨rfl,hi,p⟩
 by_cases hlt:i<n
 .refine .inr ⟨hlt,Pv (i+1),λσ' H' p'=>⟨n - (i+1),by lia,Z,hlt,p'⟩,λx H' y=>?_⟩
  obtain⟨e,y⟩:=y;subst e y;exact hs i σ _ hlt p
 .have e:i=n:=by lia
  subst e;exact .inl ⟨aaG _,hd σ H p⟩
noncomputable abbrev R2:=V->V->Hp->VK->Prop
noncomputable def qy(X:Cx)(f:Value->Value->Sem Value)(r:R2):Prop:=
 ∀(pins:List (Addr×Obj))(s:Shared)(σ:St)(H:Hp)(x y:V)(v u:Value)(Q:VK),Inv X pins σ H s->RelV x v->RelV y u->r x y H Q ->
  wpAny (model X.prog X.w) X.A (f v u) (EP X pins σ Q) X.xe s
noncomputable def UnR(X:Cx)(f:Value->Sem Value)(r:V->Hp->VK->Prop):Prop:=
 ∀(pins:List (Addr×Obj))(s:Shared)(σ:St)(H:Hp)(x:V)(v:Value)(Q:VK),Inv X pins σ H s->RelV x v->r x H Q ->
  wpAny (model X.prog X.w) X.A (f v) (EP X pins σ Q) X.xe s
noncomputable def k_(X:Cx)(f:Value)(r:List V->Hp->VK->Prop):Prop:=
 ∀(pins:List (Addr×Obj))(s:Shared)(σ:St)(H:Hp)(xs:List V)(us:List Value)(Q:VK),Inv X pins σ H s->Vals xs us->r xs H Q ->
  wpAny (model X.prog X.w) X.A (call f us) (EP X pins σ Q) X.xe s
noncomputable def agS(X:Cx)(r:V->Hp->(Bool->Hp->Prop)->Prop):Prop:=
 ∀(pins:List (Addr×Obj))(s:Shared)(σ:St)(H:Hp)(x:V)(v:Value)(Q:Bool->Hp->Prop),Inv X pins σ H s->RelV x v->r x H Q ->
  wpAny (model X.prog X.w) X.A (truthy v) (TP X pins σ Q) X.xe s
noncomputable def Ig(r:R2)(ta tb:TE):TE:=λσ H Q=>ta σ H λx H1=>tb σ H1 λy H2=>r x y H2 Q
noncomputable def tUn(r:V->Hp->VK->Prop)(ta:TE):TE:=λσ H Q=>ta σ H λx H1=>r x H1 Q
noncomputable def rI(C:Int->Int->Prop)(g:Int->Int->V):R2:=λx y H Q=>∃i j,x = .int i/\y = .int j/\C i j/\Q (g i j) H
noncomputable def Y7(g:Int->Int->V):R2:=λx y H Q=>∃i j,x = .int i/\y = .int j/\Q (g i j) H
noncomputable def rU(g:Int->V):V->Hp->VK->Prop:=λx H Q=>∃i,x = .int i/\Q (g i) H
section
variable{X:Cx}{a b c:Expr}{ta tb tc:TE}{pos:Pos}
theorem aat(ha:PE X a ta)(hb:PE X b tb){pins:List (Addr×Obj)}{s:Shared}{σ:St}{H:Hp}{R:V->V->Hp->Prop}(I:Inv X pins σ H s)(h:ta σ H λx H1=>tb σ H1 λy H2=>R x y H2){Q:Value->Shared->Prop}{f:Value->Value->Sem Value}(hf:∀v u s2 x y H2,Inv X pins σ H2 s2->RelV x v->RelV y u->R x y H2->wpAny (model X.prog X.w) X.A (f v u) Q X.xe s2):
 wpAny (model X.prog X.w) X.A (eval a X.env) (λv s₁=>wpAny (model X.prog X.w) X.A (eval b X.env) (λu s₂=>wpAny (model X.prog X.w) X.A (f v u) Q X.xe s₂) X.xe s₁) X.xe s:=by
 refine cZ (ha pins s σ H _ I h) λv s1 iB=>?_;obtain⟨x,H1,I1,r1,q1⟩:=iB;refine cZ (hb pins s1 σ H1 _ I1 q1) λu s2 iB=>?_;obtain⟨y,H2,I2,r2,q2⟩:=iB;exact hf v u s2 x y H2 I2 r1 r2 q2
theorem bA{op:Operator}{r:R2}(ho:qy X (binaryOp op) r)(ha:PE X a ta)(hb:PE X b tb):PE X (.BinOp a op b pos) (Ig r ta tb):=by
 intro pins s σ H Q I h;exact wpAny_BinOp (aat ha hb I h λv u s2 x y H2 I2 rx ry q=>ho pins s2 σ H2 x y v u Q I2 rx ry q)
theorem oU{op:UnaryOp}{r:V->Hp->VK->Prop}(ho:UnR X (unaryOp op) r)(ha:PE X a ta):PE X (.UnaryOp op a pos) (tUn r ta):=by
 intro pins s σ H Q I h;exact UnaryOp_ (cZ (ha pins s σ H _ I h) λv s1 ⟨x,H1,I1,r1,q1⟩=>ho pins s1 σ H1 x v Q I1 r1 q1)
theorem opI{f:Value->Value->Sem Value}{C:Int->Int->Prop}{g:Int->Int->Int}(rule:∀(i j:Int)(t u:Tok)(s:Shared)(Q:Value->Shared->Prop)(E:Value->Shared->Prop),C i j->Q (.int (g i j) s.toks) {s with toks:=s.toks+1}->wpAny (model X.prog X.w) X.A (f (.int i t) (.int j u)) Q E s):
 qy X f (rI C λi j=> .int (g i j)):=by
 intro pins s σ H x y v u Q I rx ry h;obtain⟨i,j,rfl,rfl,hc,q⟩:=h;obtain⟨t,rfl⟩:=rx;obtain⟨t',rfl⟩:=ry;exact rule i j t t' s _ _ hc ⟨.int (g i j),H,I.tok _,⟨_,Z⟩,q⟩
theorem abP{f:Value->Value->Sem Value}{g:Int->Int->Int}(rule:∀(i j:Int)(t u:Tok)(s:Shared)(Q:Value->Shared->Prop)(E:Value->Shared->Prop),Q (.int (g i j) s.toks) {s with toks:=s.toks+1}->wpAny (model X.prog X.w) X.A (f (.int i t) (.int j u)) Q E s):
 qy X f (Y7 λi j=> .int (g i j)):=by
 intro pins s σ H x y v u Q I rx ry h;obtain⟨i,j,rfl,rfl,q⟩:=h;obtain⟨t,rfl⟩:=rx;obtain⟨t',rfl⟩:=ry;exact rule i j t t' s _ _ ⟨.int (g i j),H,I.tok _,⟨_,Z⟩,q⟩
theorem Zr{f:Value->Value->Sem Value}{g:Int->Int->Bool}(rule:∀(i j:Int)(t u:Tok)(s:Shared)(Q:Value->Shared->Prop)(E:Value->Shared->Prop),Q (.bool (g i j)) s->wpAny (model X.prog X.w) X.A (f (.int i t) (.int j u)) Q E s):
 qy X f (Y7 λi j=> .bl (g i j)):=by
 intro pins s σ H x y v u Q I rx ry h;obtain⟨i,j,rfl,rfl,q⟩:=h;obtain⟨t,rfl⟩:=rx;obtain⟨t',rfl⟩:=ry;exact rule i j t t' s _ _ ⟨.bl (g i j),H,I,Z,q⟩
noncomputable def aaF(i j:Int):Prop:=0<j/\j<1073741824
noncomputable def PK(i j:Int):Prop:=0<=j/\j<=1000000/\i.natAbs<2 ^ 64
noncomputable def Xw(i j:Int):Prop:=(-(2 ^ 64)<i/\i<2 ^ 64)\/(-(2 ^ 64)<j/\j<2 ^ 64)
theorem Xw.ok{i j:Int}(h:Xw i j):IntMulOk i j:=by
 rcases h with ⟨h1,h2⟩|⟨h1,h2⟩
 .exact .of_left (intBits_le_64 h1 h2)
 .exact .of_right (intBits_le_64 h1 h2)
theorem cX:qy X (binaryOp .Add) (Y7 λi j=> .int (i+j)):=abP λ_ _ _ _ _ _ _ q=>add_int q
theorem lN:qy X (binaryOp .Sub) (Y7 λi j=> .int (i - j)):=abP λ_ _ _ _ _ _ _ q=>sub_int q
theorem oY:qy X (binaryOp .Mult) (rI Xw λi j=> .int (i*j)):=opI λ_ _ _ _ _ _ _ hc q=>mul_int q hc.ok
theorem Li:qy X (binaryOp .FloorDiv) (rI aaF λi j=> .int (i / j)):=opI λi j _ _ _ _ _ hc q=>by
 have h1:(0:Int)<j:=hc.1;have h2:j<1073741824:=hc.2;exact floordiv_int (by lia) (by rw[Int.fdiv_eq_ediv_of_nonneg i (by lia)];exact q) (.inl (PyProof.noPylong_small (by lia)))
theorem j_:qy X (binaryOp .Mod) (rI (λ_ j=>0<j) λi j=> .int (i % j)):=opI λi j _ _ _ _ _ hc q=>by
 have h1:(0:Int)<j:=hc;exact mod_int' (by lia) (by rw[Int.fmod_eq_emod_of_nonneg i (by lia)];exact q)
theorem yD:qy X (binaryOp .Pow) (rI PK λi j=> .int (i ^ j.toNat)):=opI λ_ _ _ _ _ _ _ hc q=>pow_int_small hc.1 hc.2.1 hc.2.2 q
theorem unI{f:Value->Sem Value}{g:Int->Int}(rule:∀(i:Int)(t:Tok)(s:Shared)(Q:Value->Shared->Prop)(E:Value->Shared->Prop),Q (.int (g i) s.toks) {s with toks:=s.toks+1}->wpAny (model X.prog X.w) X.A (f (.int i t)) Q E s):
 UnR X f (rU λi=> .int (g i)):=by
 intro pins s σ H x v Q I rx h;obtain⟨i,rfl,q⟩:=h;obtain⟨t,rfl⟩:=rx;exact rule i t s _ _ ⟨.int (g i),H,I.tok _,⟨_,Z⟩,q⟩
theorem jW:UnR X (unaryOp .USub) (rU λi=> .int (-i)):=unI λ_ _ _ _ _ q=>neg_int q
end
noncomputable def abz:V->V->Bool
 | .non,.non=>true | .non,.int _=>true | .int _,.non=>true | .non,.bl _=>true | .bl _,.non=>true | .non,.str _=>true | .str _,.non=>true
 | .int _,.int _=>true | .bl _,.bl _=>true | .str _,.str _=>true | .JN _,.JN _=>true
 | .int _,.str _=>true | .str _,.int _=>true | .bl _,.str _=>true | .str _,.bl _=>true
 | _,_=>false
noncomputable def rEq:R2:=λx y H Q=>abz x y=true/\Q (.bl (decide (x=y))) H
noncomputable def rNe:R2:=λx y H Q=>abz x y=true/\Q (.bl (!decide (x=y))) H
theorem Mh{i j:Int}:decide (V.int i=V.int j)=(i==j):=by
 rw[Bool.eq_iff_iff];simp
theorem Tw{i j:Bool}:decide (V.bl i=V.bl j)=(i==j):=by
 rw[Bool.eq_iff_iff];simp
theorem Mf{i j:Str}:decide (V.str i=V.str j)=(i==j):=by
 rw[Bool.eq_iff_iff];simp
theorem Mi{i j:Array UInt8}:decide (V.JN i=V.JN j)=(i.toList==j.toList):=by
 rw[Bool.eq_iff_iff];cases i;cases j;simp
section
variable{X:Cx}{a b c:Expr}{ta tb tc:TE}{pos:Pos}
theorem cF{pins:List (Addr×Obj)}{σ:St}{H:Hp}{s:Shared}{Q:VK}{k k':Bool}(I:Inv X pins σ H s)(q:Q (.bl k) H)(e:k=k'):EP X pins σ Q (.bool k') s:=by
 subst e;exact⟨.bl k,H,I,Z,q⟩
theorem cH:qy X (compareOp .Eq) rEq:=by
 intro pins s σ H x y v u Q I rx ry h;obtain⟨hs,q⟩:=h;cases x with
 | non=>
   cases rx;cases y with
   | non=>cases ry;exact PySem.EqNone.eq_none_none (cF I q (by simp))
   | bl j=>cases ry;exact PySem.EqNone.eq_none_bool (cF I q (by simp))
   | int j=>obtain⟨t',rfl⟩:=ry;exact PySem.EqNone.eq_none_int (cF I q (by simp))
   | str j=>obtain⟨t',rfl⟩:=ry;exact PySem.EqNone.eq_none_str (cF I q (by simp))
   | _=>exact acq (show false=true from hs) aaQ
 | bl i=>
   cases rx;cases y with
   | non=>cases ry;exact PySem.EqNone.eq_bool_none (cF I q (by simp))
   | bl j=>cases ry;exact eq_bool (cF I q Tw)
   | str j=>obtain⟨t',rfl⟩:=ry;exact PySem.EqMixed.eq_bool_str (cF I q (by simp))
   | _=>exact acq (show false=true from hs) aaQ
 | int i=>
   obtain⟨t,rfl⟩:=rx;cases y with
   | non=>cases ry;exact PySem.EqNone.eq_int_none (cF I q (by simp))
   | int j=>obtain⟨t',rfl⟩:=ry;exact eq_int (cF I q Mh)
   | str j=>obtain⟨t',rfl⟩:=ry;exact PySem.EqMixed.eq_int_str (cF I q (by simp))
   | _=>exact acq (show false=true from hs) aaQ
 | str i=>
   obtain⟨t,rfl⟩:=rx;cases y with
   | non=>cases ry;exact PySem.EqNone.eq_str_none (cF I q (by simp))
   | bl j=>cases ry;exact PySem.EqMixed.eq_str_bool (cF I q (by simp))
   | int j=>obtain⟨t',rfl⟩:=ry;exact PySem.EqMixed.eq_str_int (cF I q (by simp))
   | str j=>obtain⟨t',rfl⟩:=ry;exact eq_str (cF I q Mf)
   | _=>exact acq (show false=true from hs) aaQ
 | JN i=>
   obtain⟨t,rfl⟩:=rx;cases y with
   | JN j=>obtain⟨t',rfl⟩:=ry;exact PySem.W.eq_bytes (cF I q Mi)
   | _=>exact acq (show false=true from hs) aaQ
 | _=>cases y<;>exact acq (show false=true from hs) aaQ
theorem lZ:qy X (compareOp .NotEq) rNe:=by
 intro pins s σ H x y v u Q I rx ry h;obtain⟨hs,q⟩:=h;cases x with
 | non=>
   cases rx;cases y with
   | non=>cases ry;exact PySem.EqNone.ne_none_none (cF I q (by simp))
   | bl j=>cases ry;exact PySem.EqNone.ne_none_bool (cF I q (by simp))
   | int j=>obtain⟨t',rfl⟩:=ry;exact PySem.EqNone.ne_none_int (cF I q (by simp))
   | str j=>obtain⟨t',rfl⟩:=ry;exact PySem.EqNone.ne_none_str (cF I q (by simp))
   | _=>exact acq (show false=true from hs) aaQ
 | bl i=>
   cases rx;cases y with
   | non=>cases ry;exact PySem.EqNone.ne_bool_none (cF I q (by simp))
   | bl j=>cases ry;exact ne_bool (cF I q (congrArg not Tw))
   | str j=>obtain⟨t',rfl⟩:=ry;exact PySem.EqMixed.ne_bool_str (cF I q (by simp))
   | _=>exact acq (show false=true from hs) aaQ
 | int i=>
   obtain⟨t,rfl⟩:=rx;cases y with
   | non=>cases ry;exact PySem.EqNone.ne_int_none (cF I q (by simp))
   | int j=>obtain⟨t',rfl⟩:=ry;exact ne_int (cF I q (congrArg not Mh))
   | str j=>obtain⟨t',rfl⟩:=ry;exact PySem.EqMixed.ne_int_str (cF I q (by simp))
   | _=>exact acq (show false=true from hs) aaQ
 | str i=>
   obtain⟨t,rfl⟩:=rx;cases y with
   | non=>cases ry;exact PySem.EqNone.ne_str_none (cF I q (by simp))
   | bl j=>cases ry;exact PySem.EqMixed.ne_str_bool (cF I q (by simp))
   | int j=>obtain⟨t',rfl⟩:=ry;exact PySem.EqMixed.ne_str_int (cF I q (by simp))
   | str j=>obtain⟨t',rfl⟩:=ry;exact ne_str (cF I q (congrArg not Mf))
   | _=>exact acq (show false=true from hs) aaQ
 | JN i=>
   obtain⟨t,rfl⟩:=rx;cases y with
   | JN j=>obtain⟨t',rfl⟩:=ry;exact PySem.W.ne_bytes (cF I q (congrArg not Mi))
   | _=>exact acq (show false=true from hs) aaQ
 | _=>cases y<;>exact acq (show false=true from hs) aaQ
theorem oZ:qy X (compareOp .Lt) (Y7 λi j=> .bl (decide (i<j))):=Zr λ_ _ _ _ _ _ _ q=>lt_int q
theorem abO:qy X (compareOp .LtE) (Y7 λi j=> .bl (decide (i<=j))):=Zr λ_ _ _ _ _ _ _ q=>le_int q
theorem X6:qy X (compareOp .GtE) (Y7 λi j=> .bl (decide (j<=i))):=Zr λ_ _ _ _ _ _ _ q=>ge_int q
theorem Dn:qy X (compareOp .Is) (λx y H Q=>y = .non/\Q (.bl (decide (x = .non))) H):=by
 intro pins s σ H x y v u Q I rx ry h;obtain⟨rfl,q⟩:=h;cases ry;refine is_none_gen (cF I q ?_)
 cases x<;>first
  | (cases rx;rfl)
  | (obtain⟨t,rfl⟩:=rx;rfl)
theorem Lg:qy X (compareOp .IsNot) (λx y H Q=>y = .non/\Q (.bl (!decide (x = .non))) H):=by
 intro pins s σ H x y v u Q I rx ry h;obtain⟨rfl,q⟩:=h;cases ry;refine isnot_none_gen (cF I q ?_)
 cases x<;>first
  | (cases rx;rfl)
  | (obtain⟨t,rfl⟩:=rx;rfl)
noncomputable def isObj:HO->Bool
 | .lst _=>true
 | .ins _ _ _=>true
 | _=>false
theorem aV(b:Expr){op:CmpOp}(h:op ≠ .In:=by decide)(h2:op ≠ .NotIn:=by decide):behindInMarks op b=false:=by
 have e1:(op==CmpOp.In)=false:=by cases op<;>first |rfl|exact acq rfl h
 have e2:(op==CmpOp.NotIn)=false:=by cases op<;>first |rfl|exact acq rfl h2
 cases b<;>simp[behindInMarks,e1,e2]
theorem eN{op:CmpOp}{r:R2}(ho:qy X (compareOp op) r)(ha:PE X a ta)(hb:PE X b tb)(hm:behindInMarks op b=false):PE X (.Compare a [op] [b] pos) (Ig r ta tb):=by
 intro pins s σ H Q I h;exact wpAny_Compare1 (aat ha hb I h λv u s2 x y H2 I2 rx ry q=>ho pins s2 σ H2 x y v u Q I2 rx ry q) hm
noncomputable def Kv(t:TE):TT:=λσ H Q=>t σ H λx H'=>∃k,x = .bl k/\Q k H'
theorem aU{op:CmpOp}{r:R2}(ho:qy X (compareOp op) r)(ha:PE X a ta)(hb:PE X b tb)(hm:behindInMarks op b=false):PT X (.Compare a [op] [b] pos) (Kv (Ig r ta tb)):=by
 intro pins s σ H Q I h
 refine wpAny_isTrue_Compare1 (cZ (ha pins s σ H _ I h) λv s1 ⟨x,H1,I1,r1,q1⟩=>cZ (hb pins s1 σ H1 _ I1 q1) λu s2 ⟨y,H2,I2,r2,q2⟩=>
  cZ (ho pins s2 σ H2 x y v u _ I2 r1 r2 q2) λc s3 ⟨z,H3,I3,r3,k,e,q3⟩=>?_) hm
 subst e;cases r3;exact wpAny_truthy_bool ⟨H3,I3,q3⟩
noncomputable def YS(r r':R2)(ta tb tc:TE):TE:=λσ H Q=>ta σ H λx H1=>tb σ H1 λy H2=>r x y H2 λz H3=>∃k,z = .bl k /\
 (if k=true then tc σ H3 λw' H4=>r' y w' H4 Q else Q (.bl false) H3)
theorem Rj{op op':CmpOp}{r r':R2}(ho:qy X (compareOp op) r)(ho':qy X (compareOp op') r')(ha:PE X a ta)(hb:PE X b tb)(hc:PE X c tc)(hm:lastMarks [op,op'] [b,c]=false:=by with_unfolding_all rfl):PE X (.Compare a [op,op'] [b,c] pos) (YS r r' ta tb tc):=by
 intro pins s σ H Q I h
 refine Compare_chain (cZ (ha pins s σ H _ I h) λv s1 ⟨x,H1,I1,r1,q1⟩=>chain_link (cZ (hb pins s1 σ H1 _ I1 q1) λu s2 ⟨y,H2,I2,r2,q2⟩=>
  cZ (ho pins s2 σ H2 x y v u _ I2 r1 r2 q2) λd s3 ⟨z,H3,I3,r3,k,e,q3⟩=>?_)) hm
 subst e;cases r3;refine wpAny_truthy_bool ?_;cases k with
 | false=>exact ite_ff ⟨.bl false,H3,I3,Z,q3⟩
 | true=>exact ite_tt (chain_last (cZ (hc pins s3 σ H3 _ I3 q3) λw' s4 ⟨z',H4,I4,r4,q4⟩=>ho' pins s4 σ H4 y z' u w' Q I4 r2 r4 q4))
noncomputable def aax(K:PySem.W.Frag)(x:V)(H:Hp)(k:Bool):Prop:=
 match x with
 | .non=>k=false
 | .bl b=>k=b
 | .int i=>k=(i != 0)
 | .str y=>y.length<=sizeLine/\k=((y.length:Int) != 0)
 | .JN y=>y.size<=sizeLine/\k=((y.size:Int) != 0)
 | .ref p=>(∃xs,bH K H p xs/\k = !xs.isEmpty)\/(∃xs,cA K H p xs/\k = !xs.isEmpty) \/ ∃kvs,H p=some (.dK kvs)/\k = !kvs.isEmpty
 | _=>False
theorem Jt{κ:Type}{kvs:List (κ×V)}{vs:List (κ×Value)}(r:KV kvs vs):(!vs.isEmpty) = !kvs.isEmpty:=by
 cases r<;>rfl
theorem yQ{xs:List V}{its:List Value}(r:Vals xs its):(!its.toArray.isEmpty) = !xs.isEmpty:=by
 cases r<;>simp
theorem uR:(sizeLine:Nat)<2 ^ 63:=by rw[sizeLine_eq];decide
theorem YC:agS X (λx H Q=>∃k,aax X.K x H k/\Q k H):=by
 intro pins s σ H x v Q I rx h;obtain⟨k,e,q⟩:=h;have hl:=uR;have hs:sizeLine=16777216:=sizeLine_eq;cases x with
 | non=>
   cases rx;have e':k=false:=e;subst e';exact truthy_none ⟨H,I,q⟩
 | bl b=>
   cases rx;have e':k=b:=e;subst e';exact wpAny_truthy_bool ⟨H,I,q⟩
 | int i=>
   obtain⟨t,rfl⟩:=rx;have e':k=(i != 0):=e;subst e';exact PySem.P.truthy_int ⟨H,I,q⟩
 | str y=>
   obtain⟨t,rfl⟩:=rx;obtain⟨hy,e'⟩:y.length<=sizeLine/\k=((y.length:Int) != 0):=e;subst e';exact PySem.P.truthy_str (by lia) ⟨H,I.tok _,q⟩
 | JN y=>
   obtain⟨t,rfl⟩:=rx;obtain⟨hy,e'⟩:y.size<=sizeLine/\k=((y.size:Int) != 0):=e;subst e';exact PySem.W.truthy_bytes (by lia) ⟨H,I.tok _,q⟩
 | ref p=>
   cases rx;have e':(∃xs,bH X.K H p xs/\k = !xs.isEmpty)\/(∃xs,cA X.K H p xs/\k = !xs.isEmpty) \/ ∃kvs,H p=some (.dK kvs)/\k = !kvs.isEmpty:=e;rcases e' with ⟨xs,hx,e'⟩|⟨xs,hx,e'⟩|⟨kvs,hx,e'⟩
   .subst e'
    obtain⟨its,r,pl,hz⟩:=I.list hx;have hlen:=r.length;exact wpAny_truthy_list pl.isList (by simp only[aaR];lia) ⟨H,I.tok _,by rw[yQ r];exact q⟩
   .subst e'
    obtain⟨its,r,pl,hz⟩:=I.tuple hx;have hlen:=r.length;exact truthy_tuple pl (by simp only[aaR];lia) ⟨H,I.tok _,by rw[yQ r];exact q⟩
   .subst e'
    obtain⟨hz,hS,vs,r,m⟩:kvs.length<=sizeLine/\(p==sysModules)=false /\ ∃vs,KV kvs vs/\s.heap.DictOf (cR X.prog X.w) p vs:=I.hok p _ hx;have hlen:kvs.length=vs.length:=Paired.length r;exact wpAny_truthy_dict hS m (by lia) ⟨H,I.tok _,by rw[Jt r];exact q⟩
 | _=>exact(show False from e).elim
theorem Ra(ha:PE X a ta)(he:∀whole,isTrue a X.env whole=(do let v ←whole;standAt a.pos;holding [v] (truthy v))):
 PT X a (λσ H Q=>ta σ H λx H'=>∃k,aax X.K x H' k/\Q k H'):=by
 intro pins s σ H Q I h;exact isTrue_plain (cZ (ha pins s σ H _ I h) λv s1 ⟨x,H1,I1,r1,q1⟩=>YC pins s1 σ H1 x v Q I1 r1 q1) (he _)
theorem vals1{x:V}{us:List Value}(r:Vals [x] us):∃u,us=[u]/\RelV x u:=by
 cases r with
 | cons r1 r2=>cases r2;exact⟨_,Z,r1⟩
theorem vals2{x y:V}{us:List Value}(r:Vals [x,y] us):∃u w',us=[u,w']/\RelV x u/\RelV y w':=by
 cases r with
 | cons r1 r2=>
   cases r2 with
   | cons r3 r4=>cases r4;exact⟨_,_,Z,r1,r3⟩
theorem BP(hc:X.calm=true):k_ X (.builtin "max") (λxs H Q=>∃i j,xs=[.int i,.int j]/\Q (.int (if j>i then j else i)) H):=by
 intro pins s σ H xs us Q I r h;obtain⟨i,j,rfl,q⟩:=h;obtain⟨u,w',rfl,⟨t,rfl⟩,⟨t',rfl⟩⟩:=vals2 r;refine max_two_ints (I.ok.hd hc) λh' tk k=>⟨_,H,I.kept k, ?_,q⟩
 by_cases hj:j>i
 .rw[ab9 hj,ab9 hj];exact⟨_,Z⟩
 .rw[ab6 hj,ab6 hj];exact⟨_,Z⟩
end
structure JZ(h:Heap)(x dx C:Addr)(mA:Str->Option Value):Prop where
 obj:h.get? x=some (PySem.W.instObj C dx)
 ns:h.Ns1 dx mA
 ne:dx≠x
theorem Oj{h:Heap}{dx:Addr}{mA:Str->Option Value}(n:h.Ns1 dx mA):∃od,h.get? dx=some od /\ ∀name,PySem.W.lookIn name od=some (mA name):=by
 obtain⟨o,es,ep,ho,hd,hk,_,hm⟩:=n;refine⟨o,ho,λname=>?_⟩;have e:=hm name;unfold nsFind findBy at e;rw[←Array.find?_toList] at e;unfold PySem.W.lookIn;rw[hd];dsimp only;split
 .rename_i y q
  rw[q] at e;exact congrArg some e
 .rename_i q
  rw[q] at e
  have a:es.toList.any (·.refKey)=false:=by
   rw[List.any_eq_false];intro y hy;obtain⟨z,t,hkey⟩:=hk y (Array.mem_toList_iff.mp hy);simp[DictEntry.refKey,hkey]
  have a':¬es.toList.any (·.refKey)=true:=by rw[a];exact aaQ
  rw[ab6 a'];exact congrArg some e
theorem JZ.look{h:Heap}{x dx C:Addr}{mA:Str->Option Value}(I:JZ h x dx C mA):∃od,PySem.W.InstAt h x (PySem.W.instObj C dx) C (some od) /\ ∀name,PySem.W.lookIn name od=some (mA name):=
 let ⟨od,ho,hl⟩:=Oj I.ns
 ⟨od,⟨I.obj,Z,Z,ho⟩,hl⟩
section
variable{prog:Program}{w:World}{A:Around}{E:Value->Shared->Prop}{s:Shared}{K:PySem.W.Frag}{x dx C f:Addr}{mA:Str->Option Value}{name:Str}{v:Value}
theorem get_map{expr:Bool}{Q:Value->Shared->Prop}(X:K.In s.heap)(I:JZ s.heap x dx C mA)(hg:PySem.W.plainGet K C name=true)(hh:PySem.W.hasDictIn K C=true)(ha:PySem.W.findIn K (.ref C) name=some none)(hv:mA name=some v)(hv':PySem.W.handedIn v=true)(h:Q v {s with toks:=s.toks+1}):
 wpAny (model prog w) A (getAttr (.ref x) name expr) Q E s:=by
 obtain⟨od,J,hl⟩:=I.look;exact PySem.W.get_value X J (PySem.W.plainGet_of hg).1 (PySem.W.findObj_own hh ha rfl (by rw[hl,hv])) hv' h
theorem SJ{pl:Sem Bool}{Q:Value×List Value->Shared->Prop}(X:K.In s.heap)(I:JZ s.heap x dx C mA)(hg:PySem.W.plainGet K C name=true)(hf:PySem.W.findIn K (.ref C) name=some (some (.ref f)))(ht:PySem.W.isFn K (.ref f)=true)(hv:mA name=none)(h:Q (.ref f,[.ref x]) s):
 wpAny (model prog w) A (getMethod (.ref x) name pl) Q E s:=by
 obtain⟨od,J,hl⟩:=I.look;exact PySem.W.method_fn X J (PySem.W.plainGet_of hg).1 (PySem.W.plainGet_of hg).2 hf (beq_iff_eq.mp ht) (by show (PySem.W.lookIn name od).map (·.isSome)=some false;rw[hl,hv];rfl) h
theorem Vk{ns:List Str}{Q:Unit->Shared->Prop}(X:K.In s.heap)(I:JZ s.heap x dx C mA)(hs:PySem.W.findIn K (.ref C) "__setattr__" = some (some (.builtin "object.__setattr__")))(hp:PySem.W.plainOver K C=true)(ht:PySem.W.takerIn K C name=some none)(hh:PySem.W.hasDictIn K C=true)(hw:PySem.Within mA ns)(hsz:ns.length<=sizeLine)(h:∀h',JZ h' x dx C (λy=>if y=name then some v else mA y)->Heap.SameBut dx s.heap h'->Q () {s with heap:=h',toks:=s.toks+2}):
 wpAny (model prog w) A (setAttr (.ref x) name v) Q E s:=by
 obtain⟨od,J,hl⟩:=I.look;refine PySem.W.set_plain X J hs (PySem.W.osa_open (s:={s with toks:=s.toks+1}) (r:=none) X J hp ht λb=>?_);obtain⟨cd,hc,hd'⟩:=PySem.W.any_some hh;have hx:s.heap.get? x=some ⟨.ref C,some dx,.plain, #[]⟩:=I.obj;refine aaH (aaI (aaH (aaH (wpAny_loadPart hx (aaH (PySem.W.Looks.here (s:={s with toks:=s.toks+1}) (PySem.W.looks_clsIn X hc) ?_))))));rw[hd'];refine aaI (a:=some dx) (aaH (aaI (aaH ?_)));refine wpAny_nsSet1 (s:={s with toks:=s.toks+1}) I.ns λh' hn2 hs2=>?_;obtain⟨oD,esD,epD,hoD,hdD,hcD⟩:=hn2.count (PySem.Within.cons name v hw);refine aaH (wpAny_lookBehind hoD (by rw[hdD];exact pastItsLine_dict (abX hcD (by rw[abE];lia))) ?_);exact aaI (h _ ⟨(hs2.2 _ (Ne.symm I.ne)).trans I.obj,hn2,I.ne⟩ hs2)
theorem GJ{R:Result->Shared->Prop}{vs:List Value}{kw:List (Str×Value)}(X:K.In s.heap)(hm:PySem.W.makesIn K C=true)(hi:PySem.W.findIn K (.ref C) "__init__" = some (some (.ref f)))(hf:PySem.W.typeIn K (.ref f)=some (.type "function"))(h:codeAny (model prog w) (A.under (.builtin "type.__call__" ⟨.ref C::vs,kw⟩)) (.call (.ref f) ⟨.ref (s.heap.objs.size+1)::vs,kw⟩) (PySem.W.InitBack (s.heap.objs.size+1) R)
   {s with heap:=(s.heap.push PySem.W.emptyDict).push (PySem.W.instObj C s.heap.objs.size)}):
 codeAny (model prog w) A (.call (.ref C) ⟨vs,kw⟩) R s:=by
 obtain⟨hh,g,d,t,os⟩:=s;exact PySem.W.make_core (PySem.W.makes_of X hm) (PySem.W.looks_findIn X hi) (λself=>PySem.W.bind_fn X self hf) (.inl rfl) h
end
noncomputable def dg(f:Str)(v:V):List (Str×V)->List (Str×V)
 | []=>[(f,v)]
 | (g,x)::r=>if g=f then (g,v)::r else (g,x)::dg f v r
theorem vD(f g:Str)(v:V):∀fs:List (Str×V),(dg f v fs).lookup g=if g=f then some v else fs.lookup g
 | []=>by
   show List.lookup g [(f,v)]=_
   by_cases h:g=f
   .have hb:(g==f)=true:=beq_iff_eq.mpr h
    simp only[List.lookup,hb,ab9 h]
   .have hb:(g==f)=false:=beq_eq_false_iff_ne.mpr h
    simp only[List.lookup,hb,ab6 h]
 | (k,x)::r=>by
   have ih:=vD f g v r;rw[show dg f v ((k,x)::r)=(if k=f then (k,v)::r else (k,x)::dg f v r) from rfl]
   by_cases hk:k=f
   .rw[ab9 hk]
    by_cases h:g=k
    .have hb:(g==k)=true:=beq_iff_eq.mpr h
     simp only[List.lookup,hb,ab9 (h.trans hk)]
    .have hb:(g==k)=false:=beq_eq_false_iff_ne.mpr h
     simp only[List.lookup,hb,ab6 (λe:g=f=>h (e.trans hk.symm))]
   .rw[ab6 hk]
    by_cases h:g=k
    .have hb:(g==k)=true:=beq_iff_eq.mpr h
     simp only[List.lookup,hb,ab6 (λe:g=f=>hk (h.symm.trans e))]
    .have hb:(g==k)=false:=beq_eq_false_iff_ne.mpr h
     simp only[List.lookup,hb];exact ih
theorem uT(f:Str)(v:V):∀fs:List (Str×V),f∈(dg f v fs).map (·.1) /\ ∀g,g∈fs.map (·.1)->g∈(dg f v fs).map (·.1)
 | []=>⟨by simp[dg],λg h=>by simp at h⟩
 | (k,x)::r=>by
   obtain⟨i1,i2⟩:=uT f v r;rw[show dg f v ((k,x)::r)=(if k=f then (k,v)::r else (k,x)::dg f v r) from rfl]
   by_cases hk:k=f
   .rw[ab9 hk]
    subst hk;exact⟨by simp,λg h=>by simpa using h⟩
   .rw[ab6 hk]
    refine⟨?_,λg h=>?_⟩
    .rw[List.map_cons]
     exact aa1 _ i1
    .rw[List.map_cons] at h ⊢
     rcases List.mem_cons.mp h with e|e
     .exact List.mem_cons.mpr (.inl e)
     .exact aa1 _ (i2 g e)
theorem vG(f:Str)(v:V):∀fs:List (Str×V),(dg f v fs).length<=fs.length+1
 | []=>by simp[dg]
 | (k,x)::r=>by
   have ih:=vG f v r;rw[show dg f v ((k,x)::r)=(if k=f then (k,v)::r else (k,x)::dg f v r) from rfl]
   by_cases hk:k=f
   .rw[ab9 hk,abE,abE];lia
   .rw[ab6 hk,abE,abE];lia
theorem nU.some_of{v:V}{o:Option Value}(r:nU (some v) o):∃u,o=some u/\RelV v u:=by
 cases o with
 | none=>exact(show False from r).elim
 | some u=>exact⟨u,Z,r⟩
theorem nU.none_of{o:Option Value}(r:nU none o):o=none:=by
 cases o with
 | none=>rfl
 | some u=>exact(show False from r).elim
theorem Ow{v:V}{u:Value}(r:RelV v u):PySem.W.handedIn u=true:=by
 cases v with
 | non=>cases (show u=Value.none from r);rfl
 | bl b=>cases (show u=Value.bool b from r);rfl
 | int i=>obtain⟨t,e⟩:=(show ∃t,u=Value.int i t from r);cases e;rfl
 | str x=>obtain⟨t,e⟩:=(show ∃t,u=Value.str x t from r);cases e;rfl
 | JN b=>obtain⟨t,e⟩:=(show ∃t,u=Value.bytes b t from r);cases e;rfl
 | flt b=>obtain⟨t,e⟩:=(show ∃t,u=Value.float b t from r);cases e;rfl
 | ref a=>cases (show u=Value.ref a from r);rfl
 | ty n=>cases (show u=Value.type n from r);rfl
section
variable{P:Program}{w:World}{H H':Hp}{h h':Heap}{a C dx:Addr}{fs fs':List (Str×V)}
theorem wV(hok:mF P w H h)(e:H a=some (.ins C dx fs)):∃mA,JZ h a dx C mA/\(∀f,nU (fs.lookup f) (mA f))/\PySem.Within mA (fs.map (·.1))/\fs.length<=1000/\H dx=some (.own a):=by
 obtain⟨d,z,ne,ob,mA,n,r,q⟩:=(show cU P w H h a (.ins C dx fs) from hok a _ e);exact⟨mA,⟨ob,n,ne⟩,r,q,z,d⟩
end
structure Cls(K:PySem.W.Frag)(C:Addr):Prop where
 pg:PySem.W.plainGet K C Str.empty=true
 hd:PySem.W.hasDictIn K C=true
 po:PySem.W.plainOver K C=true
 sa:PySem.W.findIn K (.ref C) "__setattr__" = some (some (.builtin "object.__setattr__"))
theorem Cls.get{K:PySem.W.Frag}{C:Addr}(c:Cls K C)(f:Str):PySem.W.plainGet K C f=true:=c.pg
noncomputable def gU(K:PySem.W.Frag)(C:Addr)(f:Str):Prop:=PySem.W.findIn K (.ref C) f=some none
theorem gU.taker{K:PySem.W.Frag}{C:Addr}{f:Str}(n:gU K C f):PySem.W.takerIn K C f=some none:=by
 unfold PySem.W.takerIn;rw[show PySem.W.findIn K (.ref C) f=some none from n];rfl
structure Meth(K:PySem.W.Frag)(C:Addr)(m:Str)(f:Addr):Prop where
 at_:PySem.W.findIn K (.ref C) m=some (some (.ref f))
 fn:PySem.W.isFn K (.ref f)=true
 kp:PySem.W.keepIn K (.ref f)=true
section
variable{X:Cx}{pins:List (Addr×Obj)}{σ:St}{H:Hp}{s:Shared}{a C dx:Addr}{fs:List (Str×V)}{f:Str}{v:V}{A:Around}{E:Value->Shared->Prop}
theorem yZ{b:Bool}{Q:Value->Shared->Prop}(I:Inv X pins σ H s)(e:H a=some (.ins C dx fs))(c:Cls X.K C)(n:gU X.K C f)(l:fs.lookup f=some v)(h:∀u s',Inv X pins σ H s'->RelV v u->Q u s'):wpAny (model X.prog X.w) A (getAttr (.ref a) f b) Q E s:=by
 obtain⟨mA,O,r,_,_,_⟩:=wV I.hok e;obtain⟨u,hu,ru⟩:=nU.some_of (v:=v) (o:=mA f) (by rw[←l];exact r f);exact get_map I.nW O (c.get f) c.hd n hu (Ow ru) (h u _ (I.tok _) ru)
theorem rD{m:Str}{g:Addr}{pl:Sem Bool}{Q:Value×List Value->Shared->Prop}(I:Inv X pins σ H s)(e:H a=some (.ins C dx fs))(c:Cls X.K C)(k:Meth X.K C m g)(l:fs.lookup m=none)(h:Q (.ref g,[.ref a]) s):wpAny (model X.prog X.w) A (getMethod (.ref a) m pl) Q E s:=by
 obtain⟨mA,O,r,_,_,_⟩:=wV I.hok e;have hn:mA m=none:=nU.none_of (by rw[←l];exact r m);exact SJ I.nW O (c.get m) k.at_ k.fn hn h
theorem xW{y:V}{u:Value}{Q:Unit->Shared->Prop}(I:Inv X pins σ H s)(e:H a=some (.ins C dx fs))(c:Cls X.K C)(n:gU X.K C f)(hl:fs.length<1000)(ry:RelV y u)(h:∀s',Inv X pins σ (upd H a (.ins C dx (dg f y fs))) s'->Q () s'):wpAny (model X.prog X.w) A (setAttr (.ref a) f u) Q E s:=by
 obtain⟨mA,O,r,wi,_,ho⟩:=wV I.hok e;have hz:(fs.map (·.1)).length<=sizeLine:=by rw[aad,sizeLine_eq];lia
 refine Vk I.nW O c.sa c.po n.taker c.hd wi hz λh' O' sb=>h _ ?_;have hd:∃o,h'.get? dx=some o:=let ⟨o,_,_,e',_⟩:=O'.ns;⟨o,e'⟩
 refine I.write (x:=a) (e:=dx) (by rw[e];exact True.intro) (.inr ho) (λb q hb z=>(sb.2 b hb).trans z) hd ?_;refine⟨by rw[aF O.ne];exact ho, ?_,O.ne,O'.obj,_,O'.ns,λg=>?_,λg hg=>?_⟩
 .have:=vG f y fs;lia
 .show nU ((dg f y fs).lookup g) (if g=f then some u else mA g)
  rw[vD]
  by_cases q:g=f
  .rw[ab9 q,ab9 q];exact ry
  .rw[ab6 q,ab6 q];exact r g
 .by_cases q:g=f
  .rw[q];exact(uT f y fs).1
  .refine(uT f y fs).2 g (wi g λz=>hg ?_)
   show (if g=f then some u else mA g)=none;rw[ab6 q];exact z
theorem Inv.made(I:Inv X pins σ H s):Inv X pins σ (upd (upd H s.heap.objs.size (.own (s.heap.objs.size+1))) (s.heap.objs.size+1) (.ins C s.heap.objs.size []))
 {s with heap:=(s.heap.push PySem.W.emptyDict).push (PySem.W.instObj C s.heap.objs.size)}:=by
 have e1:(s.heap.push PySem.W.emptyDict).get? s.heap.objs.size=some PySem.W.emptyDict:=aam s.heap rfl
 have e2:((s.heap.push PySem.W.emptyDict).push (PySem.W.instObj C s.heap.objs.size)).get? (s.heap.objs.size+1)=some (PySem.W.instObj C s.heap.objs.size):=by
  have:=aam (s.heap.push PySem.W.emptyDict) (o:=PySem.W.instObj C s.heap.objs.size) rfl;rwa [Heap.size_push] at this
 have e3:(s.heap.push PySem.W.emptyDict).Ns s.heap.objs.size (λ_=>none):=⟨PySem.W.emptyDict, #[],_,e1,Z,(λe he=>acq he (by simp)),λ_=>rfl⟩;have I1:=I.laid (a:=s.heap.objs.size) (o:= .own (s.heap.objs.size+1)) (h':=s.heap.push PySem.W.emptyDict) (t':=s.toks) (λb u q=>aaj _ q) (aaG _) ⟨_,e1⟩;refine I1.laid (a:=s.heap.objs.size+1) (o:= .ins C s.heap.objs.size []) (t':=s.toks) (λb u q=>aaj _ q) (Nat.le_of_eq (Heap.size_push _ _)) ?_;have ne:s.heap.objs.size≠s.heap.objs.size+1:=aaW (Nat.lt_succ_self _);refine⟨by rw[aF ne,ak],Nat.zero_le _,ne,e2,λ_=>none,(Heap.Ns1.of_empty e3).at λo q=>aaj _ q,λ_=>True.intro,λy hy=>acq rfl hy⟩
theorem Xf{prog:Program}{w:World}{env:Env}{e:Expr}{f:Str}{pos:Pos}{s:Shared}{Q:Value->Shared->Prop}(hb:attributeBase e f env (eval e env)=eval e env)(h:wpAny (model prog w) A (eval e env) (λo s₁=>wpAny (model prog w) A (getAttr o f true) Q E s₁) E s):wpAny (model prog w) A (eval (.Attribute e f pos) env) Q E s:=
 Attribute_any_ h (by rw[arm_eval_Attribute,hb])
end
noncomputable def abp(K:PySem.W.Frag)(ta:TE)(f:Str):TE:=λσ H Q=>ta σ H λx H1=>∃a C dx fs v,x = .ref a/\H1 a=some (.ins C dx fs)/\Cls K C/\gU K C f/\fs.lookup f=some v/\Q v H1
noncomputable def abB(K:PySem.W.Frag)(ta tv:TE)(f:Str):TS:=λD σ H=>tv σ H λy H1=>ta σ H1 λx H2=>∃a C dx fs,x = .ref a/\H2 a=some (.ins C dx fs)/\Cls K C/\gU K C f/\fs.length<1000 /\
 D.nx σ (upd H2 a (.ins C dx (dg f y fs)))
noncomputable def ac5(X:Cx)(op:Operator)(rd:V->V->Hp->VK->Prop):Prop:=
 ∀(pins:List (Addr×Obj))(s:Shared)(σ:St)(H:Hp)(x y:V)(u v:Value)(Q:VK),Inv X pins σ H s->RelV x u->RelV y v->rd x y H Q->wpAny (model X.prog X.w) X.A (inplaceOp op u v) (EP X pins σ Q) X.xe s
noncomputable def KZ(K:PySem.W.Frag)(ta tv:TE)(rd:V->V->Hp->VK->Prop)(f:Str):TS:=λD σ H=>ta σ H λx H1=>∃a C dx fs v,x = .ref a/\H1 a=some (.ins C dx fs)/\Cls K C/\gU K C f/\fs.lookup f=some v /\
 tv σ H1 λy H2=>rd v y H2 λz H3=>∃dx' fs',H3 a=some (.ins C dx' fs')/\fs'.length<1000/\D.nx σ (upd H3 a (.ins C dx' (dg f z fs')))
section
variable{X:Cx}{o e value:Expr}{f:Str}{pos pos' tpos:Pos}{ta tv:TE}
theorem Zk(he:PE X e ta)(hb:attributeBase e f X.env (eval e X.env)=eval e X.env):PE X (.Attribute e f pos) (abp X.K ta f):=by
 intro pins s σ H Q I h;refine Xf hb (cZ (he pins s σ H _ I h) λu s1 iB=>?_);obtain⟨x,H1,I1,rx,a,C,dx,fs,v,ex,ea,c,n,l,q⟩:=iB;subst ex;obtain rfl:u=Value.ref a:=rx;exact yZ I1 ea c n l λu' s2 I2 ru=>⟨v,H1,I2,ru,q⟩
theorem Zc(ha:PE X o ta)(hv:PE X value tv)(hs:swapsWith value (some (.Attribute o f pos')) pos.line X.env=pure false):PS X (.Assign [.Attribute o f pos'] value pos) (abB X.K ta tv f):=by
 intro pins s σ H D I h;refine plainObj_wpAny_Assign_Attribute (cZ (hv pins s σ H _ I h) λu s1 ⟨y,H1,I1,ry,q⟩=>cZ (ha pins s1 σ H1 _ I1 q) λov s2 ⟨x,H2,I2,rx,a,C,dx,fs,ex,ea,c,n,l,q2⟩=>?_) hs;subst ex;obtain rfl:ov=Value.ref a:=rx;exact xW I2 ea c n l ry λs3 I3=>⟨σ,_,I3,q2⟩
theorem Nu{op:Operator}{rd:V->V->Hp->VK->Prop}(ha:PE X o ta)(hv:PE X value tv)(hop:ac5 X op rd):PS X (.AugAssign (.Attribute o f tpos) op value pos) (KZ X.K ta tv rd f):=by
 intro pins s σ H D I h;refine wpAny_AugAssign_AttributeAny (cZ (ha pins s σ H _ I h) λov s1 iB=>?_);obtain⟨x,H1,I1,rx,a,C,dx,fs,v,ex,ea,c,n,l,q⟩:=iB;subst ex;obtain rfl:ov=Value.ref a:=rx;refine yZ I1 ea c n l λu s2 I2 ru=>cZ (hv pins s2 σ H1 _ I2 q) λw3 s3 ⟨y,H2,I3,ry,q3⟩=>cZ (hop pins s3 σ H2 v y u w3 _ I3 ru ry q3) λw4 s4 iB=>?_;obtain⟨z,H3,I4,rz,dx',fs',ea',l',q4⟩:=iB;exact xW I4 ea' c n l' rz λs5 I5=>⟨σ,_,I5,q4⟩
end
section
variable{X:Cx}{pins:List (Addr×Obj)}{σ:St}{H:Hp}{s:Shared}{A:Around}{E:Value->Shared->Prop}{Q:Value->Shared->Prop}{c:Value}{b:Bool}
inductive tV(K:PySem.W.Frag)(H:Hp):V->Value->Prop where
 | non:tV K H .non (.type "NoneType")
 | bl (x:Bool):tV K H (.bl x) (.type "bool")
 | int (i:Int):tV K H (.int i) (.type "int")
 | str (x:Str):tV K H (.str x) (.type "str")
 | flt (x:UInt64):tV K H (.flt x) (.type "float")
 | lst {a:Addr} {xs:List V} (e:H a=some (.lst xs)):tV K H (.ref a) (.type "list")
 | m_ {a:Addr} {o:Obj} {xs:List V} (e:H a=some (.m_ o (.lst xs))):tV K H (.ref a) (.type "list")
 | tup {a:Addr} {xs:List V} (e:H a=some (.tup xs)):tV K H (.ref a) (.type "tuple")
 | dK {a:Addr} {kvs:List (Key×V)} (e:H a=some (.dK kvs)):tV K H (.ref a) (.type "dict")
 | dT {a:Addr} {kvs:List (List Key×V)} (e:H a=some (.dT kvs)):tV K H (.ref a) (.type "dict")
 | ins {a C dx:Addr} {fs:List (Str×V)} (e:H a=some (.ins C dx fs)) (cl:Cls K C) (ha:PySem.W.findIn K (.ref C) "__class__" = some (some (.builtin "object.__class__")))
    (hn:PySem.W.specialIn K (.builtin "object.__class__") "__get__" = some (some (.builtin "getset_descriptor.__get__"))) (htk:PySem.W.takesIn K (.builtin "object.__class__")=some true)
    (hm:PySem.W.mroIn K C (.type "object")=some true):tV K H (.ref a) (.ref C)
theorem Oq{x:V}{u t:Value}(I:Inv X pins σ H s)(rx:RelV x u)(ty:tV X.K H x t)(e:PySem.W.kitOne X.K t c=some b)(h:∀tk,Q (.bool b) {s with toks:=tk}):
 wpAny (model X.prog X.w) A (call (.builtin "isinstance") [u,c]) Q E s:=by
 cases ty with
 | non=>cases (show u=Value.none from rx);exact PySem.W.kia_one PySem.W.kitx_none I.nW True.intro e (λz=>nomatch z) h
 | bl y=>cases (show u=Value.bool y from rx);exact PySem.W.kia_one PySem.W.kitx_bool I.nW True.intro e (λz=>nomatch z) h
 | int i=>obtain⟨t,q⟩:=(show ∃t,u=Value.int i t from rx);cases q;exact PySem.W.kia_one PySem.W.kitx_int I.nW True.intro e (λz=>nomatch z) h
 | str y=>obtain⟨t,q⟩:=(show ∃t,u=Value.str y t from rx);cases q;exact PySem.W.kia_one PySem.W.kitx_str I.nW True.intro e (λz=>nomatch z) h
 | flt y=>obtain⟨t,q⟩:=(show ∃t,u=Value.float y t from rx);cases q;exact PySem.W.kia_one PySem.W.kitx_float I.nW True.intro e (λz=>nomatch z) h
 | @lst a xs ea=>
   cases (show u=Value.ref a from rx);obtain⟨_,_,n,_,h1⟩:=(show cU X.prog X.w H s.heap a (.lst xs) from I.hok a _ ea);exact PySem.W.kia_one PySem.W.kitx_list I.nW ⟨_,h1,Z⟩ e (λz=>nomatch z) h
 | @m_ a ob xs ea=>
   cases (show u=Value.ref a from rx);obtain⟨_,_,_,n,_,h1⟩:=(show cU X.prog X.w H s.heap a (.m_ ob (.lst xs)) from I.hok a _ ea);exact PySem.W.kia_one PySem.W.kitx_list I.nW ⟨_,h1,Z⟩ e (λz=>nomatch z) h
 | @tup a xs ea=>
   cases (show u=Value.ref a from rx);obtain⟨_,_,_,p⟩:=(show cU X.prog X.w H s.heap a (.tup xs) from I.hok a _ ea);obtain⟨o,h1,h2,_⟩:=p;exact PySem.W.kia_one PySem.W.kitx_tuple I.nW ⟨o,h1,h2⟩ e (λz=>nomatch z) h
 | @dK a kvs ea=>
   cases (show u=Value.ref a from rx);obtain⟨_,_,vs,_,p⟩:=(show cU X.prog X.w H s.heap a (.dK kvs) from I.hok a _ ea);obtain⟨o,es,ep,h1,h2,_⟩:=p;exact PySem.W.kia_one PySem.W.kitx_dict I.nW ⟨o,h1,h2.1⟩ e (λz=>nomatch z) h
 | @dT a kvs ea=>
   cases (show u=Value.ref a from rx);obtain⟨_,_,xs,_,o,es,ep,h1,h2,_⟩:=(show cU X.prog X.w H s.heap a (.dT kvs) from I.hok a _ ea);exact PySem.W.kia_one PySem.W.kitx_dict I.nW ⟨o,h1,h2.1⟩ e (λz=>nomatch z) h
 | @ins a C dx fs ea cl ha hn htk hm=>
   cases (show u=Value.ref a from rx);obtain⟨mA,O,_⟩:=wV I.hok ea;obtain⟨od,J,_⟩:=O.look;exact PySem.W.kia_one (PySem.W.kitx_own (cl.get _) cl.hd ha hn htk hm) I.nW J e (λz=>nomatch z) h
end
structure fM(k:Nat)(A:Around):Prop where
 hd:A.handled=none
 dp:A.depth+3*k+5<recursionLimit
 un:A.units+16*k+200<cLine
theorem fM.mono{j k:Nat}{A:Around}(r:fM k A)(h:j<=k):fM j A:=⟨r.hd,by have:=r.dp;lia,by have:=r.un;lia⟩
theorem fM.deeper{k:Nat}{A:Around}(r:fM (k+1) A)(env:Env):fM k (A.deeper env):=
 ⟨r.hd,by have:=r.dp;show A.depth+1+3*k+5<_;lia,by have:=r.un;show A.units+3+16*k+200<_;lia⟩
theorem Jr{A:Around}{C:Addr}{us:List Value}{kw:List (Str×Value)}:(A.under (.builtin "type.__call__" ⟨.ref C::us,kw⟩)).depth=A.depth+1:=by
 first |rfl|simp[Around.under,Code.weight,Code.isCreation,Code.isGuard,Code.isCaller,Code.frames,Code.isFrame,guardIds]
theorem Jq{A:Around}{C:Addr}{us:List Value}{kw:List (Str×Value)}:(A.under (.builtin "type.__call__" ⟨.ref C::us,kw⟩)).units=A.units+1:=by
 first |rfl|simp[Around.under,Code.cUnits,Code.frames,Code.isFrame]
theorem fM.make{k:Nat}{A:Around}(r:fM (k+1) A)(C:Addr)(us:List Value)(kw:List (Str×Value)):fM k (A.under (.builtin "type.__call__" ⟨.ref C::us,kw⟩)):=
 ⟨r.hd,by have:=r.dp;rw[Jr];lia,by have:=r.un;rw[Jq];lia⟩
theorem fM.depth{k:Nat}{A:Around}(r:fM k A):A.depth<recursionLimit:=by have:=r.dp;lia
theorem fM.units{k:Nat}{A:Around}(r:fM k A):A.units+64<cLine:=by have:=r.un;lia
noncomputable def lF:TA:=λ_ H Q=>Q [] H
noncomputable def lg(ta:TE)(tr:TA):TA:=λσ H Q=>ta σ H λx H1=>tr σ H1 λxs H2=>Q (x::xs) H2
section
variable{X:Cx}{e:Expr}{es:List Expr}{te:TE}{t:TA}{pos:Pos}
theorem ao:PA X [] lF:=λ_ _ _ _ H Q I h=>Calls.spliced_nil ⟨[],H,I,.nil,h⟩
theorem aj(ha:PE X e te)(hr:PA X es t)(hs:starEach (e::es) X.env=(false,eval e X.env)::starEach es X.env:=by rfl):PA X (e::es) (lg te t):=by
 intro pos pins s σ H Q I h;rw[hs];show wpAny _ _ (spliced ((false,eval e X.env)::backTo pos (starEach es X.env))) _ _ s;refine Calls.spliced_cons (cZ (ha pins s σ H _ I h) λu s1 iB=>?_);obtain⟨x,H1,I1,r1,q1⟩:=iB;exact cZ (hr pos pins s1 σ H1 _ I1 q1) λus s2 ⟨xs,H2,I2,r2,q2⟩=>⟨x::xs,H2,I2,.cons r1 r2,q2⟩
noncomputable def abf(t:TA):TE:=λσ H Q=>t σ H λxs H1=>xs.length<=sizeLine /\ ∀p,H1 p=none->Q (.ref p) (upd H1 p (.tup xs))
noncomputable def abm(t:TA):TE:=λσ H Q=>t σ H λxs H1=>xs.length<=sizeLine /\ ∀p,H1 p=none->Q (.ref p) (upd H1 p (.lst xs))
theorem cO{x1}(h:PA X es t):PE X (.Tuple es x1 pos) (abf t):=by
 intro pins s σ H Q I hq;refine wpAny_Tuple_spliced (cZ (h pos pins s σ H _ I hq) λus s1 ⟨xs,H1,I1,r,z,q⟩=>⟨by rw[←r.length];exact z, ?_⟩);have hf:H1 s1.heap.objs.size=none:=I1.hok.fresh (aaG _);refine⟨.ref s1.heap.objs.size,upd H1 s1.heap.objs.size (.tup xs),I1.laid (t':=s1.toks) (λb u e=>aaj _ e) (aaG _) ?_,Z,q _ hf⟩;exact⟨z,us,r,⟨_,aam _ rfl,Z,_,Z⟩⟩
theorem bK(h:PA X es t):PE X (.List es pos) (abm t):=by
 intro pins s σ H Q I hq;refine wpAny_List_spliced (cZ (h pos pins s σ H _ I hq) λus s1 ⟨xs,H1,I1,r,z,q⟩=>⟨by rw[←r.length];exact z, ?_⟩);have hf:H1 s1.heap.objs.size=none:=I1.hok.fresh (aaG _);refine⟨.ref s1.heap.objs.size,upd H1 s1.heap.objs.size (.lst xs),I1.laid (t':=s1.toks) (λb u e=>aaj _ e) (aaG _) ?_,Z,q _ hf⟩;exact⟨z,us,0,r,aam _ rfl⟩
end
noncomputable abbrev Sp:=List V->Hp->VK->XK->Prop
noncomputable abbrev Qd:=List Env->Hp->Shared->XK->Value->Shared->Prop
structure J8(P:Program)(w:World)(K:PySem.W.Frag)(mg:Str->Option Value)(base:Heap)(A:Around)(outer:List Env)(s:Shared)(H:Hp):Prop where
 frames:A.frames=some outer
 mod:Mod K mg base
 bs:∀b o,base.get? b=some o->s.heap.get? b=some o/\H b=none
 Px:base.objs.size<=s.heap.objs.size
 pC:s.heap.FunFrames base outer
 S5:∀b∈frs outer,H b=none
 hok:mF P w H s.heap
 bare:AllBare s.gens
noncomputable def CE(outer:List Env)(P:Program)(w:World)(H:Hp)(s:Shared)(Q:VK)(u:Value)(s':Shared):Prop:=
 ∃v H',s'.os=s.os/\AllBare s'.gens/\Un (frs outer) [] H H' s.heap s'.heap/\mF P w H' s'.heap/\RelV v u/\Q v H'
noncomputable def CR(CX:Qd)(outer:List Env)(P:Program)(w:World)(H:Hp)(s:Shared)(Q:VK)(E:XK)(r:Result)(s':Shared):Prop:=
 match r with
 | .ok (.ret u)=>CE outer P w H s Q u s'
 | .ok _=>False
 | .error e=>CX outer H s E e s'
structure bN(P:Program)(w:World)(K:PySem.W.Frag)(mg:Str->Option Value)(base:Heap)(CX:Qd)(k:Nat)(f:Addr)(fd:FuncData)(ps:List Str)(sp:Sp):Prop where
 len:∀vs H Q E,sp vs H Q E->vs.length=ps.length
 run:∀(A:Around)(outer:List Env)(s:Shared)(H:Hp)(args:Args)(us:List Value)(vs:List V)(Q:VK)(E:XK),fM k A->J8 P w K mg base A outer s H->BindsTo s fd args (ps.zip us)->Vals vs us->sp vs H Q E ->
  codeAny (model P w) A (.call (.ref f) args) (CR CX outer P w H s Q E) s
theorem J8.make{P:Program}{w:World}{K:PySem.W.Frag}{mg:Str->Option Value}{base:Heap}{A:Around}{outer:List Env}{s:Shared}{H:Hp}(e:J8 P w K mg base A outer s H)(C:Addr)(us:List Value)(kw:List (Str×Value)):
 J8 P w K mg base (A.under (.builtin "type.__call__" ⟨.ref C::us,kw⟩)) outer s H:=⟨by first |exact e.frames|(simpa [Around.under,Code.envs,Code.isFrame,pushEnvs] using e.frames),e.mod,e.bs,e.Px,e.pC,e.S5,e.hok,e.bare⟩
section
variable{X:Cx}{pins:List (Addr×Obj)}{σ:St}{H:Hp}{s s':Shared}
theorem Inv.env0(I:Inv X pins σ H s):J8 X.prog X.w X.K X.mg X.base X.A X.stack s H:=
 ⟨I.ok.frames,I.ok.mod,I.bs,abX I.ok.Px I.sz,I.stack,I.Cm,I.hok,I.bare⟩
theorem Inv.after{Q:VK}{u:Value}(I:Inv X pins σ H s)(h:CE X.stack X.prog X.w H s Q u s'):EP X pins σ Q u s':=by
 obtain⟨v,H',os,bare,un,hok,r,q⟩:=h;obtain⟨hh,g,d,t,os'⟩:=s';obtain rfl:os'=s.os:=os;exact⟨v,H',I.call (h':=hh) (g':=g) (d':=d) (t':=t) (ch:=[]) un hok bare (λb z=>acq z (by simp)),r,q⟩
end
noncomputable def Az(sp:Sp)(ni:List V)(E:XK)(t:TA):TE:=λσ H Q=>t σ H λvs H1=>sp (vs++ni) H1 Q E
noncomputable def Ky(C:Addr)(m:Str)(sp:Sp)(ni:List V)(E:XK)(ta:TE)(t:TA):TE:=λσ H Q=>ta σ H λx H1=>∃a dx fs,x = .ref a/\H1 a=some (.ins C dx fs)/\fs.lookup m=none /\
 t σ H1 λvs H2=>sp (x::(vs++ni)) H2 Q E
noncomputable def XD(C:Addr)(sp:Sp)(ni:List V)(E:XK)(t:TA):TE:=λσ H Q=>t σ H λvs H1=>∀x dx,H1 x=none->H1 dx=none->dx≠x ->
 sp (.ref x::(vs++ni)) (upd (upd H1 dx (.own x)) x (.ins C dx [])) (λv H2=>v = .non/\Q (.ref x) H2) E
noncomputable def Binds(K:PySem.W.Frag)(fd:FuncData)(ps:List Str)(ds:List Value):Prop:=
 ∀(s:Shared)(us:List Value),K.In s.heap->(us++ds).length=ps.length->BindsTo s fd ⟨us,[]⟩ (ps.zip (us++ds))
theorem Binds.all{K:PySem.W.Frag}{fd:FuncData}{ps:List Str}(h:∀us:List Value,us.length=ps.length->bindArgs fd ⟨us,[]⟩=pure (ps.zip us)):Binds K fd ps []:=λs us _ hl=>by
 rw[List.append_nil] at hl ⊢;exact .of_eq (h us hl)
noncomputable def Passes(CX:Qd)(X:Cx)(E:XK):Prop:=∀(pins:List (Addr×Obj))(σ:St)(H:Hp)(s:Shared)(e:Value)(s':Shared),Inv X pins σ H s->CX X.stack H s E e s'->X.xe e s'
section
variable{X:Cx}{CX:Qd}{k:Nat}{f C:Addr}{fd:FuncData}{ps:List Str}{sp:Sp}{ni:List V}{ds:List Value}{E:XK}{x m:Str}{p pos apos:Pos}{e o:Expr}{es:List Expr}{ta:TE}{t:TA}
theorem Iw{pins:List (Addr×Obj)}{σ:St}{H:Hp}{s:Shared}{Q:VK}{us:List Value}{vs:List V}(F:bN X.prog X.w X.K X.mg X.base CX k f fd ps sp)(hr:fM k X.A)(hb:Binds X.K fd ps ds)(hd:Vals ni ds)(hx:Passes CX X E)(I:Inv X pins σ H s)(r:Vals vs us)(h:sp (vs++ni) H Q E):wpAny (model X.prog X.w) X.A (call (.ref f) us) (EP X pins σ Q) X.xe s:=by
 have r2:Vals (vs++ni) (us++ds):=r.append hd;have hl:(us++ds).length=ps.length:=by rw[←r2.length];exact F.len _ _ _ _ h
 refine wpAny_call (codeAny_mono (F.run X.A X.stack s H ⟨us,[]⟩ (us++ds) (vs++ni) Q E hr I.env0 (hb s us I.nW hl) r2 h) λr s' hq=>?_);cases r with
 | error e=>exact hx pins σ H s e s' I hq
 | ok fl=>
   cases fl with
   | ret u=>exact I.after hq
   | next=>exact False.elim hq
   | brk=>exact False.elim hq
   | cont=>exact False.elim hq
theorem VB(F:bN X.prog X.w X.K X.mg X.base CX k f fd ps sp)(hr:fM k X.A)(hg:Gl X x)(hm:X.mg x=some (.ref f))(hk:PySem.W.keepIn X.K (.ref f)=true)(hb:Binds X.K fd ps ds)(hd:Vals ni ds)(hx:Passes CX X E)(ha:PA X (e::es) t)(hdb:(x==("__debug__" :Str))=false:=by decide)(he:starEach (e::es) X.env=(false,eval e X.env)::starEach es X.env:=by rfl)(hpl:(backTo pos (starEach es X.env)).any (·.1)=false:=by rfl):
 PE X (.Call (.Name x p) (e::es) [] pos) (Az sp ni E t):=by
 intro pins s σ H Q I h;refine wpAny_Call_Name_kw (lB I hg hm ?_ hdb);refine PySem.W.callWith_K (h₀:=X.base) I.ok.mod.Wi hk (cZ (ha pos pins s σ H _ I h) λus s1 ⟨vs,H1,I1,r,q⟩=>⟨I1.nW, ?_⟩) he hpl;exact Iw F hr hb hd hx I1 r q
theorem Vx{pl:Sem Bool}(he:PE X o ta)(c:Cls X.K C)(hm:Meth X.K C m f)(F:bN X.prog X.w X.K X.mg X.base CX k f fd ps sp)(hr:fM k X.A)(hb:Binds X.K fd ps ds)(hd:Vals ni ds)(hx:Passes CX X E)(ha:PA X (e::es) t)(hst:starEach (e::es) X.env=(false,eval e X.env)::starEach es X.env:=by rfl)(hpl:(backTo pos (starEach es X.env)).any (·.1)=false:=by rfl)(ht:eval (.Call (.Attribute o m apos) (e::es) [] pos) X.env=(do
   let ov ←eval o X.env
   standAt apos.atName
   let (f,first) ←holding [ov] (getMethod ov m pl)
   callWith pos f first (backTo pos (starEach (e::es) X.env)) (backToKw pos (keywordEach [] X.env))):=by rfl):
 PE X (.Call (.Attribute o m apos) (e::es) [] pos) (Ky C m sp ni E ta t):=by
 intro pins s σ H Q I h;refine PySem.W.methodCall_KW (pl:=pl) (cZ (he pins s σ H _ I h) λu s1 ⟨x,H1,I1,rx,a,dx,fs,ex,ea,l,q⟩=>?_) ht;subst ex;obtain rfl:u=Value.ref a:=rx;refine rD I1 ea c hm l ?_;refine PySem.W.callWith_K (first:=[.ref a]) (h₀:=X.base) I.ok.mod.Wi hm.kp (cZ (ha pos pins s1 σ H1 _ I1 q) λus s2 ⟨vs,H2,I2,r,q2⟩=>⟨I2.nW, ?_⟩) hst hpl;exact Iw (us:= .ref a::us) (vs:= .ref a::vs) F hr hb hd hx I2 (.cons rfl r) q2
theorem Rh{pl:Sem Bool}(he:PE X o ta)(c:Cls X.K C)(hm:Meth X.K C m f)(F:bN X.prog X.w X.K X.mg X.base CX k f fd ps sp)(hr:fM k X.A)(hb:Binds X.K fd ps ds)(hd:Vals ni ds)(hx:Passes CX X E)(ht:eval (.Call (.Attribute o m apos) [] [] pos) X.env=(do
   let ov ←eval o X.env
   standAt apos.atName
   let (f,first) ←holding [ov] (getMethod ov m pl)
   callWith pos f first (backTo pos (starEach [] X.env)) (backToKw pos (keywordEach [] X.env))):=by rfl):
 PE X (.Call (.Attribute o m apos) [] [] pos) (Ky C m sp ni E ta lF):=by
 intro pins s σ H Q I h;refine PySem.W.methodCall_KW (pl:=pl) (cZ (he pins s σ H _ I h) λu s1 ⟨x,H1,I1,rx,a,dx,fs,ex,ea,l,q⟩=>?_) ht;subst ex;obtain rfl:u=Value.ref a:=rx;refine rD I1 ea c hm l ?_;exact PySem.W.callWith_K0 (first:=[.ref a]) I1.nW hm.kp (Iw (us:=[.ref a]) (vs:=[.ref a]) F hr hb hd hx I1 (.cons rfl .nil) q)
structure Mk(K:PySem.W.Frag)(C f:Addr):Prop where
 makes:PySem.W.makesIn K C=true
 init:PySem.W.findIn K (.ref C) "__init__" = some (some (.ref f))
 fn:PySem.W.isFn K (.ref f)=true
 kp:PySem.W.keepIn K (.ref C)=true
theorem QL{pins:List (Addr×Obj)}{σ:St}{H:Hp}{s:Shared}{Q:VK}{us:List Value}{vs:List V}(M:Mk X.K C f)(F:bN X.prog X.w X.K X.mg X.base CX k f fd ps sp)(hr:fM (k+1) X.A)(hb:Binds X.K fd ps ds)(hd:Vals ni ds)(hx:Passes CX X E)(I:Inv X pins σ H s)(r:Vals vs us)(h:∀x dx,H x=none->H dx=none->dx≠x->sp (.ref x::(vs++ni)) (upd (upd H dx (.own x)) x (.ins C dx [])) (λv H2=>v = .non/\Q (.ref x) H2) E):
 wpAny (model X.prog X.w) X.A (call (.ref C) us) (EP X pins σ Q) X.xe s:=by
 have hq:=h (s.heap.objs.size+1) s.heap.objs.size (I.hok.fresh (Nat.le_succ _)) (I.hok.fresh (aaG _)) (aaW (Nat.lt_succ_self _));have I2:=Inv.made (C:=C) I;have r2:Vals (V.ref (s.heap.objs.size+1)::(vs++ni)) (Value.ref (s.heap.objs.size+1)::(us++ds)):= .cons rfl (r.append hd)
 have hl:(Value.ref (s.heap.objs.size+1)::us++ds).length=ps.length:=by
  have e:=r2.length;rw[F.len _ _ _ _ hq] at e;exact e.symm
 refine wpAny_call (GJ (f:=f) I.nW M.makes M.init (beq_iff_eq.mp M.fn) (codeAny_mono (F.run _ X.stack _ _ ⟨Value.ref (s.heap.objs.size+1)::us,[]⟩ (Value.ref (s.heap.objs.size+1)::(us++ds)) _ _ E (hr.make C us [])
  (I2.env0.make C us []) (hb _ (Value.ref (s.heap.objs.size+1)::us) I2.nW hl) r2 hq) λr s' hq'=>?_))
 cases r with
 | error e=>exact hx pins σ _ _ e s' I2 hq'
 | ok fl=>
   cases fl with
   | ret u=>
     obtain⟨v,H',I3,rv,ev,q3⟩:=I2.after hq';subst ev;exact⟨rv,⟨V.ref (s.heap.objs.size+1),H',I3,Z,q3⟩⟩
   | next=>exact False.elim hq'
   | brk=>exact False.elim hq'
   | cont=>exact False.elim hq'
theorem Vy(M:Mk X.K C f)(F:bN X.prog X.w X.K X.mg X.base CX k f fd ps sp)(hr:fM (k+1) X.A)(hg:Gl X x)(hm:X.mg x=some (.ref C))(hb:Binds X.K fd ps ds)(hd:Vals ni ds)(hx:Passes CX X E)(ha:PA X (e::es) t)(hdb:(x==("__debug__" :Str))=false:=by decide)(he:starEach (e::es) X.env=(false,eval e X.env)::starEach es X.env:=by rfl)(hpl:(backTo pos (starEach es X.env)).any (·.1)=false:=by rfl):
 PE X (.Call (.Name x p) (e::es) [] pos) (XD C sp ni E t):=by
 intro pins s σ H Q I h;refine wpAny_Call_Name_kw (lB I hg hm ?_ hdb);refine PySem.W.callWith_K (h₀:=X.base) I.ok.mod.Wi M.kp (cZ (ha pos pins s σ H _ I h) λus s1 ⟨vs,H1,I1,r,q⟩=>⟨I1.nW, ?_⟩) he hpl;exact QL M F hr hb hd hx I1 r q
end
section
variable{X:Cx}{CX:Qd}{k:Nat}{f C:Addr}{fd:FuncData}{ps ks:List Str}{sp:Sp}{E:XK}{x m:Str}{p pos apos kpos:Pos}{e o:Expr}{es:List Expr}{kws:List Keyword}{te ta:TE}{t tk:TA}{nm:Option Str}
variable{g:List Value->List Value->List Value}{gV:List V->List V->List V}
end
structure aY(N P:List Str)(sc:Scope):Prop where
 kind:sc.kind = .function
 co:sc.isCoroutine=false
 gen:sc.isGenerator=false
 nd:N.Nodup
 pre:N.take P.length=P
 par:∀x∈P,sc.names.lookup x=some .local\/sc.names.lookup x=some .cell
 Zz:∀y∈sc.names,y.2 ≠ .free
theorem BW{kindOf:Str->Option NameKind}{x:Str}:∀{binds:List (Str×Value)}{m:Str->Option Value},(∀v,(x,v)∉binds)->bindL kindOf binds m x=m x
 | [],_,_=>rfl
 | (n,v)::r,m,h=>by
   unfold bindL;rw[BW λw hw=>h w (aa1 _ hw)];split
   .have:x≠n:=by rintro rfl;exact h v List.mem_cons_self
    simp[this]
   .rfl
theorem BZ{kindOf:Str->Option NameKind}{x:Str}:∀{binds:List (Str×Value)}{m:Str->Option Value},(∀v,(x,v)∉binds)->bindC kindOf binds m x=m x
 | [],_,_=>rfl
 | (n,v)::r,m,h=>by
   unfold bindC;rw[BZ λw hw=>h w (aa1 _ hw)];split
   .rfl
   .have:x≠n:=by rintro rfl;exact h v List.mem_cons_self
    simp[this]
theorem BX{kindOf:Str->Option NameKind}{x:Str}{v:Value}:∀{P:List Str}{vs:List Value}{i:Nat}{m:Str->Option Value},P.Nodup->P[i]? = some x->vs[i]? = some v->kindOf x=some .local ->
 bindL kindOf (P.zip vs) m x=some v
 | [],_,_,_,_,h,_,_=>by simp at h
 | _::_,[],_,_,_,_,h,_=>by simp at h
 | p::P,w::vs,0,m,nd,h1,h2,hk=>by
   simp at h1 h2;subst h1;subst h2;show bindL kindOf ((p,w)::P.zip vs) m p=_;unfold bindL;rw[BW λv hv=>(List.nodup_cons.mp nd).1 (List.of_mem_zip hv).1,ab9 hk];simp
 | p::P,w::vs,i+1,m,nd,h1,h2,hk=>by
   show bindL kindOf ((p,w)::P.zip vs) m x=_;unfold bindL;exact BX (i:=i) (List.nodup_cons.mp nd).2 (by simpa using h1) (by simpa using h2) hk
theorem B_{kindOf:Str->Option NameKind}{x:Str}{v:Value}:∀{P:List Str}{vs:List Value}{i:Nat}{m:Str->Option Value},P.Nodup->P[i]? = some x->vs[i]? = some v->kindOf x≠some .local ->
 bindC kindOf (P.zip vs) m x=some v
 | [],_,_,_,_,h,_,_=>by simp at h
 | _::_,[],_,_,_,_,h,_=>by simp at h
 | p::P,w::vs,0,m,nd,h1,h2,hk=>by
   simp at h1 h2;subst h1;subst h2;show bindC kindOf ((p,w)::P.zip vs) m p=_;unfold bindC;rw[BZ λv hv=>(List.nodup_cons.mp nd).1 (List.of_mem_zip hv).1,ab6 hk];simp
 | p::P,w::vs,i+1,m,nd,h1,h2,hk=>by
   show bindC kindOf ((p,w)::P.zip vs) m x=_;unfold bindC;exact B_ (i:=i) (List.nodup_cons.mp nd).2 (by simpa using h1) (by simpa using h2) hk
noncomputable def start(N:List Str)(vs:List V):St:=vs.map some++List.replicate (N.length - vs.length) none
noncomputable def nQ(CX:Qd)(P:Program)(w:World)(K:PySem.W.Frag)(mg:Str->Option Value)(base:Heap)(N:List Str)(qual:Str)(scope:Scope)(f:Addr)(cd:Value)(A:Around)(outer:List Env)(s:Shared)(H:Hp)(E:XK):Cx where
 prog:=P
 w:=w
 K:=K
 mg:=mg
 base:=base
 A:=A.deeper (envOfC qual scope s.heap.objs.size f cd)
 N:=N
 s₀:=s
 H₀:=H
 env:=envOfC qual scope s.heap.objs.size f cd
 outer:=outer
 stack:=envOfC qual scope s.heap.objs.size f cd::outer
 ex:=[]
 calm:=true
 fn:=λ_=>true
 pn:=[]
 xe:=λe s'=>wpAny (model P w) (A.deeper (envOfC qual scope s.heap.objs.size f cd)) (leaving (envOfC qual scope s.heap.objs.size f cd) e) (λ_ s''=>CX outer H s E e s'') (λe' s''=>CX outer H s E e' s'') s'
theorem Hr{sc:Scope}{n:Nat}{x:Str}(h:sc.names.lookup x=some .cell):∃c,(cellsFrom n sc.names []).lookup x=some c:=by
 have q:=PySem.W.cellsFrom_some sc.names n [] (.inl h);exact Option.isSome_iff_exists.mp q
theorem Ot{CX:Qd}{P:Program}{w:World}{K:PySem.W.Frag}{mg:Str->Option Value}{base:Heap}{N ps:List Str}{qual:Str}{scope:Scope}{f:Addr}{cd:Value}{A:Around}{outer:List Env}{s s1:Shared}{H:Hp}{E:XK}{us:List Value}{vs:List V}(S:aY N ps scope)(hd:A.handled=none)(e0:J8 P w K mg base A outer s H)(hl:vs.length=ps.length)(r:Vals vs us)(x:InCallC s s.heap.objs.size (bindL (envOfC qual scope s.heap.objs.size f cd).kindOf (ps.zip us) λ_=>none) (cellsFrom (s.heap.objs.size+1) scope.names []) (bindC (envOfC qual scope s.heap.objs.size f cd).kindOf (ps.zip us) λ_=>none) s1):
 Inv (nQ CX P w K mg base N qual scope f cd A outer s H E) [] (start N vs) H s1:=by
 have hpl:ps.length<=N.length:=by have:=congrArg List.length S.pre;rw[abe] at this;lia
 obtain⟨h1,tk,rfl,hk⟩:=x.done;have noA:∀b:Addr,b∉(nQ CX P w K mg base N qual scope f cd A outer s H E).ex:=λb z=>acq (show b∈([]:List Addr) from z) (by simp)
 refine⟨⟨e0.mod,S.kind,Z,Z,aaG _,λy z c h1 h2=>?_,λy hy=>?_,λy c _ h=>?_,λ_=>hd,Around.frames_deeper e0.frames,.inr ⟨Z,Z⟩,λb z=>acq z (noA b),e0.bs,e0.Px,λb _ _=>noA b,λb z=>acq z (noA b),e0.pC,e0.S5⟩,
  Z,e0.bare,Un.kept hk,⟨_,x.toInCall.ns,λi y v h1 h2 h3=>?_⟩,λy c h=>⟨_,x.cell y c h⟩,e0.hok.fresh (aaG _),λy c h=>?_,λp hp=>acq (show p∈([]:List (Addr×Obj)) from hp) (by simp),e0.hok.kept hk, ?_⟩
 .exact name_of_addr x.apart (PySem.mem_of_lookup h1) (PySem.mem_of_lookup h2)
 .have hy:scope.names.lookup y=some .cell\/scope.names.lookup y=some .free:=hy
  rcases hy with hy|hy
  .exact Hr hy
  .exact acq rfl (S.Zz _ (PySem.mem_of_lookup hy))
 .exact Nat.le_of_lt (x.above y c (PySem.mem_of_lookup h))
 .have hi:i<vs.length:=by
   unfold start at h2
   by_cases hi:i<vs.length
   .exact hi
   .rw[aaU (by simpa using hi)] at h2
    rw[List.getElem?_replicate] at h2;split at h2<;>cases h2
  have ha:vs[i]? = some v:=by
   unfold start at h2;rw[aaV (by simpa using hi),aah] at h2;cases e:vs[i]? with
   | none=>rw[e] at h2;cases h2
   | some a=>rw[e] at h2;cases h2;rfl
  obtain⟨u,hu,rv⟩:=r.get ha
  have hp:ps[i]? = some y:=by
   rw[←S.pre,List.getElem?_take_of_lt (by lia)];exact h1
  have ndP:ps.Nodup:=by rw[←S.pre];exact S.nd.sublist (List.take_sublist _ _)
  refine⟨u,rv, ?_⟩;rcases S.par y (aaM hp) with k|k
  .exact .inl ⟨k,BX ndP hp hu k⟩
  .obtain⟨c,e⟩:=Hr (n:=s.heap.objs.size+1) k
   refine .inr ⟨.inl k,c,e, ?_⟩;have q:=x.cell y c e;rw[B_ ndP hp hu (by show scope.names.lookup y≠_;rw[k];decide)] at q;exact q
 .exact e0.hok.fresh (Nat.le_of_lt (x.above y c (PySem.mem_of_lookup h)))
 .unfold start
  show _=N.length;rw[aaT,aad,List.length_replicate];lia
theorem S8{CX:Qd}{P:Program}{w:World}{K:PySem.W.Frag}{mg:Str->Option Value}{base:Heap}{k:Nat}{f:Addr}{name qual:Str}{params:Arguments}{body:List Stmt}{scope:Scope}{dV kV doc pm cdv ct oc:Value}{an od:Option Addr}{osl:Array (Option Value)}{N ps:List Str}{sp:Sp}(lk:K.lookup f=some ⟨oc,od,.func (PySem.W.fnOf name qual params body scope dV kV doc pm an cdv ct),osl⟩)(hcd:PySem.W.codeIn K cdv qual=true)(S:aY N ps scope)(len:∀vs H Q E,sp vs H Q E->vs.length=ps.length)(hbody:∀(A:Around)(outer:List Env)(s:Shared)(H:Hp)(vs:List V)(Q:VK)(E:XK),fM k (A.deeper (envOfC qual scope s.heap.objs.size f cdv))->sp vs H Q E ->
   ∃t,Eh (nQ CX P w K mg base N qual scope f cdv A outer s H E) body t/\t {nx:=λ_ H'=>Q .non H',rt:=Q} (start N vs) H):
 bN P w K mg base CX (k+1) f (PySem.W.fnOf name qual params body scope dV kV doc pm an cdv ct) ps sp:=by
 refine⟨len,λA outer s H args us vs Q E hr e0 hb r hsp=>?_⟩;have hl:=len _ _ _ _ hsp;have KX:K.In s.heap:=e0.mod.Wi.keeps λb o e=>(e0.bs b o e).1;have lim:s.heap.NoLimit:=e0.mod.nolimit.keeps λb o e=>(e0.bs b o e).1
 have hkind:∀y∈ps.zip us,scope.names.lookup y.1=some .local\/(scope.names.lookup y.1=some .cell/\((cellsFrom (s.heap.objs.size+1) scope.names []).lookup y.1).isSome=true):=λ⟨n,v⟩ hy=>by
  rcases S.par n (List.of_mem_zip hy).1 with q|q
  .exact .inl q
  .exact .inr ⟨q,PySem.W.cellsFrom_some _ _ _ (.inl q)⟩
 refine codeAny_call_function hr.depth (KX _ _ lk) rfl S.co S.gen rfl (PySem.W.codeRec_of KX hcd) (hb _ _ _ _ ?_);refine wpAny_newFunctionEnv_cells S.kind hkind λenv he s1 x=>?_;subst he;refine⟨lim.keeps x.toInCall.keep,codeAny_func ?_⟩;obtain⟨t,ht,hq⟩:=hbody A outer s H vs Q E (hr.deeper _) hsp;have I:Inv (nQ CX P w K mg base N qual scope f cdv A outer s H E) [] (start N vs) H s1:=Ot S hr.hd e0 hl r x;refine wpAny_mono (ht [] s1 (start N vs) H _ I hq) (λfl s' hs=>?_) λe s' hs=>hs
 have fin:∀{σ':St}{H':Hp}{v:V}{u:Value},Inv (nQ CX P w K mg base N qual scope f cdv A outer s H E) [] σ' H' s'->RelV v u->Q v H'->CE outer P w H s Q u s':=
  fun {σ' H' v u} J rv q=>⟨v,H',J.os,J.bare,J.base,J.hok,rv,q⟩
 cases fl with
 | ret u=>
   obtain⟨v,σ',H',J,rv,q⟩:=hs;exact fin J rv q
 | next=>
   obtain⟨σ',H',J,q⟩:=hs;exact fin (v:=V.non) (u:=Value.none) J rfl q
 | brk=>
   obtain⟨_,_,_,q⟩:=hs;exact False.elim q
 | cont=>
   obtain⟨_,_,_,q⟩:=hs;exact False.elim q
section
variable{X:Cx}{x:Str}{p pos:Pos}{e:Expr}{es:List Expr}{t:TA}{id T:String}{r:List V->Hp->VK->Prop}
noncomputable def tCB(r:List V->Hp->VK->Prop)(t:TA):TE:=λσ H Q=>t σ H λvs H1=>r vs H1 Q
theorem bM(hc:k_ X (.builtin id) r)(hg:Gl X x)(hm:X.mg x=none)(hv:bootBuiltins x=some (.builtin id))(ha:PA X (e::es) t)(hn:x ≠ "__name__" :=by decide)(hdb:(x==("__debug__" :Str))=false:=by decide)(he:starEach (e::es) X.env=(false,eval e X.env)::starEach es X.env:=by rfl)(hpl:(backTo pos (starEach es X.env)).any (·.1)=false:=by rfl):PE X (.Call (.Name x p) (e::es) [] pos) (tCB r t):=by
 intro pins s σ H Q I h;refine wpAny_Call_Name_kw (rA I hg hm hv ?_ hn hdb);exact PyProof.Rows.callWith_builtin1 (cZ (ha pos pins s σ H _ I h) λus s1 ⟨vs,H1,I1,r1,q1⟩=>hc pins s1 σ H1 vs us Q I1 r1 q1) he hpl
theorem fX(hc:k_ X (.type T) r)(hg:Gl X x)(hm:X.mg x=none)(hv:bootBuiltins x=some (.type T))(ha:PA X (e::es) t)(hn:x ≠ "__name__" :=by decide)(hdb:(x==("__debug__" :Str))=false:=by decide)(he:starEach (e::es) X.env=(false,eval e X.env)::starEach es X.env:=by rfl)(hpl:(backTo pos (starEach es X.env)).any (·.1)=false:=by rfl):PE X (.Call (.Name x p) (e::es) [] pos) (tCB r t):=by
 intro pins s σ H Q I h;refine wpAny_Call_Name_kw (rA I hg hm hv ?_ hn hdb);exact PyProof.Rows.callWith_type1 (cZ (ha pos pins s σ H _ I h) λus s1 ⟨vs,H1,I1,r1,q1⟩=>hc pins s1 σ H1 vs us Q I1 r1 q1) he hpl
end
end L2
namespace HT
open PySem PyProof.Rows
section
open PySem.SeqAt
open PySem.AutoSeq1 (wpAny_loadPart')
open PySem.MeetsSeq PySem.MeetsSeq2 PySem.MeetsSeq3
end
section
variable{prog:Program}{w:World}{A:Around}{E:Value->Shared->Prop}{s:Shared}
theorem Xa{t b:Addr}{vs ws:List Value}{Q:Value->Shared->Prop}(ht:IsTup s.heap t vs.toArray)(hb:IsTup s.heap b ws.toArray)(hv:vs≠[])(h1:ws=[]->Q (.ref t) s)(h2:ws≠[]->Q (.ref s.heap.objs.size) {s with heap:=s.heap.push {cls:= .type "tuple",data:= .seq (vs++ws).toArray}})(hsz:vs.length+ws.length<=sizeLine):wpAny (model prog w) A (binaryOp .Add (.ref t) (.ref b)) Q E s:=by
 obtain⟨⟨cls,dd,data,sl⟩,ho,hc,n,hd⟩:=id ht;obtain⟨⟨cls2,dd2,data2,sl2⟩,ho2,hc2,n2,hd2⟩:=id hb;simp only at hc hd hc2 hd2;subst hc hd hc2 hd2;have e:vs.toArray++ws.toArray=(vs++ws).toArray:=by simp
 by_cases hw:ws=[]
 .exact concat_meets ⟨_,ho,Z⟩ ⟨_,ho2,Z⟩ noFill_tuple_add seq_tuple_add PySem.F.slot_tuple_add PySem.F.entry_tuple_add (PySem.F.args_tuple_add_2 _ _)
   (tuple_addW1 t b vs.toArray ws.toArray n n2 dd dd2 sl sl2 (by simpa using hv) (by simp[hw])) ⟨ho,ho2,h1 hw⟩
 .refine concat_meets ⟨_,ho,Z⟩ ⟨_,ho2,Z⟩ noFill_tuple_add seq_tuple_add PySem.F.slot_tuple_add PySem.F.entry_tuple_add (PySem.F.args_tuple_add_2 _ _)
   (tuple_addW2 t b vs.toArray ws.toArray n n2 dd dd2 sl sl2 (by simpa using hv) (by simpa using hw) (by rw[aaR,aaR];exact hsz)) ⟨ho,ho2, ?_⟩
  rw[e];exact h2 hw
noncomputable def iz(n d:Nat):Option Int->Nat
 | none=>d
 | some v=>if v<0 then (v+(n:Int)).toNat else min v.toNat n
theorem FZ(n d:Nat):iz n d none=d:=Z
theorem wL(n d k:Nat):iz n d (some (k:Int))=min k n:=by
 show (if (k:Int)<0 then ((k:Int)+(n:Int)).toNat else min (k:Int).toNat n)=min k n;rw[ab6 (by lia),aaZ]
theorem Y5(n d:Nat)(hd:d<=n)(o:Option Int):iz n d o<=n:=by
 cases o with
 | none=>exact hd
 | some v=>
   show (if v<0 then (v+(n:Int)).toNat else min v.toNat n)<=n
   by_cases hv:v<0
   .rw[ab9 hv];lia
   .rw[ab6 hv];exact Nat.min_le_right _ _
theorem Mq(v:Int)(n d:Nat):(if v<0 then max (v+(n:Int)) 0 else min v (n:Int))=((iz n d (some v):Nat):Int):=by
 show (if v<0 then max (v+(n:Int)) 0 else min v (n:Int))=(((if v<0 then (v+(n:Int)).toNat else min v.toNat n):Nat):Int)
 by_cases hv:v<0
 .simp only[ab9 hv];lia
 .simp only[ab6 hv];lia
theorem JW(lo hi:Option Int)(n:Nat):Builtin.Slice.sliceAdjust lo hi 1 (n:Int)=(((iz n 0 lo:Nat):Int),((iz n n hi:Nat):Int)):=by
 have h1:¬((1:Int)<0):=by lia
 unfold Builtin.Slice.sliceAdjust;simp only[h1,if_false];refine Prod.ext ?_ ?_
 .cases lo with
  | none=>rfl
  | some v=>exact Mq v n 0
 .cases hi with
  | none=>rfl
  | some v=>exact Mq v n n
theorem IW(i j:Nat):Builtin.Slice.slicePlaces (i:Int) (j:Int) 1=j - i:=by
 unfold Builtin.Slice.slicePlaces;have h1:(1:Int)>0:=by lia
 simp only[h1,if_true,Int.ediv_one];split<;>lia
theorem xV{v:Value}{o:Option Int}{Q:Option Int->Shared->Prop}(p:IsPart v o)(h:Q o s):wpAny (model prog w) A (Builtin.Slice.slicePartIndex v) Q E s:=by
 cases p with
 | none=>exact slicePart_none h
 | int i t=>exact slicePart_int h
theorem ux{sl:Addr}{vl vu:Value}{lo hi:Option Int}{n:Nat}{Q:Int×Int×Nat->Shared->Prop}(hs:s.heap.IsSliceOf sl vl vu .none)(pl:IsPart vl lo)(pu:IsPart vu hi)(h:Q (((iz n 0 lo:Nat):Int),1,iz n n hi - iz n 0 lo) s):wpAny (model prog w) A (Builtin.Slice.sliceApplied (.ref sl) (pure (n:Int))) Q E s:=by
 obtain⟨os,hos,hcs,hds⟩:=id hs;unfold Builtin.Slice.sliceApplied Builtin.Slice.sliceFields;refine aaH (aaH (wpAny_field hos hds (x:=vl) rfl (aaH (wpAny_field hos hds (x:=vu) rfl (aaH (wpAny_field hos hds (x:= .none) rfl (aaI ?_)))))));refine aaH (slicePart_none ?_);show wpAny _ _ (if ((1:Int)==0)=true then _ else _) _ _ s;rw[ab6 (by decide)];refine aaH (xV pl (aaH (xV pu (aaH (aaI ?_)))));show wpAny _ _ (match Builtin.Slice.sliceAdjust lo hi 1 (n:Int) with |(lo,hi)=>pure (lo,(1:Int),Builtin.Slice.slicePlaces lo hi 1)) _ _ s;rw[JW lo hi n];show wpAny _ _ (pure (((iz n 0 lo:Nat):Int),(1:Int),Builtin.Slice.slicePlaces ((iz n 0 lo:Nat):Int) ((iz n n hi:Nat):Int) 1)) _ _ s;rw[IW];exact aaI h
theorem Rf(xs:Array Value)(i k:Nat):((List.range k).filterMap λ(m:Nat)=>xs[((i:Int)+(m:Int)*1).toNat]?).toArray=((xs.toList.drop i).take k).toArray:=by
 have e:(λ(m:Nat)=>xs[((i:Int)+(m:Int)*1).toNat]?)=λm=>xs[i+m]? :=by
  funext m;have:((i:Int)+(m:Int)*1).toNat=i+m:=by lia
  rw[this]
 rw[e];have:=pick_run xs i k;rw[List.filterMap_map] at this;have e2:((λx=>xs[x]?)∘λx=>i+x)=λm=>xs[i+m]? :=Z;rw[e2] at this;rw[this]
theorem tE{t sl:Addr}{items:Array Value}{vl vu:Value}{lo hi:Option Int}{Q:Value->Shared->Prop}(ht:IsTup s.heap t items)(hs:s.heap.IsSliceOf sl vl vu .none)(pl:IsPart vl lo)(pu:IsPart vu hi)(hw:¬(iz items.size 0 lo=0/\iz items.size items.size hi=items.size))(h:Q (.ref s.heap.objs.size) {s with heap:=s.heap.push {cls:= .type "tuple",data:= .seq ((items.toList.drop (iz items.size 0 lo)).take (iz items.size items.size hi - iz items.size 0 lo)).toArray}})(hsz:items.size<=sizeLine):wpAny (model prog w) A (getItem (.ref t) (.ref sl)) Q E s:=by
 have LC:sizeOk (.seq ((items.toList.drop (iz items.size 0 lo)).take (iz items.size items.size hi - iz items.size 0 lo)).toArray):=by
  show ((items.toList.drop (iz items.size 0 lo)).take (iz items.size items.size hi - iz items.size 0 lo)).toArray.size<=sizeLine;rw[aaR,abe,List.length_drop,aaL];lia
 have hj:iz items.size items.size hi<=items.size:=Y5 _ _ (aaG _) hi;obtain⟨os,hos,hcs,hds⟩:=id hs;have hTs:s.TypeIs (.ref sl) "slice" :=⟨os,hos,hcs⟩;unfold getItem
 try with_reducible refine wpAny_holding ?_
 first |refine aaH (aaI ?_)|skip
 refine aaH (wpAny_sequenceKey ht.typeIs (by decide) ?_)
 refine aaH (wpAny_callSpecial?_slot (name:=Str.ofString "__getitem__") ht.typeIs PyProof.Rows.slot_tuple_getitem
  (wpAny_call_entry PyProof.Rows.slot_tuple_getitem ht.typeIs entry_tuple_getitem ?_ (args_tuple_getitem _ _)))
 show wpAny _ _ (Builtin.Tuple.tupleItemsOf (.ref t) >>= _) _ _ s;refine aaH (tupleItemsOf_ ht ?_);refine aaH (wpAny_typeOf hTs ?_);rw[ab9 (by decide)];refine aaH (ux hs pl pu ?_)
 have hno:¬((((iz items.size 0 lo:Nat):Int)==0&&(1:Int)==1&&(iz items.size items.size hi - iz items.size 0 lo)==items.size)=true):=by
  intro q;rw[aa0,aa0] at q;have q1:((iz items.size 0 lo:Nat):Int)=0:=eq_of_beq q.1.1;have q2:iz items.size items.size hi - iz items.size 0 lo=items.size:=eq_of_beq q.2;exact hw ⟨by lia,by lia⟩
 show wpAny _ _ (if (((iz items.size 0 lo:Nat):Int)==0&&(1:Int)==1&&(iz items.size items.size hi - iz items.size 0 lo)==items.size)=true then _ else _) _ _ s;rw[ab6 hno,Rf]
 first
  | exact aaH (m:=Builtin.Tuple.tupleExact _) (wpAny_newObj_type (aaI ⟨_,Z,aaI h⟩) LC)
  | exact aaH (m:=Builtin.Tuple.tupleExact _) (wpAny_newObj_type (aaH (aaI (aaI ⟨_,Z,aaI h⟩))) LC)
  | exact aaH (aaH (m:=Builtin.Tuple.tupleExact _) (wpAny_newObj_type (aaI (aaI ⟨_,Z,aaI h⟩)) LC))
  | exact aaH (aaH (m:=Builtin.Tuple.tupleExact _) (wpAny_newObj_type (aaI ⟨_,Z,aaI h⟩) LC))
end
end HT
namespace L2
open PySem PySem.Spec PyProof.Rows
noncomputable abbrev TO:=St->Hp->(Option Int->Hp->Prop)->Prop
noncomputable def PO(X:Cx)(e:Option Expr)(t:TO):Prop:=
 ∀(pins:List (Addr×Obj))(s:Shared)(σ:St)(H:Hp)(Q:Option Int->Hp->Prop),Inv X pins σ H s->t σ H Q ->
  wpAny (model X.prog X.w) X.A (evalPart e X.env) (λu s'=>∃o H',Inv X pins σ H' s'/\IsPart u o/\Q o H') X.xe s
noncomputable def Kw:TO:=λ_ H Q=>Q none H
noncomputable def abj(t:TE):TO:=λσ H Q=>t σ H λx H1=>∃i,x = .int i/\Q (some i) H1
section
variable{X:Cx}{e:Expr}{te:TE}{lo hi:Option Expr}{tl th:TO}{pos p2:Pos}
theorem dj:PO X none Kw:=by
 intro pins s σ H Q I h;rw[evalPart_none];exact aaI ⟨none,H,I,.none,h⟩
theorem dh(h:PE X e te):PO X (some e) (abj te):=by
 intro pins s σ H Q I hw;rw[evalPart_some];refine cZ (h pins s σ H _ I hw) λu s1 iB=>?_;obtain⟨x,H1,I1,r1,q1⟩:=iB;obtain⟨i,rfl,q⟩:=q1;obtain⟨t,rfl⟩:=r1;exact⟨some i,H1,I1,.int i t,q⟩
noncomputable def SlR(X:Cx)(r:V->Option Int->Option Int->Hp->VK->Prop):Prop:=
 ∀(pins:List (Addr×Obj))(s:Shared)(σ:St)(H:Hp)(x:V)(v vl vu:Value)(lo hi:Option Int)(sl:Addr)(Q:VK),Inv X pins σ H s->RelV x v->s.heap.IsSliceOf sl vl vu .none->IsPart vl lo->IsPart vu hi->r x lo hi H Q ->
  ∃T id,typeLookup (.type T) "__getitem__" = pure (some (.builtin id))/\s.TypeIs v T/\wpAny (model X.prog X.w) X.A (getItem v (.ref sl)) (EP X pins σ Q) X.xe s
noncomputable def tSl(r:V->Option Int->Option Int->Hp->VK->Prop)(te:TE)(tl th:TO):TE:=λσ H Q=>te σ H λx H1=>tl σ H1 λl H2=>th σ H2 λu H3=>r x l u H3 Q
theorem cJ{r:V->Option Int->Option Int->Hp->VK->Prop}(hr:SlR X r)(he:PE X e te)(hl:PO X lo tl)(hu:PO X hi th):PE X (.Subscript e (.Slice lo hi none p2) pos) (tSl r te tl th):=by
 intro pins s σ H Q I h;refine Subscript_ (cZ (he pins s σ H _ I h) λv s1 iB=>?_);obtain⟨x,H1,I1,r1,q1⟩:=iB;refine wpAny_Slice (cZ (hl pins s1 σ H1 _ I1 q1) λvl s2 ⟨l,H2,I2,pl,q2⟩=>cZ (hu pins s2 σ H2 _ I2 q2) λvu s3 iB=>?_);obtain⟨u,H3,I3,pu,q3⟩:=iB;rw[evalPart_none];refine aaI ?_;have I4:Inv X pins σ H3 {s3 with heap:=s3.heap.push {cls:= .type "slice",data:= .fields #[vl,vu,.none]}}:=I3.kept (t':=s3.toks) λb ob q=>aaj _ q;obtain⟨T,id,hT,ht,hg⟩:=hr pins {s3 with heap:=s3.heap.push {cls:= .type "slice",data:= .fields #[vl,vu,.none]}} σ H3 x v vl vu l u s3.heap.objs.size Q I4 r1 (Heap.IsSliceOf.new ..) pl pu q3;show wpAny (model X.prog X.w) X.A (subscriptTail e (.Slice lo hi none p2) v (.ref s3.heap.objs.size)) (EP X pins σ Q) X.xe {s3 with heap:=s3.heap.push {cls:= .type "slice",data:= .fields #[vl,vu,.none]}};exact tail_any (ops:=[.ref s3.heap.objs.size,v]) ht hT hg (by with_unfolding_all rfl)
noncomputable def nR(xs:List V)(lo hi:Option Int):List V:=(xs.drop (HT.iz xs.length 0 lo)).take (HT.iz xs.length xs.length hi - HT.iz xs.length 0 lo)
theorem vL(xs:List V)(lo hi:Option Int):(nR xs lo hi).length<=xs.length:=by
 unfold nR;rw[abe,List.length_drop];lia
noncomputable def abH(K:PySem.W.Frag):V->Option Int->Option Int->Hp->VK->Prop:=λx lo hi H Q=>∃a xs,x = .ref a/\cA K H a xs /\
 ¬(HT.iz xs.length 0 lo=0/\HT.iz xs.length xs.length hi=xs.length) /\ ∀p,H p=none->Q (.ref p) (upd H p (.tup (nR xs lo hi)))
theorem Y0:SlR X (abH X.K):=by
 intro pins s σ H x v vl vu lo hi sl Q I rx hs pl pu h;obtain⟨a,xs,rfl,hx,hw,q⟩:=h;cases rx;obtain⟨its,r,ht,hz⟩:=I.tuple hx;have hlen:its.toArray.size=xs.length:=by rw[aaR];exact r.length.symm
 refine⟨"tuple",_,PyProof.Rows.slot_tuple_getitem.lookup,ht.typeIs, ?_⟩;refine HT.tE ht hs pl pu (by rw[hlen];exact hw) ?_ (by rw[hlen];exact hz);rw[hlen];refine⟨.ref s.heap.objs.size,_,I.laid (t':=s.toks) (o:= .tup (nR xs lo hi)) (λb ob q=>aaj _ q) (aaG _) ?_,Z,q _ (I.hok.fresh (aaG _))⟩;exact⟨abX (vL xs lo hi) hz,_,(r.drop (HT.iz xs.length 0 lo)).take (HT.iz xs.length xs.length hi - HT.iz xs.length 0 lo),IsTup.new _ _⟩
noncomputable def XR(K:PySem.W.Frag):R2:=λx y H Q=>∃a b xs ys,x = .ref a/\y = .ref b/\cA K H a xs/\cA K H b ys/\xs≠[]/\xs.length+ys.length<=sizeLine /\
 (ys=[]->Q (.ref a) H)/\(ys≠[] -> ∀p,H p=none->Q (.ref p) (upd H p (.tup (xs++ys))))
theorem Vals.wR{xs:List V}{us:List Value}(r:Vals xs us):us=[]↔xs=[]:=by
 cases r with
 | nil=>simp
 | cons _ _=>simp
theorem Lj:qy X (binaryOp .Add) (XR X.K):=by
 intro pins s σ H x y v u Q I rx ry h;obtain⟨a,b,xs,ys,rfl,rfl,ha,hb,hx,hz,q1,q2⟩:=h;cases rx;cases ry;obtain⟨its,r1,p1,_⟩:=I.tuple ha;obtain⟨its2,r2,p2,_⟩:=I.tuple hb;refine HT.Xa p1 p2 (λz=>hx (r1.wR.mp z)) (λz=>⟨.ref a,H,I,Z,q1 (r2.wR.mp z)⟩) (λz=>?_) (by rw[←r1.length,←r2.length];exact hz);refine⟨.ref s.heap.objs.size,_,I.laid (t':=s.toks) (o:= .tup (xs++ys)) (λb ob q=>aaj _ q) (aaG _) ?_,Z,q2 (λw=>z (r2.wR.mpr w)) _ (I.hok.fresh (aaG _))⟩;exact⟨by rw[aaT];exact hz,_,r1.append r2,IsTup.new _ _⟩
end
noncomputable def Lz(n:Nat)(i:Int):Option Nat:=if 0<=i then (if i<n then some i.toNat else none) else if -(n:Int)<=i then some (i+n).toNat else none
noncomputable def rJ{α:Type}(xs:List α)(i:Int):Option α:=(Lz xs.length i).bind λj=>xs[j]?
theorem Lx{n:Nat}{i:Int}{j:Nat}(h:Lz n i=some j):seqIndex? i n=some j/\j<n /\ -(n:Int)<=i/\i<n:=by
 unfold Lz at h
 by_cases h0:0<=i
 .rw[ab9 h0] at h
  by_cases h1:i<n
  .rw[ab9 h1] at h
   have e:i.toNat=j:=aaS h;exact⟨by rw[seqIndex_of h0 h1,e],by lia,by lia,h1⟩
  .rw[ab6 h1] at h;cases h
 .rw[ab6 h0] at h
  by_cases h1: -(n:Int)<=i
  .rw[ab9 h1] at h
   have e:(i+n).toNat=j:=aaS h;exact⟨by rw[seqIndex_neg (by lia) h1,e],by lia,h1,by lia⟩
  .rw[ab6 h1] at h;cases h
theorem Ec{α:Type}{xs:List α}{i:Int}{v:α}(h:rJ xs i=some v):∃j,seqIndex? i xs.length=some j/\xs[j]? = some v/\j<xs.length /\ -(xs.length:Int)<=i/\i<xs.length:=by
 unfold rJ at h;cases e:Lz xs.length i with
 | none=>rw[e] at h;cases h
 | some j=>
   rw[e] at h;obtain⟨h1,h2,h3,h4⟩:=Lx e;exact⟨j,h1,h,h2,h3,h4⟩
theorem cL{α:Type}{xs:List α}{j:Nat}{v:α}(h:xs[j]? = some v):rJ xs (j:Int)=some v:=by
 have hj:j<xs.length:=(aaf.mp h).1
 have e:Lz xs.length (j:Int)=some j:=by
  unfold Lz;rw[ab9 (by lia),ab9 (by lia)];simp
 unfold rJ;rw[e];exact h
theorem Uh{α:Type}(xs:List α)(v:α):rJ (xs++[v]) (-1)=some v:=by
 have hl:(xs++[v]).length=xs.length+1:=by simp
 have e:Lz (xs++[v]).length (-1)=some xs.length:=by
  unfold Lz;rw[hl,ab6 (by decide),ab9 (by lia)];congr 1;lia
 unfold rJ;rw[e];show (xs++[v])[xs.length]? = some v;simp
noncomputable def Xk(b:Expr):Prop:=∀o i,subscripted b false o i=operate [o,i] (getItem o i)
noncomputable def IxR(X:Cx)(r:R2):Prop:=
 ∀(value slice:Expr)(pins:List (Addr×Obj))(s:Shared)(σ:St)(H:Hp)(x y:V)(v u:Value)(Q:VK),Inv X pins σ H s->RelV x v->RelV y u->r x y H Q ->
  subscripted slice false v u=operate [v,u] (getItem v u)->wpAny (model X.prog X.w) X.A (subscriptTail value slice v u) (EP X pins σ Q) X.xe s
noncomputable def MtR(X:Cx)(id:String)(r:V->List V->Hp->VK->Prop):Prop:=
 ∀(pins:List (Addr×Obj))(s:Shared)(σ:St)(H:Hp)(x:V)(xs:List V)(v:Value)(us:List Value)(Q:VK),Inv X pins σ H s->RelV x v->Vals xs us->r x xs H Q ->
  wpAny (model X.prog X.w) X.A (call (.builtin id) (v::us)) (EP X pins σ Q) X.xe s
section
variable{X:Cx}{a b:Expr}{ta tb:TE}{pos:Pos}
theorem aL{r:R2}(hr:IxR X r)(ha:PE X a ta)(hb:PE X b tb)(hs:Xk b):PE X (.Subscript a b pos) (Ig r ta tb):=by
 intro pins s σ H Q I h;exact Subscript_ (aat ha hb I h λv u s2 x y H2 I2 rx ry q=>hr a b pins s2 σ H2 x y v u Q I2 rx ry q (hs _ _))
noncomputable def abK(K:PySem.W.Frag):R2:=λx y H Q=>∃p xs i v,x = .ref p/\y = .int i/\bH K H p xs/\rJ xs i=some v/\Q v H
noncomputable def Gf(K:PySem.W.Frag):R2:=λx y H Q=>∃p xs i v,x = .ref p/\y = .int i/\cA K H p xs/\rJ xs i=some v/\Q v H
noncomputable def aeF:R2:=λx y H Q=>∃z i c,x = .str z/\y = .int i/\z.length<=sizeLine/\rJ z.cps.toList i=some c/\Q (.str ⟨#[c]⟩) H
theorem Wj:IxR X (abK X.K):=by
 intro value slice pins s σ H x y v u Q I rx ry h hs;obtain⟨p,xs,i,z,rfl,rfl,hq,he,q⟩:=h;cases rx;obtain⟨t,rfl⟩:=ry;obtain⟨its,r,pl,hz⟩:=I.list hq;obtain⟨j,h1,h2,h3,h4,h5⟩:=Ec he;obtain⟨w,ew,rw'⟩:=r.get h2;have hl:=r.length;have hn:=uR;have fin:EP X pins σ Q w s:=⟨z,H,I,rw',q⟩
 by_cases h0:0<=i
 .have hj:i.toNat=j:=by
   rw[seqIndex_of h0 h5] at h1;exact aaS h1
  exact item_listR pl.isList h0 (by lia) (by rw[hj];simpa using ew) fin hs
 .have hj:(i+(its.toArray.size:Int)).toNat=j:=by
   rw[seqIndex_neg (by lia) h4] at h1;rw[aaR,←hl];exact aaS h1
  exact subscriptTail_builtinR (x:=w) pl.isList.typeIs slot_list_getitem.lookup
   (wpAny_getItem_list_neg (Q:=λr s'=>r=w/\EP X pins σ Q r s') pl.isList (by lia) (by rw[aaR]<;>lia) (by lia) (by rw[hj];simpa using ew) ⟨Z,fin⟩) hs
theorem ZW:IxR X (Gf X.K):=by
 intro value slice pins s σ H x y v u Q I rx ry h hs;obtain⟨p,xs,i,z,rfl,rfl,hq,he,q⟩:=h;cases rx;obtain⟨t,rfl⟩:=ry;obtain⟨its,r,pl,hz⟩:=I.tuple hq;obtain⟨j,h1,h2,h3,h4,h5⟩:=Ec he;obtain⟨w,ew,rw'⟩:=r.get h2;have hl:=r.length;have hn:=uR;have fin:EP X pins σ Q w s:=⟨z,H,I,rw',q⟩
 exact subscriptTail_builtinR (x:=w) pl.typeIs slot_tuple_getitem.lookup
  (getItem_tuple (j:=j) (Q:=λr s'=>r=w/\EP X pins σ Q r s') pl (by lia) (by lia) (by rw[aaR,←hl];exact h1) (by simpa using ew) ⟨Z,fin⟩) hs
theorem Sg:IxR X aeF:=by
 intro value slice pins s σ H x y v u Q I rx ry h hs;obtain⟨z,i,c,rfl,rfl,hz,he,q⟩:=h;obtain⟨t,rfl⟩:=rx;obtain⟨t',rfl⟩:=ry;obtain⟨j,h1,h2,h3,h4,h5⟩:=Ec he;have hl:z.cps.toList.length=z.length:=by simp[Str.length]
 rw[hl] at h1 h4 h5;have hn:=uR
 exact tail_any (typeIs_str s z t) slot_str_getitem.lookup (getItem_str (c:=c) (by
  have e1:decide (i < -(2 ^ 63:Int))=false:=aaO (by lia);have e2:decide (i≥2 ^ 63)=false:=aaO (by lia);rw[e1,e2,Bool.or_false]) (by rw[h1];simpa using h2) ⟨.str ⟨#[c]⟩,H,I.tok _,⟨_,Z⟩,q⟩) hs
theorem Jp(its:List Value)(n j:Nat)(u:Value):Obj.mapSeq (·.setIfInBounds j u) {cls:= .type "list",data:= .seq its.toArray n}={cls:= .type "list",data:= .seq (its.set j u).toArray n}:=by
 simp[Obj.mapSeq]
theorem Inv.lst{pins:List (Addr×Obj)}{σ:St}{H:Hp}{s:Shared}{p:Addr}{xs:List V}(I:Inv X pins σ H s)(h:H p=some (.lst xs)):
 ∃(its:List Value) (n:Nat),Vals xs its/\s.heap.get? p=some {cls:= .type "list",data:= .seq its.toArray n}/\xs.length<=sizeLine:=by
 obtain⟨z,its,n,r,e⟩:=I.hok p _ h;exact⟨its,n,r,e,z⟩
theorem Inv.ZK{pins:List (Addr×Obj)}{σ:St}{H:Hp}{s:Shared}{p:Addr}{xs ys:List V}{its its':List Value}{n n':Nat}{f:Obj->Obj}(I:Inv X pins σ H s)(h:H p=some (.lst xs))(ho:s.heap.get? p=some {cls:= .type "list",data:= .seq its.toArray n})(hf:f {cls:= .type "list",data:= .seq its.toArray n}={cls:= .type "list",data:= .seq its'.toArray n'})(r:Vals ys its')(hz:ys.length<=sizeLine)(t:Nat):
 Inv X pins σ (upd H p (.lst ys)) {s with heap:=s.heap.update p f,toks:=t}:=by
 have e:(s.heap.update p f).get? p=some {cls:= .type "list",data:= .seq its'.toArray n'}:=by
  rw[Heap.get?_update_self f ho (by rw[hf]<;>rfl),hf]
 refine I.write (x:=p) (e:=p) (by rw[h];trivial) (.inl rfl) (λb u hb q=>(Heap.get?_update_other _ _ (Ne.symm hb)).trans q) ⟨_,e⟩ ?_;exact⟨hz,its',n',r,e⟩
noncomputable def abI:V->V->V->Hp->(Hp->Prop)->Prop:=λo i v H Q=>∃p xs k j,o = .ref p/\i = .int k/\H p=some (.lst xs)/\Lz xs.length k=some j/\Q (upd H p (.lst (xs.set j v)))
theorem set_list:acY X abI:=by
 intro pins s σ H o i v ov iv u Q I ro ri rv h;obtain⟨p,xs,k,j,rfl,rfl,hp,hj,q⟩:=h;cases ro;obtain⟨t,rfl⟩:=ri;obtain⟨its,n,r,ho,hz⟩:=I.lst hp;obtain⟨h1,h2,h3,h4⟩:=Lx hj;have hl:=r.length;have hn:=uR
 have I':Inv X pins σ (upd H p (.lst (xs.set j v))) {s with heap:=s.heap.update p (Obj.mapSeq (·.setIfInBounds j u))}:=
  I.ZK hp ho (Jp its n j u) (r.set rv j) (by rw[aa7];exact hz) s.toks
 by_cases h0:0<=k
 .have hk:k.toNat=j:=by
   rw[seqIndex_of h0 h4] at h1;exact aaS h1
  exact PySem.W.ki_setAt ho h0 (by lia) (by rw[aaR,←hl];exact h4) (by rw[hk];exact⟨_,I',q⟩)
 .have hk:(k+(its.toArray.size:Int)).toNat=j:=by
   rw[seqIndex_neg (by lia) h3] at h1;rw[aaR,←hl];exact aaS h1
  exact PySem.W.ki_setBack ho (by lia) (by rw[aaR,←hl];exact h3) (by lia) (by rw[hk];exact⟨_,I',q⟩)
theorem Cw(lo hi:Option Int)(n:Nat):(sliceBounds lo hi none n).1=((HT.iz n 0 lo:Nat):Int)/\(sliceBounds lo hi none n).2.1=((HT.iz n n hi:Nat):Int)/\(sliceBounds lo hi none n).2.2=1:=by
 refine⟨?_, ?_,Z⟩
 .cases lo with
  | none=>simp[sliceBounds,HT.iz]
  | some i=>
    simp only[sliceBounds,HT.iz,Option.getD_none,show (1:Int)>0 by decide,if_true]
    by_cases h:i<0
    .simp only[h,if_true]<;>lia
    .simp only[h,if_false]<;>lia
 .cases hi with
  | none=>simp[sliceBounds,HT.iz]
  | some i=>
    simp only[sliceBounds,HT.iz,Option.getD_none,show (1:Int)>0 by decide,if_true]
    by_cases h:i<0
    .simp only[h,if_true]<;>lia
    .simp only[h,if_false]<;>lia
theorem zX(its:List Value)(lo hi:Option Int):slicePick its.toArray lo hi none=((its.drop (HT.iz its.length 0 lo)).take (HT.iz its.length its.length hi - HT.iz its.length 0 lo)).toArray:=by
 obtain⟨h1,h2,h3⟩:=Cw lo hi its.toArray.size;unfold slicePick;rw[h1,h2,h3];simp only[sliceRange_one,pick_run,aaR]<;>rfl
noncomputable def Vo(K:PySem.W.Frag):V->Option Int->Option Int->Hp->VK->Prop:=λx lo hi H Q=>∃a xs,x = .ref a/\bH K H a xs /\ ∀p,H p=none->Q (.ref p) (upd H p (.lst (nR xs lo hi)))
theorem Vj:SlR X (Vo X.K):=by
 intro pins s σ H x v vl vu lo hi sl Q I rx hs pl pu h;obtain⟨a,xs,rfl,hx,q⟩:=h;cases rx;obtain⟨its,r,ht,hz⟩:=I.list hx;have hlen:=r.length;refine⟨"list",_,slot_list_getitem.lookup,ht.isList.typeIs, ?_⟩;refine wpAny_getItem_list_slice ht.isList hs pl pu .none (by simp) ?_ (by rw[aaR]<;>lia);rw[zX,←hlen];refine⟨.ref s.heap.objs.size,_,I.laid (t':=s.toks) (o:= .lst (nR xs lo hi)) (λb ob q=>aaj _ q) (aaG _) ?_,Z,q _ (I.hok.fresh (aaG _))⟩;exact⟨abX (vL xs lo hi) hz,_,0,(r.drop (HT.iz xs.length 0 lo)).take (HT.iz xs.length xs.length hi - HT.iz xs.length 0 lo),aam _ rfl⟩
noncomputable def vI:V->Bool
 | .non=>true
 | .bl _=>true
 | .int _=>true
 | .str _=>true
 | _=>false
noncomputable def WM:V->V->Bool
 | .non,.non=>true
 | .bl a,.bl b=>a==b
 | .bl a,.int b=>(if a then 1 else 0)==b
 | .int a,.bl b=>a==(if b then 1 else 0)
 | .int a,.int b=>a==b
 | .str a,.str b=>a==b
 | _,_=>false
theorem aag{A:Around}{s:Shared}{y x:V}{u v:Value}(ry:RelV y u)(rx:RelV x v)(fy:vI y=true)(fx:vI x=true):SeqAt.EqAt A s u v (WM y x):=by
 cases y with
 | non=>
   cases ry;cases x with
   | non=>cases rx;exact SeqAt.EqAt.same _
   | bl b=>cases rx;exact SeqAt.EqAt.none_bool b
   | int b=>obtain⟨t,rfl⟩:=rx;exact SeqAt.EqAt.none_int b t
   | str b=>obtain⟨t,rfl⟩:=rx;exact SeqAt.EqAt.none_str b t
   | _=>exact acq (show false=true from fx) aaQ
 | bl a=>
   cases ry;cases x with
   | non=>cases rx;exact SeqAt.EqAt.bool_none a
   | bl b=>cases rx;exact SeqAt.EqAt.bool_bool a b
   | int b=>obtain⟨t,rfl⟩:=rx;exact SeqAt.EqAt.bool_int a b t
   | str b=>obtain⟨t,rfl⟩:=rx;exact SeqAt.EqAt.bool_str a b t
   | _=>exact acq (show false=true from fx) aaQ
 | int a=>
   obtain⟨t',rfl⟩:=ry;cases x with
   | non=>cases rx;exact SeqAt.EqAt.int_none a t'
   | bl b=>cases rx;exact SeqAt.EqAt.int_bool a t' b
   | int b=>obtain⟨t,rfl⟩:=rx;exact SeqAt.EqAt.int_int a t' b t
   | str b=>obtain⟨t,rfl⟩:=rx;exact SeqAt.EqAt.int_str a t' b t
   | _=>exact acq (show false=true from fx) aaQ
 | str a=>
   obtain⟨t',rfl⟩:=ry;cases x with
   | non=>cases rx;exact SeqAt.EqAt.str_none a t'
   | bl b=>cases rx;exact SeqAt.EqAt.str_bool a t' b
   | int b=>obtain⟨t,rfl⟩:=rx;exact SeqAt.EqAt.str_int a t' b t
   | str b=>obtain⟨t,rfl⟩:=rx;exact SeqAt.EqAt.str_str a t' b t
   | _=>exact acq (show false=true from fx) aaQ
 | _=>exact acq (show false=true from fy) aaQ
noncomputable def WQ(x:V)(u:Value):Bool:=match u with
 | .none=>WM .non x
 | .bool b=>WM (.bl b) x
 | .int i _=>WM (.int i) x
 | .str z _=>WM (.str z) x
 | _=>false
theorem Tj{x y:V}{u:Value}(r:RelV y u)(f:vI y=true):WQ x u=WM y x:=by
 cases y with
 | non=>cases r;rfl
 | bl b=>cases r;rfl
 | int i=>obtain⟨t,rfl⟩:=r;rfl
 | str z=>obtain⟨t,rfl⟩:=r;rfl
 | _=>exact acq (show false=true from f) aaQ
theorem Ed{x:V}:∀{xs:List V}{us:List Value},Vals xs us->xs.all vI=true->us.any (WQ x)=xs.any λy=>WM y x
 | _,_,.nil,_=>rfl
 | y::xs,u::us,.cons r t,f=>by
   rw[List.all_cons,aa0] at f;rw[List.any_cons,List.any_cons,Tj r f.1,Ed t f.2]
theorem yJ{A:Around}{s:Shared}{x:V}{v:Value}(rx:RelV x v)(fx:vI x=true):∀{xs:List V}{us:List Value},Vals xs us->xs.all vI=true -> ∀u∈us,SeqAt.EqAt A s u v (WQ x u)
 | _,_,.nil,_=>λu hu=>by cases hu
 | y::xs,u::us,.cons r t,f=>λu' hu=>by
   rw[List.all_cons,aa0] at f;rcases List.mem_cons.mp hu with rfl|hu
   .rw[Tj r f.1];exact aag r rx f.1 fx
   .exact yJ rx fx t f.2 u' hu
noncomputable def inV(x:V)(xs:List V):Bool:=xs.any λy=>WM y x
noncomputable def rIn(K:PySem.W.Frag)(neg:Bool):R2:=λx y H Q=>∃p xs,y = .ref p/\(bH K H p xs\/cA K H p xs)/\vI x=true/\xs.all vI=true/\Q (.bl (if neg then !inV x xs else inV x xs)) H
theorem Ny:qy X (compareOp .In) (rIn X.K false):=by
 intro pins s σ H x y v u Q I rx ry h;obtain⟨p,xs,rfl,hq,fx,fs,q⟩:=h;cases ry;rcases hq with hq|hq
 .obtain⟨its,r,pl,hz⟩:=I.list hq
  refine SeqAt.in_listAt (WQ x) pl.isList (λw hw=>yJ rx fx r fs w (by simpa using hw)) ⟨.bl _,H,I,Z, ?_⟩;rw[show its.toArray.any (WQ x)=its.any (WQ x) by simp,Ed r fs];exact q
 .obtain⟨its,r,pl,hz⟩:=I.tuple hq
  refine SeqAt.in_tupleAt (WQ x) pl (λw hw=>yJ rx fx r fs w (by simpa using hw)) ⟨.bl _,H,I,Z, ?_⟩;rw[show its.toArray.any (WQ x)=its.any (WQ x) by simp,Ed r fs];exact q
theorem DY:k_ X (.builtin "len") (λxs H Q=>∃p ys,xs=[.ref p]/\(bH X.K H p ys\/cA X.K H p ys)/\Q (.int ys.length) H):=by
 intro pins s σ H xs us Q I r h;obtain⟨p,ys,rfl,hq,q⟩:=h;obtain⟨u,rfl,rx⟩:=vals1 r;cases rx;have hn:=uR;rcases hq with hq|hq
 .obtain⟨its,r',pl,hz⟩:=I.list hq
  have hlen:=r'.length;exact Calls.call_len_list pl.isList (by simp only[aaR]<;>lia) ⟨.int ys.length,H,I.tok _,⟨s.toks+1,by rw[aaR,hlen]⟩,q⟩
 .obtain⟨its,r',pl,hz⟩:=I.tuple hq
  have hlen:=r'.length;exact len_tuple pl (by simp only[aaR]<;>lia) ⟨.int ys.length,H,I.tok _,⟨s.toks+1,by rw[aaR,hlen]⟩,q⟩
theorem DX:k_ X (.type "list") (λxs H Q=>∃p ys,xs=[.ref p]/\(bH X.K H p ys\/cA X.K H p ys) /\ ∀l,H l=none->Q (.ref l) (upd H l (.lst ys))):=by
 intro pins s σ H xs us Q I r h;obtain⟨p,ys,rfl,hq,q⟩:=h;obtain⟨u,rfl,rx⟩:=vals1 r;cases rx
 have fin:∀(its:List Value),Vals ys its->ys.length<=sizeLine -> ∀(h':Heap)(c':Nat),(∀b o',s.heap.get? b=some o'->h'.get? b=some o') ->
  h'.get? s.heap.objs.size=some {cls:= .type "list",dict:=none,data:= .seq its.toArray c',slots:= #[]}->EP X pins σ Q (.ref s.heap.objs.size) {s with heap:=h'}:=λits r' hz h' c' kp e=>
  ⟨.ref s.heap.objs.size,_,I.laid (t':=s.toks) kp (aaG _) (show cU X.prog X.w _ h' _ (.lst ys) from ⟨hz,its,c',r',e⟩),Z,q _ (I.hok.fresh (aaG _))⟩
 rcases hq with hq|hq
 .obtain⟨its,r',pl,hz⟩:=I.list hq
  have hlen:=r'.length;obtain⟨o,ho,hc,n,hd⟩:=pl.isList;exact call_list_seq p (.inl rfl) ho hc hd (λh' c' kp e=>fin its r' hz h' c' kp e) (by simp only[aaR]<;>lia)
 .obtain⟨its,r',pl,hz⟩:=I.tuple hq
  have hlen:=r'.length;obtain⟨o,ho,hc,n,hd⟩:=pl;exact call_list_seq p (.inr rfl) ho hc hd (λh' c' kp e=>fin its r' hz h' c' kp e) (by simp only[aaR]<;>lia)
noncomputable def tyV(K:PySem.W.Frag)(T:String)(x:V)(H:Hp):Prop:=match x with
 | .str _=>T = "str"
 | .int _=>T = "int"
 | .ref p=>(T = "list" /\ ∃xs,bH K H p xs)\/(T = "tuple" /\ ∃o,K.lookup p=some o/\o.cls = .type "tuple" /\ o.dict=none) \/
    (T = "dict" /\ ((∃kvs,H p=some (.dK kvs)) \/ ∃kvs,H p=some (.dT kvs)))\/(T = "set" /\ ∃S n,H p=some (.set S n))
 | _=>False
theorem YB{pins:List (Addr×Obj)}{σ:St}{H:Hp}{s:Shared}{T:String}{x:V}{v:Value}(I:Inv X pins σ H s)(r:RelV x v)(ty:tyV X.K T x H):
 s.TypeIs v T /\ ∀a,v = .ref a -> ∃ob,s.heap.get? a=some ob/\ob.dict=none:=by
 cases x with
 | str z=>
   obtain⟨t,rfl⟩:=r;cases (show T = "str" from ty);exact⟨typeIs_str s z t,λ_ e=>nomatch e⟩
 | int i=>
   obtain⟨t,rfl⟩:=r;cases (show T = "int" from ty);exact⟨typeIs_int s i t,λ_ e=>nomatch e⟩
 | ref p=>
   cases r;rcases ty with ⟨rfl,xs,hq⟩|⟨rfl,o,hk,hc,hd⟩|⟨rfl,hk⟩|⟨rfl,S,n,hk⟩
   .obtain⟨its,_,pl,_⟩:=I.list hq
    refine⟨pl.isList.typeIs,λa e=>?_⟩;cases e;obtain⟨o,n,e,c,hd,_⟩:=pl;exact⟨o,e,hd⟩
   .refine⟨⟨o,I.nW p o hk,hc⟩,λa e=>?_⟩
    cases e;exact⟨o,I.nW _ o hk,hd⟩
   .have z:∃o,s.heap.get? p=some o/\o.ExactDict:=by
     rcases hk with ⟨kvs,hk⟩|⟨kvs,hk⟩
     .obtain⟨_,_,_,_,o,_,_,e,ex,_⟩:=I.hok p _ hk
      exact⟨o,e,ex⟩
     .obtain⟨_,_,_,_,o,_,_,e,ex,_⟩:=I.hok p _ hk
      exact⟨o,e,ex⟩
    obtain⟨o,e,ex⟩:=z;refine⟨⟨o,e,ex.1⟩,λa e2=>?_⟩;cases e2;exact⟨o,e,ex.2.1⟩
   .obtain⟨o,_,_,_,e,ex,_⟩:=I.hok p _ hk
    refine⟨⟨o,e,ex.1⟩,λa e2=>?_⟩;cases e2;exact⟨o,e,ex.2.1⟩
 | _=>exact False.elim ty
noncomputable def tBM(K:PySem.W.Frag)(T:String)(r:V->List V->Hp->VK->Prop)(to:TE)(t:TA):TE:=λσ H Q=>to σ H λx H1=>tyV K T x H1/\t σ H1 λxs H2=>r x xs H2 Q
variable{o e:Expr}{es:List Expr}{to:TE}{t:TA}{name:Str}{apos cpos:Pos}{T id:String}{r:V->List V->Hp->VK->Prop}
theorem X4(pa:PlainAttrs T)(slot:Slot T name id)(hty:typeOf (.builtin id)=pure (.type "method_descriptor"))(hm:MtR X id r)(ho:PE X o to)(ha:PA X (e::es) t)(hbase:attributeBase o name X.env (eval o X.env)=eval o X.env:=by rfl)(hfew:((backTo cpos (starEach (e::es) X.env)).all (λx=> !x.1)&&(backToKw cpos (keywordEach [] X.env)).all (λx=>x.1.isSome)
   && decide ((e::es).length+([]:List Keyword).length+(if ([]:List Keyword).isEmpty then 0 else 1)<30))=true:=by rfl)(hline:(apos.endLine==cpos.line)=true:=by rfl)(hs:starEach (e::es) X.env=(false,eval e X.env)::starEach es X.env:=by rfl)(hplain:(backTo cpos (starEach es X.env)).any (·.1)=false:=by rfl):
 PE X (.Call (.Attribute o name apos) (e::es) [] cpos) (tBM X.K T r to t):=by
 intro pins s σ H Q I h;refine wpAny_Call_method_late hbase hfew hline rfl (cZ (ho pins s σ H _ I h) λv s1 iB=>?_);obtain⟨x,H1,I1,r1,ty,q1⟩:=iB;obtain⟨h1,h2⟩:=YB I1 r1 ty;refine⟨T,id,pa,slot,hty,h1,h2, ?_⟩;have hA:=ha cpos pins s1 σ H1 _ I1 q1;rw[hs] at hA ⊢;refine Calls.callWith_builtin (by show (false||(backTo cpos (starEach es X.env)).any (·.1))=false;rw[hplain]<;>rfl) (Calls.evalArgs_plain ?_);exact cZ hA λus s2 ⟨vs,H2,I2,r2,q2⟩=>hm pins s2 σ H2 x vs v us Q I2 r1 r2 q2
end
noncomputable def MtM(X:Cx)(id:String)(r:V->List V->Hp->VK->Prop):Prop:=
 ∀(pins:List (Addr×Obj))(s:Shared)(σ:St)(H:Hp)(x:V)(xs:List V)(v:Value)(us:List Value)(Q:VK),Inv X pins σ H s->RelV x v->Vals xs us->r x xs H Q ->
  wpAny (model X.prog X.w) X.A (call (.builtin id) (v::us)) (EP X pins σ Q) X.xe s
theorem Vals.one{x:V}{us:List Value}(h:Vals [x] us):∃u,us=[u]/\RelV x u:=by
 cases h with
 | cons r t=>cases t;exact⟨_,Z,r⟩
theorem Vals.rep{xs:List V}{us:List Value}(h:Vals xs us):∀k:Nat,Vals (List.replicate k xs).flatten (List.replicate k us).flatten
 | 0=> .nil
 | k+1=>by
   rw[List.replicate_succ,List.replicate_succ,List.flatten_cons,List.flatten_cons];exact Vals.append h (Vals.rep h k)
theorem foldl_rep(its:List Value):∀(k:Nat)(acc:List Value),
 List.foldl (λx1 x2=>x1++x2) acc.toArray (List.replicate k its.toArray)=(acc++(List.replicate k its).flatten).toArray
 | 0,acc=>by simp
 | k+1,acc=>by
   have e:acc.toArray++its.toArray=(acc++its).toArray:=by simp
   have e2:(acc++its)++(List.replicate k its).flatten=acc++(List.replicate (k+1) its).flatten:=by
    rw[List.replicate_succ,List.flatten_cons,List.append_assoc]
   rw[←e2,←foldl_rep its k (acc++its),←e,List.replicate_succ,List.foldl_cons]
section
variable{X:Cx}{pins:List (Addr×Obj)}{σ:St}{H:Hp}{s:Shared}{l b:Addr}{xs ys zs:List V}
theorem Inv.ab4{its its':List Value}{n:Nat}{f:Array Value->Array Value}{t':Nat}(I:Inv X pins σ H s)(hH:H l=some (.lst xs))(e:s.heap.get? l=some {cls:= .type "list",data:= .seq its.toArray n})(hf:f its.toArray=its'.toArray)(hv:Vals ys its')(hz:ys.length<=sizeLine):
 Inv X pins σ (upd H l (.lst ys)) {s with heap:=s.heap.update l (Obj.mapSeq f),toks:=t'}:=by
 have q:=PySem.IsL.update e f;rw[hf] at q;refine I.write (x:=l) (e:=l) (by rw[hH];exact trivial) (.inl rfl) (λb' u hb hu=>(Heap.get?_update_other s.heap (Obj.mapSeq f) (Ne.symm hb)).trans hu) ⟨_,q⟩ ?_;exact⟨hz,its',_,hv,q⟩
theorem Inv.ab5{its:List Value}{t':Nat}(I:Inv X pins σ H s)(hv:Vals ys its)(hz:ys.length<=sizeLine):
 Inv X pins σ (upd H s.heap.objs.size (.lst ys)) {s with heap:=s.heap.push {cls:= .type "list",data:= .seq its.toArray},toks:=t'}:=
 I.laid (λ_ _ q=>aaj _ q) (aaG _) ⟨hz,its,0,hv,aam _ rfl⟩
theorem Inv.fresh(I:Inv X pins σ H s):H s.heap.objs.size=none:=I.hok.fresh (aaG _)
theorem Inv.Oi(I:Inv X pins σ H s)(hH:H l=some (.lst xs)):xs.length<=sizeLine /\ ∃(its:List Value) (n:Nat),Vals xs its/\xs.length=its.length/\s.heap.get? l=some {cls:= .type "list",data:= .seq its.toArray n}:=by
 obtain⟨z,its,n,r,e⟩:=I.hok l _ hH;exact⟨z,its,n,r,r.length,e⟩
theorem Gs{n:Nat}(h:n<=sizeLine):Builtin.List.listTooLong n=false:=by
 unfold Builtin.List.listTooLong;exact aaO (by lia)
end
section
variable{X:Cx}
noncomputable def K3:V->List V->Hp->VK->Prop:=λx vs H Q=>∃l xs y,x = .ref l/\vs=[y]/\H l=some (.lst xs)/\xs.length<sizeLine/\Q .non (upd H l (.lst (xs++[y])))
theorem Bp:MtM X "list.append" K3:=by
 intro pins s σ H x vs v us Q I rx rv h;obtain⟨l,xs,y,rfl,rfl,hH,hz,q⟩:=h;cases rx;obtain⟨u,rfl,ru⟩:=rv.one;obtain⟨z,its,n,r,hl,e⟩:=I.Oi hH;refine call_meets F.slot_list_append ⟨_,e,Z⟩ F.entry_list_append (F.args_list_append_2 _ _) (PySem.list_append l its.toArray n u (by rw[aaR];lia)) ⟨e, ?_⟩;refine⟨.non,_,I.ab4 (its':=its++[u]) hH e (by simp) (r.append (.cons ru .nil)) ?_,Z,q⟩;rw[aaT,aa5];lia
noncomputable def Vp:V->List V->Hp->VK->Prop:=λx vs H Q=>∃l b xs zs,x = .ref l/\vs=[.ref b]/\H l=some (.lst xs)/\H b=some (.lst zs)/\xs.length+zs.length<=sizeLine/\Q .non (upd H l (.lst (xs++zs)))
theorem Bo:MtM X "list.extend" Vp:=by
 intro pins s σ H x vs v us Q I rx rv h;obtain⟨l,b,xs,zs,rfl,rfl,hH,hB,hz,q⟩:=h;cases rx;obtain⟨u,rfl,ru⟩:=rv.one;cases ru;obtain⟨z,its,n,r,hl,e⟩:=I.Oi hH;obtain⟨z2,its2,n2,r2,hl2,e2⟩:=I.Oi hB;have hsz:its.toArray.size+its2.toArray.size<=sizeLine:=by rw[aaR,aaR];lia
 have Sq:¬(!its.toArray.isEmpty&&Builtin.List.listTooLong (its.toArray.size+its2.toArray.size))=true:=by
  rw[Gs hsz,Bool.and_false];exact aaQ
 refine call_meets F.slot_list_extend ⟨_,e,Z⟩ F.entry_list_extend (F.args_list_extend_2 _ _)
  (AutoSeq1.list_extend_list_list_0 l its.toArray n b its2.toArray n2 Sq (by rw[aaR];lia) (by lia)) ⟨e,e2, ?_⟩
 refine⟨.non,_,I.ab4 (its':=its++its2) hH e (by simp) (r.append r2) ?_,Z,q⟩;rw[aaT];lia
noncomputable def abM:R2:=λx y H Q=>∃l b xs zs,x = .ref l/\y = .ref b/\H l=some (.lst xs)/\H b=some (.lst zs)/\xs.length+zs.length<=sizeLine /\ ∀p,H p=none->Q (.ref p) (upd H p (.lst (xs++zs)))
theorem jD:qy X (binaryOp .Add) abM:=by
 intro pins s σ H x y v u Q I rx ry h;obtain⟨l,b,xs,zs,rfl,rfl,hH,hB,hz,q⟩:=h;cases rx;cases ry;obtain⟨z,its,n,r,hl,e⟩:=I.Oi hH;obtain⟨z2,its2,n2,r2,hl2,e2⟩:=I.Oi hB;refine PySem.P.add_list e e2 ?_ (by rw[aaR,aaR];lia);have ea:its.toArray++its2.toArray=(its++its2).toArray:=by simp
 rw[ea];exact⟨.ref _,_,I.ab5 (t':=s.toks) (r.append r2) (by rw[aaT];lia),Z,q _ I.fresh⟩
noncomputable def aeD:R2:=λx y H Q=>∃l k xs,x = .ref l/\y = .int k/\H l=some (.lst xs) /\ -(2 ^ 63)<=k/\k<2 ^ 63/\xs.length*k.toNat<=sizeLine /\
 ∀p,H p=none->Q (.ref p) (upd H p (.lst (List.replicate k.toNat xs).flatten))
theorem len_rep{α:Type}(xs:List α)(k:Nat):(List.replicate k xs).flatten.length=k*xs.length:=by
 induction k with
 | zero=>simp
 | succ k ih=>rw[List.replicate_succ,List.flatten_cons,aaT,ih,Nat.succ_mul,Nat.add_comm]
theorem Ro:qy X (binaryOp .Mult) aeD:=by
 intro pins s σ H x y v u Q I rx ry h;obtain⟨l,k,xs,rfl,rfl,hH,h1,h2,hz,q⟩:=h;cases rx;obtain⟨t,rfl⟩:=ry;obtain⟨z,its,n,r,hl,e⟩:=I.Oi hH;have hlen:its.toArray.size*k.toNat<=sizeLine:=by rw[aaR,←hl];exact hz
 have hcap:¬its.toArray.size*k.toNat>(2 ^ 63 - 1) / 8:=by
  have:(sizeLine:Nat)<=(2 ^ 63 - 1) / 8:=by decide
  lia
 have hfit:¬(!Builtin.List.listFitsIndex k)=true:=by
  rw[fitsIndex_both h1 h2];exact aaQ
 have Sq:¬Builtin.List.listTooLong (its.toArray.size*k.toNat)=true:=by
  rw[Gs hlen];exact aaQ
 have hnew:List.foldl (λx1 x2=>x1++x2) #[] (List.replicate (if its.toArray.isEmpty=true then 0 else k.toNat) its.toArray)=(List.replicate k.toNat its).flatten.toArray:=by
  have f0:∀m:Nat,List.foldl (λx1 x2=>x1++x2) #[] (List.replicate m its.toArray)=(List.replicate m its).flatten.toArray:=λm=>by
   have:=foldl_rep its m [];rw[List.nil_append] at this;exact this
  rw[f0];cases its with
  | nil=>simp
  | cons a r'=>rw[ab6 (by simp)]
 refine wpAny_binaryOp_repeat_ref (T:= "list") (U:= "int") (by decide) ⟨_,e,Z⟩ (λs'=>typeIs_int s' k t) noFill_list_mul F.fills_int_mul F.slot_int_rmul repeat_list F.slot_int_index.lookup
  (call_meets F.slot_int_rmul (typeIs_int s k t) F.entry_int_rmul (F.args_int_rmul_2 _ _) (int___rmul___int_list k t l its.toArray n)
    ⟨e,Z,⟨_,e,Z⟩,call_meets F.slot_list_mul ⟨_,e,Z⟩ F.entry_list_mul (F.args_list_mul_2 _ _) (AutoListH.list___mul___list_int_3 l its.toArray n k t hfit hcap Sq) ⟨e, ?_⟩⟩)
 rw[hnew];exact⟨.ref _,_,I.ab5 (t':=s.toks) (r.rep k.toNat) (by rw[len_rep,Nat.mul_comm];exact hz),Z,q _ I.fresh⟩
end
section
variable{prog:Program}{w:World}{A:Around}{E:Value->Shared->Prop}{s:Shared}
end
section
variable{X:Cx}
end
section
variable{κ:Type}[DecidableEq κ]
noncomputable def gQ(kvs:List (κ×V))(k:κ):Option V:=(kvs.find? λkv=>decide (kv.1=k)).map (·.2)
noncomputable def putK(kvs:List (κ×V))(k:κ)(v:V):List (κ×V):=
 if (kvs.any λkv=>decide (kv.1=k))=true then kvs.map (λkv=>if kv.1=k then (kv.1,v) else kv) else kvs++[(k,v)]
theorem fj{p:κ×V}{r:List (κ×V)}{k:κ}(e:p.1=k):gQ (p::r) k=some p.2:=by simp[gQ,List.find?_cons,e]
theorem d_{p:κ×V}{r:List (κ×V)}{k:κ}(e:¬p.1=k):gQ (p::r) k=gQ r k:=by simp[gQ,List.find?_cons,e]
theorem jV(k:κ):∀kvs:List (κ×V),(kvs.any λkv=>decide (kv.1=k))=(gQ kvs k).isSome
 | []=>rfl
 | p::r=>by
   rw[List.any_cons]
   by_cases e:p.1=k
   .simp only[fj e,aaN e,Bool.true_or,Option.isSome_some]
   .rw[d_ e,aaO e,Bool.false_or];exact jV k r
theorem Fg(k j:κ)(y:V):∀kvs:List (κ×V),gQ (kvs.map λkv=>if kv.1=k then (kv.1,y) else kv) j=(gQ kvs j).map λx=>if j=k then y else x
 | []=>rfl
 | p::r=>by
   have ih:=Fg k j y r;rw[List.map_cons]
   by_cases h:p.1=k
   .rw[ab9 h]
    by_cases e:p.1=j
    .rw[fj (p:=(p.1,y)) e,fj e,Option.map_some,ab9 (e.symm.trans h)]
    .rw[d_ (p:=(p.1,y)) e,d_ e,ih]
   .rw[ab6 h]
    by_cases e:p.1=j
    .rw[fj (p:=p) e,fj e,Option.map_some,ab6 (λz=>h (e.trans z))]
    .rw[d_ (p:=p) e,d_ e,ih]
theorem Av(k j:κ)(y:V):∀kvs:List (κ×V),gQ kvs k=none->gQ (kvs++[(k,y)]) j=if j=k then some y else gQ kvs j
 | [],_=>by
   by_cases e:k=j
   .rw[ab9 e.symm];exact fj (p:=(k,y)) e
   .rw[ab6 (λz=>e z.symm)];exact d_ (p:=(k,y)) e
 | p::r,hn=>by
   rw[List.cons_append];have hk:¬p.1=k:=λz=>by rw[fj z] at hn;cases hn
   rw[d_ hk] at hn;have ih:=Av k j y r hn
   by_cases e:p.1=j
   .rw[fj e,fj e,ab6 (λz=>hk (e.trans z))]
   .rw[d_ e,d_ e,ih]
theorem xH(kvs:List (κ×V))(k j:κ)(y:V):gQ (putK kvs k y) j=if j=k then some y else gQ kvs j:=by
 unfold putK
 by_cases a:(kvs.any λkv=>decide (kv.1=k))=true
 .rw[ab9 a,Fg]
  rw[jV] at a
  by_cases e:j=k
  .obtain⟨x,hx⟩:=Option.isSome_iff_exists.mp a
   rw[ab9 e,e,hx,Option.map_some,ab9 rfl]
  .rw[ab6 e]
   cases gQ kvs j with
   | none=>rfl
   | some x=>rw[Option.map_some,ab6 e]
 .rw[ab6 a]
  refine Av k j y kvs ?_;rw[jV] at a;cases q:gQ kvs k with
  | none=>rfl
  | some x=>rw[q] at a;exact(a rfl).elim
theorem jm(kvs:List (κ×V))(k:κ)(v:V):(putK kvs k v).length<=kvs.length+1:=by
 unfold putK;split
 .rw[aad];lia
 .rw[aaT,abE,List.length_nil];lia
theorem Q7{kvs:List (κ×V)}{k:κ}(v:V)(h:gQ kvs k=none):putK kvs k v=kvs++[(k,v)]:=by
 unfold putK;rw[jV,h];exact ab6 (by decide)
theorem nU.uU{o:Option V}{u:Option Value}(r:nU o u):o.isSome=u.isSome:=by
 cases o with
 | none=>cases u with
   | none=>rfl
   | some _=>exact(show False from r).elim
 | some _=>cases u with
   | none=>exact(show False from r).elim
   | some _=>rfl
theorem nU.getD{o:Option V}{u:Option Value}{d:V}{d':Value}(r:nU o u)(rd:RelV d d'):RelV (o.getD d) (u.getD d'):=by
 cases o with
 | none=>cases u with
   | none=>exact rd
   | some _=>exact(show False from r).elim
 | some _=>cases u with
   | none=>exact(show False from r).elim
   | some _=>exact r
theorem KV.val{kvs:List (κ×V)}{vs:List (κ×Value)}(r:KV kvs vs)(k:κ):nU (gQ kvs k) (valueAt vs k):=by
 unfold KV at r
 induction r with
 | nil=>exact True.intro
 | @cons p q ps qs h t ih=>
   obtain⟨h1,h2⟩:=h
   by_cases e:p.1=k
   .have e':q.1=k:=h1.symm.trans e
    have b:valueAt (q::qs) k=some q.2:=by simp[valueAt,List.find?_cons,e']
    rw[fj e,b];exact h2
   .have e':¬q.1=k:=λz=>e (h1.trans z)
    have b:valueAt (q::qs) k=valueAt qs k:=by simp[valueAt,List.find?_cons,e']
    rw[d_ e,b];exact ih
theorem KV.any{kvs:List (κ×V)}{vs:List (κ×Value)}(r:KV kvs vs)(k:κ):(kvs.any λkv=>decide (kv.1=k))=vs.any λkv=>decide (kv.1=k):=by
 unfold KV at r
 induction r with
 | nil=>rfl
 | cons h t ih=>rw[List.any_cons,List.any_cons,ih,h.1]
theorem KV.repl{kvs:List (κ×V)}{vs:List (κ×Value)}(r:KV kvs vs)(k:κ){y:V}{u:Value}(ry:RelV y u):
 KV (kvs.map λkv=>if kv.1=k then (kv.1,y) else kv) (vs.map λkv=>if kv.1=k then (kv.1,u) else kv):=by
 unfold KV at r ⊢
 induction r with
 | nil=>exact .nil
 | @cons p q ps qs h t ih=>
   rw[List.map_cons,List.map_cons];refine .cons ?_ ih;obtain⟨h1,h2⟩:=h
   by_cases e:p.1=k
   .rw[ab9 e,ab9 (h1.symm.trans e)];exact⟨h1,ry⟩
   .rw[ab6 e,ab6 (λz=>e (h1.trans z))];exact⟨h1,h2⟩
theorem KV.put{kvs:List (κ×V)}{vs:List (κ×Value)}(r:KV kvs vs)(k:κ){y:V}{u:Value}(ry:RelV y u):KV (putK kvs k y) (stored vs k u):=by
 unfold putK stored;rw[r.any k]
 by_cases e:(vs.any λkv=>decide (kv.1=k))=true
 .rw[ab9 e,ab9 e];exact r.repl k ry
 .rw[ab6 e,ab6 e];exact Paired.snoc r ⟨Z,ry⟩
theorem KV.length{kvs:List (κ×V)}{vs:List (κ×Value)}(r:KV kvs vs):kvs.length=vs.length:=Paired.length r
end
theorem Br{P:Program}{w:World}{k:Key}{u:Value}(r:RelV (kV k) u):(cR P w).is k u=true:=by
 cases k with
 | inl i=>obtain⟨t,e⟩:=(show ∃t,u=Value.int i t from r);subst e;exact Gz P w i t
 | inr x=>obtain⟨t,e⟩:=(show ∃t,u=Value.str x t from r);subst e;exact Gy P w x t
theorem Bu{P:Program}{w:World}:∀{ks:List Key}{us:List Value},Vals (ks.map kV) us->ItemsAre (cR P w) ks us
 | [],_,r=>by rw[List.map_nil] at r;cases r;exact .nil
 | k::ks,_,r=>by
   rw[List.map_cons] at r;cases r with
   | cons h t=>exact .cons (Br h) (Bu t)
noncomputable abbrev KT(H:Hp):List (List Key×V)->List (List Key×Addr×Value)->Prop:=Paired λp q=>p.1=q.1/\H q.2.1=some (.tup (p.1.map kV))/\RelV p.2 q.2.2
theorem KT.val{H:Hp}{kvs:List (List Key×V)}{xs:List (List Key×Addr×Value)}(r:KT H kvs xs)(k:List Key):nU (gQ kvs k) ((atKey xs k).map (·.2)):=by
 induction r with
 | nil=>exact True.intro
 | @cons p q ps qs h t ih=>
   obtain⟨h1,_,h2⟩:=h
   by_cases e:p.1=k
   .have e':q.1=k:=h1.symm.trans e
    have b:atKey (q::qs) k=some q.2:=by simp[atKey,List.find?_cons,e']
    rw[fj e,b];exact h2
   .have e':¬q.1=k:=λz=>e (h1.trans z)
    have b:atKey (q::qs) k=atKey qs k:=by simp[atKey,List.find?_cons,e']
    rw[d_ e,b];exact ih
theorem KT.repl{H:Hp}{kvs:List (List Key×V)}{xs:List (List Key×Addr×Value)}(r:KT H kvs xs)(k:List Key){y:V}{u:Value}(ry:RelV y u):
 KT H (kvs.map λkv=>if kv.1=k then (kv.1,y) else kv) (xs.map (putAt k u)):=by
 induction r with
 | nil=>exact .nil
 | @cons p q ps qs h t ih=>
   rw[List.map_cons,List.map_cons];refine .cons ?_ ih;obtain⟨h1,h2,h3⟩:=h;unfold putAt
   by_cases e:p.1=k
   .rw[ab9 e,ab9 (h1.symm.trans e)];exact⟨h1,h2,ry⟩
   .rw[ab6 e,ab6 (λz=>e (h1.trans z))];exact⟨h1,h2,h3⟩
theorem KT.put{H:Hp}{kvs:List (List Key×V)}{xs:List (List Key×Addr×Value)}(r:KT H kvs xs)(k:List Key){b:Addr}{y:V}{u:Value}(hb:H b=some (.tup (k.map kV)))(ry:RelV y u):
 KT H (putK kvs k y) (storedH xs k b u):=by
 have e:(kvs.any λkv=>decide (kv.1=k))=(atKey xs k).isSome:=by
  rw[jV,(r.val k).uU,Option.isSome_map]
 unfold putK storedH;rw[e]
 by_cases q:(atKey xs k).isSome=true
 .rw[ab9 q,ab9 q];exact r.repl k ry
 .rw[ab6 q,ab6 q];exact Paired.snoc r ⟨Z,hb,ry⟩
theorem KT.keeps{H H':Hp}{kvs:List (List Key×V)}{xs:List (List Key×Addr×Value)}(r:KT H kvs xs)(ht:∀b ys,H b=some (.tup ys)->H' b=some (.tup ys)):KT H' kvs xs:=
 Paired.ab3 r λ_ _ z=>⟨z.1,ht _ _ z.2.1,z.2.2⟩
section
variable{P:Program}{w:World}{H:Hp}{h:Heap}{a:Addr}
theorem XQ{u:HO}(ok:mF P w H h)(e:Rd H a u):cU P w H h a u:=e.ok ok
theorem BK{kvs:List (Key×V)}(ok:mF P w H h)(e:Rd H a (.dK kvs)):kvs.length<=sizeLine/\(a==sysModules)=false /\ ∃vs,KV kvs vs/\h.DictOf (cR P w) a vs:=
 show cU P w H h a (.dK kvs) from XQ ok e
theorem Tt{kvs:List (Key×V)}(ok:mF P w H h)(e:H a=some (.dK kvs)):kvs.length<=sizeLine/\(a==sysModules)=false /\ ∃vs,KV kvs vs/\h.DictOf (cR P w) a vs:=BK ok (.inl e)
theorem yO{ks:List Key}(ok:mF P w H h)(e:H a=some (.tup (ks.map kV))):(tupleKind (cR P w)).is h ks a:=by
 obtain⟨_,its,r,o,h1,h2,n,h3⟩:=(show cU P w H h a (.tup (ks.map kV)) from ok a _ e);exact⟨o,its.toArray,n,h1,h2,h3,by simpa using Bu r⟩
theorem Bx{kvs:List (List Key×V)}(ok:mF P w H h)(e:Rd H a (.dT kvs)):kvs.length<=sizeLine/\(a==sysModules)=false /\
 ∃xs,KT H kvs xs/\h.DictOfH (tupleKind (cR P w)) a xs:=by
 obtain⟨z,y,xs,r,o,es,ep,h1,h2,h3,h4,h5⟩:=(show cU P w H h a (.dT kvs) from XQ ok e);refine⟨z,y,xs,r,o,es,ep,h1,h2,h3,h4,λx hx=>?_,h5⟩
 have all:∀{l:List (List Key×V)}{m:List (List Key×Addr×Value)},KT H l m -> ∀x∈m,(tupleKind (cR P w)).is h x.1 x.2.1:=by
  intro l m q
  induction q with
  | nil=>intro x hx;exact nomatch hx
  | @cons p q ps qs hq t ih=>
    intro x hx;rcases List.mem_cons.mp hx with e|hx
    .subst e
     exact yO ok (by rw[←hq.1];exact hq.2.1)
    .exact ih x hx
 exact all r x hx
theorem acI{kvs:List (List Key×V)}(ok:mF P w H h)(e:H a=some (.dT kvs)):kvs.length<=sizeLine/\(a==sysModules)=false /\
 ∃xs,KT H kvs xs/\h.DictOfH (tupleKind (cR P w)) a xs:=Bx ok (.inl e)
end
noncomputable def pR(H:Hp)(a:Addr)(y:V)(r:Option V):Prop:=
 (∃kvs k,Rd H a (.dK kvs)/\y=kV k/\r=gQ kvs k) \/ ∃kvs k b,Rd H a (.dT kvs)/\y = .ref b/\H b=some (.tup (k.map kV))/\r=gQ kvs k
noncomputable def Ao(H:Hp)(a:Addr)(y v:V)(H':Hp):Prop:=
 (∃kvs k,H a=some (.dK kvs)/\y=kV k/\kvs.length<sizeLine/\H'=upd H a (.dK (putK kvs k v))) \/
 ∃kvs k b,H a=some (.dT kvs)/\y = .ref b/\H b=some (.tup (k.map kV))/\kvs.length<sizeLine/\H'=upd H a (.dT (putK kvs k v))
theorem pR.k{H:Hp}{a:Addr}{kvs:List (Key×V)}{k:Key}(e:H a=some (.dK kvs)):pR H a (kV k) (gQ kvs k):= .inl ⟨kvs,k,.inl e,Z,Z⟩
theorem pR.t{H:Hp}{a b:Addr}{kvs:List (List Key×V)}{k:List Key}(e:H a=some (.dT kvs))(eb:H b=some (.tup (k.map kV))):pR H a (.ref b) (gQ kvs k):= .inr ⟨kvs,k,b,.inl e,Z,eb,Z⟩
theorem Ao.k{H:Hp}{a:Addr}{kvs:List (Key×V)}{k:Key}{v:V}(e:H a=some (.dK kvs))(hl:kvs.length<sizeLine):Ao H a (kV k) v (upd H a (.dK (putK kvs k v))):= .inl ⟨kvs,k,e,Z,hl,Z⟩
theorem Ao.t{H:Hp}{a b:Addr}{kvs:List (List Key×V)}{k:List Key}{v:V}(e:H a=some (.dT kvs))(eb:H b=some (.tup (k.map kV)))(hl:kvs.length<sizeLine):
 Ao H a (.ref b) v (upd H a (.dT (putK kvs k v))):= .inr ⟨kvs,k,b,e,Z,eb,hl,Z⟩
section
variable{X:Cx}{pins:List (Addr×Obj)}{σ:St}{H:Hp}{s:Shared}{a:Addr}{y v:V}{u r:Value}{o:Option V}{A:Around}{E:Value->Shared->Prop}
theorem Inv.big(I:Inv X pins σ H s):sysModules<s.heap.objs.size:=by
 have h:mainGlobals<s.heap.objs.size:=(I.mod.glob.keeps I.bk).lt;exact Nat.lt_trans (by decide) h
theorem O9{Q:Value->Shared->Prop}(hu:A.units+1<cLine)(I:Inv X pins σ H s)(g:pR H a y (some v))(ry:RelV y u)(h:∀w' s',Inv X pins σ H s'->RelV v w'->Q w' s'):
 wpAny (model X.prog X.w) A (getItem (.ref a) u) Q E s:=by
 rcases g with ⟨kvs,k,e,ey,l⟩|⟨kvs,k,b,e,ey,eb,l⟩
 .subst ey
  obtain⟨z,hd,vs,rel,dd⟩:=BK I.hok e;obtain⟨w',hw,rw'⟩:=nU.some_of (v:=v) (o:=valueAt vs k) (by rw[l];exact rel.val k);exact wpAny_getItem_of (Br ry) dd.mapOf hw (h w' _ (I.tok _) rw')
 .subst ey
  cases (show u=Value.ref b from ry);obtain⟨z,hd,xs,rel,dd⟩:=Bx I.hok e;obtain⟨w',hw,rw'⟩:=nU.some_of (v:=v) (o:=(atKey xs k).map (·.2)) (by rw[l];exact rel.val k);obtain⟨p,hp,hp2⟩:=Option.map_eq_some_iff.mp hw;refine wpAny_getItem_heap (tupleKind_room_in1 hu) (yO I.hok eb) dd hp ?_;rw[hp2];exact h w' _ (I.tok _) rw'
theorem agC{Q:Value->Shared->Prop}(hu:A.units+1<cLine)(I:Inv X pins σ H s)(g:pR H a y o)(ry:RelV y u)(h:∀s',Inv X pins σ H s'->Q (.bool o.isSome) s'):
 wpAny (model X.prog X.w) A (compareOp .In u (.ref a)) Q E s:=by
 rcases g with ⟨kvs,k,e,ey,l⟩|⟨kvs,k,b,e,ey,eb,l⟩
 .subst ey
  obtain⟨z,hd,vs,rel,dd⟩:=BK I.hok e;refine wpAny_in_of (Br ry) hd dd.mapOf ?_;rw[←(rel.val k).uU,←l];exact h _ (I.tok _)
 .subst ey
  cases (show u=Value.ref b from ry);obtain⟨z,hd,xs,rel,dd⟩:=Bx I.hok e;refine wpAny_in_heap (tupleKind_room_in1 hu) (yO I.hok eb) hd dd ?_;have q:=(rel.val k).uU;rw[Option.isSome_map] at q;rw[←q,←l];exact h _ (I.tok _)
theorem DR{h':Heap}{t':Nat}{ob:HO}(I:Inv X pins σ H s)(mu:Mut (H a))(hs:Heap.SameBut a s.heap h')(he:∃q,h'.get? a=some q)(new:cU X.prog X.w (upd H a ob) h' a ob):
 Inv X pins σ (upd H a ob) {s with heap:=h',toks:=t'}:=
 I.write (x:=a) (e:=a) mu (.inl rfl) (λb q hb z=>(hs.2 b hb).trans z) he new
theorem Tv{P:Program}{w:World}{H':Hp}{h':Heap}{kvs:List (Key×V)}{vs:List (Key×Value)}(z:kvs.length<=sizeLine)(hd:(a==sysModules)=false)(rel:KV kvs vs)(dd:h'.DictOf (cR P w) a vs):
 cU P w H' h' a (.dK kvs):=⟨z,hd,vs,rel,dd⟩
theorem O8{H':Hp}{Q:Unit->Shared->Prop}(hu:A.units+1<cLine)(I:Inv X pins σ H s)(g:Ao H a y v H')(ry:RelV y u)(rv:RelV v r)(h:∀s',Inv X pins σ H' s'->Q () s'):
 wpAny (model X.prog X.w) A (setItem (.ref a) u r) Q E s:=by
 rcases g with ⟨kvs,k,e,ey,l,eH⟩|⟨kvs,k,b,e,ey,eb,l,eH⟩
 .subst ey eH
  obtain⟨z,hd,vs,rel,dd⟩:=Tt I.hok e;have hz:vs.length<=sizeLine:=by rw[←rel.length];exact z
  have hl:(putK kvs k v).length<=sizeLine:=by have:=jm kvs k v;lia
  refine wpAny_setItem_pairs (hsz:=hz) (Br ry) dd λh' dd' hs=>h _ ?_;have he:∃q,h'.get? a=some q:=let ⟨q,_,_,hq,_⟩:=dd';⟨q,hq⟩
  exact DR I (by rw[e];exact True.intro) hs he (Tv hl hd (rel.put k rv) dd')
 .subst ey eH
  cases (show u=Value.ref b from ry);obtain⟨z,hd,xs,rel,dd⟩:=acI I.hok e;have hz:xs.length<=sizeLine:=by rw[←Paired.length rel];exact z
  have hl:(putK kvs k v).length<=sizeLine:=by have:=jm kvs k v;lia
  refine wpAny_setItem_heap (hsz:=hz) (tupleKind_room_in1 hu) (yO I.hok eb) dd λh' dd' hs=>h _ ?_;obtain⟨q,es,ep,hq,h2,h3,h4,_,h5⟩:=dd';refine DR I (by rw[e];exact True.intro) hs ⟨q,hq⟩ ⟨hl,hd,_,(rel.put k eb rv).keeps λc ys ec=>?_,q,es,ep,hq,h2,h3,h4,h5⟩;rw[aF (cD ec e (λz=>nomatch z))];exact ec
end
section
variable{X:Cx}{pins:List (Addr×Obj)}{σ:St}{H:Hp}{s:Shared}{a:Addr}{kvs:List (Key×V)}{k:Key}{u:Value}{A:Around}{E:Value->Shared->Prop}
end
noncomputable def ac0(i:Expr):Prop:=∀ov iv,subscripted i false ov iv=operate [ov,iv] (getItem ov iv)
theorem Vg{prog:Program}{w:World}{A:Around}{E:Value->Shared->Prop}{s:Shared}{env:Env}{value slice:Expr}{pos:Pos}{T id:String}{Q:Value->Shared->Prop}(hl:typeLookup (.type T) "__getitem__" = pure (some (.builtin id)))(hs:ac0 slice)(h:wpAny (model prog w) A (eval value env) (λo s₁=>wpAny (model prog w) A (eval slice env) (λi s₂=>s₂.TypeIs o T/\wpAny (model prog w) A (getItem o i) Q E s₂) E s₁) E s):
 wpAny (model prog w) A (eval (.Subscript value slice pos) env) Q E s:=by
 refine Subscript_ (wpAny_mono h (λo s₁ h₁=>wpAny_mono h₁ (λi s₂ h₂=>?_) λ_ _ x=>x) λ_ _ x=>x);obtain⟨hT,h₂⟩:=h₂;unfold subscriptTail;refine aaH ?_;rw[getitemInPython_of_ne hT.not_modules];refine aaH (wpAny_specialOf hT hl ?_)
 have fin:wpAny (model prog w) A (subscripted slice false o i) (λr s₃=>wpAny (model prog w) A (letTemporaryGo value o r >>= λ_=>pure r) Q E s₃) E s₂:=by
  rw[hs o i];exact wpAny_operating (wpAny_mono h₂ (λr s₃ h₃=>aaH (wpAny_letTemporaryGo (aaI h₃))) λ_ _ x=>x)
 first
  | exact aaI (aaH fin)
  | exact aaH (aaI (aaH fin))
  | exact aaH fin
theorem Hi{X:Cx}{pins:List (Addr×Obj)}{σ:St}{H:Hp}{s:Shared}{a:Addr}{y:V}{o:Option V}(I:Inv X pins σ H s)(g:pR H a y o):s.TypeIs (.ref a) "dict" :=by
 rcases g with ⟨kvs,k,e,_,_⟩|⟨kvs,k,b,e,_,_,_⟩
 .obtain⟨_,_,vs,_,dd⟩:=BK I.hok e
  exact dd.typeIs
 .obtain⟨_,_,xs,_,dd⟩:=Bx I.hok e
  exact dd.typeIs
noncomputable def abt(td ty:TE):TE:=λσ H Q=>td σ H λx H1=>ty σ H1 λy H2=>∃a v,x = .ref a/\pR H2 a y (some v)/\Q v H2
noncomputable def aek(ty td:TE):TE:=λσ H Q=>ty σ H λy H1=>td σ H1 λx H2=>∃a o,x = .ref a/\pR H2 a y o/\Q (.bl o.isSome) H2
noncomputable def abC(td ty tv:TE):TS:=λD σ H=>tv σ H λv H1=>td σ H1 λx H2=>ty σ H2 λy H3=>∃a H4,x = .ref a/\Ao H3 a y v H4/\D.nx σ H4
section
variable{X:Cx}{o i e value:Expr}{pos pos' tpos:Pos}{td ty tv:TE}
theorem wO(hu:X.A.units+1<cLine)(ho:PE X o td)(hi:PE X i ty)(hs:ac0 i):PE X (.Subscript o i pos) (abt td ty):=by
 intro pins s σ H Q I h;refine Vg PySem.F.slot_dict_getitem.lookup hs (cZ (ho pins s σ H _ I h) λu s1 ⟨x,H1,I1,rx,q1⟩=>cZ (hi pins s1 σ H1 _ I1 q1) λiv s2 iB=>?_);obtain⟨y,H2,I2,ry,a,v,ex,g,q2⟩:=iB;subst ex;obtain rfl:u=Value.ref a:=rx;exact⟨Hi I2 g,O9 hu I2 g ry λw' s3 I3 rw'=>⟨v,H2,I3,rw',q2⟩⟩
theorem Zm(hu:X.A.units+1<cLine)(hi:PE X i ty)(ho:PE X o td):PC X .In i o (aek ty td):=by
 intro pins s σ H Q I h;refine cZ (hi pins s σ H _ I h) λiv s1 ⟨y,H1,I1,ry,q1⟩=>cZ (ho pins s1 σ H1 _ I1 q1) λu s2 iB=>?_;obtain⟨x,H2,I2,rx,a,ov,ex,g,q2⟩:=iB;subst ex;obtain rfl:u=Value.ref a:=rx;exact agC hu I2 g ry λs3 I3=>⟨.bl ov.isSome,H2,I3,Z,q2⟩
theorem wN(hu:X.A.units+1<cLine)(ho:PE X o td)(hi:PE X i ty)(hv:PE X value tv)(hs:swapsWith value (some (.Subscript o i pos')) pos.line X.env=pure false):
 PS X (.Assign [.Subscript o i pos'] value pos) (abC td ty tv):=by
 intro pins s σ H D I h;refine wpAny_Assign_Subscript (cZ (hv pins s σ H _ I h) λr s1 ⟨v,H1,I1,rv,q1⟩=>cZ (ho pins s1 σ H1 _ I1 q1) λu s2 ⟨x,H2,I2,rx,q2⟩=>cZ (hi pins s2 σ H2 _ I2 q2) λiv s3 ⟨y,H3,I3,ry,a,H4,ex,g,q3⟩=>?_) hs;subst ex;obtain rfl:u=Value.ref a:=rx;exact O8 hu I3 g ry rv λs4 I4=>⟨σ,H4,I4,q3⟩
end
theorem Hh{P:Program}{w:World}{H:Hp}(h:Heap)(hb:sysModules<h.objs.size):cU P w H (h.push {cls:= .type "dict",data:= .dict #[]}) h.objs.size (.dK []):=
 ⟨Nat.zero_le _,beq_eq_false_iff_ne.mpr (Ne.symm (aaW hb)),[],.nil,Heap.DictOf.new h⟩
theorem Tq{P:Program}{w:World}{H:Hp}(h:Heap)(hb:sysModules<h.objs.size):cU P w H (h.push {cls:= .type "dict",data:= .dict #[]}) h.objs.size (.dT []):=
 ⟨Nat.zero_le _,beq_eq_false_iff_ne.mpr (Ne.symm (aaW hb)),[],.nil,_, #[],0,aam _ rfl,⟨Z,Z,Z⟩,Z,Z,List.nodup_nil⟩
noncomputable def YM:TE:=λ_ H Q=>∀p,H p=none->Q (.ref p) (upd H p (.dK []))
noncomputable def YL:TE:=λ_ H Q=>∀p,H p=none->Q (.ref p) (upd H p (.dT []))
section
variable{X:Cx}{pos:Pos}
theorem Gk:PE X (.Dict [] [] pos) YM:=λpins s σ H Q I h=>
 wpAny_Dict_empty ⟨.ref s.heap.objs.size,_,I.laid (a:=s.heap.objs.size) (o:= .dK []) (t':=s.toks) (λ_ _ q=>aaj _ q) (aaG _) (Hh s.heap I.big),Z,h _ (I.hok.fresh (aaG _))⟩
theorem Ri:PE X (.Dict [] [] pos) YL:=λpins s σ H Q I h=>
 wpAny_Dict_empty ⟨.ref s.heap.objs.size,_,I.laid (a:=s.heap.objs.size) (o:= .dT []) (t':=s.toks) (λ_ _ q=>aaj _ q) (aaG _) (Tq s.heap I.big),Z,h _ (I.hok.fresh (aaG _))⟩
end
noncomputable def Ie:List (TE×TE)->St->Hp->(List (V×V)->Hp->Prop)->Prop
 | [],_,H,Q=>Q [] H
 | (tk,tv)::r,σ,H,Q=>tk σ H λx H1=>tv σ H1 λy H2=>Ie r σ H2 λps H3=>Q ((x,y)::ps) H3
noncomputable abbrev VV:List (V×V)->List (Value×Value)->Prop:=Paired λp q=>RelV p.1 q.1/\RelV p.2 q.2
noncomputable def PPs(X:Cx)(pos:Pos)(keys:List (Option Expr))(values:List Expr)(U_:List (TE×TE)):Prop:=
 ∀(pins:List (Addr×Obj))(s:Shared)(σ:St)(H:Hp)(Q:List (V×V)->Hp->Prop),Inv X pins σ H s->Ie U_ σ H Q ->
  wpAny (model X.prog X.w) X.A (evalPairs (pairTrees keys values X.env pos)) (λvs s'=>∃ps H',Inv X pins σ H' s'/\VV ps vs/\Q ps H') X.xe s
theorem K_{X:Cx}{pos:Pos}:PPs X pos [] [] []:=λpins s σ H Q I h=>pairTrees_nil_walk ⟨[],H,I,.nil,h⟩
theorem Gh{X:Cx}{pos:Pos}{k v:Expr}{ks:List (Option Expr)}{vs:List Expr}{tk tv:TE}{U_:List (TE×TE)}(hk:PE X k tk)(hv:PE X v tv)(hr:PPs X pos ks vs U_):
 PPs X pos (some k::ks) (v::vs) ((tk,tv)::U_):=λpins s σ H Q I h=>
 pairTrees_cons_walk (cZ (hk pins s σ H _ I h) λu s1 ⟨x,H1,I1,rx,q1⟩=>cZ (hv pins s1 σ H1 _ I1 q1) λw2 s2 ⟨y,H2,I2,ry,q2⟩=>
  cZ (hr pins s2 σ H2 _ I2 q2) λws s3 ⟨ps,H3,I3,rel,q3⟩=>⟨(x,y)::ps,H3,I3,.cons ⟨rx,ry⟩ rel,q3⟩)
noncomputable def rm(kvs more:List (Key×V)):List (Key×V):=more.foldl (λacc kv=>putK acc kv.1 kv.2) kvs
theorem KV.merge:∀{more:List (Key×V)}{rs:List (Key×Value)}{kvs:List (Key×V)}{vs:List (Key×Value)},KV more rs->KV kvs vs->KV (rm kvs more) (merged vs rs):=by
 intro more rs kvs vs r;unfold KV at r
 induction r generalizing kvs vs with
 | nil=>intro q;exact q
 | @cons p q ps qs h t ih=>
   intro r0
   have e:KV (putK kvs p.1 p.2) (stored vs q.1 q.2):=by
    have:=r0.put p.1 h.2;rw[←h.1];exact this
   exact ih e
theorem qL:∀(more kvs:List (Key×V)),(rm kvs more).length<=kvs.length+more.length
 | [],kvs=>by show kvs.length<=kvs.length+0;lia
 | p::r,kvs=>by
   have h1:=qL r (putK kvs p.1 p.2);have h2:=jm kvs p.1 p.2;show (rm (putK kvs p.1 p.2) r).length<=_;rw[abE];lia
theorem zq{P:Program}{w:World}:∀{kvs:List (Key×V)}{ws:List (Value×Value)},VV (kvs.map λkv=>(kV kv.1,kv.2)) ws -> ∃rs,Carries (cR P w) ws rs/\KV kvs rs
 | [],_,r=>by rw[List.map_nil] at r;cases r;exact⟨[],True.intro,.nil⟩
 | p::kvs,_,r=>by
   rw[List.map_cons] at r;cases r with
   | @cons a b as bs h t=>
     obtain⟨rs,c,q⟩:=zq (P:=P) (w:=w) t;obtain⟨b1,b2⟩:=b;exact⟨(p.1,b2)::rs,⟨Br h.1,Z,c⟩,.cons ⟨Z,h.2⟩ q⟩
noncomputable def abr(U_:List (TE×TE)):TE:=λσ H Q=>∀p,H p=none->Ie U_ σ (upd H p (.dK [])) λps H2=>H2 p=some (.dK []) /\ ∃kvs:List (Key×V),ps=kvs.map (λkv=>(kV kv.1,kv.2))/\kvs.length<=15/\Q (.ref p) (upd H2 p (.dK (rm [] kvs)))
theorem Le{X:Cx}{pos:Pos}{keys:List (Option Expr)}{values:List Expr}{U_:List (TE×TE)}(h:PPs X pos keys values U_)(hall:keys.all (·.isSome)=true)(hl:keys.length=values.length)(h0:keys≠[])(h15:keys.length<=15):PE X (.Dict keys values pos) (abr U_):=by
 intro pins s σ H Q I q;have hn:=I.hok.fresh (aaG s.heap.objs.size);have I1:=I.laid (a:=s.heap.objs.size) (o:= .dK []) (h':=s.heap.push {cls:= .type "dict",data:= .dict #[]}) (t':=s.toks) (λ_ _ q=>aaj _ q) (aaG _) (Hh s.heap I.big);refine wpAny_Dict_walk (knd:=cR X.prog X.w) hall hl h0 h15 (cZ (h pins _ σ _ _ I1 (q _ hn)) λws s2 iB=>?_);obtain⟨ps,H2,I2,rel,e,kvs,ep,lk,q2⟩:=iB;subst ep;obtain⟨rs,c,rk⟩:=zq (P:=X.prog) (w:=X.w) rel;obtain⟨z,hd,vs0,r0,dd⟩:=Tt I2.hok e;cases r0;refine⟨rs,c,dd,λh' dd' hs=>⟨.ref s.heap.objs.size,_, ?_,Z,q2⟩⟩
 have hz:(rm [] kvs).length<=sizeLine:=by
  have h1:=qL kvs [];rw[List.length_nil] at h1;rw[sizeLine_eq];lia
 have he:∃q,h'.get? s.heap.objs.size=some q:=let ⟨q,_,_,hq,_⟩:=dd';⟨q,hq⟩
 exact DR I2 (by rw[e];exact True.intro) hs he (Tv hz hd (rk.merge .nil) dd')
structure M1(X:Cx)(o:Expr)(m:Str)(apos:Pos)(e:Expr)(cpos:Pos):Prop where
 base:attributeBase o m X.env (eval o X.env)=eval o X.env
 few:((backTo cpos (starEach [e] X.env)).all (λx=> !x.1)&&(backToKw cpos (keywordEach [] X.env)).all (λx=>x.1.isSome)
  && decide (([e]:List Expr).length+([]:List Keyword).length+(if ([]:List Keyword).isEmpty then 0 else 1)<30))=true
 line:(apos.endLine==cpos.line)=true
 trees:backTo cpos (starEach [e] X.env)=[(false,eval e X.env)]
structure M2(X:Cx)(o:Expr)(m:Str)(apos:Pos)(e f:Expr)(cpos:Pos):Prop where
 base:attributeBase o m X.env (eval o X.env)=eval o X.env
 few:((backTo cpos (starEach [e,f] X.env)).all (λx=> !x.1)&&(backToKw cpos (keywordEach [] X.env)).all (λx=>x.1.isSome)
  && decide (([e,f]:List Expr).length+([]:List Keyword).length+(if ([]:List Keyword).isEmpty then 0 else 1)<30))=true
 line:(apos.endLine==cpos.line)=true
 trees:backTo cpos (starEach [e,f] X.env)=[(false,eval e X.env),(false,eval f X.env)]
noncomputable def IsD(H:Hp)(a:Addr):Prop:=(∃kvs,Rd H a (.dK kvs)) \/ ∃kvs,Rd H a (.dT kvs)
theorem ZX{X:Cx}{pins:List (Addr×Obj)}{σ:St}{H:Hp}{s:Shared}{a:Addr}(I:Inv X pins σ H s)(d:IsD H a):
 s.TypeIs (.ref a) "dict" /\ (∀b,Value.ref a = .ref b -> ∃ob,s.heap.get? b=some ob/\ob.dict=none)/\(a==sysModules)=false:=by
 rcases d with ⟨kvs,e⟩|⟨kvs,e⟩
 .obtain⟨_,hd,vs,_,dd⟩:=BK I.hok e
  refine⟨dd.typeIs,λb q=>?_,hd⟩;cases q;obtain⟨ob,_,_,h1,h2,_⟩:=dd;exact⟨ob,h1,h2.2.1⟩
 .obtain⟨_,hd,xs,_,dd⟩:=Bx I.hok e
  refine⟨dd.typeIs,λb q=>?_,hd⟩;cases q;obtain⟨ob,_,_,h1,h2,_⟩:=dd;exact⟨ob,h1,h2.2.1⟩
section
variable{X:Cx}{pins:List (Addr×Obj)}{σ:St}{H:Hp}{s:Shared}{a:Addr}{y d:V}{u r:Value}{o:Option V}{A:Around}{E:Value->Shared->Prop}
theorem aao{Q:Value->Shared->Prop}(hu:A.units+1<cLine)(I:Inv X pins σ H s)(g:pR H a y o)(ry:RelV y u)(rd:RelV d r)(h:∀w' s',Inv X pins σ H s'->RelV (o.getD d) w'->Q w' s'):
 wpAny (model X.prog X.w) A (call (.builtin "dict.get") [.ref a,u,r]) Q E s:=by
 rcases g with ⟨kvs,k,e,ey,l⟩|⟨kvs,k,b,e,ey,eb,l⟩
 .subst ey
  obtain⟨z,hd,vs,rel,dd⟩:=BK I.hok e;refine call_meetsIn PySem.F.slot_dict_get dd.typeIs PySem.F.entry_dict_get (PySem.F.args_dict_get_3 _ _ _) (meets_dict_get_default (cR X.prog X.w) a (Br ry) hd r) ⟨_,dd.mapOf,h _ _ (I.tok _) ?_⟩;rw[l];exact(rel.val k).getD rd
 .subst ey
  cases (show u=Value.ref b from ry);obtain⟨z,hd,xs,rel,dd⟩:=Bx I.hok e;refine call_meetsIn PySem.F.slot_dict_get dd.typeIs PySem.F.entry_dict_get (PySem.F.args_dict_get_3 _ _ _) (meetsH_dict_get_default (tupleKind (cR X.prog X.w)) a b hd r) ⟨tupleKind_room_in1 hu,k,xs,yO I.hok eb,dd,h _ _ (I.tok _) ?_⟩;rw[l];exact(rel.val k).getD rd
end
noncomputable def YQ(td ty tx:TE):TE:=λσ H Q=>td σ H λx H1=>∃a,x = .ref a/\IsD H1 a/\ty σ H1 λy H2=>tx σ H2 λz H3=>∃o,pR H3 a y o/\Q (o.getD z) H3
section
variable{X:Cx}{o e f:Expr}{apos cpos:Pos}{td ty tx:TE}
theorem yw(hu:X.A.units+1<cLine)(ho:PE X o td)(he:PE X e ty)(hf:PE X f tx)(m:M2 X o "get" apos e f cpos):PE X (.Call (.Attribute o "get" apos) [e,f] [] cpos) (YQ td ty tx):=by
 intro pins s σ H Q I h;refine wpAny_Call_method m.base m.few m.line PySem.F.plainAttrs_dict PySem.F.slot_dict_get PySem.F.type_dict_get (cZ (ho pins s σ H _ I h) λu s1 iB=>?_);obtain⟨x,H1,I1,rx,a,ex,d,q1⟩:=iB;subst ex;obtain rfl:u=Value.ref a:=rx;obtain⟨t1,t2,_⟩:=ZX I1 d;refine⟨t1,t2, ?_⟩;rw[m.trees]
 refine Calls.callWith_builtin rfl (Calls.evalArgs_plain (Calls.spliced_cons (cZ (he pins s1 σ H1 _ I1 q1) λiv s2 ⟨y,H2,I2,ry,q2⟩=>
  Calls.spliced_cons (cZ (hf pins s2 σ H2 _ I2 q2) λfv s3 ⟨z,H3,I3,rz,ov,g,q3⟩=>Calls.spliced_nil ?_))))
 exact aao hu I3 g ry rz λw' s4 I4 rw'=>⟨_,H3,I4,rw',q3⟩
end
section
variable{X:Cx}{pins:List (Addr×Obj)}{σ:St}{H:Hp}{s:Shared}{a:Addr}{kvs:List (Key×V)}{A:Around}{E:Value->Shared->Prop}
end
section
variable{X:Cx}{pins:List (Addr×Obj)}{σ:St}{H:Hp}{s:Shared}{a:Addr}{y:V}{u:Value}{A:Around}{E:Value->Shared->Prop}
end
end L2
namespace Att
open PySem PySem.W PySem.Calls PyProof.Rows
theorem vY{P:Params}{h:Heap}:∀(ns:List Int)(vs:List Value),WellAll P h vs (ns.map WData.int)->IntsAre vs ns:=by
 intro ns
 induction ns with
 | nil=>
   intro vs w;rw[List.map_nil] at w;cases w;exact .nil
 | cons n ns ih=>
   intro vs w;rw[List.map_cons] at w;cases w with
   | cons a b=>
     cases a;exact .cons _ _ (ih _ b)
theorem Nj{l:OpenLaw}{n:Nat}(hn:l.most=some n){P:Params}{h:Heap}{args:List WData}{vals:List Value}(hpre:l.row.toRowW.claim.pre args=true)(hwl:WellAll P h vals args):
 ∃a vs ns,vals=[Value.ref a]/\args=[WData.list (ns.map WData.int)]/\h.get? a=some {cls:= .type "list",data:= .seq vs.toArray}/\IntsAre vs ns/\ns.length<=n:=by
 have hsh:WShape.hasAll [] args [.list .int]=true:=(pre_splitW hpre).1;have hc:l.pre.holds [] {args:=args}=true:=(pre_splitW hpre).2;obtain⟨d,r,rfl,h1,h2⟩:=hasAllW_cons hsh;obtain rfl:=hasAllW_nil h2;obtain⟨xs,rfl,h3⟩:=hasW_list h1;obtain⟨ns,rfl⟩:=items_int h3
 have hlen:ns.length<=n:=by
  unfold OpenLaw.pre at hc
  have h4:(WTm.not (.lt (.lit (.int (n:Int))) (.len (.arg 0)))).holds [] {args:=[.list (ns.map .int)]}=true:=by
   have h4:=(holds_andW hc).1;rw[hn] at h4;exact h4
  have h5:=condW_of h4 (w_not (w_lt w_lit (w_len_list (w_arg rfl))));rw[aad] at h5;refine Nat.le_of_not_lt λq=>?_;have q':(n:Int)<((ns.length:Nat):Int):=by lia
  first
   | (rw[aaN q'] at h5;exact acq h5 (by decide))
   | (simp at h5;lia)
 cases hwl with
 | cons w1 w2=>
   cases w2;cases w1 with
   | list ho hall=>exact⟨_,_,ns,Z,Z,ho,vY ns _ hall,hlen⟩
theorem Nv(l:OpenLaw)(args:List WData):l.row.toRowW.claim.post args (.bool true) args=true:=
 postW_of (r:=l.row.toRowW) (X:=(true==true))
  (show WShape.has [] (.bool true) .bool=true by first |rfl|decide|simp[WShape.has,WShape.arms,WShape.armsAll])
  (show (WTm.eq .res (.lit (.bool true))).value [] {args:=args,res:=some (.bool true),after:=args}=some (.bool (true==true)) from w_eq_bool (w_res rfl) w_lit) rfl
theorem Hx{l:OpenLaw}{n:Nat}{q:Program}{loose:List Str}{XP:(Str->Option Value)->Heap->Prop}{YP:World->Heap->Prop}{d:DefRec}(hn:l.most=some n)(hdf:d.params.defaults=[])(call:∀(w:World)(s₀ s₁:Shared)(mg mb:Str->Option Value)(fa:Addr)(o:Obj)(pm cd doc:Value)(a:Addr)(vs:List Value)(ns:List Int),
   Ground q loose [] XP w s₀ mg mb s₁.heap->YP w s₁.heap ->
   s₁.heap.get? fa=some o->o.data = .func (docDef d.name d.params d.body d.scope pm cd doc)->s₁.heap.CodeRec cd d.name->mg d.name=some (.ref fa) ->
   s₁.heap.get? a=some {cls:= .type "list",data:= .seq vs.toArray}->IntsAre vs ns->ns.length<=n->s₁.gens = #[] ->
   codeAny (model l.prog w) callerA (.call (.ref fa) ⟨[.ref a],[]⟩) (λr s'=>r = .ok (.ret (.bool true))/\OldK s₁.heap s'.heap/\s'.os=s₁.os/\AllBare s'.gens) s₁):
 WalkO q loose XP YP l.row.toRowW d [] (λf vs=>PySem.call f vs):=by
 intro w s₀ s₁ mg mb G Y fa o pm cd doc dV kV ho hd hcd hD hmg hg args vals as hpre hlay hrd hwl hlo;obtain rfl:dV = .none:=Dflts.none hD hdf;obtain rfl:kV = .none:=Dflts.noKw hD;obtain⟨a,vs,ns,rfl,rfl,hobj,hints,hlen⟩:=Nj hn hpre hwl;refine enter_call (codeAny_mono (call w s₀ s₁ mg mb fa o pm cd doc a vs ns G Y ho (fd_plain hd) hcd hmg hobj hints hlen hg) λr s' hq=>?_);obtain⟨rfl,h2,h3,h4⟩:=hq;exact⟨.inl ⟨.bool true,.bool true,[],Z,λ_=>rfl,.bool true,Nv l _,λ_=>⟨List.Pairwise.nil,λ_ hm=>(nomatch hm)⟩⟩,h2,h3,h4⟩
section
variable{prog:Program}{w:World}{A:Around}{E:Value->Shared->Prop}{s:Shared}{K:Frag}
noncomputable def ledger(h:Heap)(L d:Addr):List (Addr×Obj):=(List.range h.objs.size).filterMap λa=>if a=L\/a=d then none else (h.get? a).map λo=>(a,o)
end
end Att
namespace L2
open PySem PySem.Spec PyProof.Rows
theorem MP{vs:List Value}{ns:List Int}(h:IntsAre vs ns):Vals (ns.map V.int) vs:=by
 induction h with
 | nil=>exact .nil
 | cons n t h ih=>exact .cons ⟨t,Z⟩ ih
noncomputable def Only(H:Hp):Prop:=∀b,H b=none \/ ∃o xs,H b=some (.m_ o (.lst xs))
theorem R8{P:Program}{w:World}{K:PySem.W.Frag}{mg mb:Str->Option Value}{CX:Qd}{k:Nat}{fa a:Addr}{fd:FuncData}{x:Str}{sp:Sp}{s₁:Shared}{vs:List Value}{ns:List Int}(KX:K.In s₁.heap)(hns:s₁.heap.Ns mainGlobals mg)(hb:s₁.heap.Ns builtinsNs mb)(hbb:∀x:Str,x ≠ "__name__" -> mb x=bootBuiltins x)(hlim:s₁.heap.NoLimit)(hg:s₁.gens = #[])(ha:s₁.heap.get? a=some {cls:= .type "list",data:= .seq vs.toArray})(hi:IntsAre vs ns)(hl:ns.length<=sizeLine)(hr:fM k callerA)(F:∀base:Heap,K.In base->base.Ns mainGlobals mg->bN P w K mg base CX k fa fd [x] sp)(hbind:∀(s:Shared)(u:Value),BindsTo s fd ⟨[u],[]⟩ [(x,u)])(hsp:∀H:Hp,Only H->bH K H a (ns.map V.int)->sp [.ref a] H (λv _=>v = .bl true) λ_ _ _=>False)(hCX:∀H e s',CX [] H s₁ (λ_ _ _=>False) e s'->False):
 codeAny (model P w) callerA (.call (.ref fa) ⟨[.ref a],[]⟩) (λr s'=>r = .ok (.ret (.bool true))/\OldK s₁.heap s'.heap/\s'.os=s₁.os/\AllBare s'.gens) s₁:=by
 have rv:=MP hi;have lenV:=hi.length
 have core:∀H:Hp,Only H->bH K H a (ns.map V.int)->mF P w H s₁.heap->(∀b,H b≠none->b=a)->(H a≠none->K.lookup a=none) ->
  codeAny (model P w) callerA (.call (.ref fa) ⟨[.ref a],[]⟩) (λr s'=>r = .ok (.ret (.bool true))/\OldK s₁.heap s'.heap/\s'.os=s₁.os/\AllBare s'.gens) s₁:=by
  intro H hO hS hok hA hK;have Mt:∀{b:Addr}{o:Obj},s₁.heap.get? b=some o->H b=none->(Dz s₁.heap H).get? b=some o:=λe n=>Ss e n
  have noA:∀{b:Addr}{o:Obj}{es:Array DictEntry}{ep:Nat},s₁.heap.get? b=some o->o.data = .dict es ep->H b=none:=fun {b o es ep} e d=>by
   cases q:H b with
   | none=>rfl
   | some u=>
     have e':b=a:=hA b (by rw[q];simp);subst e';rw[ha] at e;cases e;have d':Data.seq vs.toArray _=Data.dict es ep:=d;cases d'
  have nsK:∀{b:Addr}{m:Str->Option Value},s₁.heap.Ns b m->(Dz s₁.heap H).Ns b m:=fun {b m} ⟨o,es,ep,e,d,r⟩=>⟨o,es,ep,Mt e (noA e d),d,r⟩
  have hKb:K.In (Dz s₁.heap H):=λb o e=>Mt (KX b o e) (by
   cases q:H b with
   | none=>rfl
   | some u=>
     have e':b=a:=hA b (by rw[q];simp);subst e';rw[hK (by rw[q];simp)] at e;cases e)
  have hM:Mod K mg (Dz s₁.heap H):=⟨hKb,nsK hns,⟨mb,nsK hb,hbb⟩,let ⟨mc,h1,h2⟩:=hlim;⟨mc,nsK h1,h2⟩⟩;have e0:J8 P w K mg (Dz s₁.heap H) callerA [] s₁ H:=⟨Z,hM,λb o e=>V5 e,Nat.le_of_eq (Ov _ _),trivial,λb hb=>acq (show b∈([]:List Addr) from hb) (by simp),hok,.of_eq hg⟩;refine codeAny_mono ((F _ hKb (nsK hns)).run callerA [] s₁ H ⟨[.ref a],[]⟩ [.ref a] [.ref a] _ _ hr e0 (hbind s₁ (.ref a)) (.cons rfl .nil) (hsp H hO hS)) λr s' h=>?_;cases r with
  | error e=>exact(hCX H e s' h).elim
  | ok fl=>
    cases fl with
    | next=>exact False.elim h
    | brk=>exact False.elim h
    | cont=>exact False.elim h
    | ret u=>
      obtain⟨v,H',os,bare,un,hok',r',q⟩:=h;have q':v = .bl true:=q;subst q';obtain rfl:u=Value.bool true:=r';refine⟨Z,OldK.of_keep λb o e=>?_,os,bare⟩;cases q:H b with
      | none=>exact un.keep b o e q (by intro z;exact acq (show b∈([]:List Addr) from z) (by simp)) (by simp)
      | some u=>
        rcases hO b with z|⟨ob,xs,z⟩
        .rw[q] at z;cases z
        .have z2:=un.rE b ob _ z
         obtain⟨e1,_⟩:=hok b _ z;obtain⟨e2,_⟩:=hok' b _ z2;rw[e] at e1;cases e1;exact e2
 cases hk:K.lookup a with
 | some o=>
   have e:=KX a o hk;rw[ha] at e;cases e;refine core (λ_=>none) (λ_=> .inl rfl) (.inr ⟨_,vs.toArray,_,hk,Z,Z,Z,by rw[aaR,lenV];exact hl,by simpa using rv⟩) (λb u z=>by have z':(none:Option HO)=some u:=z;cases z') (λb z=>acq rfl z) λz=>acq rfl z
 | none=>
   refine core (λb=>if b=a then some (.m_ {cls:= .type "list",data:= .seq vs.toArray} (.lst (ns.map V.int))) else none) (λb=>?_) (.inl (.inr ⟨{cls:= .type "list",data:= .seq vs.toArray},ab9 rfl⟩)) (λb u z=>?_) (λb z=>?_) λ_=>hk
   .by_cases hb:b=a
    .exact .inr ⟨_,_,ab9 hb⟩
    .exact .inl (ab6 hb)
   .by_cases hb:b=a
    .have z':=(ab9 hb).symm.trans z
     cases z';subst hb;exact⟨ha,by rw[aad];exact hl,vs,_,rv,ha⟩
    .have z':=(ab6 hb).symm.trans z
     cases z'
   .by_cases hb:b=a
    .exact hb
    .exact acq (ab6 hb) z
noncomputable abbrev KOf{K:PySem.W.Frag}{h:Heap}(_:K.In h):PySem.W.Frag:=K
theorem U9{l:PySem.W.OpenLaw}{n k:Nat}{q:Program}{loose:List Str}{XP:(Str->Option Value)->Heap->Prop}{YP:World->Heap->Prop}{d:DefRec}{K:Params->PySem.W.Frag}{CX:World->Qd}{sp:World->Sp}{x:Str}(hn:l.most=some n)(hn2:n<=sizeLine)(hdf:d.params.defaults=[])(hr:fM k callerA)(hY:∀(w:World)(h:Heap),YP w h->(K w.params).In h)(F:∀(w:World)(mg:Str->Option Value)(fa:Addr)(h:Heap),(K w.params).In h->h.Ns mainGlobals mg->mg d.name=some (.ref fa) ->
   ∃fd:FuncData,(∀(s:Shared)(u:Value),BindsTo s fd ⟨[u],[]⟩ [(x,u)]) /\
    ∀base:Heap,(K w.params).In base->base.Ns mainGlobals mg->bN l.prog w (K w.params) mg base (CX w) k fa fd [x] (sp w))(hsp:∀(w:World)(H:Hp)(a:Addr)(ns:List Int),ns.length<=n->Only H->bH (K w.params) H a (ns.map V.int)->sp w [.ref a] H (λv _=>v = .bl true) λ_ _ _=>False)(hCX:∀(w:World)(H:Hp)(s:Shared)(e:Value)(s':Shared),CX w [] H s (λ_ _ _=>False) e s'->False):
 PySem.W.WalkO q loose XP YP l.row.toRowW d [] (λf vs=>PySem.call f vs):=by
 refine Att.Hx hn hdf λw s₀ s₁ mg mb fa o pm cd doc a vs ns G Y ho hd hcd hmg hobj hints hlen hg=>?_;have KX:=hY w _ Y;obtain⟨fd,hb,hF⟩:=F w mg fa _ KX G.T.g hmg;exact R8 KX G.T.g G.T.b G.T.builtins G.T.nolimit hg hobj hints (abX hlen hn2) hr hF hb (λH hO hS=>hsp w H a ns hlen hO hS) λH e s'=>hCX w H s₁ e s'
noncomputable def inClass(s:Stmt)(j:Nat):Stmt:=match s with
 | .ClassDef _ _ _ body _ _ _ _ _ _ _=>body.getD j (.Pass ⟨0,0,0,0⟩)
 | _=> .Pass ⟨0,0,0,0⟩
noncomputable def cC(s:Stmt):Arguments:=match s with
 | .FunctionDef _ a _ _ _ _ _ _ _ _=>a
 | _=>{posonlyargs:=[],args:=[],vararg:=none,kwonlyargs:=[],kw_defaults:=[],kwarg:=none,defaults:=[]}
noncomputable def cT(s:Stmt):List Stmt:=match s with
 | .FunctionDef _ _ b _ _ _ _ _ _ _=>b
 | _=>[]
noncomputable def aH(s:Stmt):Scope:=match s with
 | .FunctionDef _ _ _ _ _ _ sc _ _ _=>sc
 | _=>{kind:= .function,names:=[],isGenerator:=false,isCoroutine:=false}
noncomputable abbrev iY:Qd:=λ_ _ _ _ _ _=>False
noncomputable abbrev E0:XK:=λ_ _ _=>False
theorem Lf{X:Cx}:Passes iY X E0:=λ_ _ _ _ _ _ _ h=>h.elim
structure gP(K:PySem.W.Frag)(x qual:Str)(st:Stmt)(f:Addr)(fd:FuncData):Prop where
 ex:∃(oc:Value) (od:Option Addr) (kV doc pm:Value) (an:Option Addr) (cdv ct:Value) (osl:Array (Option Value)),
  fd=PySem.W.fnOf x qual (cC st) (cT st) (aH st) .none kV doc pm an cdv ct/\K.lookup f=some ⟨oc,od,.func fd,osl⟩/\PySem.W.codeIn K cdv qual=true
 kp:PySem.W.keepIn K (.ref f)=true
section
variable{P:Program}{w:World}{K:PySem.W.Frag}{mg:Str->Option Value}{base:Heap}
theorem gP.ok{x qual:Str}{st:Stmt}{f:Addr}{fd:FuncData}{N ps:List Str}{k:Nat}{sp:Sp}(F:gP K x qual st f fd)(S:aY N ps (aH st))(len:∀vs H Q E,sp vs H Q E->vs.length=ps.length)(hbody:∀(cdv:Value)(A:Around)(outer:List Env)(s:Shared)(H:Hp)(vs:List V)(Q:VK)(E:XK),fM k (A.deeper (envOfC qual (aH st) s.heap.objs.size f cdv))->sp vs H Q E ->
   ∃t,Eh (nQ iY P w K mg base N qual (aH st) f cdv A outer s H E).nox (cT st) t/\t {nx:=λ_ H'=>Q .non H',rt:=Q} (start N vs) H):bN P w K mg base iY (k+1) f fd ps sp:=by
 obtain⟨oc,od,kV,doc,pm,an,cdv,ct,osl,rfl,lk,hcd⟩:=F.ex;refine S8 lk hcd S len λA outer s H vs Q E hr hsp=>?_;obtain⟨t,h,q⟩:=hbody cdv A outer s H vs Q E hr hsp;exact⟨t,h.nox,q⟩
theorem gP.binds{x qual:Str}{st:Stmt}{f:Addr}{fd:FuncData}{ps:List Str}(F:gP K x qual st f fd)(h:∀(kV doc pm:Value)(an:Option Addr)(cdv ct:Value)(us:List Value),us.length=ps.length->bindArgs (PySem.W.fnOf x qual (cC st) (cT st) (aH st) .none kV doc pm an cdv ct) ⟨us,[]⟩=pure (ps.zip us)):Binds K fd ps []:=by
 obtain⟨oc,od,kV,doc,pm,an,cdv,ct,osl,rfl,lk,hcd⟩:=F.ex;exact .all (h kV doc pm an cdv ct)
theorem SX{x qual:Str}{st:Stmt}{f:Addr}{oc:Value}{od an:Option Addr}{osl:Array (Option Value)}{kV doc pm cdv ct:Value}(l:K.lookup f=some ⟨oc,od,.func (PySem.W.fnOf x qual (cC st) (cT st) (aH st) .none kV doc pm an cdv ct),osl⟩)(c:PySem.W.codeIn K cdv qual=true)(k:PySem.W.keepIn K (.ref f)=true):gP K x qual st f (PySem.W.fnOf x qual (cC st) (cT st) (aH st) .none kV doc pm an cdv ct):=⟨⟨oc,od,kV,doc,pm,an,cdv,ct,osl,Z,l,c⟩,k⟩
end
theorem vH{A:Around}{k:Nat}(hr:fM k A):A.units+1<cLine:=Nat.lt_of_le_of_lt (Nat.add_le_add_left (by decide:1<=64) _) hr.units
theorem Ni{n:Nat}(h:n<=1000):n<sizeLine:=Nat.lt_of_le_of_lt h (by decide)
section
variable{X:Cx}
theorem pv(i:Nat){x:Str}{pos:Pos}(hN:X.N[i]? = some x:=by rfl)(hv:Vis X.env.scope x:=by first |exact Or.inl rfl|exact Or.inr (Or.inl rfl)|exact Or.inr (Or.inr rfl))(hd:(x==("__debug__" :Str))=false:=by decide)(hcd:(x==("__classdict__" :Str))=false:=by decide):PE X (.Name x pos) (rR i):=Zi hN hv hd hcd
end
theorem fG{A B:Prop}(h:B):if false=true then A else B:=by
 rw[ab6 aaQ];exact h
theorem fD{A B:Prop}(h:A):if true=true then A else B:=by
 rw[ab9 rfl];exact h
theorem bJ{c A B:Prop}[Decidable c](h1:c->A)(h2:¬c->B):if c then A else B:=by
 by_cases h:c
 .rw[ab9 h]
  exact h1 h
 .rw[ab6 h]
  exact h2 h
theorem GQ{c A B:Prop}[Decidable c](hc:c)(h:B):if (!decide c)=true then A else B:=by
 rw[aaN hc];exact fG h
noncomputable def Same(H H':Hp):Prop:=∀b o,H b=some o->H' b=some o
theorem Same.refl(H:Hp):Same H H:=λ_ _ h=>h
theorem Same.trans{H H1 H2:Hp}(a:Same H H1)(b:Same H1 H2):Same H H2:=λc o h=>b c o (a c o h)
theorem Same.free{H H':Hp}(e:Same H H'){l:Addr}(h:H' l=Option.none):H l=Option.none:=by
 cases q:H l with
 | none=>rfl
 | some o=>
   rw[e l o q] at h;cases h
theorem Same.seq{K:PySem.W.Frag}{H H':Hp}{a:Addr}{xs:List V}(e:Same H H')(h:bH K H a xs):bH K H' a xs:=by
 rcases h with (h|⟨o,h⟩)|h
 .exact .inl (.inl (e _ _ h))
 .exact .inl (.inr ⟨o,e _ _ h⟩)
 .exact .inr h
section
variable{κ:Type}[DecidableEq κ]
end
end L2
set_option maxHeartbeats 4000000
namespace L2
open PySem PySem.Spec PyProof.Rows
theorem Bl{a n:Addr}(h:a<n): @LT.lt Nat _ a n:=h
noncomputable def pI(env:Env):List (Str×NameKind)->List (Str×Addr)->List (Str×Addr)
 | [],acc=>acc
 | (n,k)::r,acc=>if k == .free then pI env r ((n,(env.cells.lookup n).getD 0)::acc) else pI env r acc
theorem JG{env:Env}{scope:Scope}(h:∀y∈scope.names,y.2 = .free->(env.cells.lookup y.1).isSome=true):closureFor scope env=pure (pI env scope.names []):=by
 have go:∀(ns:List (Str×NameKind))(acc:List (Str×Addr)),(∀y∈ns,y.2 = .free->(env.cells.lookup y.1).isSome=true) ->
  (forIn ns acc (λx cs=>match x with |(name,kind)=>if (kind == .free)=true then do let c ←cellOf env name;pure (ForInStep.yield ((name,c)::cs)) else pure (ForInStep.yield cs)):Sem (List (Str×Addr)))=pure (pI env ns acc):=by
  intro ns
  induction ns with
  | nil=>intro acc _;rfl
  | cons y r ih=>
    intro acc hy;obtain⟨n,k⟩:=y;rw[List.forIn_cons]
    by_cases hk:k = .free
    .subst hk
     have hs:=hy (n,.free) List.mem_cons_self rfl;obtain⟨c,hc⟩:=Option.isSome_iff_exists.mp hs;have e:cellOf env n=pure c:=by unfold cellOf;rw[hc]
     show _=pure (pI env r ((n,(env.cells.lookup n).getD 0)::acc));rw[←ih _ λy hm=>hy y (aa1 _ hm)];simp only[beq_self_eq_true,if_true,e,pure_bind,hc,Option.getD_some]
    .have hb:(k==NameKind.free)=false:=by simpa using hk
     have hc:pI env ((n,k)::r) acc=pI env r acc:=by
      show (if (k==NameKind.free)=true then _ else _)=_;rw[ab6 (by rw[hb];decide)]
     rw[hc,←ih _ λy hm=>hy y (aa1 _ hm)];simp only[hb,Bool.false_eq_true,if_false,pure_bind]
 have q:=go scope.names [] h;unfold closureFor;show (forIn scope.names [] _ >>= λr=>pure r)=_;rw[bind_pure];exact q
theorem jr{env:Env}:∀(ns:List (Str×NameKind))(acc:List (Str×Addr))(x:Str),(∀y∈ns,y.2 = .free->(env.cells.lookup y.1).isSome=true) ->
 (pI env ns acc).lookup x=if (x,NameKind.free)∈ns then env.cells.lookup x else acc.lookup x
 | [],acc,x,_=>by simp[pI]
 | (n,k)::r,acc,x,h=>by
   have hr:∀y∈r,y.2 = .free->(env.cells.lookup y.1).isSome=true:=λy hm=>h y (aa1 _ hm)
   by_cases hk:k = .free
   .subst hk
    show (pI env r ((n,(env.cells.lookup n).getD 0)::acc)).lookup x=_;rw[jr r _ x hr];obtain⟨c,hc⟩:=Option.isSome_iff_exists.mp (h (n,.free) List.mem_cons_self rfl);have hc:env.cells.lookup n=some c:=hc
    by_cases hm:(x,NameKind.free)∈r
    .rw[ab9 hm,ab9 (aa1 _ hm)]
    .rw[ab6 hm]
     by_cases e:x=n
     .subst e
      rw[ab9 List.mem_cons_self,List.lookup_cons,hc];simp
     .rw[ab6 (λz=>(List.mem_cons.mp z).elim (λq=>e (congrArg Prod.fst q)) hm),List.lookup_cons]
      have:(x==n)=false:=by simpa using e
      rw[this]
   .have hb:(k==NameKind.free)=false:=by simpa using hk
    have hc:pI env ((n,k)::r) acc=pI env r acc:=by
     show (if (k==NameKind.free)=true then _ else _)=_;rw[ab6 (by rw[hb];decide)]
    rw[hc,jr r acc x hr]
    have:((x,NameKind.free)∈(n,k)::r)↔(x,NameKind.free)∈r:=by
     constructor
     .intro z
      rcases List.mem_cons.mp z with q|q
      .exact acq (congrArg Prod.snd q).symm hk
      .exact q
     .exact aa1 _
    simp only[this]
theorem j7(env:Env):∀(ns:List (Str×NameKind))(x:Str),
 (ns.map λ(n,k)=>if (k == .free&&env.scope.kind == .function&&env.kindOf n==some .cell) then (n,NameKind.cell) else (n,k)).lookup x =
   (ns.lookup x).map λk=>if (k == .free&&env.scope.kind == .function&&env.kindOf x==some .cell)=true then NameKind.cell else k
 | [],x=>rfl
 | (n,k)::r,x=>by
   show List.lookup x ((if (k==NameKind.free&&env.scope.kind == .function&&env.kindOf n==some .cell)=true then (n,NameKind.cell) else (n,k))::_)=_;cases hx:x==n with
   | true=>
     have e:x=n:=by simpa using hx
     subst e
     by_cases hc:(k==NameKind.free&&env.scope.kind == .function&&env.kindOf x==some .cell)=true
     .rw[ab9 hc];simp only[List.lookup_cons,hx,Option.map_some,ab9 hc]
     .rw[ab6 hc];simp only[List.lookup_cons,hx,Option.map_some,ab6 hc]
   | false=>
     have ih:=j7 env r x
     by_cases hc:(k==NameKind.free&&env.scope.kind == .function&&env.kindOf n==some .cell)=true
     .rw[ab9 hc];simp only[List.lookup_cons,hx];exact ih
     .rw[ab6 hc];simp only[List.lookup_cons,hx];exact ih
structure bC(N own:List Str)(caps:List Nat)(XN:List Str)(outer scope:Scope):Prop where
 kind:scope.kind = .function
 RP:∀y∈scope.names,y.2 ≠ .cell
 names:∀y∈scope.names,y.2 = .local->scope.names.lookup y.1=some .local
 free:∀y∈scope.names,y.2 = .free->outer.names.lookup y.1=some .cell\/outer.names.lookup y.1=some .free
 nd:N.Nodup
 len:N.length=own.length+caps.length
 cap:∀(j:Nat),j<caps.length->N[own.length+j]? = XN[caps.getD j 0]? /\ ∃x,N[own.length+j]? = some x/\(x,NameKind.free)∈scope.names/\scope.names.lookup x=some .free
noncomputable def st0(own:List Str)(caps:List Nat)(σ:St):St:=own.map (λ_=>none)++caps.map (λi=>(σ[i]?).join)
noncomputable def fZ(X:Cx)(scope:Scope)(C:Addr)(N:List Str)(s:Shared)(H:Hp)(fp:List Addr):Cx:=
 {X with N:=N,s₀:=s,H₀:=H,env:=compEnvC scope (pI X.env scope.names []) C X.env,outer:=X.stack,ex:=fp,fn:=λ_=>false,pn:=[],xe:=λ_ _=>False}
section
variable{X:Cx}{pins:List (Addr×Obj)}{σ:St}{H:Hp}{s:Shared}{scope:Scope}{N own:List Str}{caps:List Nat}{fp:List Addr}{C:Nat}
theorem bC.TX(S:bC N own caps X.N X.env.scope scope)(ok:X.Ok):∀y∈scope.names,y.2 = .free->(X.env.cells.lookup y.1).isSome=true:=λy hy hf=>by
 obtain⟨c,e⟩:=ok.has y.1 (S.free y hy hf);rw[e];rfl
theorem bC.csub(S:bC N own caps X.N X.env.scope scope)(ok:X.Ok){x:Str}{c:Addr}(h:(pI X.env scope.names []).lookup x=some c):X.env.cells.lookup x=some c:=by
 rw[jr _ _ _ (S.TX ok)] at h;split at h
 .exact h
 .simp at h
theorem bC.R6{S:bC N own caps X.N X.env.scope scope}{x:Str}(h:(relabel scope X.env).names.lookup x=some .cell\/(relabel scope X.env).names.lookup x=some .free):(x,NameKind.free)∈scope.names:=by
 have e:=j7 X.env scope.names x;have e':(relabel scope X.env).names.lookup x=(scope.names.lookup x).map λk=>if (k == .free&&X.env.scope.kind == .function&&X.env.kindOf x==some .cell)=true then NameKind.cell else k:=e;rw[e'] at h;cases q:scope.names.lookup x with
 | none=>rw[q] at h;simp at h
 | some k=>
   have hm:=PySem.mem_of_lookup q
   by_cases hk:k = .free
   .subst hk;exact hm
   .rw[q] at h
    have hb:(k==NameKind.free)=false:=by simpa using hk
    simp only[Option.map_some,hb,Bool.false_and,Bool.false_eq_true,if_false] at h;rcases h with h|h
    .exact acq (aaS h) (S.RP _ hm)
    .exact acq (aaS h) hk
theorem Inv.comp{h1:Heap}{D:Nat}(I:Inv X pins σ H s)(S:bC N own caps X.N X.env.scope scope)(hfp:∀b∈fp,qG X pins H b)(hfo:∀b∈fp,∃o,s.heap.get? b=some o)(hD:D=s.heap.objs.size)(hC:C=s.heap.objs.size+1)(old:∀b o,s.heap.get? b=some o->h1.get? b=some o)(hns:h1.Ns C (λ_=>none))(hl:h1.get? D=some {cls:= .type "list",data:= .seq #[]}){t:Nat}:
 Inv (fZ X scope C N s H fp) [] (st0 own caps σ) (upd H D (.lst [])) {s with heap:=h1,toks:=t}:=by
 have some':=S.TX I.ok;have sub:∀{x c},(pI X.env scope.names []).lookup x=some c->X.env.cells.lookup x=some c:=λh=>S.csub I.ok h;have freshD:H D=none:=I.hok.fresh (by rw[hD];exact aaG _);have Z9:H C=none:=I.hok.fresh (by rw[hC];exact Nat.le_succ _)
 have aap:∀x c,X.env.cells.lookup x=some c->c<s.heap.objs.size:=λx c e=>by
  obtain⟨v,z⟩:=I.cell x c e;exact z.lt
 have ago:∀b∈fp,b<s.heap.objs.size:=λb hb=>by
  obtain⟨o,e⟩:=hfo b hb;exact aaB e
 have DC:D≠C:=by lia
 refine⟨⟨I.ok.mod,S.kind,I.ok.glob,I.ok.blt,by show s.heap.objs.size<=C;lia,λx y c e1 e2=>I.ok.inj x y c (sub e1) (sub e2),λx h=>?_,λx c h=>(by cases h),I.ok.hd,I.ok.frames,Or.inl rfl,λb hb=>⟨?_,λx c e=>?_⟩,I.bs,abX I.ok.Px I.sz,λb o e hb=>?_,λb hb z=>?_,I.stack,I.Cm⟩,
  Z,I.bare,Un.laid old (by show s.heap.objs.size<=D;lia) freshD,⟨_,hns,λj x v e1 e2 e3=>?_⟩,λx c e=>?_, ?_,λx c e=>?_,λp hp=>?_,I.hok.laid old (by lia) ?_, ?_⟩
 .have hm:=bC.R6 (S:=S) (X:=X) h
  obtain⟨c,e⟩:=Option.isSome_iff_exists.mp (some' _ hm rfl);exact⟨c,by show (pI X.env scope.names []).lookup x=_;rw[jr _ _ _ some',ab9 hm];exact e⟩
 .exact aaW (show @LT.lt Nat _ b C by have:=Bl (ago b hb);lia)
 .exact(hfp b hb).2.2.2.2.1 x c (sub e)
 .rcases(hfp b hb).2.2.2.1 with z|z
  .exact I.ok.Dp b o e z
  .exact acq (aaX (aaB e) (abX I.ok.Px z)) (abV _)
 .rcases List.mem_cons.mp (I.xM b z) with q|q
  .exact(hfp b hb).2.1 q
  .exact(hfp b hb).2.2.1 q
 .have e1:N[j]? = some x:=e1
  have hj:own.length<=j:=by
   by_cases q:own.length<=j
   .exact q
   .exfalso
    unfold st0 at e2;rw[aaV (by simp;lia),aah] at e2;cases r:own[j]? with
    | none=>rw[r] at e2;cases e2
    | some a=>rw[r] at e2;cases e2
  have hjl:j<N.length:=(aaf.mp e1).1;have hjc:j - own.length<caps.length:=by have:=S.len;lia
  obtain⟨c1,x',c2,c3,c4⟩:=S.cap (j - own.length) hjc;rw[show own.length+(j - own.length)=j by lia] at c1 c2;rw[e1] at c2;cases c2
  have e2':(σ[caps.getD (j - own.length) 0]?).join=some v:=by
   unfold st0 at e2;rw[aaU (by simp;lia),aah,aad] at e2;rw[List.getD_eq_getElem?_getD];cases r:caps[j - own.length]? with
   | none=>rw[r] at e2;cases e2
   | some a=>rw[r] at e2;exact aaS e2
  have agx:σ[caps.getD (j - own.length) 0]? = some (some v):=by
   cases r:σ[caps.getD (j - own.length) 0]? with
   | none=>rw[r] at e2';cases e2'
   | some a=>rw[r] at e2';exact congrArg Option.some e2'
  have kx:X.env.kindOf x=some .cell\/X.env.kindOf x=some .free:=S.free _ c3 rfl;obtain⟨m,hn,hl'⟩:=I.loc;obtain⟨u,r,l⟩:=hl' _ x v (by rw[←c1];exact e1) agx (by rcases kx with z|z;exact .inr (.inl z);exact .inr (.inr z));refine⟨u,r,.inr ⟨?_, ?_⟩⟩
  .show (relabel scope X.env).names.lookup x=some .cell\/(relabel scope X.env).names.lookup x=some .free
   have e:(relabel scope X.env).names.lookup x=(scope.names.lookup x).map λk=>if (k == .free&&X.env.scope.kind == .function&&X.env.kindOf x==some .cell)=true then NameKind.cell else k:=j7 X.env scope.names x;rw[e,c4,Option.map_some];split
   .exact .inl rfl
   .exact .inr rfl
  .rcases l with ⟨hk,_⟩|⟨_,c,hc,z⟩
   .rcases kx with q|q<;>rw[hk] at q<;>cases q
   .refine⟨c, ?_, ?_⟩
    .show (pI X.env scope.names []).lookup x=_
     rw[jr _ _ _ some',ab9 c3];exact hc
    .obtain⟨o,ho,hd⟩:=z
     exact⟨o,old c o ho,hd⟩
 .obtain⟨v,o,ho,hd⟩:=I.cell x c (sub e)
  exact⟨v,o,old c o ho,hd⟩
 .show upd H D (.lst []) C=none
  rw[aF DC.symm];exact Z9
 .show upd H D (.lst []) c=none
  rw[aF (aaW (by have:=Bl (aap x c (sub e));lia))];exact I.iM x c (sub e)
 .cases hp
 .exact⟨Nat.zero_le _,[],0,.nil,hl⟩
 .show (own.map (λ_=>none)++caps.map _).length=N.length
  rw[aaT,aad,aad,S.len]
theorem Inv.Ql{i_:List (Addr×Obj)}{σ':St}{H':Hp}{s':Shared}{h':Heap}(I:Inv X pins σ H s)(hfp:∀b∈fp,qG X pins H b)(hC:s.heap.objs.size<=C)(J:Inv (fZ X scope C N s H fp) i_ σ' H' s')(hs:Heap.SameBut C s'.heap h'):
 Inv X pins σ H' {s' with heap:=h'}:=by
 have nC:∀b o,s.heap.get? b=some o->b≠C:=λb o e=>aaW (by have:=Bl (aaB e);lia);have u:=J.base;have frC:H' C=none:=J.free;refine I.call' (ch:=fp) (s':={s' with heap:=h'}) J.os ⟨λb o e n hb hx=>?_,λb o e n hb hx=>?_,u.free,λb o e hx=>?_,u.tups,u.rE,u.uo⟩ (λa o e=>(J.hok a o e).stay (λb v hb q=>?_) (λ_ q=>q) λ_ _ q=>q) J.bare λb hb=>?_
 .exact(hs.2 b (nC b o e)).trans (u.keep b o e n hb hx)
 .obtain⟨sl,q⟩:=u.slot b o e n hb hx
  exact⟨sl,(hs.2 b (nC b o e)).trans q⟩
 .obtain⟨o',q⟩:=u.there b o e hx
  exact⟨o',(hs.2 b (nC b o e)).trans q⟩
 .refine(hs.2 b ?_).trans q
  intro z;subst z;rcases hb with z|z
  .subst z;rw[frC] at e;cases e
  .rw[frC] at z;cases z
 .exact⟨(hfp b hb).2.2.2.1,(hfp b hb).2.1,(hfp b hb).2.2.2.2.1,(hfp b hb).2.2.2.2.2⟩
end
section
variable{prog:Program}{w:World}{A:Around}{R:Result->Shared->Prop}{s:Shared}
theorem DW{elt target iter:Expr}{ifs:List Expr}{scope:Scope}{pos:Pos}{it acc:Value}{env:Env}(I:Nat->Shared->Prop)(turn:∀n s,I n s->wpAny (model prog w) A (pyNext it) (λr s1=>match r with
   | none=>R (.ok .next) s1
   | some v=>wpAny (model prog w) A (letOwnedTupleGo target it v) (λ_ s1'=>wpAny (model prog w) A (assign target env v) (λ_ s2=>
      wpAny (model prog w) A (forIn ifs true λc r=>if r=true then do let ok ←isTrue c env (eval c env);pure (ForInStep.yield ok) else pure (ForInStep.yield r)) (λok s3=>
       if ok=true then wpAny (model prog w) A (eval elt env) (λx s4=>
        wpAny (model prog w) A (call (.builtin "list.append") [acc,x]) (λ_ s5=>∃m,m<n/\I m s5) (λ_ _=>False) s4) (λ_ _=>False) s3
       else ∃m,m<n/\I m s3) (λ_ _=>False) s2) (λ_ _=>False) s1') (λ_ _=>False) s1) (λ_ _=>False) s)(n:Nat)(h:I n s):
 codeAny (model prog w) A (.compLoop (.ListComp elt [⟨target,iter,ifs,0⟩] scope pos) 0 it acc env) R s:=by
 refine codeAny_loop rfl I (λn s hI=>?_) n h;show wpAny _ A ((compTurn (.ListComp elt [⟨target,iter,ifs,0⟩] scope pos) 0 it acc env).onRaise (λx=>do noteFrame x env;theTreesLotGoes x)) _ _ s;refine wpAny_noted ?_;rw[compTurn_list];refine aaH (wpAny_standAt (aaH (wpAny_mono (turn n s hI) (λr s1 h1=>?_) λ_ _ h'=>h'.elim)));cases r with
 | none=>exact aaI h1
 | some v=>
   refine aaH (wpAny_mono h1 (λ_ s1' h1'=>?_) λ_ _ h'=>h'.elim);refine aaH (wpAny_mono h1' (λ_ s2 h2=>aaH (wpAny_mono h2 (λok s3 h3=>?_) λ_ _ h'=>h'.elim)) λ_ _ h'=>h'.elim);cases ok with
   | false=>exact aaI ⟨Z,h3⟩
   | true=>
     exact aaH (aaH (wpAny_mono h3 (λx s4 h4=>aaH (wpAny_mono h4 (λ_ s5 h5=>aaI (aaI ⟨Z,h5⟩)) λ_ _ h'=>h'.elim)) λ_ _ h'=>h'.elim))
end
noncomputable def PTs(X:Cx)(ifs:List Expr)(t:TT):Prop:=
 ∀(pins:List (Addr×Obj))(s:Shared)(σ:St)(H:Hp)(Q:Bool->Hp->Prop),Inv X pins σ H s->t σ H Q ->
  wpAny (model X.prog X.w) X.A (forIn ifs true λc r=>if r=true then do let ok ←isTrue c X.env (eval c X.env);pure (ForInStep.yield ok) else pure (ForInStep.yield r)) (TP X pins σ Q) X.xe s
noncomputable def Fp:TT:=λ_ H Q=>Q true H
theorem gH{X:Cx}:PTs X [] Fp:=λ_ _ _ H _ I h=>wpAny_tests_nil ⟨H,I,h⟩
theorem wM{X:Cx}{c:Expr}{t:TT}(h:PT X c t):PTs X [c] t:=λpins s σ H Q I q=>wpAny_tests_one (h pins s σ H Q I q)
noncomputable def mH(J:It)(g:TG)(tc:TT)(te:TE)(Q:VK)(D:Addr)(σ0:St)(H1:Hp):Prop:=
 ∃W:Nat->Nat->St->Hp->Prop,(∃m,W 0 m σ0 (upd H1 D (.lst []))) /\ ∀i m σ H,W i m σ H ->
  (J.stop i H/\Q (.ref D) H)\/(J.go i H /\ ∃N:St->Hp->Prop,(∀σ' H',N σ' H' -> ∃m',m'<m/\W (i+1) m' σ' H') /\ ∀x H',J.Xx i H x H'->g x σ H' λσ2 H2=>tc σ2 H2 λb H3=>
    if b=true then te σ2 H3 λy H4=>∃acc,H4 D=some (.lst acc)/\acc.length<sizeLine/\N σ2 (upd H4 D (.lst (acc++[y]))) else N σ2 H3)
noncomputable def Qu(own:List Str)(caps:List Nat)(wi:TI)(g:TG)(tc:TT)(te:TE):TE:=λσ H Q=>wi σ H λJ H1=>∀D,H1 D=none->mH J g tc te Q D (st0 own caps σ) H1
section
variable{X:Cx}{elt tg iter:Expr}{ifs:List Expr}{scope:Scope}{pos:Pos}{N own:List Str}{caps:List Nat}{wi:TI}{g:TG}{tc:TT}{te:TE}
theorem Hq{use:Option (Value->Sem Unit)}{Qv:Value->Shared->Prop}{pins:List (Addr×Obj)}{σ:St}{H:Hp}{s:Shared}{Q:VK}(hc:X.calm=true)(S:bC N own caps X.N X.env.scope scope)(hg:∀C s H fp,PG (fZ X scope C N s H fp) tg g)(hcs:∀C s H fp,PTs (fZ X scope C N s H fp) ifs tc)(he:∀C s H fp,PE (fZ X scope C N s H fp) elt te)(hi:PI X tg iter wi)(hs:∀x,foldedSetIterable iter X.env x=pure x)(I:Inv X pins σ H s)(h:Qu own caps wi g tc te σ H Q)(fin:∀(D C:Addr)(H':Hp)(s':Shared),(∃m,s'.heap.Ns C m)->Inv X pins σ H' s'->(∀h',Heap.SameBut C s'.heap h'->Inv X pins σ H' {s' with heap:=h'})->qG X pins H' C->Q (.ref D) H' ->
   compPost (model X.prog X.w) X.A X.xe use Qv (.ref D) C (.ok .next) s'):
 wpAny (model X.prog X.w) X.A (comprehension (.ListComp elt [⟨tg,iter,ifs,0⟩] scope pos) scope X.env (firstIterPos [⟨tg,iter,ifs,0⟩] pos) (newList []) false (eval iter X.env) use) Qv X.xe s:=by
 refine wpAny_comprehension_free (use:=use) rfl hs (JG (S.TX I.ok)) S.kind S.names (cZ (hi pins s σ H _ I h) λxv s1 h1=>cZ h1 λitv s2 h2=>?_);obtain⟨it,fp,tn,J,H2,e,I2,T,st2,f2,q2⟩:=h2;subst e;refine wpAny_newList ?_;refine wpAny_newFunctionEnv S.RP (by intro y hy;simp at hy) (λh1 acr hsb1=>?_) S.kind;dsimp only at acr hsb1 ⊢;have hD:H2 s2.heap.objs.size=none:=I2.hok.fresh (aaG _);have hsz:(s2.heap.push {cls:= .type "list",data:= .seq ([]:List Value).toArray}).objs.size=s2.heap.objs.size+1:=Heap.size_push ..
 have old:∀b o,s2.heap.get? b=some o->h1.get? b=some o:=λb o e=>by
  refine hsb1.extBut b o (aaW (by have:=Bl (aaB e);rw[hsz];lia)) (aaj _ (aaj _ e))
 have hl:h1.get? s2.heap.objs.size=some {cls:= .type "list",data:= .seq #[]}:=
  hsb1.extBut _ _ (aaW (by rw[hsz];lia)) (aaj _ (aam _ rfl))
 have hfo:∀b∈fp,∃o,s2.heap.get? b=some o:=λb hb=>let ⟨o,e,_⟩:=T.obj _ _ st2 b hb;⟨o,e⟩
 have I4:=Inv.comp (C:=(s2.heap.push {cls:= .type "list",data:= .seq ([]:List Value).toArray}).objs.size) (t:=s2.toks+([]:List (Str×Value)).length) I2 S f2 hfo rfl hsz old acr hl;obtain⟨W,⟨m0,w0⟩,turn⟩:=q2 _ hD;generalize hCe:(s2.heap.push {cls:= .type "list",data:= .seq ([]:List Value).toArray}).objs.size=C at *;generalize hDe:s2.heap.objs.size=D at *;have hDC:D≠C:=by lia
 have loop:∀s3:Shared,s3={s2 with heap:=h1,toks:=s2.toks+([]:List (Str×Value)).length} ->
  codeAny (model X.prog X.w) X.A (.compLoop (.ListComp elt [⟨tg,iter,ifs,0⟩] scope pos) 0 (.ref it) (.ref D) (fZ X scope C N s2 H2 fp).env) (compPost (model X.prog X.w) X.A X.xe use Qv (.ref D) C) s3:=by
  rintro s3 rfl
  have m_:∀b∈fp,(upd H2 D (.lst [])) b=none:=λb hb=>by
   obtain⟨o,e⟩:=hfo b hb;rw[aF (aaW (by have:=Bl (aaB e);lia))];exact(f2 b hb).1
  have stat:∀{H':Hp},(∀b∈fp,H' b=none) -> ∀b∈fp,qG (fZ X scope C N s2 H2 fp) [] H' b:=λhn b hb=>by
   obtain⟨o,e⟩:=hfo b hb;have hlt:=Bl (aaB e);refine⟨hn b hb, ?_,λz=>?_,.inl hb,λx c e'=>(f2 b hb).2.2.2.2.1 x c (S.csub I2.ok e'),λp hp=>(by cases hp)⟩
   .exact aaW (show @LT.lt Nat _ b C by lia)
   .rcases List.mem_cons.mp (I2.xM b z) with q|q
    .exact(f2 b hb).2.1 q
    .exact(f2 b hb).2.2.1 q
  refine DW (λn s'=>∃i σ' H',Inv (fZ X scope C N s2 H2 fp) [] σ' H' s'/\tn i s'.heap/\(∀b∈fp,H' b=none)/\W i n σ' H') ?_ m0
   ⟨0,_,_,I4,T.keep _ _ _ st2 λb _ o e=>old b o e,m_,w0⟩
  rintro n s3 ⟨i,σ3,H3,I3,st3,fr3,w3⟩;rcases turn i n σ3 H3 w3 with ⟨stop,qn⟩|⟨go,Nx,hNx,step⟩
  .refine cZ (T.done (fZ X scope C N s2 H2 fp) rfl rfl rfl hc i [] s3 σ3 H3 _ I3 (stat fr3) st3 stop) λr s4 ⟨hr,J4⟩=>?_
   subst hr;obtain⟨m4,hn4,_⟩:=J4.loc;exact fin D C H3 s4 ⟨m4,hn4⟩ (I2.Ql f2 (by lia) J4 (Heap.SameBut.refl _ _)) (λh' hs'=>I2.Ql f2 (by lia) J4 hs') (I2.v8 (show s2.heap.objs.size<=C by lia) J4.free) qn
  .refine cZ (T.item (fZ X scope C N s2 H2 fp) rfl rfl rfl hc i [] s3 σ3 H3 _ I3 (stat fr3) st3 go) λr s4 ⟨u,hr,h4⟩=>?_
   subst hr;refine cZ h4 λ_ s5 iB=>?_;obtain⟨x,H5,I5,r5,y5,Vi,fr5⟩:=iB;have I5':=I5.pinned (stat fr5) (T.obj _ _ Vi);refine cZ (hg C s2 H2 fp _ s5 σ3 H5 x u _ I5' r5 (step x H5 y5)) λ_ s6 iB=>?_;obtain⟨σ6,H6,I6,q6⟩:=iB;refine cZ (hcs C s2 H2 fp _ s6 σ6 H6 _ I6 q6) λok s7 ⟨H7,I7,q7⟩=>?_
   have again:∀{σ8:St}{H8:Hp}{s8:Shared},Inv (fZ X scope C N s2 H2 fp) ([]++yu fp s5.heap) σ8 H8 s8->Nx σ8 H8 -> ∃m,m<n /\ ∃i σ' H',Inv (fZ X scope C N s2 H2 fp) [] σ' H' s8/\tn i s8.heap/\(∀b∈fp,H' b=none)/\W i m σ' H':=fun {σ8 H8 s8} I8 n8=>by
    obtain⟨m',hm,w8⟩:=hNx _ _ n8;refine⟨m',hm,i+1,σ8,H8,I8.rP,T.keep _ _ _ Vi λb hb o e=>(I8.pin (b,o) (List.mem_append_right _ (List.mem_append_right _ (m7 hb e)))).1,λb hb=>?_,w8⟩;obtain⟨o,e,d⟩:=T.obj _ _ Vi b hb;exact(I8.pin (b,o) (List.mem_append_right _ (List.mem_append_right _ (m7 hb e)))).2.1
   cases ok with
   | false=>
     rw[ab6 (by decide)] at q7;exact again I7 q7
   | true=>
     rw[ab9 rfl] at q7;refine cZ (he C s2 H2 fp _ s7 σ6 H7 _ I7 q7) λy s8 iB=>?_;obtain⟨yv,H8,I8,r8,acc,ha,hlen,q8⟩:=iB;exact cZ (Bp _ s8 σ6 H8 (.ref D) [yv] (.ref D) [y] (λv H9=>Nx σ6 H9) I8 rfl (.cons r8 .nil) ⟨D,acc,yv,Z,Z,ha,hlen,q8⟩) λ_ s9 ⟨_,H9,I9,_,q9⟩=>again I9 q9
 exact codeAny_compStart_list (loop _ rfl) (T.self _ 0 _ _ _ (T.keep _ _ _ st2 λb _ o e=>old b o e) (loop _ rfl))
theorem h_(hc:X.calm=true)(S:bC N own caps X.N X.env.scope scope)(hi:PI X tg iter wi)(hg:∀C s H fp,PG (fZ X scope C N s H fp) tg g)(hcs:∀C s H fp,PTs (fZ X scope C N s H fp) ifs tc)(he:∀C s H fp,PE (fZ X scope C N s H fp) elt te)(hs:∀x,foldedSetIterable iter X.env x=pure x:=by intro _;rfl):PE X (.ListComp elt [⟨tg,iter,ifs,0⟩] scope pos) (Qu own caps wi g tc te):=by
 intro pins s σ H Q I h;rw[eval_ListComp];refine Hq (use:=none) hc S hg hcs he hi hs I h ?_;intro D C H' s' hn I' hk _ q;obtain⟨m,hn⟩:=hn;exact⟨m,hn,λh' hs'=>⟨.ref D,H',hk h' hs',Z,q⟩⟩
theorem sS{i:Nat}{x:Str}{px sp:Pos}(hc:X.calm=true)(hN:X.N.Nodup)(hx:X.N[i]? = some x)(hl:Loc X.env.scope x)(S:bC N own caps X.N X.env.scope scope)(hi:PI X tg iter wi)(hg:∀C s H fp,PG (fZ X scope C N s H fp) tg g)(hcs:∀C s H fp,PTs (fZ X scope C N s H fp) ifs tc)(he:∀C s H fp,PE (fZ X scope C N s H fp) elt te)(hsw:swapsWith (.ListComp elt [⟨tg,iter,ifs,0⟩] scope pos) (some (.Name x px)) sp.line X.env=pure true:=by rfl)(hs:∀x,foldedSetIterable iter X.env x=pure x:=by intro _;rfl)(hf:X.fn x=true\/X.env.scope.names.lookup x=some .local:=by first |exact .inl rfl|exact .inr rfl|assumption):
 PS X (.Assign [.Name x px] (.ListComp elt [⟨tg,iter,ifs,0⟩] scope pos) sp) (Ve (Qu own caps wi g tc te) (iK i)):=by
 intro pins s σ H D I h;rw[exec_Assign_Name_used _ _ _ _ hsw];refine aaH (wpAny_standAt (aaH ?_));show wpAny _ X.A (do let _ ←comprehension (.ListComp elt [⟨tg,iter,ifs,0⟩] scope pos) scope X.env (firstIterPos [⟨tg,iter,ifs,0⟩] pos) (newList []) false (eval iter X.env) (some (assign (.Name x px) X.env))) _ _ s;refine aaH (wpAny_mono (Hq (use:=some (assign (.Name x px) X.env)) (Qv:=λ_ s'=>SP X pins D .next s') hc S hg hcs he hi hs I h ?_) (λ_ s' hq=>aaI (aaI hq)) λ_ _ e=>e);intro E C H' s' hn I' hk fC q;obtain⟨m,hn⟩:=hn;obtain⟨f0,f1,f2,f3,f4,f5⟩:=fC;show wpAny _ X.A (assign (.Name x px) X.env (.ref E)) _ _ _;refine wpAny_assign_Name (A_ I' hN hx hl (v:= .ref E) rfl (λs2 I2 k=>?_) hf);refine⟨m, ?_,λh' hs'=>?_⟩
 .obtain⟨o,es,ep,ho,r⟩:=hn
  obtain⟨a,ks,ka⟩:=k
  have hCa:C≠a:=λz=>by
   rcases ka with q'|q'
   .exact f1 (z.trans q')
   .exact f4 x a q' z.symm
  exact⟨o,es,ep,(ks.2 C hCa).trans ho,r⟩
 .exact⟨_,H',I2.turned (t':=s2.toks) (λb o hb e=>(hs'.2 b hb).trans e) f0 f1 f3 f4 f5,q⟩
end
noncomputable def T5(N own:List Str)(caps:List Nat)(XN:List Str)(outer scope:Scope):Bool:=
 decide (scope.kind = .function)&&scope.names.all (λy=>decide (y.2 ≠ .cell))&&scope.names.all (λy=>decide (y.2 ≠ .local)||decide (scope.names.lookup y.1=some .local)) &&
 scope.names.all (λy=>decide (y.2 ≠ .free)||decide (outer.names.lookup y.1=some .cell)||decide (outer.names.lookup y.1=some .free))&&decide N.Nodup&&decide (N.length=own.length+caps.length) &&
 (List.range caps.length).all (λj=>match N[own.length+j]? with |some x=>decide (XN[caps.getD j 0]? = some x)&&decide ((x,NameKind.free)∈scope.names)&&decide (scope.names.lookup x=some .free)|none=>false)
theorem bC.of{N own:List Str}{caps:List Nat}{XN:List Str}{outer scope:Scope}(h:T5 N own caps XN outer scope=true):bC N own caps XN outer scope:=by
 unfold T5 at h;simp only[aa0,decide_eq_true_eq,List.all_eq_true,Bool.or_eq_true] at h;obtain⟨⟨⟨⟨⟨⟨h1,h2⟩,h3⟩,h4⟩,h5⟩,h6⟩,h7⟩:=h;refine⟨h1,h2,λy hy e=>?_,λy hy e=>?_,h5,h6,λj hj=>?_⟩
 .rcases h3 y hy with z|z
  .exact acq e z
  .exact z
 .rcases h4 y hy with (z|z)|z
  .exact acq e z
  .exact .inl z
  .exact .inr z
 .have q:=h7 j (aby.mpr hj)
  cases e:N[own.length+j]? with
  | none=>rw[e] at q;cases q
  | some x=>
    rw[e] at q;simp only[aa0,decide_eq_true_eq] at q;exact⟨q.1.1.symm,x,Z,q.1.2,q.2⟩
mutual
noncomputable def Dat(H:Hp):V->PyData->Prop
 | v,.none=>v = .non
 | v,.bool b=>v = .bl b
 | v,.int i=>v = .int i
 | v,.str x=>v = .str x
 | v,.list ds=>∃a vs,v = .ref a/\H a=some (.lst vs)/\aO H vs ds
 | v,.tuple ds=>∃a vs,v = .ref a/\H a=some (.tup vs)/\aO H vs ds
 | _,.dict _=>False
noncomputable def aO(H:Hp):List V->List PyData->Prop
 | [],[]=>True
 | v::vs,d::ds=>Dat H v d/\aO H vs ds
 | [],_::_=>False
 | _::_,[]=>False
end
section
variable{H H':Hp}
theorem aO.length:∀{vs:List V}{ds:List PyData},aO H vs ds->vs.length=ds.length
 | [],[],_=>rfl
 | _::_,_::_,h=>by simp only[aO] at h;simp[aO.length h.2]
 | [],_::_,h=>by simp only[aO] at h
 | _::_,[],h=>by simp only[aO] at h
theorem aO.get:∀{vs:List V}{ds:List PyData}{i:Nat}{v:V},aO H vs ds->vs[i]? = some v -> ∃d,ds[i]? = some d/\Dat H v d
 | _::_,_::_,0,_,h,e=>by simp only[aO] at h;simp at e;subst e;exact⟨_,Z,h.1⟩
 | _::_,_::_,i+1,_,h,e=>by simp only[aO] at h;simp at e;obtain⟨d,q,r⟩:=aO.get h.2 e;exact⟨d,by simpa using q,r⟩
 | [],[],_,_,_,e=>by simp at e
 | [],_::_,_,_,h,_=>by simp only[aO] at h
 | _::_,[],_,_,h,_=>by simp only[aO] at h
theorem aO.getD:∀{vs:List V}{ds:List PyData}{i:Nat}{d:PyData},aO H vs ds->ds[i]? = some d -> ∃v,vs[i]? = some v/\Dat H v d
 | _::_,_::_,0,_,h,e=>by simp only[aO] at h;simp at e;subst e;exact⟨_,Z,h.1⟩
 | _::_,_::_,i+1,_,h,e=>by simp only[aO] at h;simp at e;obtain⟨d,q,r⟩:=aO.getD h.2 e;exact⟨d,by simpa using q,r⟩
 | [],[],_,_,_,e=>by simp at e
 | [],_::_,_,_,h,_=>by simp only[aO] at h
 | _::_,[],_,_,h,_=>by simp only[aO] at h
theorem aO.append:∀{vs ws:List V}{ds es:List PyData},aO H vs ds->aO H ws es->aO H (vs++ws) (ds++es)
 | [],_,[],_,_,g=>g
 | _::_,_,_::_,_,h,g=>by simp only[aO,List.cons_append] at h ⊢;exact⟨h.1,aO.append h.2 g⟩
 | [],_,_::_,_,h,_=>by simp only[aO] at h
 | _::_,_,[],_,h,_=>by simp only[aO] at h
theorem aO.ints(ns:List Int):aO H (ns.map V.int) (ns.map PyData.int):=by
 induction ns with
 | nil=>simp only[List.map_nil,aO]
 | cons n r ih=>simp only[List.map_cons,aO,Dat];exact⟨trivial,ih⟩
mutual
theorem Dat.mono(hl:∀a xs,H a=some (HO.lst xs)->H' a=some (HO.lst xs))(ht:∀a xs,H a=some (HO.tup xs)->H' a=some (HO.tup xs)):∀(d:PyData){v:V},Dat H v d->Dat H' v d
 | .none,_,h=>by simp only[Dat] at h ⊢;exact h
 | .bool _,_,h=>by simp only[Dat] at h ⊢;exact h
 | .int _,_,h=>by simp only[Dat] at h ⊢;exact h
 | .str _,_,h=>by simp only[Dat] at h ⊢;exact h
 | .list ds,_,h=>by simp only[Dat] at h ⊢;obtain⟨a,vs,e,q,r⟩:=h;exact⟨a,vs,e,hl _ _ q,aO.mono hl ht ds r⟩
 | .tuple ds,_,h=>by simp only[Dat] at h ⊢;obtain⟨a,vs,e,q,r⟩:=h;exact⟨a,vs,e,ht _ _ q,aO.mono hl ht ds r⟩
 | .dict _,_,h=>by simp only[Dat] at h
theorem aO.mono(hl:∀a xs,H a=some (HO.lst xs)->H' a=some (HO.lst xs))(ht:∀a xs,H a=some (HO.tup xs)->H' a=some (HO.tup xs)):∀(ds:List PyData){vs:List V},aO H vs ds->aO H' vs ds
 | [],[],_=>by simp only[aO]
 | d::ds,v::vs,h=>by simp only[aO] at h ⊢;exact⟨Dat.mono hl ht d h.1,aO.mono hl ht ds h.2⟩
 | _::_,[],h=>by simp only[aO] at h
 | [],_::_,h=>by simp only[aO] at h
end
mutual
noncomputable def Dw:PyData->Bool
 | .tuple ds=>rB ds
 | .list _ | .dict _=>false
 | .none | .bool _ | .int _ | .str _=>true
noncomputable def rB:List PyData->Bool
 | []=>true
 | d::ds=>Dw d&&rB ds
end
mutual
theorem Dat.keep(ht:∀a xs,H a=some (HO.tup xs)->H' a=some (HO.tup xs)):∀(d:PyData){v:V},Dw d=true->Dat H v d->Dat H' v d
 | .none,_,_,h=>by simp only[Dat] at h ⊢;exact h
 | .bool _,_,_,h=>by simp only[Dat] at h ⊢;exact h
 | .int _,_,_,h=>by simp only[Dat] at h ⊢;exact h
 | .str _,_,_,h=>by simp only[Dat] at h ⊢;exact h
 | .list ds,_,i,h=>by simp only[Dw] at i;cases i
 | .tuple ds,_,i,h=>by simp only[Dat] at h ⊢;simp only[Dw] at i;obtain⟨a,vs,e,q,r⟩:=h;exact⟨a,vs,e,ht _ _ q,aO.keep ht ds i r⟩
 | .dict _,_,_,h=>by simp only[Dat] at h
theorem aO.keep(ht:∀a xs,H a=some (HO.tup xs)->H' a=some (HO.tup xs)):∀(ds:List PyData){vs:List V},rB ds=true->aO H vs ds->aO H' vs ds
 | [],[],_,_=>by simp only[aO]
 | d::ds,v::vs,i,h=>by simp only[aO] at h ⊢;simp only[rB,aa0] at i;exact⟨Dat.keep ht d i.1 h.1,aO.keep ht ds i.2 h.2⟩
 | _::_,[],_,h=>by simp only[aO] at h
 | [],_::_,_,h=>by simp only[aO] at h
end
theorem cj{α:Type}(f:α->PyData)(h:∀x,Dw (f x)=true):∀l:List α,rB (l.map f)=true
 | []=>rfl
 | a::l=>by simp only[List.map_cons,rB,h a,cj f h l,Bool.and_self]
end
section
variable{X:Cx}{pins:List (Addr×Obj)}{σ:St}{H:Hp}{s:Shared}
mutual
theorem Inv.reads(I:Inv X pins σ H s):∀(d:PyData){v:V}{u:Value},Dat H v d->RelV v u -> ∃as,Reads s.heap u d as
 | .none,v,u,h,r=>by
   simp only[Dat] at h;subst h;cases (show u=Value.none from r);exact⟨_,.none⟩
 | .bool b,v,u,h,r=>by
   simp only[Dat] at h;subst h;cases (show u=Value.bool b from r);exact⟨_,.bool b⟩
 | .int i,v,u,h,r=>by
   simp only[Dat] at h;subst h;obtain⟨t,q⟩:=(show ∃t,u=Value.int i t from r);cases q;exact⟨_,.int i t⟩
 | .str x,v,u,h,r=>by
   simp only[Dat] at h;subst h;obtain⟨t,q⟩:=(show ∃t,u=Value.str x t from r);cases q;exact⟨_,.str x t⟩
 | .list ds,v,u,h,r=>by
   simp only[Dat] at h;obtain⟨a,vs,rfl,q,g⟩:=h;cases (show u=Value.ref a from r);obtain⟨its,rv,p,hz⟩:=I.list (bH.of q);obtain⟨o,ho,hc,n,hd⟩:=p.isList;obtain⟨as,ra⟩:=Inv.readsAll I ds g rv;exact⟨_,.list ho hc hd (by simpa using ra)⟩
 | .tuple ds,v,u,h,r=>by
   simp only[Dat] at h;obtain⟨a,vs,rfl,q,g⟩:=h;cases (show u=Value.ref a from r);obtain⟨its,rv,p,hz⟩:=I.tuple (cA.of q);obtain⟨o,ho,hc,n,hd⟩:=p;obtain⟨as,ra⟩:=Inv.readsAll I ds g rv;exact⟨_,.tuple ho hc hd (by simpa using ra)⟩
 | .dict _,_,_,h,_=>by simp only[Dat] at h
theorem Inv.readsAll(I:Inv X pins σ H s):∀(ds:List PyData){vs:List V}{us:List Value},aO H vs ds->Vals vs us -> ∃as,ReadsAll s.heap us ds as
 | [],[],_,_,.nil=>⟨_,.nil⟩
 | d::ds,v::vs,_,h,.cons r rs=>by
   simp only[aO] at h;obtain⟨as,ra⟩:=Inv.reads I d h.1 r;obtain⟨bs,rb⟩:=Inv.readsAll I ds h.2 rs;exact⟨_,.cons ra rb⟩
 | _::_,[],_,h,_=>by simp only[aO] at h
 | [],_::_,_,h,_=>by simp only[aO] at h
end
noncomputable def QZ(neg:Bool):R2:=λx y H Q=>∃d e,Dat H x d/\Dat H y e/\SeqAt.shaped d=true/\SeqAt.shaped e=true/\Q (.bl (if neg then !PyData.eqv d e else PyData.eqv d e)) H
theorem Zq(hu:X.A.units+64<cLine):qy X (compareOp .Eq) (QZ false):=by
 intro pins s σ H x y v u Q I rx ry h;obtain⟨d,e,h1,h2,s1,s2,q⟩:=h;obtain⟨as,ra⟩:=I.reads d h1 rx;obtain⟨bs,rb⟩:=I.reads e h2 ry;exact SeqAt.compareEq_shaped ra rb s1 s2 hu ⟨.bl _,H,I,Z,q⟩
theorem Zo(hu:X.A.units+64<cLine):qy X (compareOp .NotEq) (QZ true):=by
 intro pins s σ H x y v u Q I rx ry h;obtain⟨d,e,h1,h2,s1,s2,q⟩:=h;obtain⟨as,ra⟩:=I.reads d h1 rx;obtain⟨bs,rb⟩:=I.reads e h2 ry;exact SeqAt.compareNe_shaped ra rb s1 s2 hu ⟨.bl _,H,I,Z,q⟩
theorem Ua{c:Value}{cv:V}(rc:RelV cv c):k_ X (.builtin "isinstance") (λxs H Q=>∃x t b,xs=[x,cv]/\tV X.K H x t/\PySem.W.kitOne X.K t c=some b/\Q (.bl b) H):=by
 intro pins s σ H xs us Q I r h;obtain⟨x,t,b,rfl,ty,e,q⟩:=h;obtain⟨u,w',rfl,r1,r2⟩:=vals2 r
 have:w'=c:=by
  cases cv with
  | non=>exact(show w'=Value.none from r2).trans (show c=Value.none from rc).symm
  | bl b=>exact(show w'=Value.bool b from r2).trans (show c=Value.bool b from rc).symm
  | ref a=>exact(show w'=Value.ref a from r2).trans (show c=Value.ref a from rc).symm
  | ty n=>exact(show w'=Value.type n from r2).trans (show c=Value.type n from rc).symm
  | int i=>obtain⟨t1,rfl⟩:=(show ∃t,c=Value.int i t from rc);unfold PySem.W.kitOne at e;exact acq e (by cases ty<;>simp[PySem.W.kitCls])
  | str i=>obtain⟨t1,rfl⟩:=(show ∃t,c=Value.str i t from rc);unfold PySem.W.kitOne at e;exact acq e (by cases ty<;>simp[PySem.W.kitCls])
  | JN i=>obtain⟨t1,rfl⟩:=(show ∃t,c=Value.bytes i t from rc);unfold PySem.W.kitOne at e;exact acq e (by cases ty<;>simp[PySem.W.kitCls])
  | flt i=>obtain⟨t1,rfl⟩:=(show ∃t,c=Value.float i t from rc);unfold PySem.W.kitOne at e;exact acq e (by cases ty<;>simp[PySem.W.kitCls])
 subst this;exact Oq I r1 ty e λtk=>⟨.bl b,H,I.tok _,Z,q⟩
end
section
variable{prog:Program}{w:World}{A:Around}
theorem xG(hh:A.handled=none)(it a:Addr)(hne:it≠a)(its:List Value):Walks prog w A it [it,a] [it] its.length (λi v=>its[i]? = some v) (λi h=>h.IsListIter it a i/\h.IsList a its.toArray) where
 sub:=by simp
 frame:=λi h h' ⟨s1,o,ho,hc⟩ k=>⟨s1.at λo e=>k it (by simp) o e,o,k a (by simp) o ho,hc⟩
 item:=λi s Q E hi ⟨s1,s2⟩ hQ=>wpAny_pyNext_list_item s1 s2 (x:=its[i]) (by simp[hi]) λh' st' sb=>
  hQ _ h' s.toks (by simp[hi]) ⟨st',s2.extBut sb.extBut hne.symm⟩ λb o hb e=>(sb.2 b (by simpa using hb)).trans e
 done:=λs Q E ⟨s1,s2⟩ hQ=>wpAny_pyNext_list_end hh s1 s2 (by simp) λh' eb=>hQ h' s.toks λb o hb e=>eb b o (by simpa using hb) e
 self:=λi s Q E ⟨s1,_⟩ hQ=>wpAny_pyIter_listiter s1 hQ
end
section
variable{X:Cx}
theorem zY(bs:List Bool):(List.range bs.length).all (λi=>(bs[i]?).getD false)=bs.all id:=by
 rw[Bool.eq_iff_iff,List.all_eq_true,List.all_eq_true];constructor
 .intro h b hb
  obtain⟨i,hi,rfl⟩:=List.getElem_of_mem hb;have:=h i (by simpa using hi);simpa [hi] using this
 .intro h i hi
  have hi':i<bs.length:=by simpa using hi
  simpa [hi'] using h bs[i] (List.getElem_mem hi')
theorem H_{bs:List Bool}:∀{us:List Value},Vals (bs.map V.bl) us->us=bs.map Value.bool:=by
 induction bs with
 | nil=>intro us r;cases r;rfl
 | cons b bs ih=>
   intro us r;cases r with
   | cons r rs=>cases (show _=Value.bool b from r);rw[ih rs];rfl
theorem zu(hc:X.calm=true):k_ X (.builtin "all") (λxs H Q=>∃(p:Addr) (bs:List Bool),xs=[.ref p]/\bH X.K H p (bs.map V.bl)/\Q (.bl (bs.all id)) H):=by
 intro pins s σ H xs us Q I r h;obtain⟨p,bs,rfl,hq,q⟩:=h;obtain⟨u,rfl,rx⟩:=vals1 r;cases rx;obtain⟨its,rv,pl,hz⟩:=I.list hq;have e:=H_ rv;have hlen:its.length=bs.length:=by rw[e,aad]
 refine call_all_walk (wpAny_pyIter_list pl.isList ⟨s.heap.objs.size,[s.heap.objs.size,p],[s.heap.objs.size],its.length,_,_,λi=>(bs[i]?).getD false,Z,
  xG (show X.A.in1.handled=none from I.ok.hd hc) s.heap.objs.size p ?_ its,⟨⟨_,aam _ rfl,Z,Z⟩, ?_⟩, ?_, ?_⟩)
 .intro z
  obtain⟨o,ho,_⟩:=pl.isList;have:=aaB ho;rw[←z] at this;exact abV _ this
 .obtain⟨o,ho,hcl⟩:=pl.isList
  exact⟨o,aaj _ ho,hcl⟩
 .intro i v s1 Q1 E1 hP hQ
  rw[e,aah] at hP;cases r:bs[i]? with
  | none=>rw[r] at hP;cases hP
  | some b=>
    rw[r] at hP;cases hP;simp only[r,Option.getD_some] at hQ;exact wpAny_truthy_bool hQ
 .intro h' tk k
  rw[hlen,zY];have f:=I.v8 (H':=H) (b:=s.heap.objs.size) (aaG _) (I.hok.fresh (aaG _));have I2:Inv X pins σ H {s with heap:=h',toks:=tk}:=I.turned (h':=h') (t':=tk) (it:=s.heap.objs.size) (λb o hb e=>k b o (by simpa using hb) (aaj _ e)) f.1 f.2.1 f.2.2.2.1 f.2.2.2.2.1 f.2.2.2.2.2;exact⟨.bl _,H,I2,Z,q⟩
end
noncomputable def FnAt(P:Program)(w:World)(K:PySem.W.Frag)(mg:Str->Option Value)(base:Heap)(k:Nat)(x:Str)(ps:List Str)(sp:Sp):Prop:=
 ∃f fd,bN P w K mg base iY k f fd ps sp/\mg x=some (.ref f)/\PySem.W.keepIn K (.ref f)=true/\Binds K fd ps []
section
variable{X:Cx}{k j:Nat}{x:Str}{ps:List Str}{sp:Sp}{e:Expr}{es:List Expr}{t:TA}{p pos:Pos}
theorem aX(F:FnAt X.prog X.w X.K X.mg X.base k x ps sp)(hr:fM k X.A)(hg:Gl X x)(ha:PA X (e::es) t)(hd:(x==("__debug__" :Str))=false:=by decide)(he:starEach (e::es) X.env=(false,eval e X.env)::starEach es X.env:=by rfl)(hpl:(backTo pos (starEach es X.env)).any (·.1)=false:=by rfl):
 PE X (.Call (.Name x p) (e::es) [] pos) (Az sp [] E0 t):=by
 obtain⟨f,fd,G,hm,hk,hb⟩:=F;exact VB G hr hg hm hk hb .nil Lf ha (hdb:=hd) (he:=he) (hpl:=hpl)
end
theorem Ue:bootBuiltins "all" = some (.builtin "all"):=by kernel_rfl
theorem iT:bootBuiltins "len" = some (.builtin "len"):=by kernel_rfl
theorem aaq:bootBuiltins "min" = some (.builtin "min"):=by kernel_rfl
theorem Ud:bootBuiltins "max" = some (.builtin "max"):=by kernel_rfl
theorem BR:bootBuiltins "sorted" = some (.builtin "sorted"):=by kernel_rfl
theorem cV:bootBuiltins "isinstance" = some (.builtin "isinstance"):=by kernel_rfl
theorem aar:bootBuiltins "int" = some (.type "int"):=by kernel_rfl
theorem Xb:bootBuiltins "bool" = some (.type "bool"):=by kernel_rfl
theorem iR:bootBuiltins "list" = some (.type "list"):=by kernel_rfl
theorem Uc:bootBuiltins "tuple" = some (.type "tuple"):=by kernel_rfl
section
variable{X:Cx}
end
noncomputable def Kp(r:Addr)(H H':Hp):Prop:=∀b o,H b=some o->b≠r->H' b=some o
theorem Kp.of_same{r:Addr}{H H':Hp}(h:Same H H'):Kp r H H':=λb o e _=>h b o e
theorem Kp.trans{r:Addr}{H H1 H2:Hp}(a:Kp r H H1)(b:Kp r H1 H2):Kp r H H2:=λc o h n=>b c o (a c o h n) n
theorem Kp.refl(r:Addr)(H:Hp):Kp r H H:=λ_ _ h _=>h
theorem Kp.set{r:Addr}{H:Hp}{o:HO}:Kp r H (upd H r o):=λb u e n=>by rw[aF n];exact e
theorem aB{H:Hp}{p:Addr}{o:HO}(h:H p=none):Same H (upd H p o):=λb u e=>by rw[aF (aA e h)];exact e
theorem Same.tups{H H':Hp}(e:Same H H'):∀a xs,H a=some (HO.tup xs)->H' a=some (HO.tup xs):=λa xs h=>e _ _ h
theorem Same.sqL{K:PySem.W.Frag}{H H':Hp}(e:Same H H'):∀a xs,bH K H a xs->bH K H' a xs:=λa xs h=>e.seq h
theorem Kp.tups{H H':Hp}{r:Addr}{ys:List V}(e:Kp r H H')(hr:H r=some (.lst ys)):∀a xs,H a=some (HO.tup xs)->H' a=some (HO.tup xs):=λa xs h=>e _ _ h (cD h hr (by intro z;cases z))
theorem Kp.tups'{H H':Hp}{r:Addr}{kvs:List (Key×V)}(e:Kp r H H')(hr:H r=some (.dK kvs)):∀a xs,H a=some (HO.tup xs)->H' a=some (HO.tup xs):=λa xs h=>e _ _ h (cD h hr (by intro z;cases z))
section
variable{X:Cx}{K:PySem.W.Frag}
theorem aN(h:X.K=K):IxR X (abK K):=by subst h;exact Wj
theorem aR(h:X.K=K):IxR X (Gf K):=by subst h;exact ZW
theorem fL(h:X.K=K):SlR X (Vo K):=by subst h;exact Vj
theorem lq(h:X.K=K):SlR X (abH K):=by subst h;exact Y0
theorem I_(h:X.K=K):qy X (compareOp .In) (rIn K false):=by subst h;exact Ny
noncomputable def aeE(K:PySem.W.Frag):List V->Hp->VK->Prop:=λxs H Q=>∃(p:Addr) (ys:List V),xs=[.ref p]/\(bH K H p ys\/cA K H p ys)/\Q (.int ys.length) H
theorem bO(h:X.K=K):k_ X (.builtin "len") (aeE K):=by subst h;exact DY
noncomputable def K1(K:PySem.W.Frag):List V->Hp->VK->Prop:=λxs H Q=>∃(p:Addr) (ys:List V),xs=[.ref p]/\(bH K H p ys\/cA K H p ys) /\ ∀l,H l=none->Q (.ref l) (upd H l (.lst ys))
theorem cM(h:X.K=K):k_ X (.type "list") (K1 K):=by subst h;exact DX
noncomputable def abN(K:PySem.W.Frag):List V->Hp->VK->Prop:=λxs H Q=>∃(p:Addr) (bs:List Bool),xs=[.ref p]/\bH K H p (bs.map V.bl)/\Q (.bl (bs.all id)) H
theorem nM(h:X.K=K)(hc:X.calm=true):k_ X (.builtin "all") (abN K):=by subst h;exact zu hc
theorem wQ(h:X.K=K)(hu:X.A.units+64<cLine):qy X (compareOp .Eq) (QZ false):=by subst h;exact Zq hu
theorem Lh(h:X.K=K)(hu:X.A.units+64<cLine):qy X (compareOp .NotEq) (QZ true):=by subst h;exact Zo hu
theorem dR{tg l:Expr}{tl:TE}(h:X.K=K)(hl:PE X l tl):PI X tg l (Ye K tl):=by subst h;exact Vw hl
theorem Vv{tg l:Expr}{tl:TE}(h:X.K=K)(hl:PE X l tl):PI X tg l (acd K tl):=by subst h;exact Zf hl
noncomputable def aeG(K:PySem.W.Frag)(c:Value)(cv:V):List V->Hp->VK->Prop:=λxs H Q=>∃x t b,xs=[x,cv]/\tV K H x t/\PySem.W.kitOne K t c=some b/\Q (.bl b) H
theorem qu{c:Value}{cv:V}(h:X.K=K)(rc:RelV cv c):k_ X (.builtin "isinstance") (aeG K c cv):=by subst h;exact Ua rc
theorem dU{o e:Expr}{to:TE}{t:TA}{apos cpos:Pos}(h:X.K=K)(ho:PE X o to)(ha:PA X [e] t)(hbase:attributeBase o "append" X.env (eval o X.env)=eval o X.env:=by rfl)(hfew:((backTo cpos (starEach [e] X.env)).all (λx=> !x.1)&&(backToKw cpos (keywordEach [] X.env)).all (λx=>x.1.isSome)
   && decide (([e]:List Expr).length+([]:List Keyword).length+(if ([]:List Keyword).isEmpty then 0 else 1)<30))=true:=by rfl)(hline:(apos.endLine==cpos.line)=true:=by rfl)(hs:starEach [e] X.env=(false,eval e X.env)::starEach [] X.env:=by rfl)(hplain:(backTo cpos (starEach [] X.env)).any (·.1)=false:=by rfl):
 PE X (.Call (.Attribute o "append" apos) [e] [] cpos) (tBM K "list" K3 to t):=by
 subst h;exact X4 PySem.F.plainAttrs_list PySem.F.slot_list_append PySem.F.type_list_append Bp ho ha hbase hfew hline hs hplain
end
end L2
namespace L2
open PySem
section
variable{K:PySem.W.Frag}{a D:Addr}{xs:List V}{g:TG}{tc:TT}{te:TE}{Q:VK}{σ0:St}{H1:Hp}
theorem jU(Pv:Nat->St->Hp->Prop)(h0:Pv 0 σ0 (upd H1 D (.lst [])))(hl:∀i σ H,i<=xs.length->Pv i σ H->bH K H a xs)(hs:∀i x σ H,xs[i]? = some x->Pv i σ H->g x σ H λσ2 H2=>tc σ2 H2 λb H3=>
   if b=true then te σ2 H3 λy H4=>∃acc,H4 D=some (.lst acc)/\acc.length<sizeLine/\Pv (i+1) σ2 (upd H4 D (.lst (acc++[y]))) else Pv (i+1) σ2 H3)(hd:∀σ H,Pv xs.length σ H->Q (.ref D) H):mH (Yu K a) g tc te Q D σ0 H1:=by
 refine⟨λi m σ H=>m=xs.length - i/\i<=xs.length/\Pv i σ H,⟨xs.length,by simp,Nat.zero_le _,h0⟩, ?_⟩;rintro i m σ H ⟨rfl,hi,p⟩;have q:=hl i σ H hi p
 by_cases hlt:i<xs.length
 .refine .inr ⟨⟨xs,xs[i],q,by simp[hlt]⟩,Pv (i+1),λσ' H' p'=>⟨xs.length - (i+1),by lia,Z,hlt,p'⟩,λx H' y=>?_⟩
  obtain⟨e,y⟩:=y;subst e;exact hs i x σ _ (y xs q) p
 .have e:i=xs.length:=by lia
  subst e;exact .inl ⟨⟨xs,q,aaG _⟩,hd σ H p⟩
theorem T4(Pv:Nat->St->Hp->Prop)(h0:Pv 0 σ0 (upd H1 D (.lst [])))(hl:∀i σ H,i<=xs.length->Pv i σ H->cA K H a xs)(hs:∀i x σ H,xs[i]? = some x->Pv i σ H->g x σ H λσ2 H2=>tc σ2 H2 λb H3=>
   if b=true then te σ2 H3 λy H4=>∃acc,H4 D=some (.lst acc)/\acc.length<sizeLine/\Pv (i+1) σ2 (upd H4 D (.lst (acc++[y]))) else Pv (i+1) σ2 H3)(hd:∀σ H,Pv xs.length σ H->Q (.ref D) H):mH (Itt K a) g tc te Q D σ0 H1:=by
 refine⟨λi m σ H=>m=xs.length - i/\i<=xs.length/\Pv i σ H,⟨xs.length,by simp,Nat.zero_le _,h0⟩, ?_⟩;rintro i m σ H ⟨rfl,hi,p⟩;have q:=hl i σ H hi p
 by_cases hlt:i<xs.length
 .refine .inr ⟨⟨xs,xs[i],q,by simp[hlt]⟩,Pv (i+1),λσ' H' p'=>⟨xs.length - (i+1),by lia,Z,hlt,p'⟩,λx H' y=>?_⟩
  obtain⟨e,y⟩:=y;subst e;exact hs i x σ _ (y xs q) p
 .have e:i=xs.length:=by lia
  subst e;exact .inl ⟨⟨xs,q,aaG _⟩,hd σ H p⟩
theorem nu{lo:Int}{n:Nat}(Pv:Nat->St->Hp->Prop)(h0:Pv 0 σ0 (upd H1 D (.lst [])))(hs:∀i σ H,i<n->Pv i σ H->g (.int (lo+i)) σ H λσ2 H2=>tc σ2 H2 λb H3=>
   if b=true then te σ2 H3 λy H4=>∃acc,H4 D=some (.lst acc)/\acc.length<sizeLine/\Pv (i+1) σ2 (upd H4 D (.lst (acc++[y]))) else Pv (i+1) σ2 H3)(hd:∀σ H,Pv n σ H->Q (.ref D) H):mH (Yt lo n) g tc te Q D σ0 H1:=by
 refine⟨λi m σ H=>m=n - i/\i<=n/\Pv i σ H,⟨n,by simp,Nat.zero_le _,h0⟩, ?_⟩;rintro i m σ H ⟨rfl,hi,p⟩
 by_cases hlt:i<n
 .refine .inr ⟨hlt,Pv (i+1),λσ' H' p'=>⟨n - (i+1),by lia,Z,hlt,p'⟩,λx H' y=>?_⟩
  obtain⟨e,y⟩:=y;subst e y;exact hs i σ _ hlt p
 .have e:i=n:=by lia
  subst e;exact .inl ⟨aaG _,hd σ H p⟩
end
end L2
namespace L2
open PySem PySem.Spec PyProof.Rows
section
variable{α:Type}(f:α->PyData)
theorem kO:∀(l:List α),(∀x∈l,(f x).canLay0=true)->PyData.canLayAll0 (l.map f)=true
 | [],_=>rfl
 | a::l,h=>by
   show (PyData.canLay0 (f a)&&PyData.canLayAll0 (l.map f))=true;rw[h a List.mem_cons_self,kO l λx hx=>h x (aa1 _ hx)];rfl
theorem iQ(k:Nat):∀(l:List α),(∀x∈l,(f x).depth<=k)->PyData.depthAll (l.map f)<=k
 | [],_=>Nat.zero_le _
 | a::l,h=>by
   show max (PyData.depth (f a)) (PyData.depthAll (l.map f))<=k;exact Nat.max_le.mpr ⟨h a List.mem_cons_self,iQ k l λx hx=>h x (aa1 _ hx)⟩
theorem oA{l:List α}(k:Nat)(hk:k<64)(h1:∀x∈l,(f x).canLay0=true)(h2:∀x∈l,(f x).depth<=k):SeqAt.shaped (.list (l.map f))=true:=by
 unfold SeqAt.shaped;have e1:PyData.canLay0 (.list (l.map f))=true:=kO f l h1
 have e2:PyData.depth (.list (l.map f))<=64:=by
  show PyData.depthAll (l.map f)+1<=64;have:=iQ f k l h2;lia
 rw[e1,aaN e2];rfl
theorem zf[DecidableEq α](h:∀x y,PyData.eqv (f x) (f y)=decide (x=y)):∀(l m:List α),PyData.eqvAll (l.map f) (m.map f)=decide (l=m)
 | [],[]=>rfl
 | [],_::_=>by simp only[List.map_nil,List.map_cons,PyData.eqvAll];exact(aaO (by intro z;cases z)).symm
 | _::_,[]=>by simp only[List.map_nil,List.map_cons,PyData.eqvAll];exact(aaO (by intro z;cases z)).symm
 | a::l,b::m=>by
   simp only[List.map_cons,PyData.eqvAll];rw[h a b,zf h l m]
   by_cases e1:a=b
   .subst e1
    by_cases e2:l=m
    .subst e2;simp
    .simp[e2]
   .simp[e1]
theorem za[DecidableEq α](h:∀x y,PyData.eqv (f x) (f y)=decide (x=y))(l m:List α):PyData.eqv (.list (l.map f)) (.list (m.map f))=decide (l=m):=by
 simp only[PyData.eqv];exact zf f h l m
end
theorem jq{H:Hp}{a:Addr}{vs:List V}{ds:List PyData}(h:H a=some (.lst vs))(d:aO H vs ds):Dat H (.ref a) (.list ds):=by
 simp only[Dat];exact⟨a,vs,Z,h,d⟩
theorem GR(K:PySem.W.Frag):PySem.W.kitOne K (.type "int") (.type "int")=some true:=Z
theorem Dt(K:PySem.W.Frag):PySem.W.kitOne K (.type "int") (.type "bool")=some false:=by kernel_rfl
theorem Ab(K:PySem.W.Frag):PySem.W.kitOne K (.type "list") (.type "list")=some true:=Z
theorem vX(K:PySem.W.Frag):PySem.W.kitOne K (.type "tuple") (.type "tuple")=some true:=Z
end L2
namespace L2
open PySem
theorem tM(xs:List V)(k:Nat):nR xs none (some (k:Int))=xs.take k:=by
 unfold nR;rw[HT.FZ,HT.wL,List.drop_zero,Nat.sub_zero]
 by_cases h:k<=xs.length
 .rw[Nat.min_eq_left h]
 .rw[Nat.min_eq_right (by lia),List.take_of_length_le (aaG _),List.take_of_length_le (by lia)]
theorem tO(xs:List V)(k:Nat):nR xs (some (k:Int)) none=xs.drop k:=by
 unfold nR;rw[HT.FZ,HT.wL]
 by_cases h:k<=xs.length
 .rw[Nat.min_eq_left h,List.take_of_length_le (by rw[List.length_drop];exact aaG _)]
 .rw[Nat.min_eq_right (by lia),Nat.sub_self,List.take_zero,List.drop_of_length_le (by lia)]
end L2
namespace PySem.W
open PySem PySem.Spec PySem.Calls PyProof.Rows
theorem Wy:builtinKind "BaseException.__getattribute__" = some .slot:=by decide +kernel
theorem SM:splitId "BaseException.__getattribute__" = some ("BaseException","__getattribute__"):=by decide +kernel
section
variable{prog:Program}{w:World}{A:Around}{E:Value->Shared->Prop}{s:Shared}{K:Frag}{x D:Addr}{ox:Obj}{odo:Option Obj}{name:Str}
theorem O2{M:Model}{nameV:Value}{Q:Unit->Shared->Prop}(X:K.In s.heap)(I:InstAt s.heap x ox D odo)(hB:mroIn K D (.type "BaseException")=some true)(hq:Q () s):
 wpAny M A (checkBuiltinCall "BaseException.__getattribute__" ⟨[.ref x,nameV],[]⟩) Q E s:=by
 obtain⟨hh,g,d,t,os⟩:=s;have L0:=I.type (M:=M);have L3:=looks_mroIn (M:=M) X hB;have ha:=F.args_bexc_ga (.ref x) nameV;simp only[checkBuiltinCall,Wy,SM];unfold isInstance
 repeat (first |lk|wp_step)
 all_goals first |exact hq|trace_state
theorem Te{Q:Option Value->Shared->Prop}{gv a:Value}(X:K.In s.heap)(I:InstAt s.heap x ox D odo)(hga:findIn K (.ref D) "__getattribute__" = some (some (.builtin "BaseException.__getattribute__")))(hk:findIn K (.ref D) "__getattr__" = some none)(hB:mroIn K D (.type "BaseException")=some true)(hf:findObj K D odo name=some (.bind gv a))(FB:Slot "Exception" "__getattribute__" "BaseException.__getattribute__")(h:∀A',codeAny (model prog w) A' (.call gv ⟨[a,.ref x,.ref D],[]⟩) (λr s'=>match r with | .ok (.ret v)=>wpAny (model prog w) A (handedOut v) (λv s''=>Q (some v) s'') (λ_ _=>False) s'|_=>False) {s with toks:=s.toks+1}):
 wpAny (model prog w) A (getAttr? (.ref x) name) Q E s:=by
 obtain⟨hh,g,d,t,os⟩:=s;have L0:=I.type (M:=model prog w);have L1:=looks_findIn (M:=model prog w) X hga;have L2:=looks_findIn (M:=model prog w) X hk;have L4:=looks_find (M:=model prog w) X I hf;have hx2:(Value.builtin "BaseException.__getattribute__" == Value.builtin "object.__getattribute__")=false:=by decide +kernel
 have f3:=FB.bind (.ref x);unfold getAttr? getAttrBy? getAttrBy;refine aaH (wpAny_mkText (aaH (wpAny_attempt (wpAny_holding (aaH (L0.at (aaH (L1.at ?_))))))));simp only[hx2,Bool.and_false,Bool.false_eq_true,if_false];unfold getAttrByItsOwn hookBefore;show wpAny _ _ (typeLookup (.ref D) "__getattr__" >>= _) _ _ _;refine aaH (L2.at ?_);refine aaH (wpAny_attempt (wpAny_holding ?_));unfold callGetattribute boundAndCalled;rw[ab6 (by decide)];refine aaH (wpAny_of_eq f3 ?_);refine wpAny_call (codeAny_call_builtin FB.plain F.entry_bexc_ga (O2 (s:=⟨hh,g,d,t+1,os⟩) X I hB ?_));show wpAny _ _ (Builtin.«object.__getattribute__» ⟨[.ref x,.str name t],[]⟩) _ _ _;unfold Builtin.«object.__getattribute__»;refine aaH (aaI ?_);refine aaH (aaI ?_);refine aaH (L0.at (aaH (L4.at ?_)));show wpAny _ _ (Builtin.ObjectAttr.bindTo gv a (.ref x) (.ref D)) _ _ _;unfold Builtin.ObjectAttr.bindTo;show wpAny _ _ (holding [a] (call gv [a,.ref x,.ref D]) >>= λv=>ret v) _ _ _;refine aaH (wpAny_holding (wpAny_call (codeAny_mono (h _) λr s' hr=>?_)))
 match r,hr with
 | .ok (.ret v),hr=>
   refine aaI ?_;exact wpAny_mono hr (λv s'' q=>aaI q) λ_ _ z=>z.elim
end
theorem Td:Slot "Exception" "__getattribute__" "BaseException.__getattribute__" :=F.attr_Exception.ga
theorem Ae{K:Frag}{C:Addr}{od:Option Obj}{name:Str}{a g:Value}(hc:(clsIn K C).isSome=true)(ha:findIn K (.ref C) name=some (some a))(hg:specialIn K a "__get__" = some (some g))(ht:takesIn K a=some true):findObj K C od name=some (.bind g a):=by
 obtain⟨cd,hc⟩:=Option.isSome_iff_exists.mp hc;unfold findObj;rw[hc,Option.bind_some,ha,Option.bind_some];simp[hg,ht]
theorem O1{prog:Program}{w:World}{A:Around}{E:Value->Shared->Prop}{s:Shared}{K:Frag}{x D:Addr}{ox:Obj}{odo:Option Obj}{Q:Option Value->Shared->Prop}(X:K.In s.heap)(I:InstAt s.heap x ox D odo)(hga:findIn K (.ref D) "__getattribute__" = some (some (.builtin "BaseException.__getattribute__")))(hk:findIn K (.ref D) "__getattr__" = some none)(hB:mroIn K D (.type "BaseException")=some true)(hc:(clsIn K D).isSome=true)(ha:findIn K (.ref D) "__class__" = some (some (.builtin "object.__class__")))(hn:specialIn K (.builtin "object.__class__") "__get__" = some (some (.builtin "getset_descriptor.__get__")))(htk:takesIn K (.builtin "object.__class__")=some true)(hm:mroIn K D (.type "object")=some true)(h:Q (some (.ref D)) {s with toks:=s.toks+1}):wpAny (model prog w) A (getAttr? (.ref x) "__class__") Q E s:=by
 have hf:findObj K D odo "__class__" = some (.bind (.builtin "getset_descriptor.__get__") (.builtin "object.__class__")):=Ae hc ha hn htk;exact Te X I hga hk hB hf Td λA'=>class_get (s:={s with toks:=s.toks+1}) X I hm (handed_on rfl h)
structure aaw(K:Frag)(D:Addr):Prop where
 hga:findIn K (.ref D) "__getattribute__" = some (some (.builtin "BaseException.__getattribute__"))
 hk:findIn K (.ref D) "__getattr__" = some none
 hB:mroIn K D (.type "BaseException")=some true
 hc:(clsIn K D).isSome=true
 ha:findIn K (.ref D) "__class__" = some (some (.builtin "object.__class__"))
 hn:specialIn K (.builtin "object.__class__") "__get__" = some (some (.builtin "getset_descriptor.__get__"))
 htk:takesIn K (.builtin "object.__class__")=some true
 hm:mroIn K D (.type "object")=some true
theorem Sd{K:Frag}{x D:Addr}(c:aaw K D):KitX K (.ref x) (.ref D) (λh=>∃ox odo,InstAt h x ox D odo) where
 ty:=λ_ _ _ ⟨_,_,I⟩=>I.type
 it:=λ_ _ X _=>by
  have hc:=c.hc;unfold clsIn at hc;split at hc
  .rename_i c' d' cd' sl' ho
   intro A' Q' E' s' k q;unfold isType loadHead;exact aaH (wpAny_loadPart (k _ _ (X _ _ ho)) (aaI q))
  .cases hc
 ne:=λh tp dd its n sl X htp=>by
  have hc:=c.hc;refine Bool.eq_false_iff.mpr λq=>?_;have e:D=tp:=Value.ref.inj (beq_iff_eq.mp q);subst e;unfold clsIn at hc;split at hc
  .rename_i c' d' cd' sl' ho
   have z:=(X _ _ ho).symm.trans htp;cases z
  .cases hc
 ca:=λX ⟨_,_,I⟩ k=>O1 X I c.hga c.hk c.hB c.hc c.ha c.hn c.htk c.hm k
end PySem.W
namespace L2
open PySem PySem.Spec PyProof.Rows
noncomputable def vg(h:Heap)(e:Addr)(cls:Value)(dx:Option Addr)(lo:Addr->Prop):Option Value->Prop
 | none=>∃oe vs,h.get? e=some oe/\oe.cls=cls/\oe.dict=dx/\oe.data = .fields vs/\vs[1]? = some .none
 | some f=>∃oe vs T oT ts,h.get? e=some oe/\oe.cls=cls/\oe.dict=dx/\oe.data = .fields vs/\vs[1]? = some (.ref T)/\lo T/\T≠e/\h.get? T=some oT/\oT.data = .fields ts/\ts[3]? = some f
theorem vg.there{h:Heap}{e:Addr}{cls:Value}{dx:Option Addr}{lo:Addr->Prop}{f:Option Value}(x:vg h e cls dx lo f):∃oe vs,h.get? e=some oe/\oe.cls=cls/\oe.dict=dx/\oe.data = .fields vs:=by
 cases f with
 | none=>obtain⟨oe,vs,a,b,c,d,_⟩:=x;exact⟨oe,vs,a,b,c,d⟩
 | some f=>obtain⟨oe,vs,_,_,_,a,b,c,d,_⟩:=x;exact⟨oe,vs,a,b,c,d⟩
section
variable{M:Model}{A:Around}{E:Value->Shared->Prop}{s:Shared}{base:Heap}{env:Env}{outer:List Env}{L e:Addr}
structure mD(fr:List Addr)(e:Addr)(lo:Addr->Prop)(h h':Heap):Prop where
 keep:∀b o,h.get? b=some o->b∉fr->b≠e -> ¬lo b->h'.get? b=some o
 slot:∀b o,h.get? b=some o->b∈fr->b≠e -> ¬lo b -> ∃sl,h'.get? b=some {o with slots:=sl}
 there:∀b o,h.get? b=some o -> ∃o',h'.get? b=some o'
theorem mD.trans{fr:List Addr}{lo:Addr->Prop}{h h1 h2:Heap}(a:mD fr e lo h h1)(b:mD fr e lo h1 h2):mD fr e lo h h2 where
 keep:=λc o q n1 n2 n3=>b.keep c o (a.keep c o q n1 n2 n3) n1 n2 n3
 slot:=λc o q n1 n2 n3=>by
  obtain⟨sl,q1⟩:=a.slot c o q n1 n2 n3;obtain⟨sl2,q2⟩:=b.slot c _ q1 n1 n2 n3;exact⟨sl2,q2⟩
 there:=λc o q=>by
  obtain⟨o1,q1⟩:=a.there c o q;exact b.there c o1 q1
theorem mQ{h:Heap}{a:Addr}{o:Obj}{vs:Array Value}(q:h.get? a=some o)(d:o.data = .fields vs)(i:Nat)(v:Value):
 (h.update a (Obj.mapFields (·.setIfInBounds i v))).get? a=some (Obj.mapFields (·.setIfInBounds i v) o)/\(Obj.mapFields (·.setIfInBounds i v) o).data = .fields (vs.setIfInBounds i v) /\
   (Obj.mapFields (·.setIfInBounds i v) o).cls=o.cls/\(Obj.mapFields (·.setIfInBounds i v) o).dict=o.dict:=by
 have d2:=Obj.data_mapFields d (·.setIfInBounds i v);refine⟨Heap.get?_update_self _ q (Obj.isFreed_of_fields d2),d2,Obj.cls_mapFields _ _, ?_⟩;obtain⟨c,dd,dt,sl⟩:=o;simp only at d;subst d;rfl
theorem Qf{oe:Obj}{vs:Array Value}{head:Value}{hadNext:Bool}{cls:Value}{dx:Option Addr}{lo:Addr->Prop}{Q:Unit->Shared->Prop}(hfr:A.frames=some (env::outer))(hl:s.heap.FunFrames base (env::outer))(hf:env.frame=some L)(he:s.heap.get? e=some oe)(hd:oe.data = .fields vs)(hsz:1<vs.size)(hc:oe.cls=cls)(hdx:oe.dict=dx)(hlo:∀T,s.heap.get? T=none->lo T)(h:∀h',mD (frs (env::outer)) e lo s.heap h'->vg h' e cls dx lo (some (rawInt L))->Q () {s with heap:=h'}):
 wpAny M A (do let a ←frameOf env;let pl ←entryPlaceOf L hadNext;let b ←EntryCells.newEntry head a .none (rawInt L) .none pl;setField (.ref e) 1 b) Q E s:=by
 have nfr:e∉frs (env::outer):=λhm=>by
  obtain⟨_,o,q,nf⟩:=hl.mem hm;rw[he] at q;cases q;exact nf vs hd
 refine aaH (wpAny_frameOf_fun hfr hl hf λh1 hs1=>?_);refine aaH (wpAny_entryPlaceOf λpl hpl=>?_);unfold EntryCells.newEntry newFields;refine aaH (wpAny_newObj_type ?_ (hpl.sizeOk5 _ _ _ _ _));generalize hob:({cls:= .type "traceback",dict:=none,data:= .fields ([head,.ref L,.none,rawInt L,.none]++(if pl.isEmpty then List.replicate 6 Value.none else pl)).toArray}:Obj)=ob;have q1:h1.get? e=some oe:=(hs1.2.1 e nfr).trans he;have q2:=aaj (h:=h1) ob q1;have nTe:h1.objs.size≠e:=Nat.ne_of_gt (aaB q1);have sizes:h1.objs.size=s.heap.objs.size:=hs1.1;have newT:s.heap.get? h1.objs.size=none:=Heap.get?_none_of_le (by rw[sizes];exact aaG _);refine wpAny_setField q2 hd hsz (h _ ⟨λb o q n1 n2 n3=>?_,λb o q n1 n2 n3=>?_,λb o q=>?_⟩ ?_)
 .rw[Heap.get?_update_other _ _ (Ne.symm n2)]
  exact aaj _ ((hs1.2.1 b n1).trans q)
 .obtain⟨sl,q3⟩:=hs1.2.2 b o q
  refine⟨sl, ?_⟩;rw[Heap.get?_update_other _ _ (Ne.symm n2)];exact aaj _ q3
 .obtain⟨sl,q3⟩:=hs1.2.2 b o q
  by_cases hb:b=e
  .subst hb
   exact⟨_,(mQ q2 hd 1 _).1⟩
  .refine⟨{o with slots:=sl}, ?_⟩
   rw[Heap.get?_update_other _ _ (Ne.symm hb)];exact aaj _ q3
 .obtain⟨u1,u2,u3,u4⟩:=mQ q2 hd 1 (Value.ref h1.objs.size)
  refine⟨_,_,h1.objs.size,ob,_,u1,u3.trans hc,u4.trans hdx,u2,by simp[hsz],hlo _ newT,nTe, ?_,by rw[←hob], ?_⟩
  .rw[Heap.get?_update_other _ _ (Ne.symm nTe)]
   exact aam _ (by rw[←hob];rfl)
  .first |(simp;done)|(rcases hpl with rfl|⟨_,_,_,_,_,_,_,rfl⟩<;>simp)
theorem Qe{cls:Value}{dx:Option Addr}{lo:Addr->Prop}{Q:Unit->Shared->Prop}{fl:Option Value}(hfl:fl=none\/fl=some .none)(hfr:A.frames=some (env::outer))(hl:s.heap.FunFrames base (env::outer))(hf:env.frame=some L)(x:vg s.heap e cls dx lo fl)(hlo:∀T,s.heap.get? T=none->lo T)(h:∀h',mD (frs (env::outer)) e lo s.heap h'->vg h' e cls dx lo (some (rawInt L))->Q () {s with heap:=h'}):wpAny M A (noteFrame (.ref e) env) Q E s:=by
 unfold noteFrame;simp only[hf];rcases hfl with rfl|rfl
 .obtain⟨oe,vs,he,hc,hdx,hd,h1⟩:=x
  refine aaH (wpAny_field he hd h1 ?_);rw[ab6 (by decide)];exact Qf hfr hl hf he hd (Array.getElem?_eq_some_iff.mp h1).1 hc hdx hlo h
 .obtain⟨oe,vs,T,oT,ts,he,hc,hdx,hd,h1,hT,nT,UL,hdT,h3⟩:=x
  refine aaH (wpAny_field he hd h1 ?_);rw[ab9 (show (Value.ref T != Value.none)=true from by simp)];refine aaH (wpAny_field UL hdT h3 ?_);rw[ab6 (show ¬((Value.none==rawInt L)=true) from by simp[rawInt])];have hs3:3<ts.size:=(Array.getElem?_eq_some_iff.mp h3).1;refine aaH (wpAny_setField UL hdT hs3 ?_);have oth:∀b,b≠T->(s.heap.update T (Obj.mapFields (·.setIfInBounds 3 Value.none))).get? b=s.heap.get? b:=λb hb=>Heap.get?_update_other _ _ (Ne.symm hb);obtain⟨u1,u2,u3,u4⟩:=mQ UL hdT 3 Value.none
  have n0:mD (frs (env::outer)) e lo s.heap (s.heap.update T (Obj.mapFields (·.setIfInBounds 3 Value.none))):=by
   have nb:∀b,¬lo b->b≠T:=λb hb z=>hb (by rw[z];exact hT);refine⟨λb o q _ _ n3=>(oth b (nb b n3)).trans q,λb o q _ _ n3=>⟨o.slots,(oth b (nb b n3)).trans q⟩,λb o q=>?_⟩
   by_cases hb:b=T
   .subst hb;exact⟨_,u1⟩
   .exact⟨o,(oth b hb).trans q⟩
  have ffs:(s.heap.update T (Obj.mapFields (·.setIfInBounds 3 Value.none))).FunFrames base (env::outer):=hl.of_keeps λb o q nf=>by
   by_cases hb:b=T
   .subst hb;rw[UL] at q;cases q;exact acq hdT (nf ts)
   .exact⟨o,(oth b hb).trans q,Z⟩
  refine Qf (s:={s with heap:=s.heap.update T (Obj.mapFields (·.setIfInBounds 3 Value.none))}) hfr ffs hf ((oth e (Ne.symm nT)).trans he) hd (Array.getElem?_eq_some_iff.mp h1).1 hc hdx (λT' z=>?_) λh' n1 x1=>h h' (n0.trans n1) x1
  by_cases hb:T'=T
  .rw[hb];exact hT
  .exact hlo T' ((oth T' hb).symm.trans z)
theorem Ez{cls:Value}{dx:Option Addr}{lo:Addr->Prop}{Q:Unit->Shared->Prop}{fr:List Addr}{f:Value}(x:vg s.heap e cls dx lo (some f))(h:∀h',mD fr e lo s.heap h'->vg h' e cls dx lo (some .none)->Q () {s with heap:=h'}):wpAny M A (setFlight (.ref e) none) Q E s:=by
 obtain⟨oe,vs,T,oT,ts,he,hc,hdx,hd,h1,hT,nT,UL,hdT,h3⟩:=x;have hs3:3<ts.size:=(Array.getElem?_eq_some_iff.mp h3).1;unfold setFlight;refine aaH (wpAny_field he hd h1 ?_);rw[ab9 (show (Value.ref T != Value.none)=true from by simp)];have oth:∀b,b≠T->(s.heap.update T (Obj.mapFields (·.setIfInBounds 3 Value.none))).get? b=s.heap.get? b:=λb hb=>Heap.get?_update_other _ _ (Ne.symm hb);obtain⟨u1,u2,u3,u4⟩:=mQ UL hdT 3 Value.none;have nb:∀b,¬lo b->b≠T:=λb hb z=>hb (by rw[z];exact hT);refine wpAny_setField UL hdT hs3 (h _ ⟨λb o q _ _ n3=>(oth b (nb b n3)).trans q,λb o q _ _ n3=>⟨o.slots,(oth b (nb b n3)).trans q⟩,λb o q=>?_⟩ ?_)
 .by_cases hb:b=T
  .subst hb;exact⟨_,u1⟩
  .exact⟨o,(oth b hb).trans q⟩
 .exact⟨oe,vs,T,_,_,(oth e (Ne.symm nT)).trans he,hc,hdx,hd,h1,hT,nT,u1,u2,by simp[hs3]⟩
end
section
variable{X:Cx}{pins:List (Addr×Obj)}{σ:St}{H:Hp}{s:Shared}{e:Addr}
theorem cU.there{P:Program}{w:World}{H:Hp}{h:Heap}{a:Addr}{o:HO}(x:cU P w H h a o):∃ob,h.get? a=some ob:=by
 induction o with
 | lst xs=>obtain⟨_,_,_,_,q⟩:=x;exact⟨_,q⟩
 | tup xs=>obtain⟨_,_,_,ob,q,_⟩:=x;exact⟨ob,q⟩
 | dK kvs=>obtain⟨_,_,_,_,ob,_,_,q,_⟩:=x;exact⟨ob,q⟩
 | dT kvs=>obtain⟨_,_,_,_,ob,_,_,q,_⟩:=x;exact⟨ob,q⟩
 | set S n=>obtain⟨ob,_,_,_,q,_⟩:=x;exact⟨ob,q⟩
 | ins C dx fs=>obtain⟨_,_,_,q,_⟩:=x;exact⟨_,q⟩
 | own y=>exact x
 | xd fs=>obtain⟨_,⟨ob,_,_,q,_⟩,_⟩:=x;exact⟨ob,q⟩
 | rng lo hi=>obtain⟨_,_,_,q⟩:=x;exact⟨_,q⟩
 | m_ ob u ih=>exact⟨ob,x.1⟩
 | Vc ps=>exact⟨_,x⟩
 | met f y=>exact⟨_,x⟩
 | ext φ=>exact x.2.1
noncomputable def wZ(X:Cx)(pins:List (Addr×Obj))(H:Hp)(b:Addr):Prop:=
 H b=none/\b≠X.env.locals/\b∉X.fs/\X.s₀.heap.get? b=none/\(∀x c,X.env.cells.lookup x=some c->c≠b) /\ ∀p∈X.pn++pins,p.1≠b
theorem Inv.xfp(I:Inv X pins σ H s)(hx:X.ex=[]){b:Addr}(hb:s.heap.get? b=none):wZ X pins H b:=by
 refine⟨?_,λz=>?_,λz=>?_, ?_,λx c q z=>?_,λp hp z=>?_⟩
 .cases q:H b with
  | none=>rfl
  | some o=>
    obtain⟨ob,r⟩:=(I.hok b o q).there;rw[hb] at r;cases r
 .obtain⟨m,⟨o,_,_,r,_⟩,_⟩:=I.loc
  rw[←z,hb] at r;cases r
 .obtain⟨_,o,r,_⟩:=I.pC.mem z
  rw[hb] at r;cases r
 .cases q:X.s₀.heap.get? b with
  | none=>rfl
  | some o=>
    obtain⟨o',r⟩:=I.base.there b o q (by rw[hx];simp);rw[hb] at r;cases r
 .obtain⟨v,o,r,_⟩:=I.cell x c q
  rw[z,hb] at r;cases r
 .obtain⟨r,_⟩:=I.pin p hp
  rw[z,hb] at r;cases r
theorem Inv.noted{lo:Addr->Prop}{h':Heap}(I:Inv X pins σ H s)(n:mD (frs X.stack) e lo s.heap h')(hlo:∀b,(b=e\/lo b)->wZ X pins H b\/s.heap.get? b=none):Inv X pins σ H {s with heap:=h'}:=by
 have off:∀b o,s.heap.get? b=some o->(¬wZ X pins H b)->b≠e /\ ¬lo b:=λb o q nx=>
  ⟨λz=>(hlo b (.inl z)).elim nx λr=>(by rw[r] at q;cases q),λz=>(hlo b (.inr z)).elim nx λr=>(by rw[r] at q;cases q)⟩
 have any:∀b o,s.heap.get? b=some o->(¬wZ X pins H b) -> ∃sl,h'.get? b=some {o with slots:=sl}:=λb o q nx=>by
  obtain⟨n1,n2⟩:=off b o q nx
  by_cases hb:b∈frs X.stack
  .exact n.slot b o q hb n1 n2
  .exact⟨o.slots,n.keep b o q hb n1 n2⟩
 have s0:∀b o,X.s₀.heap.get? b=some o -> ¬wZ X pins H b:=λb o q x=>by rw[x.2.2.2.1] at q;cases q
 have Yd:∀b o,X.s₀.heap.get? b=some o->b≠X.env.locals:=λb o q=>aaW (aaX (aaB q) I.ok.above);have nst:∀b,b≠X.env.locals->b∉X.fs->b∉frs X.stack:=λb n1 n2 z=>(List.mem_cons.mp (I.xM b z)).elim n1 n2;have Us:∀b o,H b=some o -> ¬wZ X pins H b:=λb o q x=>by rw[x.1] at q;cases q
 have abb:∀b o,H b=some o->b∉frs X.stack:=λb o q z=>by rw[I.Cm b z] at q;cases q
 have cl:∀x c,X.env.cells.lookup x=some c -> ∀v,s.heap.IsCell c v->h'.IsCell c v:=λx c q v ⟨o,ho,hd⟩=>by
  obtain⟨sl,r⟩:=any c o ho λz=>z.2.2.2.2.1 x c q rfl;exact⟨_,r,hd⟩
 refine⟨I.ok,I.os,I.bare,⟨λb o q nn hb hx=>?_,λb o q nn hb hx=>?_,I.base.free,λb o q hx=>?_,I.base.tups,I.base.rE,I.base.uo⟩, ?_,λx c q=>?_,I.free,I.iM,λp hp=>?_,λa o q=>?_,I.len⟩
 .have q1:=I.base.keep b o q nn hb hx
  obtain⟨n1,n2⟩:=off b o q1 (s0 b o q);exact n.keep b o q1 (nst b (Yd b o q) hb) n1 n2
 .obtain⟨sl,q1⟩:=I.base.slot b o q nn hb hx
  obtain⟨sl2,q2⟩:=any b _ q1 (s0 b o q);exact⟨sl2,q2⟩
 .obtain⟨o1,q1⟩:=I.base.there b o q hx
  exact n.there b o1 q1
 .obtain⟨m,⟨ob,es,ep,ho,r⟩,hl⟩:=I.loc
  obtain⟨sl,q1⟩:=any _ ob ho λz=>z.2.1 rfl;refine⟨m,⟨_,es,ep,q1,r⟩,λi x v e1 e2 e3=>?_⟩;obtain⟨u,ru,l⟩:=hl i x v e1 e2 e3;refine⟨u,ru, ?_⟩;rcases l with l|⟨k,c,hc,z⟩
  .exact .inl l
  .exact .inr ⟨k,c,hc,cl x c hc _ z⟩
 .obtain⟨v,z⟩:=I.cell x c q
  exact⟨v,cl x c q v z⟩
 .obtain⟨q,nn,n1,n2,d⟩:=I.pin p hp
  obtain⟨m1,m2⟩:=off p.1 p.2 q λz=>z.2.2.2.2.2 p hp rfl;exact⟨n.keep p.1 p.2 q (nst p.1 n1 n2) m1 m2,nn,n1,n2,d⟩
 .refine(I.hok a o q).stay (λb u hb r=>?_) (λ_ z=>z) λ_ _ z=>z
  rcases hb with rfl|hb
  .obtain⟨m1,m2⟩:=off b u r (Us b o q)
   exact n.keep b u r (abb b o q) m1 m2
  .obtain⟨m1,m2⟩:=off b u r (Us b _ hb)
   exact n.keep b u r (abb b _ hb) m1 m2
noncomputable def qC(P:Program)(w:World):Qd:=λouter H s E ev s'=>∃(e:Addr) (cls:Value) (dx:Option Addr) (H':Hp),ev = .ref e/\s'.os=s.os/\AllBare s'.gens/\Un (frs outer) [] H H' s.heap s'.heap/\mF P w H' s'.heap /\
 s.heap.get? e=none/\H' e=none/\vg s'.heap e cls dx (λT=>s.heap.get? T=none/\H' T=none) (some .none)/\E cls dx H'
noncomputable def Rz(X:Cx)(E:St->XK):Prop:=∀(pins:List (Addr×Obj))(σ:St)(H:Hp)(s:Shared)(e:Addr)(cls:Value)(dx:Option Addr)(fl:Option Value),(fl=none\/fl=some .none)->Inv X pins σ H s->wZ X pins H e ->
 vg s.heap e cls dx (wZ X pins H) fl->E σ cls dx H->X.xe (.ref e) s
theorem vg.imp{h:Heap}{e:Addr}{cls:Value}{dx:Option Addr}{lo lo':Addr->Prop}{f:Option Value}(x:vg h e cls dx lo f)(k:∀T,(∃o,h.get? T=some o)->lo T->lo' T):vg h e cls dx lo' f:=by
 cases f with
 | none=>exact x
 | some f=>
   obtain⟨oe,vs,T,oT,ts,he,hc,hdx,hd,h1,hT,nT,UL,r⟩:=x;exact⟨oe,vs,T,oT,ts,he,hc,hdx,hd,h1,k T ⟨oT,UL⟩ hT,nT,UL,r⟩
theorem Dl{E:St->XK}{σ:St}(hx:X.ex=[])(R:Rz X E){pins:List (Addr×Obj)}{H:Hp}{s s':Shared}{ev:Value}(I:Inv X pins σ H s)(c:qC X.prog X.w X.stack H s (E σ) ev s'):X.xe ev s':=by
 obtain⟨e,cls,dx,H',rfl,ho,hg,u,hok,ne,he,x,q⟩:=c;have I':Inv X pins σ H' s':=I.call' (ch:=[]) ho u hok hg (λb hb=>by cases hb)
 have fp:∀T,s.heap.get? T=none->H' T=none->wZ X pins H' T:=λT h1 h2=>by
  obtain⟨_,a2,a3,a4,a5,a6⟩:=I.xfp hx h1;exact⟨h2,a2,a3,a4,a5,a6⟩
 exact R pins σ H' s' e cls dx _ (.inr rfl) I' (fp e ne he) (x.imp λT _ z=>fp T z.1 z.2) q
theorem Ga{P:Program}{w:World}{K:PySem.W.Frag}{mg:Str->Option Value}{base:Heap}{N:List Str}{qual:Str}{scope:Scope}{f:Addr}{cd:Value}{A:Around}{outer:List Env}{s:Shared}{H:Hp}{E:XK}:
 Rz (nQ (qC P w) P w K mg base N qual scope f cd A outer s H E) (λ_=>E):=by
 intro pins σ H1 s1 e cls dx fl hfl I fe x q;show wpAny (model P w) _ (leaving _ (.ref e)) _ _ s1;unfold leaving;have lo1:∀b,(b=e\/(wZ (nQ (qC P w) P w K mg base N qual scope f cd A outer s H E) pins H1 b\/s1.heap.get? b=none))->wZ (nQ (qC P w) P w K mg base N qual scope f cd A outer s H E) pins H1 b\/s1.heap.get? b=none:=λb z=>z.elim (λz=> .inl (by rw[z];exact fe)) λz=>z;have stk:(nQ (qC P w) P w K mg base N qual scope f cd A outer s H E).A.frames=some ((nQ (qC P w) P w K mg base N qual scope f cd A outer s H E).env::outer):=I.ok.frames;refine aaH (Qe (base:=base) (lo:=λT=>wZ (nQ (qC P w) P w K mg base N qual scope f cd A outer s H E) pins H1 T\/s1.heap.get? T=none) hfl stk I.stack rfl (x.imp λT _ z=> .inl z) (λT z=> .inr z) λh1 n1 x1=>?_);refine Ez (fr:=frs ((nQ (qC P w) P w K mg base N qual scope f cd A outer s H E).env::outer)) x1 λh2 n2 x2=>?_;have I2:Inv (nQ (qC P w) P w K mg base N qual scope f cd A outer s H E) pins σ H1 {s1 with heap:=h2}:=I.noted (n1.trans n2) lo1;refine⟨e,cls,dx,H1,Z,I2.os,I2.bare,I2.base,I2.hok,fe.2.2.2.1,fe.1,x2.imp λT _ z=>?_,q⟩;rcases z with z|z
 .exact⟨z.2.2.2.1,z.1⟩
 .have y:=I.xfp rfl z
  exact⟨y.2.2.2.1,y.1⟩
end
noncomputable def qN(P:Program)(w:World)(K:PySem.W.Frag)(mg:Str->Option Value)(base:Heap)(k:Nat)(x:Str)(ps:List Str)(sp:Sp):Prop:=
 ∃f fd,bN P w K mg base (qC P w) k f fd ps sp/\mg x=some (.ref f)/\PySem.W.keepIn K (.ref f)=true/\Binds K fd ps []
noncomputable def YT(sp:Sp)(E:St->XK)(t:TA):TE:=λσ H Q=>t σ H λvs H1=>sp vs H1 Q (E σ)
section
variable{X:Cx}{k:Nat}{x:Str}{ps:List Str}{sp:Sp}{e:Expr}{es:List Expr}{t:TA}{p pos:Pos}{E:St->XK}
theorem Dj(F:qN X.prog X.w X.K X.mg X.base k x ps sp)(hx:X.ex=[])(R:Rz X E)(hr:fM k X.A)(hg:Gl X x)(ha:PA X (e::es) t)(hd:(x==("__debug__" :Str))=false:=by decide)(he:starEach (e::es) X.env=(false,eval e X.env)::starEach es X.env:=by rfl)(hpl:(backTo pos (starEach es X.env)).any (·.1)=false:=by rfl):
 PE X (.Call (.Name x p) (e::es) [] pos) (YT sp E t):=by
 obtain⟨f,fd,G,hm,hk,hb⟩:=F;intro pins s σ H Q I h;refine wpAny_Call_Name_kw (lB I hg hm ?_ hd);refine PySem.W.callWith_K (h₀:=X.base) I.ok.mod.Wi hk (cZ (ha pos pins s σ H _ I h) λus s1 ⟨vs,H1,I1,r,q⟩=>⟨I1.nW, ?_⟩) he hpl;have hlen:us.length=ps.length:=by rw[←r.length];exact G.len _ _ _ _ q
 have hbd:=hb s1 us I1.nW (by rw[List.append_nil];exact hlen);rw[List.append_nil] at hbd;refine wpAny_call (codeAny_mono (G.run X.A X.stack s1 H1 ⟨us,[]⟩ us vs Q (E σ) hr I1.env0 hbd r q) λres s' hq=>?_)
 match res,hq with
 | .error ev,hq=>exact Dl hx R I1 hq
 | .ok (.ret u),hq=>exact I1.after hq
end
section
variable{P:Program}{w:World}{K:PySem.W.Frag}{mg:Str->Option Value}{base:Heap}
theorem gP.V4{x qual:Str}{st:Stmt}{f:Addr}{fd:FuncData}{N ps:List Str}{k:Nat}{sp:Sp}(F:gP K x qual st f fd)(S:aY N ps (aH st))(len:∀vs H Q E,sp vs H Q E->vs.length=ps.length)(hbody:∀(cdv:Value)(A:Around)(outer:List Env)(s:Shared)(H:Hp)(vs:List V)(Q:VK)(E:XK),fM k (A.deeper (envOfC qual (aH st) s.heap.objs.size f cdv))->sp vs H Q E ->
   Rz (nQ (qC P w) P w K mg base N qual (aH st) f cdv A outer s H E) (λ_=>E) ->
   ∃t,Eh (nQ (qC P w) P w K mg base N qual (aH st) f cdv A outer s H E) (cT st) t/\t {nx:=λ_ H'=>Q .non H',rt:=Q} (start N vs) H):bN P w K mg base (qC P w) (k+1) f fd ps sp:=by
 obtain⟨oc,od,kV,doc,pm,an,cdv,ct,osl,rfl,lk,hcd⟩:=F.ex;exact S8 lk hcd S len λA outer s H vs Q E hr hsp=>hbody cdv A outer s H vs Q E hr hsp Ga
end
theorem WK{K:PySem.W.Frag}{h:Heap}{C:Addr}{bmB:List Value}{newId:String}(X:K.In h)(q:PySem.W.excIn K C bmB newId=true):
 ∃bm N nm qn bs hdct sn sub ab col dd k0 k1 k2 k3 k5 mN,h.get? C=some (excClassObj nm qn C N bs bm hdct sn sub ab col dd k0 k1 k2 k3 k5 newId)/\h.Ns N mN/\mN "__init__" = none/\OwnTail h bmB bm:=by
 unfold PySem.W.excIn at q;split at q
 .rename_i d0 c0 s0 lk
  split at q
  .rename_i C1 tl a0 a1 a2 a3 nn a5 em es
   simp only[aa0,beq_iff_eq,Bool.not_eq_true'] at q;obtain⟨⟨⟨⟨⟨e1,e2⟩,e3⟩,e4⟩,e5⟩,e6⟩:=q;subst e1 e2;obtain⟨f1,f2,f3,f4,f5,f6,f7,f8,f9,f10,f11⟩:=c0;dsimp only at em e3 e5 e6;subst em e3
   have ez:s0 = #[a0,a1,a2,a3,some (.builtin nn),a5]:=by
    obtain⟨l⟩:=s0;simp only at es;rw[es]
   subst ez;exact⟨tl,f4,_,_,_,_,_,_,_,_,_,_,_,_,_,_,_,X _ _ lk,.of_isNs (PySem.W.isNs_of_in X e5),PySem.W.nsMap_none_of_in X e5 e6,PySem.W.tail_of_in X e4⟩
  .cases q
 .cases q
noncomputable def YH(cls:Value)(E:St->XK)(ta:TA):TS:=λ_ σ H=>ta σ H λvs H1=>vs.length<=sizeLine/\E σ cls none H1
section
variable{X:Cx}{E:St->XK}{x:Str}{C:Addr}{B newId initId:String}{bmB:List Value}{e0:Expr}{rest:List Expr}{ta:TA}{np cpos pos:Pos}
theorem oN(FB:ExcBaseFacts B newId initId bmB)(q:PySem.W.excIn X.K C bmB newId=true)(hm:X.mg x=some (.ref C))(hg:Gl X x)(hc:X.calm=true)(hx:X.ex=[])(R:Rz X E)(ha:PA X (e0::rest) ta)(he:starEach (e0::rest) X.env=(false,eval e0 X.env)::starEach rest X.env:=by rfl)(hplain:(backTo cpos (starEach rest X.env)).any (·.1)=false:=by rfl)(hd:(x==("__debug__" :Str))=false:=by decide):
 PS X (.Raise (some (.Call (.Name x np) (e0::rest) [] cpos)) none pos) (YH (.ref C) E ta):=by
 intro pins s σ H D I h;obtain⟨bm,N,nm,qn,bs,hdct,sn,sub,ab,col,dd,k0,k1,k2,k3,k5,mN,hC,hN,hni,T⟩:=WK I.ok.mod.Wi q
 refine wpAny_Raise_call_subT (k5:=k5) (k3:=k3) (k2:=k2) (k1:=k1) (k0:=k0) (dd:=dd) (col:=col) (ab:=ab) (sub:=sub) (sn:=sn) (hdct:=hdct) (bs:=bs) (q:=qn) (nm:=nm)
  (C:=C) (N:=N) (bm:=bm) (mN:=mN) FB (T.hasType FB.hasBase) (I.ok.hd hc) (by rw[he];show (false||(backTo cpos (starEach rest X.env)).any (·.1))=false;rw[hplain];rfl) hni (lB I hg hm ⟨Z, ?_⟩ hd)
 have h2:=ha cpos pins s σ H _ I h;rw[he] at h2 ⊢;refine Calls.evalArgs_plain (cZ h2 λus s1 ⟨vs,H1,I1,r,hl,hE⟩=>⟨Z,by rw[←r.length];exact hl,I1.bk _ _ hC,hN.keeps I1.bk,T.keeps I1.bk,λh' e mk=>?_⟩);obtain⟨t,ht,_,_⟩:=mk.there;have I2:Inv X pins σ H1 {s1 with heap:=h'}:=I1.kept (t':=s1.toks) mk.keeps;exact R pins σ H1 _ e (.ref C) none none (.inl rfl) I2 (I1.xfp hx mk.new) ⟨_,_,ht,Z,Z,Z,Z⟩ hE
end
noncomputable def XO(C:Addr)(dx:Option Addr)(e:Addr):HO:= .ext λh=>∃oe vs,h.get? e=some oe/\oe.cls = .ref C/\oe.dict=dx/\oe.data = .fields vs
noncomputable def zp(X:Cx)(e:Addr):Cx:={X with A:=X.A.mark (some (.ref e)),calm:=false,xe:=λ_ _=>False}
noncomputable def nJ(X:Cx)(pins:List (Addr×Obj))(xe:Value->Shared->Prop):Cx:={X with pn:=X.pn++pins,xe:=xe}
section
variable{X:Cx}{pins:List (Addr×Obj)}{σ:St}{H:Hp}{s:Shared}
theorem Inv.Xy(I:Inv X pins σ H s)(xe:Value->Shared->Prop):Inv (nJ X pins xe) [] σ H s:=
 ⟨⟨I.ok.mod,I.ok.kind,I.ok.glob,I.ok.blt,I.ok.above,I.ok.inj,I.ok.has,I.ok.cab,I.ok.hd,I.ok.frames,I.ok.stk,I.ok.exf,I.ok.bs,I.ok.Px,I.ok.Dp,I.ok.G8,I.ok.pC,I.ok.S5⟩,I.os,I.bare,I.base,I.loc,I.cell,I.free,I.iM,
   λp hp=>I.pin p (by rw[List.append_nil] at hp;exact hp),I.hok,I.len⟩
theorem Inv.nG{xe:Value->Shared->Prop}{i_:List (Addr×Obj)}(I:Inv (nJ X pins xe) i_ σ H s):Inv X pins σ H s:=
 ⟨⟨I.ok.mod,I.ok.kind,I.ok.glob,I.ok.blt,I.ok.above,I.ok.inj,I.ok.has,I.ok.cab,I.ok.hd,I.ok.frames,I.ok.stk,I.ok.exf,I.ok.bs,I.ok.Px,I.ok.Dp,I.ok.G8,I.ok.pC,I.ok.S5⟩,I.os,I.bare,I.base,I.loc,I.cell,I.free,I.iM,
   λp hp=>I.pin p (List.mem_append_left _ hp),I.hok,I.len⟩
theorem Inv.Ck(I:Inv X pins σ H s)(e:Addr):Inv (zp X e) pins σ H s:=
 ⟨⟨I.ok.mod,I.ok.kind,I.ok.glob,I.ok.blt,I.ok.above,I.ok.inj,I.ok.has,I.ok.cab,λz=>(by cases z),I.ok.frames,I.ok.stk,I.ok.exf,I.ok.bs,I.ok.Px,I.ok.Dp,I.ok.G8,I.ok.pC,I.ok.S5⟩,I.os,I.bare,I.base,I.loc,I.cell,I.free,I.iM,
   I.pin,I.hok,I.len⟩
theorem Inv.o8{e:Addr}(I:Inv (zp X e) pins σ H s)(hd:X.calm=true->X.A.handled=none):Inv X pins σ H s:=
 ⟨⟨I.ok.mod,I.ok.kind,I.ok.glob,I.ok.blt,I.ok.above,I.ok.inj,I.ok.has,I.ok.cab,hd,I.ok.frames,I.ok.stk,I.ok.exf,I.ok.bs,I.ok.Px,I.ok.Dp,I.ok.G8,I.ok.pC,I.ok.S5⟩,I.os,I.bare,I.base,I.loc,I.cell,I.free,I.iM,
   I.pin,I.hok,I.len⟩
theorem Inv.track{e C:Addr}{dx:Option Addr}{lo:Addr->Prop}{fl:Option Value}(I:Inv X pins σ H s)(hx:X.ex=[])(fe:wZ X pins H e)(x:vg s.heap e (.ref C) dx lo fl):Inv X pins σ (upd H e (XO C dx e)) s:=by
 obtain⟨f1,f2,f3,f4,f5,f6⟩:=fe;obtain⟨oe,vs,q,hc,hdx,hd⟩:=x.there;have ne:∀b o,H b=some o->b≠e:=λb o r=>aA r f1;refine⟨I.ok,I.os,I.bare,⟨I.base.keep,I.base.slot,λb o r n hh=>?_,I.base.there,λb xs r=>?_,λb o u r=>?_,λb ps r=>?_⟩,I.loc,I.cell, ?_,λy c r=>?_,λp hp=>?_,λa o r=>?_,I.len⟩
 .rw[aF (λz=>by rw[z,f4] at r;cases r)]
  exact I.base.free b o r n hh
 .have r2:=I.base.tups b xs r
  rw[aF (ne b _ r2)];exact r2
 .have r2:=I.base.rE b o u r
  rw[aF (ne b _ r2)];exact r2
 .obtain⟨m,r2⟩:=I.base.uo b ps r
  exact⟨m,by rw[aF (ne b _ r2)];exact r2⟩
 .rw[aF (Ne.symm f2)];exact I.free
 .rw[aF (f5 y c r)];exact I.iM y c r
 .obtain⟨a1,a2,a3⟩:=I.pin p hp
  exact⟨a1,by rw[aF (f6 p hp)];exact a2,a3⟩
 .by_cases ha:a=e
  .subst ha
   rw[ak] at r;cases r;exact⟨⟨oe,vs,q,hc,hdx,hd⟩,⟨oe,q⟩,λh1 h2 ⟨o1,v1,p1,p2⟩ k=>⟨o1,v1,k _ p1,p2⟩⟩
  .rw[aF ha] at r
   refine(I.hok a o r).stay (λ_ _ _ z=>z) (λb z=>by rw[aF (ne b _ z)];exact z) λb ys z=>by rw[aF (ne b _ z)];exact z
end
section
variable{M:Model}{A:Around}{Er:Value->Shared->Prop}{s:Shared}{K:PySem.W.Frag}{e C D:Addr}
theorem pA{oe:Obj}{b:Bool}{Q:Bool->Shared->Prop}(X:K.In s.heap)(he:s.heap.get? e=some oe)(hc:oe.cls = .ref C)(hD:(PySem.W.clsIn K D).isSome=true)(hty:PySem.W.typeIn K (.ref D)=some (.type "type"))(hB:PySem.W.subIn K (.ref D) (.type "BaseException")=some true)(hs:PySem.W.subIn K (.ref C) (.ref D)=some b)(hq:Q b s):wpAny M A (excMatches (.ref e) (.ref D)) Q Er s:=by
 obtain⟨hh,g,d,t,os⟩:=s;have L1:PySem.W.Looks M hh (typeOf (.ref D)) (.type "type"):=PySem.W.looks_typeIn X hty;have L2:PySem.W.Looks M hh (isSubtype (.ref D) (.type "BaseException")) true:=PySem.W.looks_subIn X hB;have L3:PySem.W.Looks M hh (isSubtype (.ref C) (.ref D)) b:=PySem.W.looks_subIn X hs
 have L4:PySem.W.Looks M hh (isType (.ref D)) true:=by
  unfold PySem.W.clsIn at hD;split at hD
  .rename_i c' d' cd' sl' ho
   intro A' Q' E' s' k q;unfold isType loadHead;exact aaH (wpAny_loadPart (k _ _ (X _ _ ho)) (aaI q))
  .cases hD
 have f:=tc_notTuple;unfold excMatches isExcClass isInstance;refine aaH (aaH (L1.at ?_));refine wpAny_of_eq f ?_;rw[ab6 (by decide)];refine aaH (aaI ?_);simp only[List.forIn_cons,List.forIn_nil];refine aaH (aaH (aaH (aaH (L4.at ?_))));rw[ab9 rfl];refine L2.at ?_;simp only[Bool.not_true,Bool.false_eq_true,if_false];refine aaI (aaI ?_)
 have L0:PySem.W.Looks M hh (typeOf (.ref e)) (.ref C):=by
  intro A' Q' E' s' k q;unfold typeOf;refine aaH (wpAny_loadPart (k _ _ he) ?_);rw[hc];exact aaI q
 refine aaH (L0.at ?_);refine aaH (aaH (aaH (L3.at ?_)));cases b with
 | true=>exact aaI (aaI (aaI hq))
 | false=>exact aaI (aaI (aaI hq))
end
section
variable{X:Cx}{pins:List (Addr×Obj)}{σ:St}{H:Hp}{s:Shared}
theorem Inv.gone{i:Nat}{n:Str}{m:Str->Option Value}{v:Option Value}{h':Heap}{t:Nat}(I:Inv X pins σ H s)(hN:X.N.Nodup)(hi:X.N[i]? = some n)(hm:∀(j:Nat)(x:Str)(u:V),X.N[j]? = some x->σ[j]? = some (some u)->Vis X.env.scope x -> ∃w',RelV u w'/\Look X.env s.heap m x w')(hn:h'.Ns X.env.locals (λx=>if x=n then v else m x))(sb:Heap.SameBut X.env.locals s.heap h'):Inv X pins (σ.set i none) H {s with heap:=h',toks:=t}:=by
 have Yd:∀b o,X.s₀.heap.get? b=some o->b≠X.env.locals:=λb o q=>aaW (aaX (aaB q) I.ok.above);have cl:∀x c,X.env.cells.lookup x=some c -> ∀w',s.heap.IsCell c w'->h'.IsCell c w':=λx c q w' ⟨o,ho,hd⟩=>⟨o,(sb.2 c (I.Ym x c q)).trans ho,hd⟩;have Us:∀b o,H b=some o->b≠X.env.locals:=λb o q=>aA q I.free;refine⟨I.ok,I.os,I.bare,⟨λb o q nn hb hx=>(sb.2 b (Yd b o q)).trans (I.base.keep b o q nn hb hx),λb o q nn hb hx=>?_,I.base.free,λb o q hx=>?_,I.base.tups,I.base.rE,I.base.uo⟩,⟨_,hn,λj x u e1 e2 e3=>?_⟩,λx c q=>?_,I.free,I.iM,λp hp=>?_,λa o q=>?_, ?_⟩
 .obtain⟨sl,r⟩:=I.base.slot b o q nn hb hx
  exact⟨sl,(sb.2 b (Yd b o q)).trans r⟩
 .obtain⟨o',r⟩:=I.base.there b o q hx
  exact⟨o',(sb.2 b (Yd b o q)).trans r⟩
 .have hji:j≠i:=by
   rintro rfl
   by_cases hlt:j<σ.length
   .rw[List.getElem?_set_self hlt] at e2
    cases e2
   .rw[List.getElem?_eq_none (by rw[aa7];lia)] at e2
    cases e2
  rw[List.getElem?_set_ne (Ne.symm hji)] at e2;obtain⟨w',r,l⟩:=hm j x u e1 e2 e3;refine⟨w',r, ?_⟩;have hxn:x≠n:=λz=>hji (yG hN e1 (by rw[z];exact hi));rcases l with ⟨k,q⟩|⟨k,c,hc,z⟩
  .exact .inl ⟨k,by show (if x=n then v else m x)=some w';rw[ab6 hxn];exact q⟩
  .exact .inr ⟨k,c,hc,cl x c hc _ z⟩
 .obtain⟨w',z⟩:=I.cell x c q
  exact⟨w',cl x c q w' z⟩
 .obtain⟨q,nn,n1,r⟩:=I.pin p hp
  exact⟨(sb.2 p.1 n1).trans q,nn,n1,r⟩
 .refine(I.hok a o q).stay (λb u hb r=>?_) (λ_ z=>z) λ_ _ z=>z
  rcases hb with rfl|hb
  .exact(sb.2 b (Us b o q)).trans r
  .exact(sb.2 b (Us b _ hb)).trans r
 .show (σ.set i none).length=X.N.length
  rw[aa7];exact I.len
theorem qe{M:Model}{A:Around}{E:Value->Shared->Prop}{i:Nat}{n:Str}{pos:Pos}{Q:Unit->Shared->Prop}(I:Inv X pins σ H s)(hN:X.N.Nodup)(hi:X.N[i]? = some n)(hl:X.env.kindOf n=some .local)(h:∀s',Inv X pins (σ.set i none) H s'->Q () s'):wpAny M A (do bindName X.env n .none;unbindBehindTheSuite X.env n pos) Q E s:=by
 obtain⟨m,hn,hm⟩:=I.loc;exact wpAny_nameGoes_keeps hl hn (by rw[I.ok.kind];rfl) λh' v hn' sb=>h _ (I.gone hN hi hm hn' sb)
end
noncomputable def acH(D:Ends)(i:Nat):Ends:={nx:=λσ H=>D.nx (σ.set i none) H,rt:=D.rt,bk:=λσ H=>D.bk (σ.set i none) H,ct:=λσ H=>D.ct (σ.set i none) H}
noncomputable def aef(K:PySem.W.Frag)(i:Nat)(Dc:Addr)(tb:(St->XK)->TS)(th:TS):TS:=λD σ H=>
 tb (λσ1 cls dx H1=>∃C,cls = .ref C/\PySem.W.subIn K (.ref C) (.ref Dc)=some true /\ ∀e,H1 e=none->th (acH D i) (σ1.set i (some (.ref e))) (upd H1 e (XO C dx e))) D σ H
structure XHd(K:PySem.W.Frag)(D:Addr):Prop where
 cl:(PySem.W.clsIn K D).isSome=true
 ty:PySem.W.typeIn K (.ref D)=some (.type "type")
 bs:PySem.W.subIn K (.ref D) (.type "BaseException")=some true
section
variable{X:Cx}{body suite:List Stmt}{b0:Stmt}{n cn:Str}{i:Nat}{Dc:Addr}{tb:(St->XK)->TS}{th:TS}{cp hpos pos:Pos}
theorem Zb(hc:X.calm=true)(hx:X.ex=[])(hst:X.stack=X.env::X.outer)(hfm:X.env.frame=some X.env.locals)(hN:X.N.Nodup)(hi:X.N[i]? = some n)(hl:X.env.kindOf n=some .local)(hg:Gl X cn)(hm:X.mg cn=some (.ref Dc))(hD:XHd X.K Dc)(hb:∀(pn:List (Addr×Obj))(xe:Value->Shared->Prop)(E:St->XK),PassesOwn (model X.prog X.w) X.A X.env xe->Rz {X with pn:=pn,xe:=xe} E->Eh {X with pn:=pn,xe:=xe} body (tb E))(hh:∀e,Eh (zp X e) (b0::suite) th)(hd:(cn==("__debug__" :Str))=false:=by decide):
 PS X (.Try body [.ExceptHandler (some (.Name cn cp)) (some n) (b0::suite) hpos] [] [] pos) (aef X.K i Dc tb th):=by
 intro pins s σ H D I h;refine wpAny_Try_except ?_
 refine wpAny_mono (hb (X.pn++pins) (λe s₁=>wpAny (model X.prog X.w) X.A (noteFrame e X.env) (λ_ s₂=>wpAny (model X.prog X.w) X.A (setFlight e none) (λ_ s₃=>wpAny (model X.prog X.w) X.A (handleBy e X.env [.ExceptHandler (some (.Name cn cp)) (some n) (b0::suite) hpos]) (SP X pins D) X.xe s₃) X.xe s₂) X.xe s₁) _
  PassesOwn.looking ?_ [] s σ H D (I.Xy _) h) (λf s1 q=>?_) λ_ _ q=>q
 .
  intro i_ σ1 H1 s1 e cls dx fl hfl I1 fe x hE;obtain⟨C,rfl,hsub,hth⟩:=hE;have lo1:∀b,(b=e\/(wZ (nJ X pins X.xe) i_ H1 b\/s1.heap.get? b=none))->wZ (nJ X pins X.xe) i_ H1 b\/s1.heap.get? b=none:=λb z=>z.elim (λz=> .inl (by rw[z];exact fe)) λz=>z;have hfr:X.A.frames=some (X.env::X.outer):=by rw[←hst];exact I.ok.frames
  have hff:s1.heap.FunFrames X.base (X.env::X.outer):=by rw[←hst];exact I1.stack
  refine Qe (base:=X.base) (lo:=λT=>wZ (nJ X pins X.xe) i_ H1 T\/s1.heap.get? T=none) hfl hfr hff hfm (x.imp λT _ z=> .inl z) (λT z=> .inr z) λh1 n1 x1=>?_;refine Ez (fr:=frs (X.env::X.outer)) x1 λh2 n2 x2=>?_;have n12:mD (frs X.stack) e (λT=>wZ (nJ X pins X.xe) i_ H1 T\/s1.heap.get? T=none) s1.heap h2:=by rw[hst];exact n1.trans n2
  have I2:Inv X pins σ1 H1 {s1 with heap:=h2}:=(I1.noted n12 lo1).nG;refine wpAny_handleBy_cons (codeAny_handlers_test (lB (I2.Ck e) hg hm ?_ hd)) (by intro z;cases z);obtain⟨oe,vs,q1,q2,q3,q4⟩:=x2.there;refine pA (K:=X.K) I2.nW q1 q2 hD.cl hD.ty hD.bs hsub ?_;rw[ab9 rfl];refine codeAny_handlers_suite_as ?_;refine Ez (fr:=frs (X.env::X.outer)) x2 λh3 n3 x3=>?_;have n13:mD (frs X.stack) e (λT=>wZ (nJ X pins X.xe) i_ H1 T\/s1.heap.get? T=none) s1.heap h3:=by rw[hst];exact(n1.trans n2).trans n3
  have I3:Inv X pins σ1 H1 {s1 with heap:=h3}:=(I1.noted n13 lo1).nG;have feX:wZ X pins H1 e:=⟨fe.1,fe.2.1,fe.2.2.1,fe.2.2.2.1,fe.2.2.2.2.1,λp hp=>fe.2.2.2.2.2 p (List.mem_append_left _ hp)⟩;have I4:Inv X pins σ1 (upd H1 e (XO C dx e)) {s1 with heap:=h3}:=I3.track hx feX x3;refine rT (X:=zp X e) (I4.Ck e) hN hi (.inl hl) (v:= .ref e) rfl (λs5 I5=>?_) (.inr hl);refine wpAny_mono (hh e pins s5 _ _ (acH D i) I5 (hth e fe.1)) (λf s6 q6=>?_) λ_ _ z=>z.elim;cases f with
  | next=>
    obtain⟨σ6,H6,J6,r6⟩:=q6;exact qe (J6.o8 I.ok.hd) hN hi hl λs7 J7=>⟨_,H6,J7,r6⟩
  | brk=>
    obtain⟨σ6,H6,J6,r6⟩:=q6;exact qe (J6.o8 I.ok.hd) hN hi hl λs7 J7=>⟨_,H6,J7,r6⟩
  | cont=>
    obtain⟨σ6,H6,J6,r6⟩:=q6;exact qe (J6.o8 I.ok.hd) hN hi hl λs7 J7=>⟨_,H6,J7,r6⟩
  | ret u=>
    obtain⟨v6,σ6,H6,J6,rv,r6⟩:=q6;exact qe (J6.o8 I.ok.hd) hN hi hl λs7 J7=>⟨v6,_,H6,J7,rv,r6⟩
 .cases f with
  | next=>obtain⟨σ1,H1,J,r⟩:=q;exact wpAny_execs_nil ⟨σ1,H1,J.nG,r⟩
  | brk=>obtain⟨σ1,H1,J,r⟩:=q;exact⟨σ1,H1,J.nG,r⟩
  | cont=>obtain⟨σ1,H1,J,r⟩:=q;exact⟨σ1,H1,J.nG,r⟩
  | ret u=>obtain⟨v,σ1,H1,J,rv,r⟩:=q;exact⟨v,σ1,H1,J.nG,rv,r⟩
end
section
variable{X:Cx}{K:PySem.W.Frag}
theorem zZ{o:Obj}{vs:Array Value}(h:o.data = .fields vs):PySem.W.notCls o=true:=by
 obtain⟨c,d,dt,sl⟩:=o;simp only at h;subst h;rfl
theorem U0{C e:Addr}{P:Program}{w:World}{H:Hp}{h:Heap}(x:cU P w H h e (XO C none e)):∃ox odo,PySem.W.InstAt h e ox C odo:=by
 obtain⟨⟨oe,vs,q,hc,hd,hf⟩,_⟩:=x;exact⟨oe,none,⟨q,hc,zZ hf,by rw[hd];trivial⟩⟩
theorem pN{c:Value}{cv:V}(hk:X.K=K)(rc:∀u,RelV cv u->u=c):k_ X (.builtin "isinstance") (λxs H Q=>∃(e C:Addr) (b:Bool),xs=[.ref e,cv]/\H e=some (XO C none e)/\PySem.W.aaw K C/\PySem.W.kitOne K (.ref C) c=some b/\Q (.bl b) H):=by
 subst hk;intro pins s σ H xs us Q I r h;obtain⟨e,C,b,rfl,he,xc,hb,q⟩:=h;obtain⟨u,w',rfl,r1,r2⟩:=vals2 r;cases (show u=Value.ref e from r1);have:=rc _ r2;subst this;exact PySem.W.kia_one (PySem.W.Sd xc) I.nW (U0 (I.hok e _ he)) hb (by intro z;cases z) λtk=>⟨.bl b,H,I.tok _,Z,q⟩
end
section
variable{X:Cx}{K:PySem.W.Frag}
end
structure cY(K:PySem.W.Frag)(C D:Addr)(b:Bool):Prop where
 ne:(Value.ref C==Value.ref D)=false
 sub:PySem.W.subIn K (.ref C) (.ref D)=some b
theorem ig{K:PySem.W.Frag}{C D:Addr}{b:Bool}(h:XHd K D)(p:cY K C D b):PySem.W.kitOne K (.ref C) (.ref D)=some b:=by
 unfold PySem.W.kitOne;rw[ab6 (by rw[p.ne];decide)];show (if ((PySem.W.clsIn K D).isSome&&PySem.W.typeIn K (.ref D)==some (.type "type"))=true then PySem.W.subIn K (.ref C) (.ref D) else none)=some b;rw[ab9 (by rw[h.cl,h.ty];rfl)];exact p.sub
theorem sY{K:PySem.W.Frag}{C:Addr}:PySem.W.kitOne K (.ref C) (.ref C)=some true:=by
 unfold PySem.W.kitOne;rw[ab9 (by simp)]
theorem qp{K:PySem.W.Frag}{C:Addr}{b:Bool}(h:PySem.W.subIn K (.ref C) (.type "ValueError")=some b):PySem.W.kitOne K (.ref C) (.type "ValueError")=some b:=by
 unfold PySem.W.kitOne;rw[ab6 (by intro z;cases beq_iff_eq.mp z)];show (if PySem.W.kitMeta "ValueError" = true then PySem.W.subIn K (.ref C) (.type "ValueError") else none)=some b;rw[ab9 (by decide +kernel)];exact h
theorem Af:bootBuiltins "ValueError" = some (.type "ValueError"):=by kernel_rfl
end L2
namespace L2
open PySem
structure Xr(K:PySem.W.Frag)(mg:Str->Option Value)(C:Addr)(nm:Str):Prop where
 bd:mg nm=some (.ref C)
 hd:XHd K C
 xc:PySem.W.aaw K C
 ex:PySem.W.excIn K C [.type "ValueError",.type "Exception",.type "BaseException",.type "object"] "ValueError.__new__" = true
 ve:PySem.W.subIn K (.ref C) (.type "ValueError")=some true
structure Xo(K:PySem.W.Frag)(mg:Str->Option Value)(C D:Addr)(nm:Str)(b:Bool):Prop where
 bd:mg nm=some (.ref D)
 hd:XHd K D
 pr:cY K C D b
end L2
namespace L2
open PySem PySem.Spec PyProof.Rows
section
variable{X:Cx}{pins:List (Addr×Obj)}{σ:St}{H:Hp}{s:Shared}{h':Heap}
theorem Inv.wI{t':Nat}{fp:List Addr}(I:Inv X pins σ H s)(hf:∀b∈fp,qG X pins H b)(k:∀b o,b∉fp->s.heap.get? b=some o->h'.get? b=some o):Inv X pins σ H {s with heap:=h',toks:=t'}:=by
 have ZD:∀b u,H b=some u->b∉fp:=λb u e z=>by rw[(hf b z).1] at e;cases e
 refine I.step (g':=s.gens) (d':=s.drawn) (ch:=fp) (λb hb=>?_) (λb o _ _ hc e _=>k b o hc e) (λb o _ _ hc e _=>⟨o.slots,k b o hc e⟩) (λ_ _ _ _ n=>n)
  (λb o hc e=>⟨o,k b o hc e⟩) (λ_ _ e=>e) (λ_ _ _ e=>e) (λb ps e=>⟨#[],by rw[e];simp⟩) (λm hm=>?_) (λb u e=>?_) I.bare
 .obtain⟨f0,f1,f2,f3,f4,f5⟩:=hf b hb
  exact⟨f3,f1,f4,f5⟩
 .obtain⟨o,es,ep,ho,r⟩:=hm
  exact⟨o,es,ep,k _ o (λz=>(hf _ z).2.1 rfl) ho,r⟩
 .refine(I.hok b u e).stay (λc v hc q=>k c v ?_ q) (λ_ q=>q) λ_ _ q=>q
  rcases hc with z|z
  .rw[z];exact ZD b u e
  .exact ZD c _ z
theorem qG.upd{b p:Addr}{o:HO}(h:qG X pins H b)(n:b≠p):qG X pins (upd H p o) b:=by
 obtain⟨f0,r⟩:=h;exact⟨by rw[aF n];exact f0,r⟩
theorem G4{h:Heap}{o u:Obj}{b:Addr}(ho:o.isFreed=false)(e:(h.push o).get? b=some u):(b=h.objs.size/\u=o)\/h.get? b=some u:=by
 by_cases hb:b=h.objs.size
 .subst hb
  rw[aam _ ho] at e;exact .inl ⟨Z,(aaS e).symm⟩
 .refine .inr ?_
  have lt:=aaB e
  have lt2:b<h.objs.size:=by
   have:(h.push o).objs.size=h.objs.size+1:=by simp[Heap.push]
   rw[this] at lt;exact Nat.lt_of_le_of_ne (Nat.le_of_lt_succ lt) hb
  have:(h.push o).get? b=h.get? b:=by
   simp only[Heap.get?,Heap.push];rw[Array.getElem?_push_lt lt2,Array.getElem?_eq_getElem lt2]
  rw[←this];exact e
end
noncomputable def Ite(K:PySem.W.Frag)(l:Addr):It:=
 ⟨λi H=>∃xs x,bH K H l xs/\xs[i]? = some x,λi H x H'=>∃(p:Addr) (y:V),x = .ref p/\H p=none/\(∀xs,bH K H l xs->xs[i]? = some y)/\H'=upd H p (.tup [.int i,y]),λi H=>∃xs,bH K H l xs/\xs.length<=i⟩
theorem M9{P:Program}{w:World}{K:PySem.W.Frag}{elts:List Expr}{x1:Nat}{pos:Pos}(l e it:Addr)(hne:e≠it):Turn P w K (.Tuple elts x1 pos) (Ite K l) [e,it] e (λi h=>(∃old,IsEnum h e it i old)/\h.IsListIter it l i) where
 mem:=by simp
 obj:=λi h st b hb=>by
  obtain⟨⟨old,he⟩,o,ho,c,d⟩:=st;have hb':b=e\/b=it:=by simpa using hb
  rcases hb' with rfl|rfl
  .exact⟨_,he,λv z=>by cases z⟩
  .exact⟨o,ho,λv z=>by rw[d] at z;cases z⟩
 keep:=λi h h' st k=>by
  obtain⟨⟨old,he⟩,o,ho,c,d⟩:=st;exact⟨⟨old,k e (by simp) _ he⟩,o,k it (by simp) _ ho,c,d⟩
 item:=by
  intro X hP hw hK hc i pins s σ H E I hf st hg;subst hP hw hK;obtain⟨xs,x,hq,hx⟩:=hg;obtain⟨its,rv,p,hz⟩:=I.list hq;obtain⟨u,hu,ru⟩:=rv.get hx;obtain⟨⟨old,he⟩,hi⟩:=st;have elt:=aaB he;have ilt:it<s.heap.objs.size:=by obtain⟨o,ho,_⟩:=id hi;exact aaB ho
  refine wpAny_pyNext_enum_item he hi p.isList (x:=u) (by simpa using hu) hne λh' hout hit htup hsz hk=>?_;refine⟨_,Z, ?_⟩;refine wpAny_letOwnedTupleGo_enum hout λh2 he2 sb=>?_;have hfr:H s.heap.objs.size=none:=I.hok.fresh (aaG _)
  have I0:Inv X pins σ (upd H s.heap.objs.size (.tup [.int i,x])) {s with heap:=s.heap.push {cls:= .type "tuple",data:= .seq #[.int i s.toks,u]}}:=
   I.laid (t':=s.toks) (λb u e=>aaj _ e) (aaG _) ⟨by show 2<=sizeLine;decide,[.int i s.toks,u],.cons ⟨_,Z⟩ (.cons ru .nil),⟨_,aam _ rfl,Z,_,Z⟩⟩
  have ne1:e≠s.heap.objs.size:=aaW elt;have ne2:it≠s.heap.objs.size:=aaW ilt
  have hf0:∀b∈[e,it],qG X pins (upd H s.heap.objs.size (.tup [.int i,x])) b:=λb hb=>by
   have hb':b=e\/b=it:=by simpa using hb
   rcases hb' with rfl|rfl
   .exact(hf _ (by simp)).upd ne1
   .exact(hf _ (by simp)).upd ne2
  have I1:=I0.wI (h':=h2) (t':=s.toks+1) hf0 (λb o hb eb=>by
   have b1:b≠e:=λz=>hb (by simp[z]);have b2:b≠it:=λz=>hb (by simp[z]);rw[sb.2 b b1];rcases G4 rfl eb with ⟨rfl,rfl⟩|eb
   .exact htup
   .exact hk b o b1 b2 eb)
  refine⟨.ref s.heap.objs.size,_,I1,Z,⟨s.heap.objs.size,x,Z,hfr,λys hy=>by rw[I.sX hy hq];exact hx,Z⟩,⟨⟨u,he2⟩, ?_⟩,λb hb=>(hf0 b hb).1⟩;obtain⟨o,ho,c,d⟩:=hit;exact⟨o,(sb.2 it (Ne.symm hne)).trans ho,c,d⟩
 done:=by
  intro X hP hw hK hc i pins s σ H E I hf st hg;subst hP hw hK;obtain⟨xs,hq,hx⟩:=hg;obtain⟨its,rv,p,hz⟩:=I.list hq;obtain⟨⟨old,he⟩,hi⟩:=st;have hl:=rv.length;exact wpAny_pyNext_enum_end (I.ok.hd hc) he hi p.isList (by simp;lia) λh' eb=>⟨Z,I.wI (t':=s.toks) hf (λb o hb e=>eb b o (λz=>hb (by simp[z])) e)⟩
 self:=λ_ _ _ _ _ st h=>by
  obtain⟨⟨old,he⟩,_⟩:=st;exact wpAny_pyIter_enum he h
section
variable{X:Cx}
noncomputable def acg(K:PySem.W.Frag)(ta:TA):TI:=λσ H R=>ta σ H λvs H1=>∃l xs,vs=[.ref l]/\bH K H1 l xs/\R (Ite K l) H1
theorem Ea:bootBuiltins "enumerate" = some (.type "enumerate"):=by kernel_rfl
theorem Gi{K:PySem.W.Frag}{a:Expr}{ta:TA}{p pos:Pos}{elts:List Expr}{x1:Nat}{tpos:Pos}(hK:X.K=K)(hg:Gl X "enumerate")(hm:X.mg "enumerate" = none)(ha:PA X [a] ta)(hs:starEach [a] X.env=[(false,eval a X.env)]:=by rfl):PI X (.Tuple elts x1 tpos) (.Call (.Name "enumerate" p) [a] [] pos) (acg K ta):=by
 subst hK;intro pins s σ H R I h;refine Call_ (rA I hg hm Ea (PyProof.Rows.callWith_type1 (cZ (ha pos pins s σ H _ I h) λus s1 ⟨vs,H1,I1,r1,q1⟩=>?_) hs rfl));obtain⟨l,xs,e,hq,q⟩:=q1;subst e;cases r1 with
 | cons r rr=>
   cases rr;cases r;obtain⟨its,rv,pl,hz⟩:=I1.list hq;refine call_enumerate_list pl.isList λh' hE hI hsz hk=>?_;refine wpAny_pyIter_enum hE ?_;have I2:Inv X pins σ H1 {s1 with heap:=h'}:=I1.kept (t':=s1.toks) hk;refine⟨s1.heap.objs.size+1,[s1.heap.objs.size+1,s1.heap.objs.size],_,_,H1,Z,I2,M9 l _ _ (by simp),⟨⟨_,hE⟩,hI⟩,λb hb=>?_,q⟩;have hb':b=s1.heap.objs.size+1\/b=s1.heap.objs.size:=by simpa using hb
   rcases hb' with rfl|rfl
   .exact I1.v8 (Nat.le_succ _) (I1.hok.fresh (Nat.le_succ _))
   .exact I1.v8 (aaG _) (I1.hok.fresh (aaG _))
end
noncomputable def Itz(K:PySem.W.Frag)(l1 l2:Addr):It:=
 ⟨λi H=>∃xs ys x y,bH K H l1 xs/\bH K H l2 ys/\xs[i]? = some x/\ys[i]? = some y,
  λi H x H'=>∃(p:Addr) (y z:V),x = .ref p/\H p=none/\(∀xs,bH K H l1 xs->xs[i]? = some y)/\(∀ys,bH K H l2 ys->ys[i]? = some z)/\H'=upd H p (.tup [y,z]),
  λi H=>∃xs ys,bH K H l1 xs/\bH K H l2 ys/\(xs.length<=i\/ys.length<=i)⟩
theorem Qm{P:Program}{w:World}{K:PySem.W.Frag}{elts:List Expr}{x1:Nat}{pos:Pos}(z TI TO i1 i2 l1 l2:Addr)(ap:ZipApart z TI TO i1 i2 l1 l2):Turn P w K (.Tuple elts x1 pos) (Itz K l1 l2) [z,TI,TO,i1,i2] z
 (λi h=>IsZip h z TI TO .none/\IsPair h TI (.ref i1) (.ref i2)/\(∃a b,IsPair h TO a b)/\h.IsListIter i1 l1 i/\h.IsListIter i2 l2 i) where
 mem:=by simp
 obj:=λi h st b hb=>by
  obtain⟨hz,hTI,⟨a,c,hTO⟩,⟨o1,h1,c1,d1⟩,⟨o2,h2,c2,d2⟩⟩:=st;have hb':b=z\/b=TI\/b=TO\/b=i1\/b=i2:=by simpa using hb
  rcases hb' with rfl|rfl|rfl|rfl|rfl
  .exact⟨_,hz,λv z=>by cases z⟩
  .exact⟨_,hTI,λv z=>by cases z⟩
  .exact⟨_,hTO,λv z=>by cases z⟩
  .exact⟨_,h1,λv z=>by rw[d1] at z;cases z⟩
  .exact⟨_,h2,λv z=>by rw[d2] at z;cases z⟩
 keep:=λi h h' st k=>by
  obtain⟨hz,hTI,⟨a,c,hTO⟩,⟨o1,h1,c1,d1⟩,⟨o2,h2,c2,d2⟩⟩:=st;exact⟨k z (by simp) _ hz,k TI (by simp) _ hTI,⟨a,c,k TO (by simp) _ hTO⟩,⟨o1,k i1 (by simp) _ h1,c1,d1⟩,⟨o2,k i2 (by simp) _ h2,c2,d2⟩⟩
 item:=by
  intro X hP hw hK hc i pins s σ H E I hf st hg;subst hP hw hK;obtain⟨xs,ys,x,y,hq1,hq2,hx,hy⟩:=hg;obtain⟨ab',rv1,p1,hz1⟩:=I.list hq1;obtain⟨its2,rv2,p2,hz2⟩:=I.list hq2;obtain⟨u1,hu1,ru1⟩:=rv1.get hx;obtain⟨u2,hu2,ru2⟩:=rv2.get hy;obtain⟨hz,hTI,⟨a,c,hTO⟩,hi1,hi2⟩:=st;have zlt:=aaB hz;have agV:=aaB hTI;have agU:=aaB hTO;have af0:i1<s.heap.objs.size:=by obtain⟨o,ho,_⟩:=id hi1;exact aaB ho
  have afZ:i2<s.heap.objs.size:=by obtain⟨o,ho,_⟩:=id hi2;exact aaB ho
  refine wpAny_pyNext_zip_item ap hz hTI hTO hi1 hi2 p1.isList p2.isList (x:=u1) (y:=u2) (by simpa using hu1) (by simpa using hu2) λh' hz' agg agb hi2' hnew hsz hk=>?_;refine⟨_,Z, ?_⟩;refine wpAny_letOwnedTupleGo_zip hz' λh2 af2 sb=>?_;have hfr:H s.heap.objs.size=none:=I.hok.fresh (aaG _)
  have I0:Inv X pins σ (upd H s.heap.objs.size (.tup [x,y])) {s with heap:=s.heap.push {cls:= .type "tuple",data:= .seq #[u1,u2]}}:=
   I.laid (t':=s.toks) (λb u e=>aaj _ e) (aaG _) ⟨by show 2<=sizeLine;decide,[u1,u2],.cons ru1 (.cons ru2 .nil),⟨_,aam _ rfl,Z,_,Z⟩⟩
  have hf0:∀b∈[z,TI,TO,i1,i2],qG X pins (upd H s.heap.objs.size (.tup [x,y])) b:=λb hb=>by
   refine(hf b hb).upd ?_;have hb':b=z\/b=TI\/b=TO\/b=i1\/b=i2:=by simpa using hb
   rcases hb' with rfl|rfl|rfl|rfl|rfl
   .exact aaW zlt
   .exact aaW agV
   .exact aaW agU
   .exact aaW af0
   .exact aaW afZ
  have I1:=I0.wI (h':=h2) (t':=s.toks) hf0 (λb o hb eb=>by
   have b1:b≠z:=λe=>hb (by simp[e]);have b2:b≠TO:=λe=>hb (by simp[e]);have b3:b≠i1:=λe=>hb (by simp[e]);have b4:b≠i2:=λe=>hb (by simp[e]);rw[sb.2 b b1];rcases G4 rfl eb with ⟨rfl,rfl⟩|eb
   .exact hnew
   .exact hk b o b1 b2 b3 b4 eb)
  refine⟨.ref s.heap.objs.size,_,I1,Z,⟨s.heap.objs.size,x,y,Z,hfr,λys hy=>by rw[I.sX hy hq1];exact hx,λys' hy'=>by rw[I.sX hy' hq2];exact hy,Z⟩, ?_,λb hb=>(hf0 b hb).1⟩;obtain⟨o1,ho1,c1,d1⟩:=agb;obtain⟨o2,ho2,c2,d2⟩:=hi2';exact⟨af2,(sb.2 TI ap.TIz).trans (hk TI _ ap.TIz ap.TITO ap.TIi1 ap.TIi2 hTI),⟨_,_,(sb.2 TO ap.TOz).trans agg⟩,⟨o1,(sb.2 i1 ap.i1z).trans ho1,c1,d1⟩,⟨o2,(sb.2 i2 ap.i2z).trans ho2,c2,d2⟩⟩
 done:=by
  intro X hP hw hK hc i pins s σ H E I hf st hg;subst hP hw hK;obtain⟨xs,ys,hq1,hq2,hx⟩:=hg;obtain⟨ab',rv1,p1,hz1⟩:=I.list hq1;obtain⟨its2,rv2,p2,hz2⟩:=I.list hq2;obtain⟨hz,hTI,⟨a,c,hTO⟩,hi1,hi2⟩:=st;have hl1:=rv1.length;have hl2:=rv2.length;refine wpAny_pyNext_zip_end (I.ok.hd hc) ap hz hTI hTO hi1 hi2 p1.isList p2.isList ?_ λh' eb=>⟨Z,I.wI (t':=s.toks) hf (λb o hb e=>eb b o (λz=>hb (by simp[z])) (λz=>hb (by simp[z])) (λz=>hb (by simp[z])) (λz=>hb (by simp[z])) e)⟩;rcases hx with hx|hx
  .exact .inl (by simp;lia)
  .exact .inr (by simp;lia)
 self:=λ_ _ _ _ _ st h=>wpAny_pyIter_zip st.1 h
section
variable{X:Cx}
noncomputable def afX(K:PySem.W.Frag)(ta:TA):TI:=λσ H R=>ta σ H λvs H1=>∃l1 l2 xs ys,vs=[.ref l1,.ref l2]/\bH K H1 l1 xs/\bH K H1 l2 ys/\R (Itz K l1 l2) H1
theorem Vu{K:PySem.W.Frag}{a b:Expr}{ta:TA}{p pos:Pos}{elts:List Expr}{x1:Nat}{tpos:Pos}(hK:X.K=K)(hg:Gl X "zip")(hm:X.mg "zip" = none)(ha:PA X [a,b] ta)(hs:starEach [a,b] X.env=[(false,eval a X.env),(false,eval b X.env)]:=by rfl)(hs2:starEach [b] X.env=[(false,eval b X.env)]:=by rfl):PI X (.Tuple elts x1 tpos) (.Call (.Name "zip" p) [a,b] [] pos) (afX K ta):=by
 subst hK;intro pins s σ H R I h;refine Call_ (rA I hg hm boot_zip (PyProof.Rows.callWith_type1 (cZ (ha pos pins s σ H _ I h) λus s1 ⟨vs,H1,I1,r1,q1⟩=>?_) (by rw[hs,hs2]) (by rw[hs2];rfl)));obtain⟨l1,l2,xs,ys,e,hq1,hq2,q⟩:=q1;subst e;cases r1 with
 | cons r rr=>
   cases rr with
   | cons r' rr=>
     cases rr;cases r;cases r';obtain⟨ab',rv1,pl1,hz1⟩:=I1.list hq1;obtain⟨its2,rv2,pl2,hz2⟩:=I1.list hq2;have lt1:l1<s1.heap.objs.size:=by obtain⟨o,ho,_⟩:=pl1.isList;exact aaB ho
     have lt2:l2<s1.heap.objs.size:=by obtain⟨o,ho,_⟩:=pl2.isList;exact aaB ho
     refine call_zip_2 pl1.isList pl2.isList λh' hZ hTI hTO hi1 hi2 hsz hk=>?_;refine wpAny_pyIter_zip hZ ?_;have I2:Inv X pins σ H1 {s1 with heap:=h'}:=I1.kept (t':=s1.toks) hk;refine⟨s1.heap.objs.size+4,[s1.heap.objs.size+4,s1.heap.objs.size+2,s1.heap.objs.size+3,s1.heap.objs.size,s1.heap.objs.size+1],_,_,H1,Z,I2,Qm _ _ _ _ _ l1 l2 (zipApart_new lt1 lt2),⟨hZ,hTI,⟨_,_,hTO⟩,hi1,hi2⟩,λb hb=>?_,q⟩
     have hb':s1.heap.objs.size<=b:=by
      have:b=s1.heap.objs.size+4\/b=s1.heap.objs.size+2\/b=s1.heap.objs.size+3\/b=s1.heap.objs.size\/b=s1.heap.objs.size+1:=by simpa using hb
      rcases this with rfl|rfl|rfl|rfl|rfl
      .exact Nat.le_add_right _ _
      .exact Nat.le_add_right _ _
      .exact Nat.le_add_right _ _
      .exact aaG _
      .exact Nat.le_add_right _ _
     exact I1.v8 hb' (I1.hok.fresh hb')
end
section
variable{K:PySem.W.Frag}{a l1 l2 D:Addr}{xs ys:List V}{g:TG}{tc:TT}{te:TE}{Q:VK}{σ0:St}{H1:Hp}
theorem TY{n:Nat}(hn1:xs.length=n)(hn2:ys.length=n)(Pv:Nat->St->Hp->Prop)(h0:Pv 0 σ0 (upd H1 D (.lst [])))(hl:∀i σ H,i<=n->Pv i σ H->bH K H l1 xs/\bH K H l2 ys)(hs:∀i x y σ H p,xs[i]? = some x->ys[i]? = some y->Pv i σ H->H p=none->g (.ref p) σ (upd H p (.tup [x,y])) λσ2 H2=>tc σ2 H2 λb H3=>
   if b=true then te σ2 H3 λy H4=>∃acc,H4 D=some (.lst acc)/\acc.length<sizeLine/\Pv (i+1) σ2 (upd H4 D (.lst (acc++[y]))) else Pv (i+1) σ2 H3)(hd:∀σ H,Pv n σ H->Q (.ref D) H):mH (Itz K l1 l2) g tc te Q D σ0 H1:=by
 refine⟨λi m σ H=>m=n - i/\i<=n/\Pv i σ H,⟨n,by simp,Nat.zero_le _,h0⟩, ?_⟩;rintro i m σ H ⟨rfl,hi,p⟩;obtain⟨q1,q2⟩:=hl i σ H hi p
 by_cases hlt:i<n
 .refine .inr ⟨⟨xs,ys,xs[i],ys[i],q1,q2,by simp[hn1,hlt],by simp[hn2,hlt]⟩,Pv (i+1),λσ' H' p'=>⟨n - (i+1),by lia,Z,hlt,p'⟩,λx H' y=>?_⟩
  obtain⟨t,z,u,rfl,ht,hz,hu,rfl⟩:=y;exact hs i z u σ _ t (hz xs q1) (hu ys q2) p ht
 .have e:i=n:=by lia
  subst e;exact .inl ⟨⟨xs,ys,q1,q2,.inl (by lia)⟩,hd σ H p⟩
end
section
variable{K:PySem.W.Frag}{a l1 l2:Addr}{xs ys:List V}{g:TG}{tb:TS}{D:Ends}{σ:St}{H:Hp}
theorem G6(Pv:Nat->St->Hp->Prop)(h0:Pv 0 σ H)(hl:∀i σ H,i<=xs.length->Pv i σ H->bH K H a xs)(hs:∀i x σ H p,xs[i]? = some x->Pv i σ H->H p=none->g (.ref p) σ (upd H p (.tup [.int i,x])) λσ2 H2=>tb {D with nx:=Pv (i+1),ct:=Pv (i+1),bk:=D.nx} σ2 H2)(hd:∀σ H,Pv xs.length σ H->D.nx σ H):
 ∃W:Nat->Nat->St->Hp->Prop,(∃m,W 0 m σ H) /\ ∀i m σ H,W i m σ H ->
  ((Ite K a).stop i H/\D.nx σ H)\/((Ite K a).go i H /\ ∃N:St->Hp->Prop,(∀σ' H',N σ' H' -> ∃m',m'<m/\W (i+1) m' σ' H') /\ ∀x H',(Ite K a).Xx i H x H'->g x σ H' λσ2 H2=>tb {D with nx:=N,ct:=N,bk:=D.nx} σ2 H2):=by
 refine⟨λi m σ H=>m=xs.length - i/\i<=xs.length/\Pv i σ H,⟨xs.length,by simp,Nat.zero_le _,h0⟩, ?_⟩;rintro i m σ H ⟨rfl,hi,p⟩;have q:=hl i σ H hi p
 by_cases hlt:i<xs.length
 .refine .inr ⟨⟨xs,xs[i],q,by simp[hlt]⟩,Pv (i+1),λσ' H' p'=>⟨xs.length - (i+1),by lia,Z,hlt,p'⟩,λx H' y=>?_⟩
  obtain⟨t,z,rfl,ht,hz,rfl⟩:=y;exact hs i z σ _ t (hz xs q) p ht
 .have e:i=xs.length:=by lia
  subst e;exact .inl ⟨⟨xs,q,aaG _⟩,hd σ H p⟩
end
section
variable{X:Cx}
theorem Dk{K:PySem.W.Frag}{T name id:String}{r:V->List V->Hp->VK->Prop}{o e:Expr}{es:List Expr}{to:TE}{t:TA}{apos cpos:Pos}(h:X.K=K)(pa:PlainAttrs T)(slot:Slot T name id)(hty:typeOf (.builtin id)=pure (.type "method_descriptor"))(hm:MtR X id r)(ho:PE X o to)(ha:PA X (e::es) t)(hbase:attributeBase o name X.env (eval o X.env)=eval o X.env:=by rfl)(hfew:((backTo cpos (starEach (e::es) X.env)).all (λx=> !x.1)&&(backToKw cpos (keywordEach [] X.env)).all (λx=>x.1.isSome)
   && decide ((e::es).length+([]:List Keyword).length+(if ([]:List Keyword).isEmpty then 0 else 1)<30))=true:=by rfl)(hline:(apos.endLine==cpos.line)=true:=by rfl)(hs:starEach (e::es) X.env=(false,eval e X.env)::starEach es X.env:=by rfl)(hplain:(backTo cpos (starEach es X.env)).any (·.1)=false:=by rfl):
 PE X (.Call (.Attribute o name apos) (e::es) [] cpos) (tBM K T r to t):=by
 subst h;exact X4 pa slot hty hm ho ha hbase hfew hline hs hplain
theorem p8{K:PySem.W.Frag}{es:List Expr}{k:Nat}{t:Ys}{n:Nat}{pos:Pos}(hK:X.K=K)(hc:X.calm=true)(h:PGs X es t)(hn:(assignEach es X.env).length=n:=by rfl)(hst:(assignEach es X.env).findIdx? (·.1)=none:=by rfl):PG X (.Tuple es k pos) (Z6 K n t):=by subst hK;exact Zh hc h hn hst
end
end L2
namespace L2
open PySem
section
variable{K:PySem.W.Frag}{a D:Addr}{xs:List V}{tc:TT}{te:TE}{Q:VK}{rest:St}{H1:Hp}
theorem dG{α:Type}(f:Nat->Option α)(n:Nat):(List.range (n+1)).filterMap f=(List.range n).filterMap f++(f n).toList:=by
 rw[List.range_succ,List.filterMap_append];cases h:f n<;>simp[h]
theorem rG{α:Type}(f:Nat->Option α)(n:Nat):((List.range n).filterMap f).length<=n:=by
 have:=List.length_filterMap_le f (List.range n);simpa using this
theorem Same.newly{H H1:Hp}{D:Addr}{o:HO}(h:Same H H1)(n:H D=none):Same H (upd H1 D o):=λb u e=>by rw[aF (aA e n)];exact h b u e
theorem Ho(f:Nat->Option V)(hD:H1 D=none)(hq:bH K H1 a xs)(hx:xs.length<=100000)(hs:∀i x H (G:Hp->Prop) (F:VK),xs[i]? = some x->Same H1 H->(∀H',Same H H'->f i=none->G H')->(∀y H',Same H H'->f i=some y->F y H')->tc (some x::rest) H λb H3=>if b=true then te (some x::rest) H3 F else G H3)(hd:∀H,Same H1 H->H D=some (.lst ((List.range xs.length).filterMap f))->Q (.ref D) H):mH (Yu K a) (iK 0) tc te Q D (none::rest) H1:=by
 refine jU (K:=K) (xs:=xs) (λi σ H=>(∃v,σ=v::rest)/\Same H1 H/\H D=some (.lst ((List.range i).filterMap f))) ⟨⟨none,Z⟩,aB hD,ak⟩ (λi σ H _ ⟨_,sm,_⟩=>sm.sqL _ _ hq) ?_ (λσ H ⟨_,sm,e⟩=>hd H sm e);rintro i x σ H hi ⟨⟨v,rfl⟩,sm,e⟩;have hil:i<xs.length:=(aaf.mp hi).1;refine hs i x H _ _ hi sm (λH3 s3 ef=>⟨⟨_,Z⟩,sm.trans s3,by rw[s3 _ _ e,dG,ef];simp⟩) (λy H4 s4 ef=>?_);refine⟨_,s4 _ _ e, ?_,⟨_,Z⟩,(sm.trans s4).newly hD, ?_⟩
 .have:=rG f i
  rw[sizeLine_eq];lia
 .rw[ak,dG,ef];rfl
theorem Pj(f:Nat->Option V)(hD:H1 D=none)(hq:H1 a=some (.tup xs))(hx:xs.length<=100000)(hs:∀i x H (G:Hp->Prop) (F:VK),xs[i]? = some x->Same H1 H->(∀H',Same H H'->f i=none->G H')->(∀y H',Same H H'->f i=some y->F y H')->tc (some x::rest) H λb H3=>if b=true then te (some x::rest) H3 F else G H3)(hd:∀H,Same H1 H->H D=some (.lst ((List.range xs.length).filterMap f))->Q (.ref D) H):mH (Itt K a) (iK 0) tc te Q D (none::rest) H1:=by
 refine T4 (K:=K) (xs:=xs) (λi σ H=>(∃v,σ=v::rest)/\Same H1 H/\H D=some (.lst ((List.range i).filterMap f))) ⟨⟨none,Z⟩,aB hD,ak⟩ (λi σ H _ ⟨_,sm,_⟩=>cA.of (sm.tups _ _ hq)) ?_ (λσ H ⟨_,sm,e⟩=>hd H sm e);rintro i x σ H hi ⟨⟨v,rfl⟩,sm,e⟩;have hil:i<xs.length:=(aaf.mp hi).1;refine hs i x H _ _ hi sm (λH3 s3 ef=>⟨⟨_,Z⟩,sm.trans s3,by rw[s3 _ _ e,dG,ef];simp⟩) (λy H4 s4 ef=>?_);refine⟨_,s4 _ _ e, ?_,⟨_,Z⟩,(sm.trans s4).newly hD, ?_⟩
 .have:=rG f i
  rw[sizeLine_eq];lia
 .rw[ak,dG,ef];rfl
theorem u9{n:Nat}(f:Nat->Option V)(hD:H1 D=none)(hx:n<=100000)(hs:∀i H (G:Hp->Prop) (F:VK),i<n->Same H1 H->(∀H',Same H H'->f i=none->G H')->(∀y H',Same H H'->f i=some y->F y H')->tc (some (.int (0+i))::rest) H λb H3=>if b=true then te (some (.int (0+i))::rest) H3 F else G H3)(hd:∀H,Same H1 H->H D=some (.lst ((List.range n).filterMap f))->Q (.ref D) H):mH (Yt 0 n) (iK 0) tc te Q D (none::rest) H1:=by
 refine nu (lo:=0) (n:=n) (λi σ H=>(∃v,σ=v::rest)/\Same H1 H/\H D=some (.lst ((List.range i).filterMap f))) ⟨⟨none,Z⟩,aB hD,ak⟩ ?_ (λσ H ⟨_,sm,e⟩=>hd H sm e);rintro i σ H hi ⟨⟨v,rfl⟩,sm,e⟩;refine hs i H _ _ hi sm (λH3 s3 ef=>⟨⟨_,Z⟩,sm.trans s3,by rw[s3 _ _ e,dG,ef];simp⟩) (λy H4 s4 ef=>?_);refine⟨_,s4 _ _ e, ?_,⟨_,Z⟩,(sm.trans s4).newly hD, ?_⟩
 .have:=rG f i
  rw[sizeLine_eq];lia
 .rw[ak,dG,ef];rfl
theorem Pg{l1 l2:Addr}{ys:List V}{n:Nat}(hn1:xs.length=n)(hn2:ys.length=n)(f:Nat->Option V)(hD:H1 D=none)(hq1:bH K H1 l1 xs)(hq2:bH K H1 l2 ys)(hx:n<=100000)(hs:∀i x y H (G:Hp->Prop) (F:VK),xs[i]? = some x->ys[i]? = some y->Same H1 H->(∀H',Same H H'->f i=none->G H')->(∀y H',Same H H'->f i=some y->F y H')->tc (some x::some y::rest) H λb H3=>if b=true then te (some x::some y::rest) H3 F else G H3)(hd:∀H,Same H1 H->H D=some (.lst ((List.range n).filterMap f))->Q (.ref D) H):mH (Itz K l1 l2) (Z6 K 2 (SQ (iK 0) (SQ (iK 1) acC))) tc te Q D (none::none::rest) H1:=by
 refine TY (K:=K) (xs:=xs) (ys:=ys) hn1 hn2 (λi σ H=>(∃u v,σ=u::v::rest)/\Same H1 H/\H D=some (.lst ((List.range i).filterMap f))) ⟨⟨none,none,Z⟩,aB hD,ak⟩ (λi σ H _ ⟨_,sm,_⟩=>⟨sm.sqL _ _ hq1,sm.sqL _ _ hq2⟩) ?_ (λσ H ⟨_,sm,e⟩=>hd H sm e);rintro i x y σ H p hix hiy ⟨⟨u,v,rfl⟩,sm,e⟩ hp;have sp:=aB (o:=HO.tup [x,y]) hp;refine⟨p,[x,y],Z,cA.of ak,Z,_,_,Z,_,_,Z,Z, ?_⟩;have hil:i<xs.length:=(aaf.mp hix).1;refine hs i x y _ _ _ hix hiy (sm.trans sp) (λH3 s3 ef=>⟨⟨_,_,Z⟩,(sm.trans sp).trans s3,by rw[s3 _ _ (sp _ _ e),dG,ef];simp⟩) (λy H4 s4 ef=>?_);refine⟨_,s4 _ _ (sp _ _ e), ?_,⟨_,_,Z⟩,((sm.trans sp).trans s4).newly hD, ?_⟩
 .have:=rG f i
  rw[sizeLine_eq];lia
 .rw[ak,dG,ef];rfl
theorem pF{α β:Type}{f g:α->Option β}:∀(l:List α)(_:True)(h:∀x∈l,f x=g x),l.filterMap f=l.filterMap g
 | [],_,_=>rfl
 | x::l,_,h=>by
   rw[List.filterMap_cons,List.filterMap_cons,h x (by simp),pF l trivial λy hy=>h y (by simp[hy])]
theorem snocInd{α:Type}{P:List α->Prop}(h0:P [])(hs:∀xs x,P xs->P (xs++[x]))(xs:List α):P xs:=by
 rw[←List.reverse_reverse xs]
 induction xs.reverse with
 | nil=>exact h0
 | cons x l ih=>rw[List.reverse_cons];exact hs _ _ ih
theorem WD{α β:Type}(xs:List α)(g:α->β):(List.range xs.length).filterMap (λi=>(xs[i]?).map g)=xs.map g:=by
 refine snocInd (P:=λxs=>(List.range xs.length).filterMap (λi=>(xs[i]?).map g)=xs.map g) rfl (λxs x ih=>?_) xs
 .show (List.range (xs++[x]).length).filterMap (λi=>((xs++[x])[i]?).map g)=(xs++[x]).map g
  rw[aaT,aa5,dG,aaY];congr 1
  .rw[←ih]
   refine pF _ trivial λi hi=>?_;have:i<xs.length:=by simpa using hi
   rw[aaV this]
  .simp
theorem OJ{α β:Type}(xs:List α)(p:α->Bool)(g:α->β):(List.range xs.length).filterMap (λi=>(xs[i]?).bind λx=>if p x then some (g x) else none)=(xs.filter p).map g:=by
 refine snocInd (P:=λxs=>(List.range xs.length).filterMap (λi=>(xs[i]?).bind λx=>if p x then some (g x) else none)=(xs.filter p).map g) rfl (λxs x ih=>?_) xs
 .show (List.range (xs++[x]).length).filterMap (λi=>((xs++[x])[i]?).bind λx=>if p x then some (g x) else none)=((xs++[x]).filter p).map g
  rw[aaT,aa5,dG,ab0,aaY];congr 1
  .rw[←ih]
   refine pF _ trivial λi hi=>?_;have:i<xs.length:=by simpa using hi
   rw[aaV this]
  .cases h:p x<;>simp[h]
end
section
variable{X:Cx}{K:PySem.W.Frag}
theorem Rr(h:X.K=K):qy X (binaryOp .Add) (XR K):=by subst h;exact Lj
end
theorem rZ{a b:TS}{D:Ends}{σ:St}{H:Hp}(h:∀R:St->Hp->Prop,(∀σ' H',b D σ' H'->R σ' H')->a {D with nx:=R} σ H):Qt a b D σ H:=h _ (λ_ _ x=>x)
theorem lu{a b:TS}{D:Ends}{σ:St}{H:Hp}(P:St->Hp->Prop)(h1:∀D':Ends,(∀σ' H',P σ' H'->D'.nx σ' H')->D'.rt=D.rt->a D' σ H)(h2:∀σ' H',P σ' H'->b D σ' H'):Qt a b D σ H:=h1 _ h2 rfl
end L2
namespace L2
open PySem PySem.Spec PyProof.Rows
section
variable{X:Cx}{K:PySem.W.Frag}{a:Expr}{ta:TE}{pos:Pos}
noncomputable def aeg(K:PySem.W.Frag)(ta:TE):TT:=λσ H Q=>ta σ H λx H'=>∃k,aax K x H' k/\Q k H'
theorem Nr(h:X.K=K)(ha:PE X a ta)(he:∀whole,isTrue a X.env whole=(do let v ←whole;standAt a.pos;holding [v] (truthy v)):=by intro _;rfl):PT X a (aeg K ta):=by
 subst h;exact Ra ha he
end
section
variable{X:Cx}{K:PySem.W.Frag}
end
section
variable{K:PySem.W.Frag}{a D:Addr}{xs:List V}{te:TE}{Q:VK}{rest:St}{H1:Hp}
theorem uZ{H:Hp}{vs:List V}{ds:List PyData}{v:V}{d:PyData}(h:aO H vs ds)(hd:Dat H v d):aO H (vs++[v]) (ds++[d]):=aO.append h (by simp only[aO,and_true];exact hd)
end
end L2
namespace L2
open PySem
noncomputable def Gv(mg:Str->Option Value)(x:Str)(v:V):Prop:=∃u,mg x=some u/\RelV v u
end L2
namespace L2
open PySem PySem.Spec PyProof.Rows
section
variable{prog:Program}{w:World}{K:Type}[DecidableEq K]{knd:HeapKind prog w K}
end
section
variable{X:Cx}{o e f:Expr}{td ty tx:TE}{apos cpos:Pos}
end
section
variable{X:Cx}{K:PySem.W.Frag}
end
end L2
namespace L2
open PySem
end L2
namespace L2
open PySem PySem.Spec PyProof.Rows
section
variable{X:Cx}{K:PySem.W.Frag}
end
noncomputable def cat:List Str->Str
 | []=>Str.empty
 | x::xs=>x++cat xs
section
variable{X:Cx}{body suite:List Stmt}{b0:Stmt}{cn:Str}{Dc:Addr}{tb:(St->XK)->TS}{th:TS}{cp hpos pos:Pos}
end
section
variable{X:Cx}
noncomputable def ac6(i j:Int):Prop:=0<j/\j<1329227995784915872903807060280344576
theorem Rp:qy X (binaryOp .FloorDiv) (rI ac6 λi j=> .int (i / j)):=opI λi j _ _ _ _ _ hc q=>by
 have h1:(0:Int)<j:=hc.1;have h2:j<1329227995784915872903807060280344576:=hc.2;refine floordiv_int (by lia) (by rw[Int.fdiv_eq_ediv_of_nonneg i (by lia)];exact q) (.inl ?_);unfold Builtin.divisionGoesByPylong;have hn:j.natAbs<2 ^ 120:=by lia
 have hl:j.natAbs.log2<120:=(Nat.log2_lt (by lia)).mpr hn
 have hz:(j==0)=false:=by
  rw[beq_eq_false_iff_ne];lia
 simp only[hz,Bool.false_eq_true,if_false];have:¬j.natAbs.log2 / 30+1>300:=by lia
 rw[aaO this,Bool.false_and]
end
section
variable{X:Cx}{pins:List (Addr×Obj)}{σ:St}{H:Hp}{s:Shared}{d:Addr}{u u':HO}
theorem Inv.XM(I:Inv X pins σ H s)(e:H d=some u)(h1:∀xs,u ≠ .tup xs)(h2:∀a,u ≠ .own a)(h3:∀ps,u ≠ .Vc ps)(hz:∀o v,X.H₀ d≠some (.m_ o v))(ok:cU X.prog X.w (upd H d u') s.heap d u'):Inv X pins σ (upd H d u') s:=by
 have nd:∀{b:Addr},H b=none->b≠d:=λq z=>by rw[z,e] at q;cases q
 have ht:∀b xs,H b=some (HO.tup xs)->(upd H d u') b=some (HO.tup xs):=λb xs q=>by
  have:b≠d:=λz=>by rw[z,e] at q;exact h1 xs (aaS q)
  rw[aF this];exact q
 refine⟨I.ok,I.os,I.bare,⟨I.base.keep,I.base.slot,λb o q n hx=>?_,I.base.there,λb xs q=>ht b xs (I.base.tups b xs q),λb o v q=>?_,λb ps q=>?_⟩,I.loc,I.cell, ?_,λx c q=>?_,λp hp=>?_,λb v q=>?_,I.len⟩
 .have:=I.base.free b o q n hx
  rw[aF (nd this)];exact this
 .have:=I.base.rE b o v q
  have nb:b≠d:=λz=>by rw[z] at q;exact hz o v q
  rw[aF nb];exact this
 .obtain⟨more,r⟩:=I.base.uo b ps q
  have nb:b≠d:=λz=>by rw[z,e] at r;exact h3 _ (aaS r)
  exact⟨more,by rw[aF nb];exact r⟩
 .rw[aF (nd I.free)];exact I.free
 .rw[aF (nd (I.iM x c q))];exact I.iM x c q
 .obtain⟨q1,q2,q3⟩:=I.pin p hp
  exact⟨q1,by rw[aF (nd q2)];exact q2,q3⟩
 .by_cases hb:b=d
  .subst hb
   rw[ak] at q;cases q;exact ok
  .rw[aF hb] at q
   refine(I.hok b v q).stay (λ_ _ _ r=>r) (λc r=>?_) ht;have:c≠d:=λz=>by rw[z,e] at r;exact h2 _ (aaS r)
   rw[aF this];exact r
theorem Inv.X7{kvs:List (Key×V)}(I:Inv X pins σ H s)(e:H d=some (.dK kvs)):∀o v,X.H₀ d≠some (.m_ o v):=λo v q=>by
 have:=I.base.rE d o v q;rw[e] at this;cases this
theorem Inv.freeze{kvs:List (Key×V)}{o:Obj}(I:Inv X pins σ H s)(e:H d=some (.dK kvs))(ho:s.heap.get? d=some o):Inv X pins σ (upd H d (.m_ o (.dK kvs))) s:=by
 refine I.XM e (λ_ z=>by cases z) (λ_ z=>by cases z) (λ_ z=>by cases z) (I.X7 e) ⟨ho, ?_⟩;obtain⟨z,y,vs,r,dd⟩:=(show cU X.prog X.w H s.heap d (.dK kvs) from I.hok d _ e);exact⟨z,y,vs,r,dd⟩
theorem Inv.ad9{kvs:List (Key×V)}{o:Obj}(I:Inv X pins σ H s)(e:H d=some (.m_ o (.dK kvs)))(hz:∀o v,X.H₀ d≠some (.m_ o v)):Inv X pins σ (upd H d (.dK kvs)) s:=by
 refine I.XM e (λ_ z=>by cases z) (λ_ z=>by cases z) (λ_ z=>by cases z) hz ?_;obtain⟨_,z,y,vs,r,dd⟩:=(show cU X.prog X.w H s.heap d (.m_ o (.dK kvs)) from I.hok d _ e);exact⟨z,y,vs,r,dd⟩
end
noncomputable def Itd(d:Addr)(o:Obj)(kvs:List (Key×V)):It:=
 ⟨λi H=>i<kvs.length/\H d=some (.m_ o (.dK kvs)),λi H x H'=>H'=H /\ ∃k v,kvs[i]? = some (k,v)/\x=kV k,λi H=>kvs.length<=i/\H d=some (.m_ o (.dK kvs))⟩
theorem ZM{kvs:List (Key×V)}{vs:List (Key×Value)}(r:KV kvs vs):∀(i:Nat)(k:Key)(v:V),kvs[i]? = some (k,v) -> ∃u,vs[i]? = some (k,u):=by
 induction r with
 | nil=>intro i k v h;cases h
 | cons h r ih=>
   intro i k v e;cases i with
   | zero=>
     have e':=aaS e;rename_i p q _ _;obtain⟨h1,h2⟩:=h;obtain⟨q1,q2⟩:=q;refine⟨q2, ?_⟩;have:q1=k:=by rw[e'] at h1;exact h1.symm
     subst this;rfl
   | succ i=>exact ih i k v (by simpa using e)
theorem M_{P:Program}{w:World}{K:PySem.W.Frag}{tg:Expr}(d it:Addr)(o:Obj)(kvs:List (Key×V))(es:Array DictEntry)(ep:Nat)(hd:o.data = .dict es ep):Turn P w K tg (Itd d o kvs) [it] it (λi h=>h.IsKeyIter it d i kvs.length ep) where
 mem:=by simp
 obj:=λi h st b hb=>by
  have e:b=it:=by simpa using hb
  subst e;obtain⟨o,e,c,d⟩:=st;exact⟨o,e,λv z=>by rw[d] at z;cases z⟩
 keep:=λi h h' st k=>by
  obtain⟨o,e,c,d⟩:=st;exact⟨o,k it (by simp) o e,c,d⟩
 item:=by
  intro X hP hw hK hc i pins s σ H E I hf st hg;subst hP hw hK;obtain⟨hi,hH⟩:=hg;obtain⟨ho,z,y,vs,r,o',es',ep',q1,q2,q3,q4,q5,q6⟩:=(show cU X.prog X.w H s.heap d (.m_ o (.dK kvs)) from I.hok d _ hH);rw[ho] at q1;cases q1;rw[hd] at q3;cases q3;have hl:kvs.length=vs.length:=r.length;obtain⟨k,v,ekv⟩:∃k v,kvs[i]? = some (k,v):=⟨kvs[i].1,kvs[i].2,by simp[hi]⟩;obtain⟨u,eu⟩:=ZM r i k v ekv;obtain⟨f0,f1,f2,f3,f4,f5⟩:=hf it (by simp);refine wpAny_pyNext_dict_item (knd:=cR X.prog X.w) (by rw[←hl];exact st) ⟨o,es,ho,q2,hd,q4,q5,q6⟩ eu λkey h' hk st' sb=>?_;have I1:Inv X pins σ H {s with heap:=h'}:=I.turned (t':=s.toks) (λb o hb e=>(sb.2 b hb).trans e) f0 f1 f3 f4 f5;obtain⟨ob,e,c,dd⟩:=id st'
  have rk:RelV (kV k) key:=by
   rw[Jo] at hk;rcases dJ hk with ⟨j,t,e1,e2⟩|⟨x,t,e1,e2⟩
   .subst e1;subst e2;exact⟨t,Z⟩
   .subst e1;subst e2;exact⟨t,Z⟩
  exact⟨key,Z,yX (s:={s with heap:=h'}) e c dd (by decide) ⟨kV k,H,I1,rk,⟨Z,k,v,ekv,Z⟩,by rw[hl];exact st',λb hb=>(hf b hb).1⟩⟩
 done:=by
  intro X hP hw hK hc i pins s σ H E I hf st hg;subst hP hw hK;obtain⟨hi,hH⟩:=hg;obtain⟨ho,z,y,vs,r,o',es',ep',q1,q2,q3,q4,q5,q6⟩:=(show cU X.prog X.w H s.heap d (.m_ o (.dK kvs)) from I.hok d _ hH);rw[ho] at q1;cases q1;rw[hd] at q3;cases q3;have hl:kvs.length=vs.length:=r.length;obtain⟨f0,f1,f2,f3,f4,f5⟩:=hf it (by simp);exact wpAny_pyNext_dict_end (knd:=cR X.prog X.w) (I.ok.hd hc) (by rw[←hl];exact st) ⟨o,es,ho,q2,hd,q4,q5,q6⟩ (by simp;lia) λh' eb=>⟨Z,I.turned (t':=s.toks) (λb o hb e=>eb b o hb e) f0 f1 f3 f4 f5⟩
 self:=λ_ _ _ _ _ st h=>wpAny_pyIter_keyiter st h
section
variable{X:Cx}{tg:Expr}
noncomputable def ach(tl:TE):TI:=λσ H R=>tl σ H λx H1=>∃d kvs,x = .ref d/\H1 d=some (.dK kvs) /\ ∀o,R (Itd d o kvs) (upd H1 d (.m_ o (.dK kvs)))
theorem Ld{l:Expr}{tl:TE}(hl:PE X l tl):PI X tg l (ach tl):=by
 intro pins s σ H R I h;refine cZ (hl pins s σ H _ I h) λv s1 iB=>?_;obtain⟨x,H1,I1,r1,q1⟩:=iB;obtain⟨d,kvs,e,hH,q⟩:=q1;subst e;cases r1;obtain⟨z,hd,vs,r,o,es,ep,ho,q2,q3,q4,q5,q6⟩:=Tt I1.hok hH;refine wpAny_pyIter_dict (knd:=cR X.prog X.w) hd ⟨o,es,ho,q2,q3,q4,q5,q6⟩ ?_;have If:=I1.freeze hH ho;have hl:kvs.length=vs.length:=r.length
 have ZD:(upd H1 d (HO.m_ o (.dK kvs))) s1.heap.objs.size=none:=by
  rw[aF (Ne.symm (aaW (aaB ho)))];exact I1.hok.fresh (aaG _)
 refine⟨s1.heap.objs.size,[s1.heap.objs.size],_,_,upd H1 d (.m_ o (.dK kvs)),Z,If.kept (t':=s1.toks) λb o e=>aaj _ e,M_ d _ o kvs es ep q3,⟨_,aam _ rfl,Z,by rw[hl];rfl⟩,λb hb=>?_,q o⟩;have e:b=s1.heap.objs.size:=by simpa using hb
 subst e;exact If.v8 (aaG _) ZD
end
section
variable{d D:Addr}{o:Obj}{kvs:List (Key×V)}{tc:TT}{te:TE}{Q:VK}{rest:St}{H1:Hp}
theorem Pq(f:Nat->Option V)(hD:H1 D=none)(hq:H1 d=some (.m_ o (.dK kvs)))(hx:kvs.length<=100000)(hs:∀i k v H (G:Hp->Prop) (F:VK),kvs[i]? = some (k,v)->Same H1 H->(∀H',Same H H'->f i=none->G H')->(∀y H',Same H H'->f i=some y->F y H')->tc (some (kV k)::rest) H λb H3=>if b=true then te (some (kV k)::rest) H3 F else G H3)(hd:∀H,Same H1 H->H D=some (.lst ((List.range kvs.length).filterMap f))->Q (.ref D) H):mH (Itd d o kvs) (iK 0) tc te Q D (none::rest) H1:=by
 refine⟨λi m σ H=>m=kvs.length - i/\i<=kvs.length/\(∃v,σ=v::rest)/\Same H1 H/\H D=some (.lst ((List.range i).filterMap f)),⟨kvs.length,by simp,Nat.zero_le _,⟨none,Z⟩,aB hD,ak⟩, ?_⟩;rintro i m σ H ⟨rfl,hi,⟨v,rfl⟩,sm,e⟩
 by_cases hlt:i<kvs.length
 .refine .inr ⟨⟨hlt,sm _ _ hq⟩,λσ' H'=>i+1<=kvs.length/\(∃v,σ'=v::rest)/\Same H1 H'/\H' D=some (.lst ((List.range (i+1)).filterMap f)),λσ' H' p'=>⟨kvs.length - (i+1),by lia,Z,p'⟩,λx H' y=>?_⟩
  obtain⟨rfl,k,w,ekv,rfl⟩:=y;refine hs i k w _ _ _ ekv sm (λH3 s3 ef=>⟨hlt,⟨_,Z⟩,sm.trans s3,by rw[s3 _ _ e,dG,ef];simp⟩) (λy H4 s4 ef=>?_);refine⟨_,s4 _ _ e, ?_,hlt,⟨_,Z⟩,(sm.trans s4).newly hD, ?_⟩
  .have:=rG f i
   rw[sizeLine_eq];lia
  .rw[ak,dG,ef];rfl
 .have e':i=kvs.length:=by lia
  subst e';exact .inl ⟨⟨aaG _,sm _ _ hq⟩,hd H sm e⟩
end
noncomputable def agT(H H' H'':Hp):Prop:=∃d ab8 o kvs,H d=some (.dK ab8)/\H' d=some (.m_ o (.dK kvs))/\H''=upd H' d (.dK kvs)
noncomputable def abA(t:TS):TS:=λD σ H=>t {D with nx:=λσ' H'=>∃H'',agT H H' H''/\D.nx σ' H''} σ H
theorem K8{X:Cx}{st:Stmt}{t:TS}(h:PS X st t):PS X st (abA t):=by
 intro pins s σ H D I q;refine wpAny_mono (h pins s σ H _ I q) (λf s1 q1=>?_) λ_ _ z=>z;cases f with
 | next=>
   obtain⟨σ1,H1,I1,H2,⟨d,ab8,o,kvs,e1,e2,rfl⟩,q2⟩:=q1;exact⟨σ1,_,I1.ad9 e2 (I.X7 e1),q2⟩
 | brk=>exact q1
 | cont=>exact q1
 | ret u=>exact q1
theorem S6{d:Addr}{o:Obj}{kvs:List (Key×V)}{g:TG}{tb:TS}{D:Ends}{σ:St}{H:Hp}(Pv:Nat->St->Hp->Prop)(h0:Pv 0 σ H)(hl:∀i σ H,i<=kvs.length->Pv i σ H->H d=some (.m_ o (.dK kvs)))(hs:∀i k v σ H,kvs[i]? = some (k,v)->Pv i σ H->g (kV k) σ H λσ2 H2=>tb {D with nx:=Pv (i+1),ct:=Pv (i+1),bk:=D.nx} σ2 H2)(hd:∀σ H,Pv kvs.length σ H->D.nx σ H):
 ∃W:Nat->Nat->St->Hp->Prop,(∃m,W 0 m σ H) /\ ∀i m σ H,W i m σ H ->
  ((Itd d o kvs).stop i H/\D.nx σ H)\/((Itd d o kvs).go i H /\ ∃N:St->Hp->Prop,(∀σ' H',N σ' H' -> ∃m',m'<m/\W (i+1) m' σ' H') /\ ∀x H',(Itd d o kvs).Xx i H x H'->g x σ H' λσ2 H2=>tb {D with nx:=N,ct:=N,bk:=D.nx} σ2 H2):=by
 refine⟨λi m σ H=>m=kvs.length - i/\i<=kvs.length/\Pv i σ H,⟨kvs.length,by simp,Nat.zero_le _,h0⟩, ?_⟩;rintro i m σ H ⟨rfl,hi,p⟩;have q:=hl i σ H hi p
 by_cases hlt:i<kvs.length
 .refine .inr ⟨⟨hlt,q⟩,Pv (i+1),λσ' H' p'=>⟨kvs.length - (i+1),by lia,Z,hlt,p'⟩,λx H' y=>?_⟩
  obtain⟨rfl,k,v,e,rfl⟩:=y;exact hs i k v σ _ e p
 .have e:i=kvs.length:=by lia
  subst e;exact .inl ⟨⟨aaG _,q⟩,hd σ H p⟩
noncomputable def Aa(hs:List Int)(g:Int->Int):List (Key×V):=hs.map λh=>(Sum.inl h,V.int (g h))
theorem Ds{hs:List Int}{g:Int->Int}:∀(h:Int),gQ (Aa hs g) (Sum.inl h)=if h∈hs then some (V.int (g h)) else none:=by
 intro h
 induction hs with
 | nil=>rfl
 | cons x hs ih=>
   show gQ ((Sum.inl x,V.int (g x))::Aa hs g) _=_
   by_cases e:x=h
   .subst e
    rw[fj rfl,ab9 (List.mem_cons_self ..)]
   .rw[d_ (λz=>e (Sum.inl.inj z)),ih]
    by_cases m:h∈hs
    .rw[ab9 m,ab9 (aa1 _ m)]
    .rw[ab6 m,ab6 (λz=>(List.mem_cons.mp z).elim (λz=>e z.symm) m)]
noncomputable def G5(g:Int->Int)(h v:Int):Int->Int:=λx=>if x=h then v else g x
noncomputable def hAdd(hs:List Int)(h:Int):List Int:=if h∈hs then hs else hs++[h]
theorem Wf{hs:List Int}{g:Int->Int}(h v:Int):putK (Aa hs g) (Sum.inl h) (V.int v)=Aa (hAdd hs h) (G5 g h v):=by
 unfold putK hAdd;rw[jV,Ds]
 by_cases m:h∈hs
 .rw[ab9 m,Option.isSome_some,ab9 rfl,ab9 m]
  unfold Aa;rw[List.map_map];refine List.map_congr_left λx _=>?_;simp only[Function.comp,G5]
  by_cases e:x=h
  .subst e;simp
  .rw[ab6 (λz=>e (Sum.inl.inj z)),ab6 e]
 .rw[ab6 m,ab6 (by simp),ab6 m]
  unfold Aa;rw[aaY];congr 1
  .refine List.map_congr_left λx hx=>?_
   have:x≠h:=λz=>m (z▸hx);simp only[G5,ab6 this]
  .simp[G5]
theorem yF:∀(n:Nat)(hs:List Int),hs.Nodup->(∀h∈hs,0<=h/\h<(n:Int))->hs.length<=n
 | 0,hs,_,hr=>by
   cases hs with
   | nil=>exact aaG _
   | cons x hs=>have:=hr x (List.mem_cons_self ..);lia
 | n+1,hs,nd,hr=>by
   have ih:=yF n (hs.erase (n:Int)) (nd.erase _) λh hh=>by
    have h1:=(nd.mem_erase_iff).mp hh;have h2:=hr h h1.2;have:=h1.1;lia
   by_cases m:(n:Int)∈hs
   .rw[List.length_erase_of_mem m] at ih;lia
   .rw[List.erase_of_not_mem m] at ih;lia
theorem Wx{hs:List Int}{h:Int}(nd:hs.Nodup):(hAdd hs h).Nodup:=by
 unfold hAdd
 by_cases m:h∈hs
 .rw[ab9 m];exact nd
 .rw[ab6 m]
  rw[List.nodup_append];exact⟨nd,by simp,λa ha b hb e=>by simp at hb;subst hb;subst e;exact m ha⟩
theorem yW{hs:List Int}{h x:Int}:x∈hAdd hs h↔x∈hs\/x=h:=by
 unfold hAdd
 by_cases m:h∈hs
 .rw[ab9 m]
  exact⟨.inl,λz=>z.elim id λe=>e▸m⟩
 .rw[ab6 m];simp
structure jJ(H:Hp)(d:Addr)(g:Int->Int):Prop where
 ex:∃hs:List Int,H d=some (.dK (Aa hs g))/\hs.Nodup/\(∀h∈hs,0<=h/\h<8) /\ ∀h,h∉hs->g h=0
 nn:∀h,0<=g h
theorem jJ.get{H:Hp}{d:Addr}{g:Int->Int}(k:jJ H d g):∃kvs,H d=some (.dK kvs)/\kvs.length<=8 /\ ∀h:Int,(gQ kvs (Sum.inl h)).getD (.int 0) = .int (g h):=by
 obtain⟨hs,e,nd,r,z⟩:=k.ex;refine⟨_,e,by rw[Aa,aad];exact yF 8 hs nd r,λh=>?_⟩;rw[Ds]
 by_cases m:h∈hs
 .rw[ab9 m];rfl
 .rw[ab6 m,z h m];rfl
theorem jJ.put{H:Hp}{d:Addr}{g:Int->Int}{h v:Int}(k:jJ H d g)(h0:0<=h)(h1:h<8)(v0:0<=v):∃kvs,H d=some (.dK kvs)/\kvs.length<sizeLine /\ ∀H',H' d=some (.dK (putK kvs (Sum.inl h) (.int v)))->jJ H' d (G5 g h v):=by
 obtain⟨hs,e,nd,r,z⟩:=k.ex;refine⟨_,e, ?_,λH' e'=>⟨⟨hAdd hs h,by rw[e',Wf],Wx nd,λx hx=>?_,λx hx=>?_⟩,λx=>?_⟩⟩
 .have:=yF 8 hs nd r
  rw[Aa,aad,sizeLine_eq];lia
 .rcases yW.mp hx with hx|rfl
  .exact r x hx
  .exact⟨h0,h1⟩
 .have n1:x∉hs:=λz=>hx (yW.mpr (.inl z))
  have n2:x≠h:=λz=>hx (yW.mpr (.inr z));unfold G5;rw[ab6 n2];exact z x n1
 .unfold G5
  split
  .exact v0
  .exact k.nn x
theorem jJ.kp{H H':Hp}{d r:Addr}{g:Int->Int}(k:jJ H d g)(kp:Kp r H H')(n:d≠r):jJ H' d g:=by
 obtain⟨hs,e,q⟩:=k.ex;exact⟨⟨hs,kp _ _ e n,q⟩,k.nn⟩
theorem jJ.same{H H':Hp}{d:Addr}{g:Int->Int}(k:jJ H d g)(s:Same H H'):jJ H' d g:=by
 obtain⟨hs,e,q⟩:=k.ex;exact⟨⟨hs,s _ _ e,q⟩,k.nn⟩
theorem jJ.ext{H:Hp}{d:Addr}{g g':Int->Int}(k:jJ H d g)(e:∀h,g h=g' h):jJ H d g':=by
 have:g=g':=funext e;rw[←this];exact k
noncomputable def Um(hi:Int)(n:Nat):It:=⟨λi _=>i<n,λi H x H'=>H'=H/\x = .int (hi - i),λi _=>n<=i⟩
theorem Fi{P:Program}{w:World}{K:PySem.W.Frag}{tg:Expr}(it:Addr)(hi:Int)(n:Nat):Turn P w K tg (Um hi n) [it] it (λi h=>IsRangeIter h it (hi+(i:Nat)*(-1)) ((n:Int) - (i:Nat)) (-1)) where
 mem:=by simp
 obj:=λi h st b hb=>by
  have e:b=it:=by simpa using hb
  subst e
  exact⟨_,st,λv z=>by
   have z':Data.fields _=Data.cell v:=z;cases z'⟩
 keep:=λi h h' st k=>k it (by simp) _ st
 item:=by
  intro X hP hw hK hc i pins s σ H E I hf st hg;subst hP hw hK;obtain⟨f0,f1,f2,f3,f4,f5⟩:=hf it (by simp);have W:=Walks.range (prog:=X.prog) (w:=X.w) (I.ok.hd hc) it hi (-1) n;refine W.item i s _ _ hg st λv h' tk hv st' kk=>?_;obtain⟨t,rfl⟩:=hv;have I1:Inv X pins σ H {s with heap:=h',toks:=tk}:=I.turned (λb o hb e=>kk b o (by simpa using hb) e) f0 f1 f3 f4 f5;refine⟨_,Z,yX (s:={s with heap:=h',toks:=tk}) (n:= "range_iterator") st' rfl rfl (by decide) ⟨.int (hi - i),H,I1,⟨t, ?_⟩,⟨Z,Z⟩,st',λb hb=>(hf b hb).1⟩⟩;congr 1;lia
 done:=by
  intro X hP hw hK hc i pins s σ H E I hf st hg;subst hP hw hK;obtain⟨f0,f1,f2,f3,f4,f5⟩:=hf it (by simp);exact wpAny_pyNext_range_end (I.ok.hd hc) st (by have:n<=i:=hg;lia) λh' eb=>⟨Z,I.turned (t':=s.toks) (λb o hb e=>eb b o hb e) f0 f1 f3 f4 f5⟩
 self:=λ_ _ _ _ _ st h=>wpAny_pyIter_rangeiter st h
section
variable{X:Cx}{tg:Expr}
theorem XH(a b:Int):Builtin.Range.rangeSize a b (-1)=if a>b then a - b else 0:=by
 unfold Builtin.Range.rangeSize;rw[ab6 (by decide)];split
 .simp
 .rfl
theorem Nh{a b:Int}(h1: -(2 ^ 61)<=a)(h2:a<2 ^ 61)(h3: -(2 ^ 61)<=b)(h4:b<2 ^ 61):Builtin.Range.small a b (-1)=true:=by
 unfold Builtin.Range.small;rw[XH]
 have fits:∀z:Int, -(2 ^ 63)<=z->z<2 ^ 63->Builtin.Range.rangeFitsLong z=true:=λz l1 l2=>by
  unfold Builtin.Range.rangeFitsLong;rw[aaN l1,aaN l2];rfl
 have f1:=fits (if a>b then a - b else 0) (by split<;>lia) (by split<;>lia);have f2:=fits (b+(-1+1)) (by lia) (by lia);simp only[fits a (by lia) (by lia),fits b (by lia) (by lia),fits (-1) (by decide) (by decide),f1,f2,Bool.and_self,Bool.true_and,show ¬((-1:Int)>0) by decide,if_false,Bool.or_true]
noncomputable def ace(ta:TA):TI:=λσ H R=>ta σ H λvs H1=>∃i j:Int,vs=[.int i,.int j,.int (-1)]/\(-(2 ^ 61)<=i/\i<2 ^ 61 /\ -(2 ^ 61)<=j/\j<2 ^ 61)/\R (Um i (i - j).toNat) H1
theorem uN{a b c:Expr}{ta:TA}{p pos:Pos}(hg:Gl X "range")(hm:X.mg "range" = none)(ha:PA X [a,b,c] ta)(hs:starEach [a,b,c] X.env=[(false,eval a X.env),(false,eval b X.env),(false,eval c X.env)]:=by rfl)(hs2:starEach [b,c] X.env=[(false,eval b X.env),(false,eval c X.env)]:=by rfl):
 PI X tg (.Call (.Name "range" p) [a,b,c] [] pos) (ace ta):=by
 intro pins s σ H R I h;refine Call_ (rA I hg hm boot_range (PyProof.Rows.callWith_type1 (cZ (ha pos pins s σ H _ I h) λus s1 ⟨vs,H1,I1,r1,q1⟩=>?_) (by rw[hs,hs2]) (by rw[hs2];rfl)));obtain⟨i,j,e,⟨q1,q2,q3,q4⟩,q⟩:=q1;subst e;cases r1 with
 | cons r rr=>
   cases rr with
   | cons r' rr=>
     cases rr with
     | cons r'' rr=>
       cases rr;obtain⟨t,rfl⟩:=r;obtain⟨t',rfl⟩:=r';obtain⟨t'',rfl⟩:=r'';refine call_range_3 (by decide) ?_ (.inl (PyProof.noPylong_small (by decide)));refine wpAny_pyIter_range (IsRange.new ..) (Nh q1 q2 q3 q4) ?_;have I2:Inv X pins σ H1 {s1 with heap:=s1.heap.push {cls:= .type "range",data:= .fields #[.int i t,.int j t',.int (-1) t'']}}:=I1.kept (t':=s1.toks) λb o e=>aaj _ e
       refine⟨(s1.heap.push {cls:= .type "range",data:= .fields #[.int i t,.int j t',.int (-1) t'']}).objs.size,[(s1.heap.push {cls:= .type "range",data:= .fields #[.int i t,.int j t',.int (-1) t'']}).objs.size],_,_,H1,Z,
        I2.kept (t':=s1.toks) λb o e=>aaj _ e,Fi _ i (i - j).toNat, ?_,λb hb=>?_,q⟩
       .have e1:i+((0:Nat):Int)*(-1)=i:=by simp
        have e2:(((i - j).toNat:Nat):Int) - ((0:Nat):Int)=Builtin.Range.rangeSize i j (-1):=by rw[XH];split<;>lia
        show IsRangeIter _ _ (i+((0:Nat):Int)*(-1)) ((((i - j).toNat:Nat):Int) - ((0:Nat):Int)) (-1);rw[e1,e2];exact aam _ rfl
       .have e:b=(s1.heap.push {cls:= .type "range",data:= .fields #[.int i t,.int j t',.int (-1) t'']}).objs.size:=by simpa using hb
        subst e;exact I2.v8 (aaG _) (I2.hok.fresh (aaG _))
theorem rF{hi:Int}{n:Nat}{g:TG}{tb:TS}{D:Ends}{σ:St}{H:Hp}(Pv:Nat->St->Hp->Prop)(h0:Pv 0 σ H)(hs:∀i σ H,i<n->Pv i σ H->g (.int (hi - i)) σ H λσ2 H2=>tb {D with nx:=Pv (i+1),ct:=Pv (i+1),bk:=D.nx} σ2 H2)(hd:∀σ H,Pv n σ H->D.nx σ H):
 ∃W:Nat->Nat->St->Hp->Prop,(∃m,W 0 m σ H) /\ ∀i m σ H,W i m σ H ->
  ((Um hi n).stop i H/\D.nx σ H)\/((Um hi n).go i H /\ ∃N:St->Hp->Prop,(∀σ' H',N σ' H' -> ∃m',m'<m/\W (i+1) m' σ' H') /\ ∀x H',(Um hi n).Xx i H x H'->g x σ H' λσ2 H2=>tb {D with nx:=N,ct:=N,bk:=D.nx} σ2 H2):=by
 refine⟨λi m σ H=>m=n - i/\i<=n/\Pv i σ H,⟨n,by simp,Nat.zero_le _,h0⟩, ?_⟩;rintro i m σ H ⟨rfl,hi',p⟩
 by_cases hlt:i<n
 .refine .inr ⟨hlt,Pv (i+1),λσ' H' p'=>⟨n - (i+1),by lia,Z,hlt,p'⟩,λx H' y=>?_⟩
  obtain⟨e,y⟩:=y;subst e y;exact hs i σ _ hlt p
 .have e:i=n:=by lia
  subst e;exact .inl ⟨aaG _,hd σ H p⟩
theorem vP(v:Nat->Int):∀n,argBest (λi j=>decide (v i<v j)) n<=n /\ ∀j,j<=n->v (argBest (λi j=>decide (v i<v j)) n)<=v j
 | 0=>⟨aaG _,λj hj=>by
   have:j=0:=by lia
   subst this;exact Int.le_refl _⟩
 | n+1=>by
   obtain⟨l,ih⟩:=vP v n;have e:argBest (λi j=>decide (v i<v j)) (n+1)=if decide (v (n+1)<v (argBest (λi j=>decide (v i<v j)) n)) then n+1 else argBest (λi j=>decide (v i<v j)) n:=Z;rw[e]
   by_cases q:v (n+1)<v (argBest (λi j=>decide (v i<v j)) n)
   .rw[aaN q,ab9 rfl]
    refine⟨aaG _,λj hj=>?_⟩
    by_cases hj':j=n+1
    .subst hj';exact Int.le_refl _
    .have:=ih j (by lia)
     lia
   .rw[aaO q,ab6 (by decide)]
    refine⟨by lia,λj hj=>?_⟩
    by_cases hj':j=n+1
    .subst hj';lia
    .exact ih j (by lia)
noncomputable def abJ(K:PySem.W.Frag):List V->Hp->VK->Prop:=λxs H Q=>∃(p:Addr) (ns:List Int),xs=[.ref p]/\bH K H p (ns.map V.int)/\0<ns.length /\ ∀m,m∈ns->(∀a∈ns,m<=a)->Q (.int m) H
theorem JM{K:PySem.W.Frag}(hK:X.K=K)(hc:X.calm=true):k_ X (.builtin "min") (abJ K):=by
 subst hK;intro pins s σ H xs us Q I r h;obtain⟨p,ns,rfl,hq,hpos,q⟩:=h;obtain⟨u,rfl,rx⟩:=vals1 r;cases rx;obtain⟨its,rv,pl,hz⟩:=I.list hq;have hlen:its.length=ns.length:=by rw[←rv.length,aad]
 have item:∀(i:Nat)(v:Value),its[i]? = some v -> ∃t,v=Value.int ((ns[i]?).getD 0) t/\ns[i]? = some ((ns[i]?).getD 0):=by
  intro i v hP;have hi:i<its.length:=(aaf.mp hP).1;obtain⟨u,hu,ru⟩:=rv.get (i:=i) (x:=V.int (ns[i]'(by lia))) (by simp[show i<ns.length by lia]);rw[hP] at hu;cases hu;obtain⟨t,ht⟩:=ru;exact⟨t,by simp[show i<ns.length by lia,ht],by simp[show i<ns.length by lia]⟩
 refine call_min_walk (wpAny_pyIter_list pl.isList ⟨s.heap.objs.size,[s.heap.objs.size,p],[s.heap.objs.size],its.length,_,_,λi j=>decide ((ns[i]?).getD 0<(ns[j]?).getD 0),Z,
  xG (show X.A.in1.handled=none from I.ok.hd hc) s.heap.objs.size p ?_ its,⟨⟨_,aam _ rfl,Z,Z⟩, ?_⟩, ?_,by lia, ?_, ?_⟩)
 .intro z
  obtain⟨o,ho,_⟩:=pl.isList;have:=aaB ho;rw[←z] at this;exact abV _ this
 .obtain⟨o,ho,hcl⟩:=pl.isList
  exact⟨o,aaj _ ho,hcl⟩
 .intro b hb
  have hsz:(s.heap.push {cls:= .type "list_iterator",data:= .fields #[.ref p,.int 0 0]}).objs.size=s.heap.objs.size+1:=by simp[Heap.push]
  have hb':b=s.heap.objs.size\/b=p:=by simpa using hb
  show b<(s.heap.push _).objs.size;rw[hsz];rcases hb' with rfl|rfl
  .exact Nat.lt_succ_self _
  .obtain⟨o,ho,_⟩:=pl.isList
   exact Nat.lt_succ_of_lt (aaB ho)
 .intro i j vi vj s' Q' E' hi hj hQ
  obtain⟨t,rfl,_⟩:=item i vi hi;obtain⟨t',rfl,_⟩:=item j vj hj;exact lt_int hQ
 .intro v h' tk hv k
  obtain⟨t,rfl,hm⟩:=item _ v hv;obtain⟨l,ih⟩:=vP (λi=>(ns[i]?).getD 0) (its.length - 1);have f:=I.v8 (H':=H) (b:=s.heap.objs.size) (aaG _) (I.hok.fresh (aaG _));have I2:Inv X pins σ H {s with heap:=h',toks:=tk}:=I.turned (h':=h') (t':=tk) (it:=s.heap.objs.size) (λb o hb e=>k b o (by simpa using hb) (aaj _ e)) f.1 f.2.1 f.2.2.2.1 f.2.2.2.2.1 f.2.2.2.2.2;refine⟨.int _,H,I2,⟨_,Z⟩,q _ (aaM hm) λa ha=>?_⟩;obtain⟨j,hj⟩:=List.getElem?_of_mem ha;have hjl:=(aaf.mp hj).1;have:=ih j (by lia);simpa [hj] using this
end
section
variable{X:Cx}{tg:Expr}
end
noncomputable def aeH(K:PySem.W.Frag)(neg:Bool):R2:=λx y H Q=>∃(p:Addr) (vs:List V) (d:PyData) (ds:List PyData),y = .ref p/\bH K H p vs/\aO H vs ds/\Dat H x d/\SeqAt.shaped d=true/\(∀e∈ds,SeqAt.shaped e=true)/\Q (.bl (if neg then !(ds.any λe=>PyData.eqv e d) else ds.any λe=>PyData.eqv e d)) H
section
variable{X:Cx}
theorem Kr{H:Hp}{pins:List (Addr×Obj)}{σ:St}{s:Shared}(I:Inv X pins σ H s):∀{vs:List V}{us:List Value}{ds:List PyData},Vals vs us->aO H vs ds -> ∀u∈us,∃e∈ds,∃as,Reads s.heap u e as
 | [],_,_,.nil,_=>λu hu=>by cases hu
 | v::vs,_,d::ds,.cons r rs,h=>λu hu=>by
   simp only[aO] at h;rcases List.mem_cons.mp hu with rfl|hu
   .obtain⟨as,ra⟩:=I.reads d h.1 r
    exact⟨d,by simp,as,ra⟩
   .obtain⟨e,he,q⟩:=Kr I rs h.2 u hu
    exact⟨e,by simp[he],q⟩
 | _::_,_,[],.cons _ _,h=>by simp only[aO] at h
theorem Kq{H:Hp}{pins:List (Addr×Obj)}{σ:St}{s:Shared}(I:Inv X pins σ H s):∀{vs:List V}{us:List Value}{ds:List PyData},Vals vs us->aO H vs ds -> ∀e∈ds,∃u∈us,∃as,Reads s.heap u e as
 | [],_,[],.nil,_=>λe he=>by cases he
 | [],_,_::_,.nil,h=>by simp only[aO] at h
 | v::vs,_,d::ds,.cons r rs,h=>λe he=>by
   simp only[aO] at h;rcases List.mem_cons.mp he with rfl|he
   .obtain⟨as,ra⟩:=I.reads e h.1 r
    exact⟨_,by simp,as,ra⟩
   .obtain⟨u,hu,q⟩:=Kq I rs h.2 e he
    exact⟨u,by simp[hu],q⟩
 | _::_,_,[],.cons _ _,h=>by simp only[aO] at h
open Classical in
noncomputable def UG(s:Shared)(ds:List PyData)(d:PyData)(u:Value):Bool:=decide (∃e∈ds,(∃as,Reads s.heap u e as)/\PyData.eqv e d=true)
open Classical in
theorem wW{s:Shared}{ds:List PyData}{d:PyData}{u:Value}:UG s ds d u=true ↔ ∃e∈ds,(∃as,Reads s.heap u e as)/\PyData.eqv e d=true:=by unfold UG;exact decide_eq_true_iff
theorem Z0{A:Around}{s:Shared}{ds:List PyData}{d:PyData}{u v:Value}{bs:List Addr}(hd:SeqAt.shaped d=true)(hds:∀e∈ds,SeqAt.shaped e=true)(hu:A.units+64<cLine)(rv:Reads s.heap v d bs)(h:∃e∈ds,∃as,Reads s.heap u e as):SeqAt.EqAt A s u v (UG s ds d u):=by
 by_cases q:∃e∈ds,(∃as,Reads s.heap u e as)/\PyData.eqv e d=true
 .have:UG s ds d u=true:=wW.mpr q
  rw[this];obtain⟨e,he,⟨as,ra⟩,ee⟩:=q;have:=SeqAt.eqAt_reads e d A s u v as bs ra rv (SeqAt.canLay_of_shaped (hds e he)) (SeqAt.canLay_of_shaped hd) (SeqAt.room_of_shaped (hds e he) hu);rwa [ee] at this
 .have:UG s ds d u=false:=by
   cases z:UG s ds d u with
   | false=>rfl
   | true=>exact acq (wW.mp z) q
  rw[this];obtain⟨e,he,as,ra⟩:=h
  have ee:PyData.eqv e d=false:=by
   cases z:PyData.eqv e d with
   | false=>rfl
   | true=>exact acq ⟨e,he,⟨as,ra⟩,z⟩ q
  have:=SeqAt.eqAt_reads e d A s u v as bs ra rv (SeqAt.canLay_of_shaped (hds e he)) (SeqAt.canLay_of_shaped hd) (SeqAt.room_of_shaped (hds e he) hu);rwa [ee] at this
theorem Wq{H:Hp}{pins:List (Addr×Obj)}{σ:St}{s:Shared}(I:Inv X pins σ H s){vs:List V}{us:List Value}{ds:List PyData}{d:PyData}(r:Vals vs us)(h:aO H vs ds):us.toArray.any (UG s ds d)=ds.any λe=>PyData.eqv e d:=by
 rw[show us.toArray.any (UG s ds d)=us.any (UG s ds d) by simp,Bool.eq_iff_iff,List.any_eq_true,List.any_eq_true];constructor
 .rintro⟨u,hu,e⟩
  obtain⟨e,he,_,ee⟩:=wW.mp e;exact⟨e,he,ee⟩
 .rintro⟨e,he,ee⟩
  obtain⟨u,hu,q⟩:=Kq I r h e he;exact⟨u,hu,wW.mpr ⟨e,he,q,ee⟩⟩
theorem yE{K:PySem.W.Frag}(hK:X.K=K)(hu:X.A.in1.units+64<cLine):qy X (compareOp .NotIn) (aeH K true):=by
 subst hK;intro pins s σ H x y v u Q I rx ry h;obtain⟨p,vs,d,ds,rfl,hq,hds,hd,s1,s2,q⟩:=h;cases ry;obtain⟨its,r,pl,hz⟩:=I.list hq;obtain⟨bs,rv⟩:=I.reads d hd rx;refine SeqAt.notIn_listAt (UG s ds d) pl.isList (λw hw=>Z0 s1 s2 hu rv (Kr I r hds w (by simpa using hw))) ⟨.bl _,H,I,Z, ?_⟩;rw[Wq I r hds];exact q
end
theorem qN.calm{P:Program}{w:World}{K:PySem.W.Frag}{mg:Str->Option Value}{base:Heap}{k:Nat}{x:Str}{ps:List Str}{sp:Sp}(F:qN P w K mg base k x ps sp):
 FnAt P w K mg base k x ps (λvs H Q _=>sp vs H Q λ_ _ _=>False):=by
 obtain⟨f,fd,G,hm,hk,hb⟩:=F;refine⟨f,fd,⟨λvs H Q E q=>G.len vs H Q _ q,λA outer s H args us vs Q E hr he hbd hv hs=>?_⟩,hm,hk,hb⟩;refine codeAny_mono (G.run A outer s H args us vs Q (λ_ _ _=>False) hr he hbd hv hs) λres s' hq=>?_
 match res,hq with
 | .error ev,hq=>
   obtain⟨e,cls,dx,H',_,_,_,_,_,_,_,_,z⟩:=hq;exact z.elim
 | .ok (.ret u),hq=>exact hq
section
variable{H H':Hp}
mutual
theorem Dat.same(k:Same H H'):∀(d:PyData){v:V},Dat H v d->Dat H' v d
 | .none,_,h=>by simp only[Dat] at h ⊢;exact h
 | .bool _,_,h=>by simp only[Dat] at h ⊢;exact h
 | .int _,_,h=>by simp only[Dat] at h ⊢;exact h
 | .str _,_,h=>by simp only[Dat] at h ⊢;exact h
 | .list ds,_,h=>by simp only[Dat] at h ⊢;obtain⟨a,vs,e,q,r⟩:=h;exact⟨a,vs,e,k _ _ q,aO.same k ds r⟩
 | .tuple ds,_,h=>by simp only[Dat] at h ⊢;obtain⟨a,vs,e,q,r⟩:=h;exact⟨a,vs,e,k _ _ q,aO.same k ds r⟩
 | .dict _,_,h=>by simp only[Dat] at h
theorem aO.same(k:Same H H'):∀(ds:List PyData){vs:List V},aO H vs ds->aO H' vs ds
 | [],[],_=>by simp only[aO]
 | d::ds,v::vs,h=>by simp only[aO] at h ⊢;exact⟨Dat.same k d h.1,aO.same k ds h.2⟩
 | _::_,[],h=>by simp only[aO] at h
 | [],_::_,h=>by simp only[aO] at h
end
end
section
variable{X:Cx}{K:PySem.W.Frag}
end
section
variable{K:PySem.W.Frag}{a D:Addr}{xs:List V}{tc:TT}{te:TE}{Q:VK}{rest:St}{H1:Hp}
theorem Du{f:Nat->Option PyData}(hf:∀i d,f i=some d->Dw d=true):∀l:List Nat,rB (l.filterMap f)=true
 | []=>rfl
 | i::l=>by
   rw[List.filterMap_cons];cases e:f i with
   | none=>exact Du hf l
   | some d=>simp only[rB,hf i d e,Du hf l,Bool.and_self]
theorem Pr(f:Nat->Option PyData)(hf:∀i d,f i=some d->Dw d=true)(hD:H1 D=none)(hq:bH K H1 a xs)(hx:xs.length<=100000)(hs:∀i x H (G:Hp->Prop) (F:VK),xs[i]? = some x->Same H1 H->(∀H',Same H H'->f i=none->G H')->(∀y d H',Same H H'->f i=some d->Dat H' y d->F y H')->tc (some x::rest) H λb H3=>if b=true then te (some x::rest) H3 F else G H3)(hd:∀H vs,Same H1 H->H D=some (.lst vs)->aO H vs ((List.range xs.length).filterMap f)->Q (.ref D) H):mH (Yu K a) (iK 0) tc te Q D (none::rest) H1:=by
 refine jU (K:=K) (xs:=xs) (λi σ H=>(∃v,σ=v::rest)/\Same H1 H /\ ∃vs,H D=some (.lst vs)/\aO H vs ((List.range i).filterMap f)) ⟨⟨none,Z⟩,aB hD,[],ak,by simp[aO]⟩ (λi σ H _ ⟨_,sm,_⟩=>sm.sqL _ _ hq) ?_ (λσ H ⟨_,sm,vs,e,d⟩=>hd H vs sm e d);rintro i x σ H hi ⟨⟨v,rfl⟩,sm,vs,e,d⟩;have hil:i<xs.length:=(aaf.mp hi).1;have im:=Du hf (List.range i);refine hs i x H _ _ hi sm (λH3 s3 ef=>⟨⟨_,Z⟩,sm.trans s3,vs,s3 _ _ e, ?_⟩) (λy dd H4 s4 ef dy=>?_)
 .rw[dG,ef]
  simpa using aO.keep s3.tups _ im d
 .have hl:vs.length<=i:=by rw[d.length];exact rG f i
  have kp:Kp D H4 (upd H4 D (.lst (vs++[y]))):=Kp.set;have tp:=kp.tups (s4 _ _ e);refine⟨vs,s4 _ _ e, ?_,⟨_,Z⟩,(sm.trans s4).newly hD,vs++[y],ak, ?_⟩
  .rw[sizeLine_eq];lia
  .rw[dG,ef]
   exact uZ (aO.keep (λa xs h=>tp _ _ (s4.tups _ _ h)) _ im d) (Dat.keep tp _ (hf i dd ef) dy)
end
section
variable{X:Cx}
end
end L2
namespace L2
open PySem
section
variable{K:PySem.W.Frag}{a D:Addr}{xs:List V}{tc:TT}{te:TE}{Q:VK}{rest:St}{H1:Hp}
end
end L2
namespace L2
open PySem PySem.Spec PyProof.Rows
theorem fM.Qk{k:Nat}{A:Around}(r:fM k A):A.in1.units+64<cLine:=by have:=r.un;show A.units+1+64<_;lia
section
variable{X:Cx}{K:PySem.W.Frag}{e st:Expr}{te tk:TE}{pos p2:Pos}
end
section
variable{H:Hp}
mutual
theorem Dat.fn:∀(d e:PyData){v:V},Dat H v d->Dat H v e->d=e
 | .none,e,v,h,g=>by cases e<;>simp only[Dat] at h g<;>first |rfl|(subst h;first |(obtain⟨_,_,z,_⟩:=g;cases z;done)|(cases g;done))
 | .bool _,e,v,h,g=>by cases e<;>simp only[Dat] at h g<;>first |(subst h;first |(injection g with g;rw[g];done)|(obtain⟨_,_,z,_⟩:=g;cases z;done)|(cases g;done))
 | .int _,e,v,h,g=>by cases e<;>simp only[Dat] at h g<;>first |(subst h;first |(injection g with g;rw[g];done)|(obtain⟨_,_,z,_⟩:=g;cases z;done)|(cases g;done))
 | .str _,e,v,h,g=>by cases e<;>simp only[Dat] at h g<;>first |(subst h;first |(injection g with g;rw[g];done)|(obtain⟨_,_,z,_⟩:=g;cases z;done)|(cases g;done))
 | .list ds,.list es,v,h,g=>by
   simp only[Dat] at h g;obtain⟨a,vs,rfl,ha,da⟩:=h;obtain⟨b,ws,e,hb,db⟩:=g;injection e with e
   subst e;rw[ha] at hb;injection hb with hb
   injection hb with hb
   subst hb;rw[aO.fn ds es da db]
 | .tuple ds,.tuple es,v,h,g=>by
   simp only[Dat] at h g;obtain⟨a,vs,rfl,ha,da⟩:=h;obtain⟨b,ws,e,hb,db⟩:=g;injection e with e
   subst e;rw[ha] at hb;injection hb with hb
   injection hb with hb
   subst hb;rw[aO.fn ds es da db]
 | .list ds,.tuple es,v,h,g=>by
   simp only[Dat] at h g;obtain⟨a,vs,rfl,ha,da⟩:=h;obtain⟨b,ws,e,hb,db⟩:=g;injection e with e
   subst e;rw[ha] at hb;injection hb with hb
   cases hb
 | .tuple ds,.list es,v,h,g=>by
   simp only[Dat] at h g;obtain⟨a,vs,rfl,ha,da⟩:=h;obtain⟨b,ws,e,hb,db⟩:=g;injection e with e
   subst e;rw[ha] at hb;injection hb with hb
   cases hb
 | .list ds,.none,v,h,g=>by simp only[Dat] at h g;obtain⟨a,vs,rfl,_⟩:=h;cases g
 | .list ds,.bool _,v,h,g=>by simp only[Dat] at h g;obtain⟨a,vs,rfl,_⟩:=h;cases g
 | .list ds,.int _,v,h,g=>by simp only[Dat] at h g;obtain⟨a,vs,rfl,_⟩:=h;cases g
 | .list ds,.str _,v,h,g=>by simp only[Dat] at h g;obtain⟨a,vs,rfl,_⟩:=h;cases g
 | .tuple ds,.none,v,h,g=>by simp only[Dat] at h g;obtain⟨a,vs,rfl,_⟩:=h;cases g
 | .tuple ds,.bool _,v,h,g=>by simp only[Dat] at h g;obtain⟨a,vs,rfl,_⟩:=h;cases g
 | .tuple ds,.int _,v,h,g=>by simp only[Dat] at h g;obtain⟨a,vs,rfl,_⟩:=h;cases g
 | .tuple ds,.str _,v,h,g=>by simp only[Dat] at h g;obtain⟨a,vs,rfl,_⟩:=h;cases g
 | .list ds,.dict _,v,h,g=>by simp only[Dat] at g
 | .tuple ds,.dict _,v,h,g=>by simp only[Dat] at g
 | .dict _,_,v,h,g=>by simp only[Dat] at h
theorem aO.fn:∀(ds es:List PyData){vs:List V},aO H vs ds->aO H vs es->ds=es
 | [],[],_,_,_=>rfl
 | d::ds,e::es,v::vs,h,g=>by
   simp only[aO] at h g;rw[Dat.fn d e h.1 g.1,aO.fn ds es h.2 g.2]
 | [],_::_,[],_,g=>by simp only[aO] at g
 | [],_::_,_::_,h,_=>by simp only[aO] at h
 | _::_,[],[],h,_=>by simp only[aO] at h
 | _::_,[],_::_,_,g=>by simp only[aO] at g
 | _::_,_::_,[],h,_=>by simp only[aO] at h
end
end
section
variable{X:Cx}
end
section
variable{X:Cx}{K:PySem.W.Frag}{e e1 e2 l:Expr}{te t1 t2 tl:TE}{pos:Pos}{tg:Expr}
end
section
variable{X:Cx}
end
end L2
namespace L2
open PySem PySem.Spec PyProof.Rows PySem.Builtin PySem.Builtin.Str
section
variable{X:Cx}{K:PySem.W.Frag}
noncomputable def Its(x:Str):It:=⟨λi _=>i<x.cps.size,λi H v H'=>H'=H /\ ∃c,x.cps[i]? = some c/\v = .str ⟨#[c]⟩,λi _=>x.cps.size<=i⟩
theorem Qn{P:Program}{w:World}{K:PySem.W.Frag}{tg:Expr}(x:Str)(t:Tok)(it:Addr):Turn P w K tg (Its x) [it] it (λi h=>i<=x.cps.size/\(h.IsStrIter it "str_ascii_iterator" x t i\/h.IsStrIter it "str_iterator" x t i)) where
 mem:=by simp
 obj:=λi h st b hb=>by
  have e:b=it:=by simpa using hb
  subst e;rcases st.2 with ⟨o,e,c,d⟩|⟨o,e,c,d⟩
  .exact⟨o,e,λv z=>by rw[d] at z;cases z⟩
  .exact⟨o,e,λv z=>by rw[d] at z;cases z⟩
 keep:=λi h h' st k=>⟨st.1,st.2.imp (λ⟨o,e,r⟩=>⟨o,k it (by simp) o e,r⟩) (λ⟨o,e,r⟩=>⟨o,k it (by simp) o e,r⟩)⟩
 item:=by
  intro X hP hw hK hc i pins s σ H E I hf st hg;subst hP hw hK;have hi:i<x.cps.size:=hg;have hx:x.cps[i]? = some x.cps[i]:=by simp[hi]
  obtain⟨f0,f1,f2,f3,f4,f5⟩:=hf it (by simp);rcases st.2 with st|st
  .refine wpAny_pyNext_ascii_item st hx λh' st' sb=>?_
   have I1:Inv X pins σ H {s with heap:=h',toks:=s.toks+1}:=I.turned (t':=s.toks+1) (λb o hb e=>(sb.2 b hb).trans e) f0 f1 f3 f4 f5;obtain⟨o,e,c,d⟩:=id st';exact⟨_,Z,yX (s:={s with heap:=h',toks:=s.toks+1}) e c d (by decide) ⟨.str ⟨#[x.cps[i]]⟩,H,I1,⟨_,Z⟩,⟨Z,_,hx,Z⟩,⟨hi,.inl st'⟩,λb hb=>(hf b hb).1⟩⟩
  .refine wpAny_pyNext_wide_item st hx λh' st' sb=>?_
   have I1:Inv X pins σ H {s with heap:=h',toks:=s.toks+1}:=I.turned (t':=s.toks+1) (λb o hb e=>(sb.2 b hb).trans e) f0 f1 f3 f4 f5;obtain⟨o,e,c,d⟩:=id st';exact⟨_,Z,yX (s:={s with heap:=h',toks:=s.toks+1}) e c d (by decide) ⟨.str ⟨#[x.cps[i]]⟩,H,I1,⟨_,Z⟩,⟨Z,_,hx,Z⟩,⟨hi,.inr st'⟩,λb hb=>(hf b hb).1⟩⟩
 done:=by
  intro X hP hw hK hc i pins s σ H E I hf st hg;subst hP hw hK;have hx:x.cps[i]? = none:=by simpa using (show x.cps.size<=i from hg)
  obtain⟨f0,f1,f2,f3,f4,f5⟩:=hf it (by simp);rcases st.2 with st|st
  .exact wpAny_pyNext_ascii_end (I.ok.hd hc) st hx λh' eb=>⟨Z,I.turned (t':=s.toks) (λb o hb e=>eb b o hb e) f0 f1 f3 f4 f5⟩
  .exact wpAny_pyNext_wide_end (I.ok.hd hc) st hx λh' eb=>⟨Z,I.turned (t':=s.toks) (λb o hb e=>eb b o hb e) f0 f1 f3 f4 f5⟩
 self:=λ_ _ _ _ _ st h=>st.2.elim (λst=>wpAny_pyIter_striter_ascii st h) (λst=>wpAny_pyIter_striter_wide st h)
noncomputable def afY(tl:TE):TI:=λσ H R=>tl σ H λx H1=>∃a,x = .str a/\R (Its a) H1
theorem Zg{tg l:Expr}{tl:TE}(hl:PE X l tl):PI X tg l (afY tl):=by
 intro pins s σ H R I h;refine cZ (hl pins s σ H _ I h) λv s1 iB=>?_;obtain⟨x,H1,I1,r1,q1⟩:=iB;obtain⟨a,rfl,q⟩:=q1;obtain⟨t,rfl⟩:=r1
 have fin:∀o,(s1.heap.push o).IsStrIter s1.heap.objs.size "str_ascii_iterator" a t 0\/(s1.heap.push o).IsStrIter s1.heap.objs.size "str_iterator" a t 0->PIE X pins σ tg R (.ref s1.heap.objs.size) {s1 with heap:=s1.heap.push o}:=by
  intro o st;refine⟨s1.heap.objs.size,[s1.heap.objs.size],_,_,H1,Z,I1.kept (t':=s1.toks) λb o e=>aaj _ e,Qn a t _,⟨Nat.zero_le _,st⟩,λb hb=>?_,q⟩;have e:b=s1.heap.objs.size:=by simpa using hb
  subst e;exact I1.v8 (aaG _) (I1.hok.fresh (aaG _))
 cases ha:a.cps.all (· < 128)
 .exact wpAny_pyIter_wide ha (fin _ (.inr ⟨_,aam _ rfl,Z,Z⟩))
 .exact wpAny_pyIter_ascii ha (fin _ (.inl ⟨_,aam _ rfl,Z,Z⟩))
end
section
variable{K:PySem.W.Frag}{D:Addr}{tc:TT}{te:TE}{Q:VK}{rest:St}{H1:Hp}
theorem Pn{x:Str}{g:TG}{σ0:St}(Pv:Nat->St->Hp->Prop)(h0:Pv 0 σ0 (upd H1 D (.lst [])))(hs:∀i c σ H,x.cps[i]? = some c->Pv i σ H->g (.str ⟨#[c]⟩) σ H λσ2 H2=>tc σ2 H2 λb H3=>
   if b=true then te σ2 H3 λy H4=>∃acc,H4 D=some (.lst acc)/\acc.length<sizeLine/\Pv (i+1) σ2 (upd H4 D (.lst (acc++[y]))) else Pv (i+1) σ2 H3)(hd:∀σ H,Pv x.cps.size σ H->Q (.ref D) H):mH (Its x) g tc te Q D σ0 H1:=by
 refine⟨λi m σ H=>m=x.cps.size - i/\i<=x.cps.size/\Pv i σ H,⟨x.cps.size,by simp,Nat.zero_le _,h0⟩, ?_⟩;rintro i m σ H ⟨rfl,hi,p⟩
 by_cases hlt:i<x.cps.size
 .refine .inr ⟨hlt,Pv (i+1),λσ' H' p'=>⟨x.cps.size - (i+1),by lia,Z,hlt,p'⟩,λy H' e=>?_⟩
  obtain⟨e,c,hc,rfl⟩:=e;subst e;exact hs i c σ _ hc p
 .have e:i=x.cps.size:=by lia
  subst e;exact .inl ⟨aaG _,hd σ H p⟩
theorem Pk{x:Str}(f:Nat->Option V)(hD:H1 D=none)(hx:x.cps.size<=100000)(hs:∀i c H (G:Hp->Prop) (F:VK),x.cps[i]? = some c->Same H1 H->(∀H',Same H H'->f i=none->G H')->(∀y H',Same H H'->f i=some y->F y H')->tc (some (.str ⟨#[c]⟩)::rest) H λb H3=>if b=true then te (some (.str ⟨#[c]⟩)::rest) H3 F else G H3)(hd:∀H,Same H1 H->H D=some (.lst ((List.range x.cps.size).filterMap f))->Q (.ref D) H):mH (Its x) (iK 0) tc te Q D (none::rest) H1:=by
 refine Pn (λi σ H=>(∃v,σ=v::rest)/\Same H1 H/\H D=some (.lst ((List.range i).filterMap f))) ⟨⟨none,Z⟩,aB hD,ak⟩ ?_ (λσ H ⟨_,sm,e⟩=>hd H sm e);rintro i c σ H hi ⟨⟨v,rfl⟩,sm,e⟩;have hil:i<x.cps.size:=(Array.getElem?_eq_some_iff.mp hi).1;refine hs i c H _ _ hi sm (λH3 s3 ef=>⟨⟨_,Z⟩,sm.trans s3,by rw[s3 _ _ e,dG,ef];simp⟩) (λy H4 s4 ef=>?_);refine⟨_,s4 _ _ e, ?_,⟨_,Z⟩,(sm.trans s4).newly hD, ?_⟩
 .have:=rG f i
  rw[sizeLine_eq];lia
 .rw[ak,dG,ef];rfl
end
section
variable{X:Cx}
end
end L2
namespace L2
open PySem PySem.Spec PyProof.Rows
section
variable(P:Program)(w:World)(K:PySem.W.Frag)(mg:Str->Option Value)(base:Heap)
noncomputable def MethAt(k:Nat)(C:Addr)(m:Str)(ps:List Str)(sp:Sp):Prop:=∃f fd,bN P w K mg base iY k f fd ps sp/\Meth K C m f/\Binds K fd ps []
noncomputable def jP(k:Nat)(C:Addr)(m:Str)(ps:List Str)(sp:Sp):Prop:=∃f fd,bN P w K mg base (qC P w) k f fd ps sp/\Meth K C m f/\Binds K fd ps []
noncomputable def pO(k:Nat)(C:Addr)(x:Str)(ps:List Str)(ni:List V)(sp:Sp):Prop:=∃f fd ds,bN P w K mg base iY k f fd ps sp/\Mk K C f/\mg x=some (.ref C)/\Binds K fd ps ds/\Vals ni ds
noncomputable def nA(k:Nat)(C:Addr)(x:Str)(ps:List Str)(ni:List V)(sp:Sp):Prop:=∃f fd ds,bN P w K mg base (qC P w) k f fd ps sp/\Mk K C f/\mg x=some (.ref C)/\Binds K fd ps ds/\Vals ni ds
noncomputable def Xm(k:Nat)(C:Addr)(x:Str)(ps:List Str)(kn:Str)(sp:Sp):Prop:=∃f fd,bN P w K mg base (qC P w) k f fd ps sp/\Mk K C f/\mg x=some (.ref C) /\
 ∀(s:Shared)(us:List Value)(z:Value),K.In s.heap->(us++[z]).length=ps.length->BindsTo s fd ⟨us,[(kn,z)]⟩ (ps.zip (us++[z]))
end
section
variable{P:Program}{w:World}{K:PySem.W.Frag}{mg:Str->Option Value}{base:Heap}{k:Nat}{C:Addr}{m x:Str}{ps:List Str}{sp:Sp}{ni:List V}
theorem bN.calm{f:Addr}{fd:FuncData}(G:bN P w K mg base (qC P w) k f fd ps sp):bN P w K mg base iY k f fd ps (λvs H Q _=>sp vs H Q λ_ _ _=>False):=by
 refine⟨λvs H Q E q=>G.len vs H Q _ q,λA outer s H args us vs Q E hr he hbd hv hs=>?_⟩;refine codeAny_mono (G.run A outer s H args us vs Q (λ_ _ _=>False) hr he hbd hv hs) λres s' hq=>?_
 match res,hq with
 | .error ev,hq=>
   obtain⟨e,cls,dx,H',_,_,_,_,_,_,_,_,z⟩:=hq;exact z.elim
 | .ok (.ret u),hq=>exact hq
theorem jP.calm(F:jP P w K mg base k C m ps sp):MethAt P w K mg base k C m ps (λvs H Q _=>sp vs H Q λ_ _ _=>False):=by
 obtain⟨f,fd,G,r⟩:=F;exact⟨f,fd,G.calm,r⟩
theorem nA.calm(F:nA P w K mg base k C x ps ni sp):pO P w K mg base k C x ps ni (λvs H Q _=>sp vs H Q λ_ _ _=>False):=by
 obtain⟨f,fd,ds,G,r⟩:=F;exact⟨f,fd,ds,G.calm,r⟩
end
section
variable{X:Cx}{k:Nat}{C:Addr}{x m:Str}{ps:List Str}{sp:Sp}{ni:List V}{e o:Expr}{es:List Expr}{ta:TE}{t:TA}{p pos apos:Pos}{E:St->XK}
theorem dD{pl:Sem Bool}(M:MethAt X.prog X.w X.K X.mg X.base k C m ps sp)(c:Cls X.K C)(hr:fM k X.A)(he:PE X o ta)(ha:PA X (e::es) t)(hst:starEach (e::es) X.env=(false,eval e X.env)::starEach es X.env:=by rfl)(hpl:(backTo pos (starEach es X.env)).any (·.1)=false:=by rfl)(ht:eval (.Call (.Attribute o m apos) (e::es) [] pos) X.env=(do
   let ov ←eval o X.env
   standAt apos.atName
   let (f,first) ←holding [ov] (getMethod ov m pl)
   callWith pos f first (backTo pos (starEach (e::es) X.env)) (backToKw pos (keywordEach [] X.env))):=by rfl):
 PE X (.Call (.Attribute o m apos) (e::es) [] pos) (Ky C m sp [] E0 ta t):=by
 obtain⟨f,fd,G,hm,hb⟩:=M;exact Vx he c hm G hr hb .nil Lf ha hst hpl ht
theorem qb{pl:Sem Bool}(M:MethAt X.prog X.w X.K X.mg X.base k C m ps sp)(c:Cls X.K C)(hr:fM k X.A)(he:PE X o ta)(ht:eval (.Call (.Attribute o m apos) [] [] pos) X.env=(do
   let ov ←eval o X.env
   standAt apos.atName
   let (f,first) ←holding [ov] (getMethod ov m pl)
   callWith pos f first (backTo pos (starEach [] X.env)) (backToKw pos (keywordEach [] X.env))):=by rfl):
 PE X (.Call (.Attribute o m apos) [] [] pos) (Ky C m sp [] E0 ta lF):=by
 obtain⟨f,fd,G,hm,hb⟩:=M;exact Rh he c hm G hr hb .nil Lf ht
noncomputable def YJ(C:Addr)(m:Str)(sp:Sp)(E:St->XK)(ta:TE)(t:TA):TE:=λσ H Q=>ta σ H λx H1=>∃a dx fs,x = .ref a/\H1 a=some (.ins C dx fs)/\fs.lookup m=none/\t σ H1 λvs H2=>sp (x::vs) H2 Q (E σ)
theorem Vm{pins:List (Addr×Obj)}{σ:St}{H:Hp}{s:Shared}{Q:VK}{us:List Value}{vs:List V}{f:Addr}{fd:FuncData}(G:bN X.prog X.w X.K X.mg X.base (qC X.prog X.w) k f fd ps sp)(hx:X.ex=[])(R:Rz X E)(hr:fM k X.A)(hb:Binds X.K fd ps [])(I:Inv X pins σ H s)(r:Vals vs us)(q:sp vs H Q (E σ)):wpAny (model X.prog X.w) X.A (call (.ref f) us) (EP X pins σ Q) X.xe s:=by
 have hlen:us.length=ps.length:=by rw[←r.length];exact G.len _ _ _ _ q
 have hbd:=hb s us I.nW (by rw[List.append_nil];exact hlen);rw[List.append_nil] at hbd;refine wpAny_call (codeAny_mono (G.run X.A X.stack s H ⟨us,[]⟩ us vs Q (E σ) hr I.env0 hbd r q) λres s' hq=>?_)
 match res,hq with
 | .error ev,hq=>exact Dl hx R I hq
 | .ok (.ret u),hq=>exact I.after hq
theorem oW{pl:Sem Bool}(M:jP X.prog X.w X.K X.mg X.base k C m ps sp)(c:Cls X.K C)(hx:X.ex=[])(R:Rz X E)(hr:fM k X.A)(he:PE X o ta)(ha:PA X (e::es) t)(hst:starEach (e::es) X.env=(false,eval e X.env)::starEach es X.env:=by rfl)(hpl:(backTo pos (starEach es X.env)).any (·.1)=false:=by rfl)(ht:eval (.Call (.Attribute o m apos) (e::es) [] pos) X.env=(do
   let ov ←eval o X.env
   standAt apos.atName
   let (f,first) ←holding [ov] (getMethod ov m pl)
   callWith pos f first (backTo pos (starEach (e::es) X.env)) (backToKw pos (keywordEach [] X.env))):=by rfl):
 PE X (.Call (.Attribute o m apos) (e::es) [] pos) (YJ C m sp E ta t):=by
 obtain⟨f,fd,G,hm,hb⟩:=M;intro pins s σ H Q I h;refine PySem.W.methodCall_KW (pl:=pl) (cZ (he pins s σ H _ I h) λu s1 ⟨x,H1,I1,rx,a,dx,fs,ex,ea,l,q⟩=>?_) ht;subst ex;obtain rfl:u=Value.ref a:=rx;refine rD I1 ea c hm l ?_;refine PySem.W.callWith_K (first:=[.ref a]) (h₀:=X.base) I.ok.mod.Wi hm.kp (cZ (ha pos pins s1 σ H1 _ I1 q) λus s2 ⟨vs,H2,I2,r,q2⟩=>⟨I2.nW, ?_⟩) hst hpl;exact Vm (us:= .ref a::us) (vs:= .ref a::vs) G hx R hr hb I2 (.cons rfl r) q2
theorem oX(M:pO X.prog X.w X.K X.mg X.base k C x ps ni sp)(hr:fM (k+1) X.A)(hg:Gl X x)(ha:PA X (e::es) t)(hdb:(x==("__debug__" :Str))=false:=by decide)(he:starEach (e::es) X.env=(false,eval e X.env)::starEach es X.env:=by rfl)(hpl:(backTo pos (starEach es X.env)).any (·.1)=false:=by rfl):
 PE X (.Call (.Name x p) (e::es) [] pos) (XD C sp ni E0 t):=by
 obtain⟨f,fd,ds,G,mk,hm,hb,hd⟩:=M;exact Vy mk G hr hg hm hb hd Lf ha hdb he hpl
noncomputable def YK(C:Addr)(sp:Sp)(ni:List V)(E:St->XK)(t:TA):TE:=λσ H Q=>t σ H λvs H1=>∀x dx,H1 x=none->H1 dx=none->dx≠x ->
 sp (.ref x::(vs++ni)) (upd (upd H1 dx (.own x)) x (.ins C dx [])) (λv H2=>v = .non/\Q (.ref x) H2) (E σ)
theorem Np{pins:List (Addr×Obj)}{σ:St}{H:Hp}{s:Shared}{Q:VK}{args:Args}{us:List Value}{vs:List V}{f:Addr}{fd:FuncData}(M:Mk X.K C f)(G:bN X.prog X.w X.K X.mg X.base (qC X.prog X.w) k f fd ps sp)(hx:X.ex=[])(R:Rz X E)(hr:fM (k+1) X.A)(I:Inv X pins σ H s)(r:Vals vs us)(hb:∀s':Shared,X.K.In s'.heap -> ∀a:Addr,(Value.ref a::us).length=ps.length->BindsTo s' fd ⟨Value.ref a::args.pos,args.kw⟩ (ps.zip (Value.ref a::us)))(h:∀x dx,H x=none->H dx=none->dx≠x->sp (.ref x::vs) (upd (upd H dx (.own x)) x (.ins C dx [])) (λv H2=>v = .non/\Q (.ref x) H2) (E σ)):
 wpAny (model X.prog X.w) X.A (call (.ref C) args.pos args.kw) (EP X pins σ Q) X.xe s:=by
 have hq:=h (s.heap.objs.size+1) s.heap.objs.size (I.hok.fresh (Nat.le_succ _)) (I.hok.fresh (aaG _)) (aaW (Nat.lt_succ_self _));have I2:=Inv.made (C:=C) I;have r2:Vals (V.ref (s.heap.objs.size+1)::vs) (Value.ref (s.heap.objs.size+1)::us):= .cons rfl r
 have hl:(Value.ref (s.heap.objs.size+1)::us).length=ps.length:=by
  have e:=r2.length;rw[G.len _ _ _ _ hq] at e;exact e.symm
 refine wpAny_call (GJ (f:=f) I.nW M.makes M.init (beq_iff_eq.mp M.fn) (codeAny_mono (G.run _ X.stack _ _ ⟨Value.ref (s.heap.objs.size+1)::args.pos,args.kw⟩ (Value.ref (s.heap.objs.size+1)::us) _ _ (E σ) (hr.make C args.pos args.kw)
  (I2.env0.make C args.pos args.kw) (hb _ I2.nW _ hl) r2 hq) λr s' hq'=>?_))
 match r,hq' with
 | .error ev,hq'=>exact Dl hx R I2 hq'
 | .ok (.ret u),hq'=>
   obtain⟨v,H',I3,rv,ev,q3⟩:=I2.after hq';subst ev;exact⟨rv,⟨V.ref (s.heap.objs.size+1),H',I3,Z,q3⟩⟩
theorem Gj(M:nA X.prog X.w X.K X.mg X.base k C x ps ni sp)(hx:X.ex=[])(R:Rz X E)(hr:fM (k+1) X.A)(hg:Gl X x)(ha:PA X (e::es) t)(hdb:(x==("__debug__" :Str))=false:=by decide)(he:starEach (e::es) X.env=(false,eval e X.env)::starEach es X.env:=by rfl)(hpl:(backTo pos (starEach es X.env)).any (·.1)=false:=by rfl):
 PE X (.Call (.Name x p) (e::es) [] pos) (YK C sp ni E t):=by
 obtain⟨f,fd,ds,G,mk,hm,hb,hd⟩:=M;intro pins s σ H Q I h;refine wpAny_Call_Name_kw (lB I hg hm ?_ hdb);refine PySem.W.callWith_K (h₀:=X.base) I.ok.mod.Wi mk.kp (cZ (ha pos pins s σ H _ I h) λus s1 ⟨vs,H1,I1,r,q⟩=>⟨I1.nW, ?_⟩) he hpl;exact Np (args:=⟨us,[]⟩) (us:=us++ds) (vs:=vs++ni) mk G hx R hr I1 (r.append hd) (λs' ki a hl=>hb s' (Value.ref a::us) ki hl) q
end
end L2
namespace L2
open PySem PySem.Spec PyProof.Rows PySem.Builtin PySem.Builtin.Str
section
variable{X:Cx}{K:PySem.W.Frag}{o e value:Expr}{f:Str}{pos pos' tpos:Pos}{ta tv:TE}
theorem bT(hK:X.K=K)(he:PE X e ta)(hb:attributeBase e f X.env (eval e X.env)=eval e X.env):PE X (.Attribute e f pos) (abp K ta f):=by subst hK;exact Zk he hb
theorem dZ(hK:X.K=K)(ha:PE X o ta)(hv:PE X value tv)(hs:swapsWith value (some (.Attribute o f pos')) pos.line X.env=pure false):PS X (.Assign [.Attribute o f pos'] value pos) (abB K ta tv f):=by subst hK;exact Zc ha hv hs
theorem yt{op:Operator}{rd:V->V->Hp->VK->Prop}(hK:X.K=K)(ha:PE X o ta)(hv:PE X value tv)(hop:ac5 X op rd):PS X (.AugAssign (.Attribute o f tpos) op value pos) (KZ K ta tv rd f):=by subst hK;exact Nu ha hv hop
noncomputable def abL:V->List V->Hp->VK->Prop:=λx vs H Q=>∃(a y:Str) (i:Nat) (r:List Nat),x = .str a/\vs=[.str y]/\occurrences a y 0 a.length 1=i::r/\Q (.int i) H
theorem Bm:MtR X "str.index" abL:=by
 intro pins s σ H x vs v us Q I rx rv h;obtain⟨a,y,i,r,rfl,rfl,ho,q⟩:=h;obtain⟨t,rfl⟩:=rx;obtain⟨u,rfl,ru⟩:=rv.one;obtain⟨t2,rfl⟩:=ru;exact call_meets PySem.F.slot_str_index (typeIs_str _ _ _) PySem.F.entry_str_index (PySem.F.args_str_index_2 _ _) (gives_str_index a y t t2 i r ho).meets ⟨.int i,H,I.tok _,⟨_,Z⟩,q⟩
end
structure HB(K:PySem.W.Frag)(x qual:Str)(st:Stmt)(ds:List Value)(f:Addr)(fd:FuncData):Prop where
 ex:∃(oc:Value) (od:Option Addr) (T:Addr) (kV doc pm:Value) (an:Option Addr) (cdv ct:Value) (osl:Array (Option Value)) (tc:Value) (td:Option Addr) (tn:Nat) (Ax:Array (Option Value)),
  fd=PySem.W.fnOf x qual (cC st) (cT st) (aH st) (.ref T) kV doc pm an cdv ct/\K.lookup f=some ⟨oc,od,.func fd,osl⟩/\PySem.W.codeIn K cdv qual=true/\K.lookup T=some ⟨tc,td,.seq ds.toArray tn,Ax⟩
 kp:PySem.W.keepIn K (.ref f)=true
section
variable{P:Program}{w:World}{K:PySem.W.Frag}{mg:Str->Option Value}{base:Heap}
theorem HB.V4{x qual:Str}{st:Stmt}{ds:List Value}{f:Addr}{fd:FuncData}{N ps:List Str}{k:Nat}{sp:Sp}(F:HB K x qual st ds f fd)(S:aY N ps (aH st))(len:∀vs H Q E,sp vs H Q E->vs.length=ps.length)(hbody:∀(cdv:Value)(A:Around)(outer:List Env)(s:Shared)(H:Hp)(vs:List V)(Q:VK)(E:XK),fM k (A.deeper (envOfC qual (aH st) s.heap.objs.size f cdv))->sp vs H Q E ->
   Rz (nQ (qC P w) P w K mg base N qual (aH st) f cdv A outer s H E) (λ_=>E) ->
   ∃t,Eh (nQ (qC P w) P w K mg base N qual (aH st) f cdv A outer s H E) (cT st) t/\t {nx:=λ_ H'=>Q .non H',rt:=Q} (start N vs) H):bN P w K mg base (qC P w) (k+1) f fd ps sp:=by
 obtain⟨oc,od,T,kV,doc,pm,an,cdv,ct,osl,tc,td,tn,Ax,rfl,lk,hcd,_⟩:=F.ex;exact S8 lk hcd S len λA outer s H vs Q E hr hsp=>hbody cdv A outer s H vs Q E hr hsp Ga
end
section
variable{X:Cx}{k:Nat}{C:Addr}{x kn:Str}{ps:List Str}{sp:Sp}{e ke:Expr}{es:List Expr}{te:TE}{t:TA}{p pos kpos:Pos}{E:St->XK}
end
end L2
namespace L2
open PySem PySem.Spec PyProof.Rows
section
variable{X:Cx}{pins:List (Addr×Obj)}{σ:St}{H:Hp}{s:Shared}{scope:Scope}{N own:List Str}{caps:List Nat}{fp:List Addr}{C:Nat}{xc:Str}
end
section
variable{M:Model}{A:Around}{E:Value->Shared->Prop}{s:Shared}
end
section
variable{X:Cx}{elt tg iter:Expr}{ifs:List Expr}{scope:Scope}{pos:Pos}{N own:List Str}{caps:List Nat}{wi:TI}{g:TG}{tc:TT}{te:TE}{xc:Str}
end
end L2
namespace L2
open PySem PySem.Spec PyProof.Rows PySem.W
section
variable{X:Cx}
end
end L2
namespace L2
open PySem PySem.Spec PyProof.Rows
section
variable{X:Cx}
end
section
variable{prog:Program}{w:World}{A:Around}{E:Value->Shared->Prop}{s:Shared}{it d:Addr}{ep:Nat}{od:Obj}{es:Array DictEntry}
end
section
variable{X:Cx}{pins:List (Addr×Obj)}{σ:St}{H:Hp}{s:Shared}{d:Addr}
end
section
variable{X:Cx}{tg:Expr}
end
section
variable{d D:Addr}{o:Obj}{kvs:List (List Key×V)}{tc:TT}{te:TE}{Q:VK}{rest:St}{H1:Hp}
end
section
variable{prog:Program}{w:World}{A:Around}{E:Value->Shared->Prop}{s:Shared}
end
section
variable{X:Cx}{pos:Pos}
end
end L2
namespace L2
open PySem
noncomputable abbrev Tg:=Addr->List Nat
noncomputable def bG(τ:Tg)(x:Addr)(t:List Nat):Tg:=λy=>if y=x then t else τ y
theorem cN{τ:Tg}{x:Addr}{t:List Nat}:bG τ x t x=t:=ab9 rfl
theorem bB{τ:Tg}{x y:Addr}{t:List Nat}(h:y≠x):bG τ x t y=τ y:=ab6 h
noncomputable def v9(τ:Tg)(H:Hp):Prop:=∀x,H x=none->τ x=[]
theorem v9.dom{τ:Tg}{H H':Hp}(u:v9 τ H)(d:∀x,H' x=none->H x=none):v9 τ H':=λx e=>u x (d x e)
theorem v9.same{τ:Tg}{H H':Hp}(u:v9 τ H)(k:Same H H'):v9 τ H':=u.dom λ_ e=>k.free e
theorem v9.claim{τ:Tg}{H H':Hp}{p:Addr}{t:List Nat}(u:v9 τ H)(k:Same H H')(hp:∃o,H' p=some o):v9 (bG τ p t) H':=λx e=>by
 have n:x≠p:=λz=>by
  obtain⟨o,ho⟩:=hp;rw[z,ho] at e;cases e
 rw[bB n];exact u.same k x e
theorem d7{τ:Tg}{a b:Addr}{s t:List Nat}(ha:τ a=s)(hb:τ b=t)(h:s≠t):a≠b:=λe=>h (by rw[←ha,←hb,e])
structure Xj(i:Nat)(τ:Tg)(H H':Hp):Prop where
 keep:∀x o,H x=some o->(τ x).head?≠some i->H' x=some o
 tup:∀x xs,H x=some (.tup xs)->H' x=some (.tup xs)
 dom:∀x,H' x=none->H x=none
theorem Xj.un{i:Nat}{τ:Tg}{H H':Hp}(a:Xj i τ H H')(u:v9 τ H):v9 τ H':=u.dom a.dom
structure Mv(i:Nat)(τ:Tg)(H:Hp)(τ':Tg)(H':Hp):Prop where
 keep:∀x o,H x=some o->τ x=[0]\/(τ x).head?=some i->H' x=some o/\τ' x=τ x
 tup:∀x xs,H x=some (.tup xs)->H' x=some (.tup xs)
theorem Mv.of_same{i:Nat}{τ:Tg}{H H':Hp}(k:Same H H'):Mv i τ H τ H':=⟨λx o e _=>⟨k _ _ e,Z⟩,λx xs e=>k _ _ e⟩
theorem Mv.tags{i:Nat}{τ τ':Tg}{H H':Hp}(k:Same H H')(t:∀x o,H x=some o->τ' x=τ x):Mv i τ H τ' H':=⟨λx o e _=>⟨k _ _ e,t x o e⟩,λx xs e=>k _ _ e⟩
theorem Mv.abS{i:Nat}{τ:Tg}{H H':Hp}{a:Addr}{o:HO}(k:Kp a H H')(ha:H a=some o)(hn:∀xs,o ≠ .tup xs)(ht:τ a=[]):Mv i τ H τ H':=⟨λx u e t=>⟨k _ _ e (λz=>by
 rw[z,ht] at t;rcases t with t|t<;>cases t),Z⟩,λx xs e=>k _ _ e (cD e ha λz=>hn xs z.symm)⟩
end L2
namespace Prf
open PySem L2
inductive Qc where
 | num (n:Int)
 | box (b:Nat)
 deriving DecidableEq
inductive HN where
 | one (x:Qc)
 | two (p:Bool) (x y:Qc)
 deriving DecidableEq
inductive Rw where
 | load (b c:Nat)
 | store (c:Nat) (e:HN)
 | swap (b c:Nat) (e:HN)
 | vW (b:Nat) (e:HN)
 | say (e:HN)
 | go (k:Nat)
 | zW (q:Bool) (e f:HN) (k:Nat)
 deriving DecidableEq
noncomputable def tZ(b:Nat):Str:=⟨#[97+b]⟩
noncomputable def Aq:Qc->PyData
 | .num n=> .tuple [.str "number",.int n]
 | .box b=> .tuple [.str "box",.str (tZ b)]
noncomputable def mJ:HN->PyData
 | .one x=>Aq x
 | .two p x y=> .tuple [.str (if p then "plus" else "minus"),Aq x,Aq y]
noncomputable def lR:Rw->PyData
 | .load b c=> .tuple [.str "load",.str (tZ b),.int c]
 | .store c e=> .tuple [.str "store",.int c,mJ e]
 | .swap b c e=> .tuple [.str "swap",.str (tZ b),.int c,mJ e]
 | .vW b e=> .tuple [.str "let",.str (tZ b),mJ e]
 | .say e=> .tuple [.str "say",mJ e]
 | .go k=> .tuple [.str "go",.int k]
 | .zW q e f k=> .tuple [.str "unless",.str (if q then "=" else "<"),mJ e,mJ f,.int k]
noncomputable def Qg:Qc->Prop
 | .num n=>0<=n/\n<1000
 | .box b=>b<8
noncomputable def uX:HN->Prop
 | .one x=>Qg x
 | .two _ x y=>Qg x/\Qg y
noncomputable def uK(m:Nat):Rw->Prop
 | .load b c=>b<8/\c<m
 | .store c e=>c<m/\uX e
 | .swap b c e=>b<8/\c<m/\uX e
 | .vW b e=>b<8/\uX e
 | .say e=>uX e
 | .go _=>True
 | .zW _ e f _=>uX e/\uX f
theorem Jv:∀x:Qc,Dw (Aq x)=true
 | .num _=>rfl
 | .box _=>rfl
theorem uV:∀e:HN,Dw (mJ e)=true
 | .one x=>Jv x
 | .two p x y=>by simp only[mJ,Dw,rB,Jv,Bool.and_self]
theorem yS:∀r:Rw,Dw (lR r)=true
 | .load _ _=>rfl
 | .store _ e=>by simp only[lR,Dw,rB,uV,Bool.and_self]
 | .swap _ _ e=>by simp only[lR,Dw,rB,uV,Bool.and_self]
 | .vW _ e=>by simp only[lR,Dw,rB,uV,Bool.and_self]
 | .say e=>by simp only[lR,Dw,rB,uV,Bool.and_self]
 | .go _=>rfl
 | .zW _ e f _=>by simp only[lR,Dw,rB,uV,Bool.and_self]
section
variable{H:Hp}{v:V}
theorem fK{vs:List V}{d:PyData}{ds:List PyData}(h:aO H vs (d::ds)):∃v ws,vs=v::ws/\Dat H v d/\aO H ws ds:=by
 cases vs with
 | nil=>exact h.elim
 | cons v ws=>exact⟨v,ws,Z,h.1,h.2⟩
theorem jM{vs:List V}(h:aO H vs []):vs=[]:=by
 cases vs with
 | nil=>rfl
 | cons v ws=>exact h.elim
theorem Yq{x:Qc}(h:Dat H v (Aq x)):∃t,v = .ref t/\H t=some (.tup (match x with | .num n=>[.str "number",.int n] | .box b=>[.str "box",.str (tZ b)])):=by
 cases x<;>simp only[Aq,Dat] at h<;>obtain⟨t,vs,rfl,e,d⟩:=h<;>refine⟨t,Z, ?_⟩<;>rw[e] <;>
 .obtain⟨_,_,rfl,e1,d11⟩:=fK d
  obtain⟨_,_,rfl,e2,TV⟩:=fK d11;cases jM TV;cases e1;cases e2;rfl
theorem aav{p:Bool}{x y:Qc}(h:Dat H v (mJ (.two p x y))):∃t a b,v = .ref t/\H t=some (.tup [.str (if p then "plus" else "minus"),a,b])/\Dat H a (Aq x)/\Dat H b (Aq y):=by
 simp only[mJ,Dat] at h;obtain⟨t,vs,rfl,e,d⟩:=h;obtain⟨_,_,rfl,e1,d11⟩:=fK d;obtain⟨_,_,rfl,e2,TV⟩:=fK d11;obtain⟨_,_,rfl,e3,TQ⟩:=fK TV;cases jM TQ;cases e1;exact⟨t,_,_,Z,e,e2,e3⟩
noncomputable def Parts(H:Hp)(vs:List V):Rw->Prop
 | .load b c=>vs=[.str "load",.str (tZ b),.int c]
 | .store c e=>∃x,vs=[.str "store",.int c,x]/\Dat H x (mJ e)
 | .swap b c e=>∃x,vs=[.str "swap",.str (tZ b),.int c,x]/\Dat H x (mJ e)
 | .vW b e=>∃x,vs=[.str "let",.str (tZ b),x]/\Dat H x (mJ e)
 | .say e=>∃x,vs=[.str "say",x]/\Dat H x (mJ e)
 | .go k=>vs=[.str "go",.int k]
 | .zW q e f k=>∃x y,vs=[.str "unless",.str (if q then "=" else "<"),x,y,.int k]/\Dat H x (mJ e)/\Dat H y (mJ f)
theorem Mu{r:Rw}(h:Dat H v (lR r)):∃t vs,v = .ref t/\H t=some (.tup vs)/\Parts H vs r:=by
 cases r<;>simp only[lR,Dat] at h<;>obtain⟨t,vs,rfl,e,d⟩:=h<;>refine⟨t,vs,Z,e, ?_⟩<;>obtain⟨_,_,rfl,e1,d11⟩:=fK d<;>cases e1<;>obtain⟨_,_,rfl,e2,TV⟩:=fK d11
 .obtain⟨_,_,rfl,e3,TQ⟩:=fK TV
  cases jM TQ;cases e2;cases e3;rfl
 .obtain⟨_,_,rfl,e3,TQ⟩:=fK TV
  cases jM TQ;cases e2;exact⟨_,Z,e3⟩
 .obtain⟨_,_,rfl,e3,TQ⟩:=fK TV
  obtain⟨_,_,rfl,e4,d14⟩:=fK TQ;cases jM d14;cases e2;cases e3;exact⟨_,Z,e4⟩
 .obtain⟨_,_,rfl,e3,TQ⟩:=fK TV
  cases jM TQ;cases e2;exact⟨_,Z,e3⟩
 .cases jM TV
  exact⟨_,Z,e2⟩
 .cases jM TV
  cases e2;rfl
 .obtain⟨_,_,rfl,e3,TQ⟩:=fK TV
  obtain⟨_,_,rfl,e4,d14⟩:=fK TQ;obtain⟨_,_,rfl,e5,d15⟩:=fK d14;cases jM d15;cases e2;cases e5;exact⟨_,_,Z,e3,e4⟩
end
noncomputable def v1(bs:List Int):Qc->Int
 | .num n=>n % 1000
 | .box b=>(bs[b]?).getD 0
noncomputable def vx(bs:List Int):HN->Int
 | .one x=>v1 bs x
 | .two true x y=>(v1 bs x+v1 bs y) % 1000
 | .two false x y=>(v1 bs x - v1 bs y) % 1000
structure bL where
 (rws:List Rw) (pos:Nat) (bs sy:List Int) (st:Str)
noncomputable def touch:Rw->Bool
 | .load _ _=>true
 | .store _ _=>true
 | .swap _ _ _=>true
 | _=>false
noncomputable def uW(bs:List Int):Rw->Bool
 | .zW true e f _=>decide (vx bs e=vx bs f)
 | .zW false e f _=>decide (vx bs e<vx bs f)
 | _=>false
noncomputable def vJ(s:bL):Rw->bL
 | .vW b e=>{s with pos:=s.pos+1,bs:=s.bs.set b (vx s.bs e)}
 | .say e=>{s with pos:=s.pos+1,sy:=s.sy++[vx s.bs e]}
 | .go k=>{s with pos:=k}
 | .zW q e f k=>{s with pos:=if uW s.bs (.zW q e f k) then s.pos+1 else k}
 | _=>s
noncomputable def led:Nat->bL->bL
 | 0,s=>match s.rws[s.pos]? with
   | none=>{s with st:= "ends" }
   | some r=>if touch r then {s with st:= "waits" } else {s with st:= "lost" }
 | n+1,s=>match s.rws[s.pos]? with
   | none=>{s with st:= "ends" }
   | some r=>if touch r then {s with st:= "waits" } else led n (vJ s r)
noncomputable def lead(s:bL):bL:=led 60 s
theorem BJ(s:bL)(r:Rw):(vJ s r).rws=s.rws:=by cases r<;>rfl
theorem Hg(s:bL)(r:Rw):(vJ s r).sy.length<=s.sy.length+1:=by cases r<;>simp[vJ]
theorem m9:∀(n:Nat)(s:bL),(led n s).rws=s.rws
 | 0,s=>by
   unfold led;split
   .rfl
   .split<;>rfl
 | n+1,s=>by
   unfold led;split
   .rfl
   .split
    .rfl
    .rw[m9,BJ]
theorem Js:∀(n:Nat)(s:bL),(led n s).sy.length<=s.sy.length+n
 | 0,s=>by
   unfold led;split
   .simp
   .split<;>simp
 | n+1,s=>by
   unfold led;split
   .simp
   .split
    .simp
    .rename_i r _ _
     have:=Js n (vJ s r);have:=Hg s r;lia
noncomputable def mF(s:bL):Prop:=s.st = "waits" -> ∃r,s.rws[s.pos]? = some r/\touch r=true
theorem Ma:(Str.ofString "ends")≠Str.ofString "waits" :=by decide +kernel
theorem Wc:(Str.ofString "lost")≠Str.ofString "waits" :=by decide +kernel
theorem yM:∀(n:Nat)(s:bL),mF (led n s)
 | 0,s=>by
   unfold led mF;split
   .intro z;exact acq z Ma
   .rename_i r e
    split
    .intro _;exact⟨r,e,by assumption⟩
    .intro z;exact acq z Wc
 | n+1,s=>by
   unfold led;split
   .intro z;exact acq z Ma
   .rename_i r e
    split
    .intro _;exact⟨r,e,by assumption⟩
    .exact yM n _
noncomputable def new(rws:List Rw):bL:=⟨rws,0,List.replicate 8 0,[],"waits"⟩
structure iV where
 (m:Nat) (ns:List Int) (hs:List bL) (ts:List Int)
noncomputable def gj:Rw->Nat
 | .load _ c=>c
 | .store c _=>c
 | .swap _ c _=>c
 | _=>0
noncomputable def qI:Rw->Str
 | .load _ _=> "load"
 | .store _ _=> "store"
 | .swap _ _ _=> "swap"
 | .vW _ _=> "let"
 | .say _=> "say"
 | .go _=> "go"
 | .zW _ _ _ _=> "unless"
noncomputable def qK(ns:List Int):Rw->Option Int
 | .load _ c=>ns[c]?
 | .swap _ c _=>ns[c]?
 | _=>none
noncomputable def EY(bs:List Int):Rw->Option Int
 | .store _ e=>some (vx bs e)
 | .swap _ _ e=>some (vx bs e)
 | _=>none
noncomputable def oV:Option Int->V
 | none=> .non
 | some i=> .int i
noncomputable def oD:Option Int->PyData
 | none=> .none
 | some i=> .int i
noncomputable def Cj(ns bs:List Int)(r:Rw):List V:=[.str (qI r),.int (gj r),oV (qK ns r),oV (EY bs r)]
noncomputable def rH(ns bs:List Int):Rw->List Int
 | .load b c=>bs.set b ((ns[c]?).getD 0)
 | .swap b c _=>bs.set b ((ns[c]?).getD 0)
 | _=>bs
noncomputable def dz(ns bs:List Int):Rw->List Int
 | .store c e=>ns.set c (vx bs e)
 | .swap _ c e=>ns.set c (vx bs e)
 | _=>ns
noncomputable def kE(ns:List Int)(s:bL)(r:Rw):bL:=lead {s with pos:=s.pos+1,bs:=rH ns s.bs r}
noncomputable def bZ(S:iV)(k:Nat):iV:=match S.hs[k]? with
 | none=>S
 | some s=>match s.rws[s.pos]? with
   | none=>S
   | some r=>{S with ns:=dz S.ns s.bs r,hs:=S.hs.set k (kE S.ns s r),ts:=S.ts++[(k:Int)]}
noncomputable def iU(m:Nat)(ns:List Int)(rws:List (List Rw)):iV:=⟨m,ns,rws.map λr=>lead (new r),[]⟩
end Prf
namespace L2
open PySem Prf
theorem aO.kp{H H':Hp}{vs:List V}{rws:List Rw}(d:aO H vs (rws.map lR))(t:∀x xs,H x=some (.tup xs)->H' x=some (.tup xs)):aO H' vs (rws.map lR):=d.keep t _ (cj lR yS rws)
end L2
namespace L2
open PySem PySem.Spec PyProof.Rows
section
variable{X:Cx}{k:Nat}{C:Addr}{sp:Sp}
end
structure IsO(K:PySem.W.Frag)(mg:Str->Option Value)(C:Addr)(nm:Str):Prop where
 bd:mg nm=some (.ref C)
 ha:PySem.W.findIn K (.ref C) "__class__" = some (some (.builtin "object.__class__"))
 hn:PySem.W.specialIn K (.builtin "object.__class__") "__get__" = some (some (.builtin "getset_descriptor.__get__"))
 ht:PySem.W.takesIn K (.builtin "object.__class__")=some true
 hm:PySem.W.mroIn K C (.type "object")=some true
section
variable{prog:Program}{w:World}{A:Around}{E:Value->Shared->Prop}{s:Shared}
end
section
variable{prog:Program}{w:World}{A:Around}{E:Value->Shared->Prop}{s:Shared}
end
section
variable{X:Cx}
end
section
variable{K:PySem.W.Frag}{D:Addr}{xs:List V}{tc:TT}{te:TE}{Q:VK}{rest:St}{H1:Hp}
end
end L2
namespace Prf
open PySem L2
noncomputable def inR(x:Int):Prop:=0<=x/\x<1000
noncomputable def allR(l:List Int):Prop:=∀x∈l,inR x
theorem Hy{l:List Int}(h:allR l)(i:Nat):inR ((l[i]?).getD 0):=by
 cases e:l[i]? with
 | none=>exact⟨by decide,by decide⟩
 | some x=>exact h x (aaM e)
theorem zH{l:List Int}(h:allR l)(i:Nat){x:Int}(hx:inR x):allR (l.set i x):=λy hy=>by
 rcases List.mem_or_eq_of_mem_set hy with m|e
 .exact h y m
 .rw[e];exact hx
theorem Dr(x:Int):inR (x % 1000):=⟨Int.emod_nonneg _ (by decide),Int.emod_lt_of_pos _ (by decide)⟩
theorem Qj{bs:List Int}(h:allR bs):∀e:HN,inR (vx bs e)
 | .one (.num n)=>Dr n
 | .one (.box b)=>Hy h b
 | .two true x y=>Dr _
 | .two false x y=>Dr _
theorem WT{s:bL}(h:allR s.bs)(r:Rw):allR (vJ s r).bs:=by
 cases r<;>first |exact h|exact zH h _ (Qj h _)
theorem R7:∀(n:Nat)(s:bL),allR s.bs->allR (led n s).bs
 | 0,s,h=>by
   unfold led;split
   .exact h
   .split<;>exact h
 | n+1,s,h=>by
   unfold led;split
   .exact h
   .split
    .exact h
    .exact R7 n _ (WT h _)
noncomputable def abv(x:Str):Prop:=x = "waits" \/ x = "ends" \/ x = "lost"
theorem yL:∀(n:Nat)(s:bL),abv (led n s).st
 | 0,s=>by
   unfold led;split
   .exact .inr (.inl rfl)
   .split
    .exact .inl rfl
    .exact .inr (.inr rfl)
 | n+1,s=>by
   unfold led;split
   .exact .inr (.inl rfl)
   .split
    .exact .inl rfl
    .exact yL n _
structure tX(S:iV):Prop where
 n:allR S.ns
 b:∀s∈S.hs,allR s.bs
 t:∀s∈S.hs,abv s.st
theorem W_{ns bs:List Int}(h:allR ns)(hb:allR bs)(r:Rw):allR (dz ns bs r):=by
 cases r<;>first |exact h|exact zH h _ (Qj hb _)
theorem Xc{ns bs:List Int}(h:allR ns)(hb:allR bs)(r:Rw):allR (rH ns bs r):=by
 cases r<;>first |exact hb|exact zH hb _ (Hy h _)
theorem tX.turn{S:iV}(g:tX S)(k:Nat):tX (bZ S k):=by
 unfold bZ;split
 .exact g
 .rename_i s es
  split
  .exact g
  .rename_i r er
   have hb:=g.b s (aaM es);refine⟨W_ g.n hb r,λs' hs'=>?_,λs' hs'=>?_⟩
   .rcases List.mem_or_eq_of_mem_set hs' with m|e
    .exact g.b s' m
    .rw[e]
     exact R7 _ _ (Xc g.n hb r)
   .rcases List.mem_or_eq_of_mem_set hs' with m|e
    .exact g.t s' m
    .rw[e]
     exact yL _ _
theorem Oz{m:Nat}{ns:List Int}{rws:List (List Rw)}(h:allR ns):tX (iU m ns rws):=⟨h,λs hs=>by
 obtain⟨r,_,rfl⟩:=aa3.mp hs;refine R7 _ _ λx hx=>?_;rw[(List.mem_replicate.mp hx).2];exact⟨by decide,by decide⟩,λs hs=>by
 obtain⟨r,_,rfl⟩:=aa3.mp hs;exact yL _ _⟩
theorem D_:∀b:Fin 8,PyData.strOk (tZ b.val)=true:=by decide +kernel
theorem JK{x:Qc}(h:Qg x):(Aq x).canLay0=true/\(Aq x).depth<=1:=by
 cases x with
 | num n=>exact⟨by show (PyData.strOk (Str.ofString "number")&&(true&&true))=true;decide +kernel,by show (max 0 (max 0 0))+1<=1;decide⟩
 | box b=>
   refine⟨?_,by show (max 0 (max 0 0))+1<=1;decide⟩;show (PyData.strOk (Str.ofString "box")&&(PyData.strOk (tZ b)&&true))=true;rw[show PyData.strOk (tZ b)=true from D_ ⟨b,h⟩];decide +kernel
theorem vd{e:HN}(h:uX e):(mJ e).canLay0=true/\(mJ e).depth<=2:=by
 cases e with
 | one x=>obtain⟨a,b⟩:=JK (x:=x) h;exact⟨a,by show (Aq x).depth<=2;lia⟩
 | two p x y=>
   obtain⟨a1,b1⟩:=JK h.1;obtain⟨a2,b2⟩:=JK h.2;refine⟨?_, ?_⟩
   .show (PyData.strOk (if p then Str.ofString "plus" else Str.ofString "minus")&&(PyData.canLay0 (Aq x)&&(PyData.canLay0 (Aq y)&&true)))=true
    rw[a1,a2];cases p<;>decide +kernel
   .show max 0 (max (Aq x).depth (max (Aq y).depth 0))+1<=2
    lia
theorem T_{m:Nat}{r:Rw}(h:uK m r):(lR r).canLay0=true/\(lR r).depth<=3:=by
 cases r with
 | load b c=>
   refine⟨?_,by show max 0 (max 0 (max 0 0))+1<=3;decide⟩;show (PyData.strOk (Str.ofString "load")&&(PyData.strOk (tZ b)&&(true&&true)))=true;rw[show PyData.strOk (tZ b)=true from D_ ⟨b,h.1⟩];decide +kernel
 | store c e=>
   obtain⟨a,d⟩:=vd h.2;refine⟨?_, ?_⟩
   .show (PyData.strOk (Str.ofString "store")&&(true&&(PyData.canLay0 (mJ e)&&true)))=true
    rw[a];decide +kernel
   .show max 0 (max 0 (max (mJ e).depth 0))+1<=3
    lia
 | swap b c e=>
   obtain⟨a,d⟩:=vd h.2.2;refine⟨?_, ?_⟩
   .show (PyData.strOk (Str.ofString "swap")&&(PyData.strOk (tZ b)&&(true&&(PyData.canLay0 (mJ e)&&true))))=true
    rw[a,show PyData.strOk (tZ b)=true from D_ ⟨b,h.1⟩];decide +kernel
   .show max 0 (max 0 (max 0 (max (mJ e).depth 0)))+1<=3
    lia
 | vW b e=>
   obtain⟨a,d⟩:=vd h.2;refine⟨?_, ?_⟩
   .show (PyData.strOk (Str.ofString "let")&&(PyData.strOk (tZ b)&&(PyData.canLay0 (mJ e)&&true)))=true
    rw[a,show PyData.strOk (tZ b)=true from D_ ⟨b,h.1⟩];decide +kernel
   .show max 0 (max 0 (max (mJ e).depth 0))+1<=3
    lia
 | say e=>
   obtain⟨a,d⟩:=vd (e:=e) h;refine⟨?_, ?_⟩
   .show (PyData.strOk (Str.ofString "say")&&(PyData.canLay0 (mJ e)&&true))=true
    rw[a];decide +kernel
   .show max 0 (max (mJ e).depth 0)+1<=3
    lia
 | go k=>exact⟨by show (PyData.strOk (Str.ofString "go")&&(true&&true))=true;decide +kernel,by show max 0 (max 0 0)+1<=3;decide⟩
 | zW q e f k=>
   obtain⟨a1,b1⟩:=vd h.1;obtain⟨a2,b2⟩:=vd h.2;refine⟨?_, ?_⟩
   .show (PyData.strOk (Str.ofString "unless")&&(PyData.strOk (if q then Str.ofString "=" else Str.ofString "<")&&(PyData.canLay0 (mJ e)&&(PyData.canLay0 (mJ f)&&(true&&true)))))=true
    rw[a1,a2];cases q<;>decide +kernel
   .show max 0 (max 0 (max (mJ e).depth (max (mJ f).depth (max 0 0))))+1<=3
    lia
noncomputable def yR(l:List Int):PyData:= .list (l.map PyData.int)
theorem Hu(l:List Int):(yR l).canLay0=true/\(yR l).depth<=1:=⟨kO PyData.int l λ_ _=>rfl,by
 have:=iQ PyData.int 0 l λ_ _=>by show 0<=0;decide
 show PyData.depthAll (l.map PyData.int)+1<=1;lia⟩
noncomputable def sO(rws:List Rw):PyData:= .list (rws.map lR)
theorem Ht{m:Nat}{rws:List Rw}(h:∀r∈rws,uK m r):(sO rws).canLay0=true/\(sO rws).depth<=4:=⟨kO lR rws λr hr=>(T_ (h r hr)).1,by
 have:=iQ lR 3 rws λr hr=>(T_ (h r hr)).2;show PyData.depthAll (rws.map lR)+1<=4;lia⟩
mutual
theorem Hf:∀d:PyData,d.canLay0=true->PyData.eqv d d=true
 | .none,_=>rfl
 | .bool b,_=>by simp[PyData.eqv]
 | .int i,_=>by simp[PyData.eqv]
 | .str x,_=>by simp[PyData.eqv]
 | .list ds,h=>by simp only[PyData.eqv];exact uY ds (by simpa [PyData.canLay0] using h)
 | .tuple ds,h=>by simp only[PyData.eqv];exact uY ds (by simpa [PyData.canLay0] using h)
 | .dict _,h=>by simp[PyData.canLay0] at h
theorem uY:∀ds:List PyData,PyData.canLayAll0 ds=true->PyData.eqvAll ds ds=true
 | [],_=>rfl
 | d::ds,h=>by
   simp only[PyData.canLayAll0,aa0] at h;simp only[PyData.eqvAll,aa0];exact⟨Hf d h.1,uY ds h.2⟩
end
theorem Ti{d:PyData}(h:SeqAt.shaped d=true):PyData.eqv d d=true:=by
 unfold SeqAt.shaped at h;rw[aa0] at h;exact Hf d h.1
noncomputable def isLoad:Rw->Bool
 | .load _ _=>true
 | _=>false
theorem tQ{ns bs:List Int}{r:Rw}{c:Nat}(h:gj r≠c):(dz ns bs r)[c]? = ns[c]? :=by
 cases r<;>first |rfl|(simp only[gj] at h;simp only[dz];rw[List.getElem?_set_ne h])
theorem jt{ns bs:List Int}{r:Rw}(h:isLoad r=true):dz ns bs r=ns:=by
 cases r<;>first |rfl|cases h
noncomputable def apart(r q:Rw):Prop:=gj r≠gj q\/(isLoad r=true/\isLoad q=true)
theorem apart.symm{r q:Rw}(h:apart r q):apart q r:=by
 rcases h with h|⟨a,b⟩
 .exact .inl h.symm
 .exact .inr ⟨b,a⟩
theorem apart.Yn{ns bs cs:List Int}{r q:Rw}(h:apart r q):rH (dz ns bs r) cs q=rH ns cs q:=by
 rcases h with h|⟨a,_⟩
 .cases q<;>first |rfl|(simp only[rH];have h':=tQ (ns:=ns) (bs:=bs) h;simp only[gj] at h';rw[h'])
 .rw[jt a]
theorem apart.read{ns bs:List Int}{r q:Rw}(h:apart r q):qK (dz ns bs r) q=qK ns q:=by
 rcases h with h|⟨a,_⟩
 .cases q<;>first |rfl|(simp only[qK];have h':=tQ (ns:=ns) (bs:=bs) h;simp only[gj] at h';rw[h'])
 .rw[jt a]
theorem apart.cells{ns bs cs:List Int}{r q:Rw}(h:apart r q):dz (dz ns bs r) cs q=dz (dz ns cs q) bs r:=by
 rcases h with h|⟨a,b⟩
 .cases r<;>cases q<;>first |rfl|(simp only[gj] at h;simp only[dz];exact List.set_comm _ _ h)
 .rw[jt a,jt b,jt a]
theorem iG{S:iV}{k:Nat}{s:bL}{r:Rw}(es:S.hs[k]? = some s)(er:s.rws[s.pos]? = some r):bZ S k={S with ns:=dz S.ns s.bs r,hs:=S.hs.set k (kE S.ns s r),ts:=S.ts++[(k:Int)]}:=by
 unfold bZ;simp only[es,er]
theorem lV{S:iV}{f g:Nat}{s t:bL}{r q:Rw}(n:f≠g)(es:S.hs[f]? = some s)(er:s.rws[s.pos]? = some r)(et:S.hs[g]? = some t)(eq:t.rws[t.pos]? = some q):
 (bZ S f).hs[g]? = some t/\bZ (bZ S f) g={S with ns:=dz (dz S.ns s.bs r) t.bs q,hs:=(S.hs.set f (kE S.ns s r)).set g (kE (dz S.ns s.bs r) t q),ts:=S.ts++[(f:Int)]++[(g:Int)]}:=by
 have e1:=iG es er;have e2:(bZ S f).hs[g]? = some t:=by rw[e1];show (S.hs.set f _)[g]? = _;rw[List.getElem?_set_ne n];exact et
 refine⟨e2, ?_⟩;rw[iG e2 eq,e1]
theorem M7{S:iV}{f g:Nat}{s t:bL}{r q:Rw}(n:f≠g)(es:S.hs[f]? = some s)(er:s.rws[s.pos]? = some r)(et:S.hs[g]? = some t)(eq:t.rws[t.pos]? = some q)(ap:apart r q):
 (bZ (bZ S f) g).ns=(bZ (bZ S g) f).ns/\(bZ (bZ S f) g).hs=(bZ (bZ S g) f).hs:=by
 rw[(lV n es er et eq).2,(lV n.symm et eq es er).2];refine⟨ap.cells, ?_⟩;show (S.hs.set f _).set g _=(S.hs.set g _).set f _;unfold kE;rw[ap.Yn,ap.symm.Yn,List.set_comm _ _ n]
end Prf
namespace L2
open PySem
noncomputable def nw(H H':Hp):Hp:=λx=>match H x with
 | none=>H' x
 | some _=>none
section
variable{K:PySem.W.Frag}{a D:Addr}{xs:List V}{te:TE}{Q:VK}{rest:St}{H1:Hp}
end
end L2
namespace L2
open PySem PySem.Spec PyProof.Rows
section
variable{prog:Program}{w:World}{K:Type}[DecidableEq K]{knd:HeapKind prog w K}{A:Around}{E:Value->Shared->Prop}{s:Shared}
end
section
variable{X:Cx}
end
end L2
namespace Prf
open PySem L2
structure Tc where
 (k:Nat) (r:Rw) (rd wr:Option Int)
noncomputable def zP(S:iV)(t:Tc):Prop:=∃s,S.hs[t.k]? = some s/\s.st = "waits" /\ s.rws[s.pos]? = some t.r/\t.rd=qK S.ns t.r/\t.wr=EY s.bs t.r
noncomputable def Run:iV->List Tc->iV->Prop
 | S,[],S'=>S'=S
 | S,t::l,S'=>zP S t/\Run (bZ S t.k) l S'
structure HS(S T:iV):Prop where
 m:S.m=T.m
 ns:S.ns=T.ns
 hs:S.hs=T.hs
 ts:S.ts.Perm T.ts
theorem HS.refl(S:iV):HS S S:=⟨Z,Z,Z,List.Perm.refl _⟩
theorem HS.trans{S T U:iV}(a:HS S T)(b:HS T U):HS S U:=⟨a.m.trans b.m,a.ns.trans b.ns,a.hs.trans b.hs,a.ts.trans b.ts⟩
theorem zP.alk{S T:iV}{t:Tc}(h:zP S t)(a:HS S T):zP T t:=by
 obtain⟨s,h1,h2,h3,h4,h5⟩:=h;exact⟨s,by rw[←a.hs];exact h1,h2,h3,by rw[←a.ns];exact h4,h5⟩
theorem zP.turn{S:iV}{t:Tc}(h:zP S t):∃s,S.hs[t.k]? = some s/\s.rws[s.pos]? = some t.r/\bZ S t.k={S with ns:=dz S.ns s.bs t.r,hs:=S.hs.set t.k (kE S.ns s t.r),ts:=S.ts++[(t.k:Int)]}:=by
 obtain⟨s,h1,_,h3,_⟩:=h;exact⟨s,h1,h3,iG h1 h3⟩
theorem Qo{S T:iV}{t:Tc}(h:zP S t)(a:HS S T):HS (bZ S t.k) (bZ T t.k):=by
 obtain⟨s,h1,h3,e⟩:=h.turn;have h1':T.hs[t.k]? = some s:=by rw[←a.hs];exact h1
 rw[e,iG h1' h3];exact⟨a.m,by show dz _ _ _=dz _ _ _;rw[a.ns],by show List.set _ _ _=List.set _ _ _;rw[a.hs,a.ns],a.ts.append_right _⟩
theorem Run.alk:∀{l:List Tc}{S T S':iV},Run S l S'->HS S T -> ∃T',Run T l T'/\HS S' T'
 | [],S,T,S',h,a=>⟨T,Z,by have h:S'=S:=h;rw[h];exact a⟩
 | t::l,S,T,S',⟨h1,h2⟩,a=>by
   obtain⟨T',r,a'⟩:=Run.alk h2 (Qo h1 a);exact⟨T',⟨h1.alk a,r⟩,a'⟩
theorem Run.det:∀{l:List Tc}{S T T':iV},Run S l T->Run S l T'->T=T'
 | [],S,T,T',h,h'=>by
   have h:T=S:=h;have h':T'=S:=h';rw[h,h']
 | t::l,S,T,T',h,h'=>Run.det h.2 h'.2
theorem Run.app:∀{p q:List Tc}{S S':iV},Run S (p++q) S' ↔ ∃T,Run S p T/\Run T q S'
 | [],q,S,S'=>⟨λh=>⟨S,Z,h⟩,λ⟨T,h1,h2⟩=>by have h1:T=S:=h1;rw[h1] at h2;exact h2⟩
 | t::p,q,S,S'=>by
   constructor
   .rintro⟨h1,h2⟩
    obtain⟨T,a,b⟩:=Run.app.mp h2;exact⟨T,⟨h1,a⟩,b⟩
   .rintro⟨T,⟨h1,a⟩,b⟩
    exact⟨h1,Run.app.mpr ⟨T,a,b⟩⟩
noncomputable def stepT(x y:Tc):Prop:=x.k=y.k \/ ¬apart x.r y.r
theorem Run.swap{S S':iV}{x y:Tc}{l:List Tc}(n:¬stepT x y)(h:Run S (x::y::l) S'):∃UW,Run S (y::x::l) UW/\HS S' UW:=by
 obtain⟨hx,hy,hl⟩:=h;have nk:x.k≠y.k:=λz=>n (.inl z);have ap:apart x.r y.r:=Classical.byContradiction λz=>n (.inr z);obtain⟨s,s1,s2,s3,s4,s5⟩:=id hx;obtain⟨t,t1,t2,t3,t4,t5⟩:=id hy;have ex:=iG s1 s3
 have t1':S.hs[y.k]? = some t:=by
  rw[ex] at t1;have t1:(S.hs.set x.k _)[y.k]? = some t:=t1;rwa [List.getElem?_set_ne nk] at t1
 have ey:=iG t1' t3
 have hy':zP S y:=⟨t,t1',t2,t3,by
  rw[t4,ex];exact ap.read,t5⟩
 have s1':(bZ S y.k).hs[x.k]? = some s:=by
  rw[ey];show (S.hs.set y.k _)[x.k]? = some s;rw[List.getElem?_set_ne (Ne.symm nk)];exact s1
 have hx':zP (bZ S y.k) x:=⟨s,s1',s2,s3,by
  rw[s4,ey];exact ap.symm.read.symm,s5⟩
 obtain⟨w1,w2⟩:=M7 nk s1 s3 t1' t3 ap
 have al:HS (bZ (bZ S x.k) y.k) (bZ (bZ S y.k) x.k):=by
  refine⟨?_,w1,w2, ?_⟩
  .rw[(lV nk s1 s3 t1' t3).2,(lV (Ne.symm nk) t1' t3 s1 s3).2]
  .rw[(lV nk s1 s3 t1' t3).2,(lV (Ne.symm nk) t1' t3 s1 s3).2]
   show (S.ts++[(x.k:Int)]++[(y.k:Int)]).Perm (S.ts++[(y.k:Int)]++[(x.k:Int)]);rw[List.append_assoc,List.append_assoc];exact List.Perm.append_left _ (List.Perm.swap _ _ _)
 obtain⟨UW,r,a⟩:=hl.alk al;exact⟨UW,⟨hy',hx',r⟩,a⟩
theorem Run.front:∀{pre:List Tc}{S S':iV}{x:Tc}{post:List Tc},(∀p∈pre,¬stepT p x)->Run S (pre++x::post) S' -> ∃UW,Run S (x::(pre++post)) UW/\HS S' UW
 | [],S,S',x,post,_,h=>⟨S',h,HS.refl _⟩
 | p::pre,S,S',x,post,n,⟨h1,h2⟩=>by
   obtain⟨T,r,a⟩:=Run.front (λq hq=>n q (.tail _ hq)) h2;obtain⟨U,r',a'⟩:=Run.swap (n p (.head _)) (show Run S (p::x::(pre++post)) T from ⟨h1,r⟩);exact⟨U,r',a.trans a'⟩
inductive JX(l:List Tc):List Nat->Prop
 | nil:JX l []
 | snoc {o:List Nat} {a:Nat} {x:Tc} (h:JX l o) (e:l[a]? = some x) (n:a∉o) (q:∀m y,m<a->l[m]? = some y->stepT y x->m∈o):JX l (o++[a])
noncomputable def pick(l:List Tc)(o:List Nat):List Tc:=o.filterMap λi=>l[i]?
noncomputable def Bj(l:List Tc)(o:List Nat):List Nat:=(List.range l.length).filter λi=> !o.contains i
theorem tG{p:Nat->Bool}{a:Nat}:∀n,a<n->p a=true->(List.range n).filter p=(List.range a).filter p++a::((List.range n).filter λi=>p i&&decide (a<i))
 | 0,h,_=>by lia
 | n+1,h,q=>by
   rw[List.range_succ,ab0,ab0];rcases Nat.lt_or_ge a n with l|l
   .have f:List.filter (λi=>p i&&decide (a<i)) [n]=List.filter p [n]:=by
     rw[abD,abD];cases p n<;>simp[l]
    rw[tG n l q,f];simp
   .have:a=n:=by lia
    subst this;have f1:List.filter p [a]=[a]:=by rw[abD,ab9 q];rfl
    have f2:(List.range a).filter (λi=>p i&&decide (a<i))=[]:=List.filter_eq_nil_iff.mpr λi hi z=>by
     have:=aby.mp hi;simp at z;lia
    have f3:List.filter (λi=>p i&&decide (a<i)) [a]=[]:=by rw[abD];simp
    rw[f1,f2,f3];simp
theorem Nq{l:List Tc}{o:List Nat}{a:Nat}(ha:a<l.length)(n:a∉o):∃pre post,Bj l o=pre++a::post/\Bj l (o++[a])=pre++post /\ ∀m∈pre,m<a/\m∉o:=by
 have pa:(!o.contains a)=true:=by simpa using n
 have e:=tG (p:=λi=> !o.contains i) l.length ha pa;refine⟨_,_,e, ?_,λm hm=>?_⟩
 .unfold Bj
  have c:∀i,(!(o++[a]).contains i)=((!o.contains i) && !decide (i=a)):=λi=>by
   rw[List.contains_append]
   by_cases q:i=a<;>simp[q]
  have e2:(List.range l.length).filter (λi=> !(o++[a]).contains i)=((List.range l.length).filter λi=> !o.contains i).filter λi=> !decide (i=a):=by
   rw[List.filter_filter];refine List.filter_congr λi _=>?_;rw[c,Bool.and_comm]
  rw[e2,e,ab0,abD];simp only[decide_true,Bool.not_true,Bool.false_eq_true,if_false];congr 1
  .exact List.filter_eq_self.mpr λi hi=>by
    have:=aby.mp (abw.mp hi).1;simp;lia
  .exact List.filter_eq_self.mpr λi hi=>by
    have:=(abw.mp hi).2;simp at this ⊢;lia
 .obtain⟨h1,h2⟩:=abw.mp hm
  exact⟨aby.mp h1,by simpa using h2⟩
theorem oO(l:List Tc)(a b:List Nat):pick l (a++b)=pick l a++pick l b:=by unfold pick;rw[List.filterMap_append]
theorem lY{l:List Tc}{a:Nat}{x:Tc}(e:l[a]? = some x)(b:List Nat):pick l (a::b)=x::pick l b:=by
 unfold pick;rw[List.filterMap_cons,e]
theorem QV(l:List Tc):pick l (Bj l [])=l:=by
 unfold pick Bj;have:(List.range l.length).filter (λi=> !([]:List Nat).contains i)=List.range l.length:=List.filter_eq_self.mpr λi _=>by simp
 rw[this];refine List.ext_getElem? λi=>?_
 have gen:∀n,n<=l.length->(List.range n).filterMap (λi=>l[i]?)=l.take n:=by
  intro n
  induction n with
  | zero=>intro _;rfl
  | succ n ih=>
    intro hn;rw[List.range_succ,List.filterMap_append,ih (by lia),aa6];congr 1
 rw[gen _ (aaG _),aa4]
theorem Run.other{l:List Tc}{S S':iV}(h:Run S l S'){o:List Nat}(O:JX l o):∃T UW,Run S (pick l o) T/\Run T (pick l (Bj l o)) UW/\HS S' UW:=by
 induction O with
 | nil=>exact⟨S,S',Z,by rw[QV];exact h,HS.refl _⟩
 | @snoc o a x O e n q ih=>
   obtain⟨T,S1,r1,r2,al⟩:=ih;have ha:a<l.length:=(aaf.mp e).1;obtain⟨pre,post,e1,e2,e3⟩:=Nq ha n;rw[e1,oO,lY e] at r2
   have np:∀p∈pick l pre,¬stepT p x:=λp hp st=>by
    unfold pick at hp;obtain⟨m,hm,em⟩:=List.mem_filterMap.mp hp;obtain⟨lm,nm⟩:=e3 m hm;exact nm (q m p lm em st)
   obtain⟨S2,r3,al2⟩:=Run.front np r2;obtain⟨r3a,r3b⟩:=r3;refine⟨bZ T x.k,S2, ?_,by rw[e2,oO];exact r3b,al.trans al2⟩;rw[oO,lY e];exact Run.app.mpr ⟨T,r1,r3a,Z⟩
theorem Run.next{l:List Tc}{S S' T:iV}(h:Run S l S'){o:List Nat}{a:Nat}{x:Tc}(O:JX l (o++[a]))(e:l[a]? = some x)(r:Run S (pick l o) T):zP T x:=by
 obtain⟨U,_,r1,_,_⟩:=h.other O;rw[oO,lY e] at r1;obtain⟨T',r2,r3,_⟩:=Run.app.mp r1;rw[r.det r2];exact r3
end Prf
namespace L2
open PySem PySem.Spec PyProof.Rows
section
variable{P:Program}{w:World}{K:PySem.W.Frag}{mg:Str->Option Value}{base:Heap}
noncomputable def Yw(P:Program)(w:World)(K:PySem.W.Frag)(mg:Str->Option Value)(base:Heap)(k:Nat)(x:Str)(ps:List Str)(ni:List V)(sp:Sp):Prop:=
 ∃f fd ds,bN P w K mg base (qC P w) k f fd ps sp/\mg x=some (.ref f)/\PySem.W.keepIn K (.ref f)=true/\Binds K fd ps ds/\Vals ni ds
noncomputable def Yv(P:Program)(w:World)(K:PySem.W.Frag)(mg:Str->Option Value)(base:Heap)(k:Nat)(x:Str)(ps:List Str)(kn:Str)(sp:Sp):Prop:=
 ∃f fd,bN P w K mg base (qC P w) k f fd ps sp/\mg x=some (.ref f)/\PySem.W.keepIn K (.ref f)=true /\
  ∀(s:Shared)(us:List Value)(z:Value),K.In s.heap->(us++[z]).length=ps.length->BindsTo s fd ⟨us,[(kn,z)]⟩ (ps.zip (us++[z]))
end
section
variable{X:Cx}{k:Nat}{x kn:Str}{ps:List Str}{sp:Sp}{ni:List V}{e ke:Expr}{es:List Expr}{te:TE}{t:TA}{p pos kpos:Pos}{E:St->XK}
end
theorem G9{K:PySem.W.Frag}{C:Addr}{bmB:List Value}{newId:String}(q:PySem.W.excIn K C bmB newId=true):PySem.W.subIn K (.ref C) (.ref C)=some true:=by
 unfold PySem.W.excIn at q;split at q
 .rename_i d0 cd sl lk
  split at q
  .rename_i C1 tl a0 a1 a2 a3 nn a5 em es
   simp only[aa0,beq_iff_eq] at q;obtain⟨⟨⟨⟨⟨e1,_⟩,_⟩,_⟩,_⟩,_⟩:=q;show PySem.W.mroIn K C (.ref C)=some true;unfold PySem.W.mroIn PySem.W.clsIn;rw[lk];show (if cd.mro.isEmpty then none else some (cd.mro.contains (.ref C)))=some true;rw[em,e1];simp
  .cases q
 .cases q
noncomputable def Lb(K:PySem.W.Frag)(C:Addr):List (Addr×TS)->TS
 | []=>λ_ _ _=>False
 | (Dc,th)::ts=>λD σ H=>(PySem.W.subIn K (.ref C) (.ref Dc)=some true/\th D σ H)\/(PySem.W.subIn K (.ref C) (.ref Dc)=some false/\Lb K C ts D σ H)
noncomputable def abg(K:PySem.W.Frag)(ts:List (Addr×TS))(tb:(St->XK)->TS):TS:=λD σ H=>
 tb (λσ1 cls dx H1=>∃C,cls = .ref C/\Lb K C ts D σ1 H1) D σ H
inductive PH(X:Cx):List ExceptHandler->List (Addr×TS)->Prop where
 | nil:PH X [] []
 | cons {cn:Str} {cp hpos:Pos} {b0:Stmt} {suite:List Stmt} {Dc:Addr} {th:TS} {hs:List ExceptHandler} {ts:List (Addr×TS)} (hg:Gl X cn) (hm:X.mg cn=some (.ref Dc)) (hD:XHd X.K Dc) (hh:∀e,Eh (zp X e) (b0::suite) th) (hd:(cn==("__debug__" :Str))=false) (r:PH X hs ts):PH X (.ExceptHandler (some (.Name cn cp)) none (b0::suite) hpos::hs) ((Dc,th)::ts)
section
variable{X:Cx}{body:List Stmt}{h0:ExceptHandler}{hs:List ExceptHandler}{ts:List (Addr×TS)}{tb:(St->XK)->TS}{pos:Pos}
theorem Vr(hc:X.calm=true)(hx:X.ex=[])(hst:X.stack=X.env::X.outer)(hfm:X.env.frame=some X.env.locals)(hb:∀(pn:List (Addr×Obj))(xe:Value->Shared->Prop)(E:St->XK),PassesOwn (model X.prog X.w) X.A X.env xe->Rz {X with pn:=pn,xe:=xe} E->Eh {X with pn:=pn,xe:=xe} body (tb E))(hp:PH X (h0::hs) ts):
 PS X (.Try body (h0::hs) [] [] pos) (abg X.K ts tb):=by
 intro pins s σ H D I h;refine wpAny_Try_except ?_
 refine wpAny_mono (hb (X.pn++pins) (λe s₁=>wpAny (model X.prog X.w) X.A (noteFrame e X.env) (λ_ s₂=>wpAny (model X.prog X.w) X.A (setFlight e none) (λ_ s₃=>wpAny (model X.prog X.w) X.A (handleBy e X.env (h0::hs)) (SP X pins D) X.xe s₃) X.xe s₂) X.xe s₁) (λσ1 cls dx H1=>∃C,cls = .ref C/\Lb X.K C ts D σ1 H1)
  PassesOwn.looking ?_ [] s σ H D (I.Xy _) h) (λf s1 q=>?_) λ_ _ q=>q
 .intro i_ σ1 H1 s1 e cls dx fl hfl I1 fe x hE
  obtain⟨C,rfl,hth⟩:=hE;have lo1:∀b,(b=e\/(wZ (nJ X pins X.xe) i_ H1 b\/s1.heap.get? b=none))->wZ (nJ X pins X.xe) i_ H1 b\/s1.heap.get? b=none:=λb z=>z.elim (λz=> .inl (by rw[z];exact fe)) λz=>z;have hfr:X.A.frames=some (X.env::X.outer):=by rw[←hst];exact I.ok.frames
  have hff:s1.heap.FunFrames X.base (X.env::X.outer):=by rw[←hst];exact I1.stack
  refine Qe (base:=X.base) (lo:=λT=>wZ (nJ X pins X.xe) i_ H1 T\/s1.heap.get? T=none) hfl hfr hff hfm (x.imp λT _ z=> .inl z) (λT z=> .inr z) λh1 n1 x1=>?_;refine Ez (fr:=frs (X.env::X.outer)) x1 λh2 n2 x2=>?_;have n12:mD (frs X.stack) e (λT=>wZ (nJ X pins X.xe) i_ H1 T\/s1.heap.get? T=none) s1.heap h2:=by rw[hst];exact n1.trans n2
  have I2:Inv X pins σ1 H1 {s1 with heap:=h2}:=(I1.noted n12 lo1).nG
  have go:∀(hs:List ExceptHandler)(ts:List (Addr×TS)),PH X hs ts->Lb X.K C ts D σ1 H1->wpAny (model X.prog X.w) X.A (handleBy (.ref e) X.env hs) (SP X pins D) X.xe {s1 with heap:=h2}:=by
   intro hs ts p
   induction p with
   | nil=>intro z;exact z.elim
   | @cons cn cp hpos b0 suite Dc th hs ts hg hm hD hh hd r ih=>
     intro hth;refine wpAny_handleBy_cons (codeAny_handlers_test (lB (I2.Ck e) hg hm ?_ hd)) (by intro z;cases z);obtain⟨oe,vs,q1,q2,q3,q4⟩:=x2.there;rcases hth with ⟨hsub,hth⟩|⟨hsub,hth⟩
     .refine pA (K:=X.K) I2.nW q1 q2 hD.cl hD.ty hD.bs hsub ?_
      rw[ab9 rfl];refine codeAny_handlers_suite ?_;refine Ez (fr:=frs (X.env::X.outer)) x2 λh3 n3 x3=>?_;have n13:mD (frs X.stack) e (λT=>wZ (nJ X pins X.xe) i_ H1 T\/s1.heap.get? T=none) s1.heap h3:=by rw[hst];exact(n1.trans n2).trans n3
      have I3:Inv X pins σ1 H1 {s1 with heap:=h3}:=(I1.noted n13 lo1).nG;refine wpAny_mono (hh e pins _ _ _ D (I3.Ck e) hth) (λf s6 q6=>?_) λ_ _ z=>z.elim;cases f with
      | next=>
        obtain⟨σ6,H6,J6,r6⟩:=q6;exact⟨_,H6,J6.o8 I.ok.hd,r6⟩
      | brk=>
        obtain⟨σ6,H6,J6,r6⟩:=q6;exact⟨_,H6,J6.o8 I.ok.hd,r6⟩
      | cont=>
        obtain⟨σ6,H6,J6,r6⟩:=q6;exact⟨_,H6,J6.o8 I.ok.hd,r6⟩
      | ret u=>
        obtain⟨v6,σ6,H6,J6,rv,r6⟩:=q6;exact⟨v6,_,H6,J6.o8 I.ok.hd,rv,r6⟩
     .refine pA (K:=X.K) I2.nW q1 q2 hD.cl hD.ty hD.bs hsub ?_
      rw[ab6 (by decide)];exact ih hth
  exact go _ _ hp hth
 .cases f with
  | next=>obtain⟨σ1,H1,J,r⟩:=q;exact wpAny_execs_nil ⟨σ1,H1,J.nG,r⟩
  | brk=>obtain⟨σ1,H1,J,r⟩:=q;exact⟨σ1,H1,J.nG,r⟩
  | cont=>obtain⟨σ1,H1,J,r⟩:=q;exact⟨σ1,H1,J.nG,r⟩
  | ret u=>obtain⟨v,σ1,H1,J,rv,r⟩:=q;exact⟨v,σ1,H1,J.nG,rv,r⟩
end
section
variable{X:Cx}
end
end L2
namespace L2
open PySem PySem.Spec PyProof.Rows PySem.Builtin PySem.Builtin.Str
section
variable{X:Cx}{K:PySem.W.Frag}
end
end L2
namespace L2
open PySem PySem.Spec PyProof.Rows
section
variable{X:Cx}{k:Nat}{x:Str}{ps:List Str}{sp:Sp}{p pos:Pos}
end
section
variable{X:Cx}
noncomputable def Xz(vs:List V):TA:=λ_ H Q=>Q vs H
noncomputable def vN:List Expr->List Str->Bool
 | [],[]=>true
 | .Constant (.str x) _ _::es,y::ys=>(x==y)&&vN es ys
 | _,_=>false
theorem Dm:∀{es:List Expr}(ss:List Str),vN es ss=true->PA X es (Xz (ss.map V.str))
 | [],[],_=>ao
 | [],_::_,h=>by simp[vN] at h
 | .Constant (.str x) j pos::es,y::ys,h=>by
   simp only[vN,aa0,beq_iff_eq] at h;obtain⟨rfl,h⟩:=h;exact aj (bw (x:=x) (j:=j) (pos:=pos)) (Dm ys h)
 | e::es,[],h=>by unfold vN at h;split at h<;>simp_all
 | .Constant (.int _) _ _::_,_::_,h=>by simp[vN] at h
 | e::es,y::ys,h=>by
   unfold vN at h;split at h
   .simp_all
   .rename_i h1 h2
    injection h1 with a b
    injection h2 with c d
    subst a b c d;simp only[aa0,beq_iff_eq] at h;obtain⟨rfl,h⟩:=h;exact aj bw (Dm _ h)
   .cases h
theorem Vz{es:List Expr}{pos:Pos}(ss:List Str)(h:vN es ss=true):PE X (.List es pos) (abm (Xz (ss.map V.str))):=bK (Dm ss h)
end
section
variable{prog:Program}{w:World}{K:Type}[DecidableEq K]{knd:HeapKind prog w K}{A:Around}{E:Value->Shared->Prop}{s:Shared}{d:Addr}{xs:List (K×Addr×Value)}
end
section
variable{X:Cx}{pos:Pos}{k v a:Expr}{tk tv ta:TE}
noncomputable def XS(K:PySem.W.Frag):R2:=λx y H Q=>∃a b xs ys,x = .ref a/\y = .ref b/\cA K H a xs/\cA K H b ys/\xs.length+ys.length<=sizeLine /\
 (xs=[]->Q (.ref b) H)/\(xs≠[]->ys=[]->Q (.ref a) H)/\(xs≠[]->ys≠[] -> ∀p,H p=none->Q (.ref p) (upd H p (.tup (xs++ys))))
theorem sW{K:PySem.W.Frag}(hK:X.K=K):qy X (binaryOp .Add) (XS K):=by
 subst hK;intro pins s σ H x y v u Q I rx ry h;obtain⟨a,b,xs,ys,rfl,rfl,ha,hb,hz,q0,q1,q2⟩:=h
 by_cases hx:xs=[]
 .cases rx
  cases ry;obtain⟨its,r1,p1,_⟩:=I.tuple ha;obtain⟨its2,r2,p2,_⟩:=I.tuple hb;have hv:its=[]:=r1.wR.mpr hx;obtain⟨⟨c1,d1,akj,sl1⟩,ho,hc,n,hd⟩:=id p1;obtain⟨⟨c2,d2,aki,sl2⟩,ho2,hc2,n2,hd2⟩:=id p2;simp only at hc hd hc2 hd2;subst hc hd hc2 hd2;exact concat_meets ⟨_,ho,Z⟩ ⟨_,ho2,Z⟩ noFill_tuple_add seq_tuple_add F.slot_tuple_add F.entry_tuple_add (F.args_tuple_add_2 _ _) (tuple_addW0 a b its.toArray its2.toArray n n2 d1 d2 sl1 sl2 (by simp[hv])) ⟨ho,ho2,.ref b,H,I,Z,q0 hx⟩
 .exact Lj pins s σ H _ _ v u Q I rx ry ⟨a,b,xs,ys,Z,Z,ha,hb,hx,hz,q1 hx,q2 hx⟩
end
section
variable{d:Addr}{o:Obj}{kvs:List (List Key×V)}{g:TG}{tb:TS}{D:Ends}{σ:St}{H:Hp}
end
section
variable{X:Cx}
end
end L2
namespace L2
open PySem PySem.Spec PyProof.Rows PySem.W
section
variable{P:Program}{w:World}{H:Hp}{h h':Heap}{p:Addr}{ps:Array Value}
end
section
variable{X:Cx}
end
section
variable{X:Cx}{k:Nat}{N ps:List Str}{qual:Str}{params:Arguments}{body:Expr}{scope:Scope}{sp:List V->Hp->VK->Prop}{pm:Value}{f:Addr}
end
section
variable{X:Cx}{pins:List (Addr×Obj)}{σ:St}{H:Hp}{q l I S:Addr}{xs:List V}
end
section
variable{X:Cx}{a:Expr}{ta:TA}{tk:TE}{p pos kp ajw:Pos}{k:Nat}{N ps:List Str}{qual:Str}{params:Arguments}{body:Expr}{scope:Scope}{sp:List V->Hp->VK->Prop}{pm:Value}
end
section
variable{P:Program}{w:World}{K:PySem.W.Frag}{mg:Str->Option Value}{base:Heap}
end
end L2
namespace L2
open PySem PySem.Spec PyProof.Rows
section
variable{X:Cx}{K:PySem.W.Frag}
end
end L2
namespace L2
open PySem PyProof.Rows
theorem Ey:∀{ps:List Str}{us:List Value},us.length=ps.length->ps.Nodup->(ps.filter λn=>((ps.zip us).lookup n).isNone)=[]/\(ps.filterMap λn=>((ps.zip us).lookup n).map (n,·))=ps.zip us
 | [],[],_,_=>⟨Z,Z⟩
 | p::ps,u::us,hl,nd=>by
   rw[List.nodup_cons] at nd;obtain⟨h1,h2⟩:=Ey (ps:=ps) (us:=us) (by simpa using hl) nd.2
   have e:∀n∈ps,((p::ps).zip (u::us)).lookup n=(ps.zip us).lookup n:=λn hn=>by
    rw[List.zip_cons_cons,List.lookup_cons];rw[show (n==p)=false from beq_eq_false_iff_ne.mpr λz=>nd.1 (by rw[←z];exact hn)]
   have e0:((p::ps).zip (u::us)).lookup p=some u:=by rw[List.zip_cons_cons,List.lookup_cons];simp
   constructor
   .rw[abD,e0,ab6 (by simp)]
    rw[←h1];exact List.filter_congr λn hn=>by rw[e n hn]
   .rw[List.filterMap_cons,e0]
    refine congrArg ((p,u) :: ·) (Eq.trans ?_ h2);clear h1 h2 e0 hl;revert e;generalize ((p::ps).zip (u::us))=a;generalize ps.zip us=b;intro e
    induction ps with
    | nil=>rfl
    | cons q ps ih=>
      rw[List.filterMap_cons,List.filterMap_cons,e q (by simp),ih ⟨λz=>nd.1 (by simp[z]),(List.nodup_cons.mp nd.2).2⟩ λn hn=>e n (by simp[hn])]
 | [],_::_,hl,_=>by simp at hl
 | _::_,[],hl,_=>by simp at hl
noncomputable def m6(a:Arguments)(ps:List Str):Bool:=a.posonlyargs.isEmpty&&decide (a.args.map (·.arg)=ps)&&a.vararg.isNone&&a.kwonlyargs.isEmpty&&a.kwarg.isNone&&decide ps.Nodup
theorem zy{fd:FuncData}{ps:List Str}{us:List Value}(h:m6 fd.params ps=true)(hd:fd.defaults = .none)(hl:us.length=ps.length):bindArgs fd ⟨us,[]⟩=pure (ps.zip us):=by
 unfold m6 at h;simp only[aa0,decide_eq_true_eq,List.isEmpty_iff,Option.isNone_iff_eq_none] at h;obtain⟨⟨⟨⟨⟨h1,h2⟩,h3⟩,h4⟩,h5⟩,nd⟩:=h;obtain⟨z1,z2⟩:=Ey hl nd;have e0:seqItems? Value.none=pure none:=Z;unfold bindArgs;simp only[h1,h2,h3,h4,h5,hd,e0,List.map_nil,List.nil_append,List.append_nil,pure_bind,Option.getD_none];rw[List.forIn_nil,pure_bind];dsimp only;rw[ab6 (by rw[hl];simp)];simp only[List.length_nil,Nat.zero_sub,List.drop_nil,Nat.sub_zero,aa4,z1,List.isEmpty_nil,Bool.not_true,Bool.false_eq_true,if_false,List.zip_nil_right,List.forIn_nil,pure_bind,z2,Array.toList_empty]
end L2
namespace L2
open PySem PySem.Spec PyProof.Rows PySem.W
theorem gP.zx{K:PySem.W.Frag}{x qual:Str}{st:Stmt}{f:Addr}{fd:FuncData}{ps:List Str}(F:gP K x qual st f fd)(h:m6 (cC st) ps=true):Binds K fd ps []:=
 F.binds λ_ _ _ _ _ _ _ hl=>zy h rfl hl
theorem gP.bind1{K:PySem.W.Frag}{x qual a:Str}{st:Stmt}{f:Addr}{fd:FuncData}(F:gP K x qual st f fd)(h:m6 (cC st) [a]=true)(s:Shared)(v:Value):BindsTo s fd ⟨[v],[]⟩ [(a,v)]:=by
 obtain⟨oc,od,kV,doc,pm,an,cdv,ct,osl,rfl,lk,hcd⟩:=F.ex;exact .of_eq (zy (ps:=[a]) h rfl rfl)
noncomputable def fH(K:PySem.W.Frag)(x:Str)(st:Stmt):Prop:=∃f fd,nsIn K mainGlobals x=some (some (.ref f))/\gP K x x st f fd
noncomputable def qH(K:PySem.W.Frag)(C:Addr)(m q:Str)(st:Stmt):Prop:=∃f fd,(findIn K (.ref C) m=some (some (.ref f))/\isFn K (.ref f)=true)/\gP K m q st f fd
section
variable{K:PySem.W.Frag}{x m q:Str}{st:Stmt}{f p C c:Addr}{oc:Value}{od an:Option Addr}{osl:Array (Option Value)}{kV doc pm cdv ct:Value}
theorem O5(a:nsIn K mainGlobals x=some (some (.ref f)))(l:K.lookup f=some ⟨oc,od,.func (PySem.W.fnOf x x (cC st) (cT st) (aH st) .none kV doc pm an cdv ct),osl⟩)(c:PySem.W.codeIn K cdv x=true)(k:PySem.W.keepIn K (.ref f)=true):fH K x st:=⟨_,_,a,SX l c k⟩
theorem WW(a:findIn K (.ref C) m=some (some (.ref f)))(l:K.lookup f=some ⟨oc,od,.func (PySem.W.fnOf m q (cC st) (cT st) (aH st) .none kV doc pm an cdv ct),osl⟩)(c:PySem.W.codeIn K cdv q=true)(k:PySem.W.keepIn K (.ref f)=true)(n:isFn K (.ref f)=true):qH K C m q st:=⟨_,_,⟨a,n⟩,SX l c k⟩
end
noncomputable def aaz(K:PySem.W.Frag)(C:Addr):List Str->Prop
 | []=>True
 | a::l=>findIn K (.ref C) a=some none/\aaz K C l
noncomputable def Ul(K:PySem.W.Frag):List Str->Prop
 | []=>True
 | a::l=>nsIn K mainGlobals a=some none/\Ul K l
noncomputable def ac1(mg:Str->Option Value):List Str->Prop
 | []=>True
 | a::l=>mg a=none/\ac1 mg l
theorem Ul.mg{K:PySem.W.Frag}{h:Heap}{mg:Str->Option Value}(X:K.In h)(G:h.Ns mainGlobals mg):∀{l:List Str},Ul K l->ac1 mg l
 | [],_=>trivial
 | _::_,z=>⟨mg_none_of X G z.1,Ul.mg X G z.2⟩
structure Ur(K:PySem.W.Frag)(x:Str)(C:Addr):Prop where
 a:nsIn K mainGlobals x=some (some (.ref C))
 pg:plainGet K C Str.empty=true
 hd:hasDictIn K C=true
 po:plainOver K C=true
 sa:findIn K (.ref C) "__setattr__" = some (some (.builtin "object.__setattr__"))
 ms:makesIn K C=true
 kp:keepIn K (.ref C)=true
theorem Ur.cls{K:PySem.W.Frag}{x:Str}{C:Addr}(I:Ur K x C):Cls K C:=⟨I.pg,I.hd,I.po,I.sa⟩
structure Xi(K:PySem.W.Frag)(x:Str)(C:Addr):Prop where
 a:nsIn K mainGlobals x=some (some (.ref C))
 cl:(clsIn K C).isSome=true
 ty:typeIn K (.ref C)=some (.type "type")
 bs:subIn K (.ref C) (.type "BaseException")=some true
structure XrI(K:PySem.W.Frag)(C:Addr):Prop where
 ga:findIn K (.ref C) "__getattribute__" = some (some (.builtin "BaseException.__getattribute__"))
 gk:findIn K (.ref C) "__getattr__" = some none
 mB:mroIn K C (.type "BaseException")=some true
 ca:findIn K (.ref C) "__class__" = some (some (.builtin "object.__class__"))
 mo:mroIn K C (.type "object")=some true
 ve:subIn K (.ref C) (.type "ValueError")=some true
 ex:excIn K C [.type "ValueError",.type "Exception",.type "BaseException",.type "object"] "ValueError.__new__" = true
structure XcI(K:PySem.W.Frag):Prop where
 cg:specialIn K (.builtin "object.__class__") "__get__" = some (some (.builtin "getset_descriptor.__get__"))
 ct:takesIn K (.builtin "object.__class__")=some true
structure At8(P:Program)(w:World)(K:PySem.W.Frag)(mg:Str->Option Value)(base:Heap):Prop where
 h:∃h,K.In h/\h.Ns mainGlobals mg
section
variable{P:Program}{w:World}{K:PySem.W.Frag}{mg:Str->Option Value}{base:Heap}{x m q:Str}{st:Stmt}{p C D:Addr}{k:Nat}{ps:List Str}{sp:Sp}{h:Heap}{b:Bool}
theorem Xi.o{R:Addr}(I:Xi K x C)(X:K.In h)(G:h.Ns mainGlobals mg)(Q:cY K R C b):Xo K mg R C x b:=⟨mg_of X G I.a,⟨I.cl,I.ty,I.bs⟩,Q⟩
theorem Xi.r(I:Xi K x C)(X:K.In h)(G:h.Ns mainGlobals mg)(R:XrI K C)(c:XcI K):Xr K mg C x:=⟨mg_of X G I.a,⟨I.cl,I.ty,I.bs⟩,⟨R.ga,R.gk,R.mB,I.cl,R.ca,c.cg,c.ct,R.mo⟩,R.ex,R.ve⟩
variable(Y:At8 P w K mg base)
include Y
theorem At8.fn(D:fH K x st)(ok:∀{f:Addr}{fd:FuncData},gP K x x st f fd->bN P w K mg base iY k f fd ps sp)(hp:m6 (cC st) ps=true:=by kernel_rfl):FnAt P w K mg base k x ps sp:=by
 obtain⟨h,X,G⟩:=Y.h;obtain⟨f,fd,a,F⟩:=D;exact⟨f,fd,ok F,mg_of X G a,F.kp,F.zx hp⟩
theorem At8.fnX(D:fH K x st)(ok:∀{f:Addr}{fd:FuncData},gP K x x st f fd->bN P w K mg base (qC P w) k f fd ps sp)(hp:m6 (cC st) ps=true:=by kernel_rfl):qN P w K mg base k x ps sp:=by
 obtain⟨h,X,G⟩:=Y.h;obtain⟨f,fd,a,F⟩:=D;exact⟨f,fd,ok F,mg_of X G a,F.kp,F.zx hp⟩
theorem At8.me(D:qH K C m q st)(ok:∀{f:Addr}{fd:FuncData},gP K m q st f fd->bN P w K mg base iY k f fd ps sp)(hp:m6 (cC st) ps=true:=by kernel_rfl):MethAt P w K mg base k C m ps sp:=by
 obtain⟨f,fd,⟨a,n⟩,F⟩:=D;exact⟨f,fd,ok F,⟨a,n,F.kp⟩,F.zx hp⟩
theorem At8.meX(D:qH K C m q st)(ok:∀{f:Addr}{fd:FuncData},gP K m q st f fd->bN P w K mg base (qC P w) k f fd ps sp)(hp:m6 (cC st) ps=true:=by kernel_rfl):jP P w K mg base k C m ps sp:=by
 obtain⟨f,fd,⟨a,n⟩,F⟩:=D;exact⟨f,fd,ok F,⟨a,n,F.kp⟩,F.zx hp⟩
theorem At8.ma(I:Ur K x C)(D:qH K C "__init__" q st)(ok:∀{f:Addr}{fd:FuncData},gP K "__init__" q st f fd->bN P w K mg base iY k f fd ps sp)(hp:m6 (cC st) ps=true:=by kernel_rfl):pO P w K mg base k C x ps [] sp:=by
 obtain⟨h,X,G⟩:=Y.h;obtain⟨f,fd,⟨a,n⟩,F⟩:=D;exact⟨f,fd,[],ok F,⟨I.ms,a,n,I.kp⟩,mg_of X G I.a,F.zx hp,.nil⟩
end
end L2
namespace Tip
open PySem PyProof.Rows
noncomputable def lC:Bool->Keyed->Array Keyed->Nat->Nat->Nat->StateT SortSt Sem (Option Nat):=sortPriv% PySem.Builtin.gallop
noncomputable def qw(left:Bool)(key:Keyed)(arr:Array Keyed)(base i:Nat):StateT SortSt Sem (Option Bool):=do
 let x ←elem' arr (base+i)
 if left then lt' x key else return (←lt' key x).map (!·)
noncomputable def glB(left:Bool)(key:Keyed)(arr:Array Keyed)(base n lo hi:Nat):StateT SortSt Sem (Option Nat):=do
 let mut lo:=lo
 let mut hi:=hi
 for _ in [0:n] do
  if lo≥hi then break
  let m:=lo+(hi - lo) / 2
  let some more ←qw left key arr base m|return none
  if more then lo:=m+1 else hi:=m
 return some hi
theorem JB(left:Bool)(key:Keyed)(arr:Array Keyed)(base n hint:Nat):lC left key arr base n hint=(do
 let mut lastofs:=0
 let mut ofs:=1
 let some right ←qw left key arr base hint|return none
 if right then
  for _ in [0:n] do
   if ofs≥n - hint then break
   let some more ←qw left key arr base (hint+ofs)|return none
   if !more then break
   lastofs:=ofs
   ofs:=2*ofs+1
  glB left key arr base n (hint+lastofs+1) (hint+min ofs (n - hint))
 else
  for _ in [0:n] do
   if ofs≥hint+1 then break
   let some found ←qw left key arr base (hint - ofs)|return none
   if found then break
   lastofs:=ofs
   ofs:=2*ofs+1
  glB left key arr base n (hint+1 - min ofs (hint+1)) (hint - lastofs)):=Z
section
variable{prog:Program}{w:World}{A:Around}{E:Value->Shared->Prop}{s:Shared}{κ:SortKind}{a₀:Array Keyed}
structure vp(prog:Program)(w:World)(A:Around)(s:Shared)(κ:SortKind)(a₀:Array Keyed):Prop where
 ask:∀p∈a₀.toList,∀q∈a₀.toList,∀(E:Value->Shared->Prop)(Q:Bool->Shared->Prop),(∀b,Q b s)->wpAny (model prog w) A (keyLt' κ p.1 q.1) Q E s
theorem xu{st:SortSt}{p q:Keyed}{Q:Option Bool->SortSt->Prop}(C:vp prog w A s κ a₀)(hk:kindOf st=κ)(hp:p∈a₀.toList)(hq:q∈a₀.toList)(h:∀b,Q (some b) st):
 wpS (model prog w) A E s (lt' p q) Q st:=by
 rw[lt'_eq];refine aaJ (wpS_get ?_);rw[hk];exact aaJ (wpS_lift (wpAny_attempt (C.ask p hp q hq _ _ λb=>⟨Z,aaK (h b)⟩)))
theorem bY{st:SortSt}{arr:Array Keyed}{i:Nat}{Q:Keyed->SortSt->Prop}(hi:i<arr.size)(h:Q arr[i] st):wpS (model prog w) A E s (elem' arr i) Q st:=by
 rw[elem'_eq,getElem?_pos arr i hi];exact aaK h
theorem aZ{α:Type}{c:Prop}[Decidable c]{x y:StateT SortSt Sem α}{Q:α->SortSt->Prop}{st:SortSt}(h1:c->wpS (model prog w) A E s x Q st)(h2:¬c->wpS (model prog w) A E s y Q st):wpS (model prog w) A E s (if c then x else y) Q st:=by
 by_cases hc:c
 .rw[ab9 hc];exact h1 hc
 .rw[ab6 hc];exact h2 hc
noncomputable def Of(a₀ a:Array Keyed):Prop:=∀p∈a.toList,p∈a₀.toList
theorem Of.get{a:Array Keyed}(h:Of a₀ a){i:Nat}(hi:i<a.size):a[i]∈a₀.toList:=h _ (by simp)
theorem mL{st:SortSt}{left:Bool}{key:Keyed}{arr:Array Keyed}{base i:Nat}{Q:Option Bool->SortSt->Prop}(C:vp prog w A s κ a₀)(hk:kindOf st=κ)(hkey:key∈a₀.toList)(Ad:Of a₀ arr)(hi:base+i<arr.size)(h:∀b,Q (some b) st):wpS (model prog w) A E s (qw left key arr base i) Q st:=by
 unfold qw;refine aaJ (bY hi ?_);cases left with
 | true=>exact xu C hk (Ad.get hi) hkey h
 | false=>exact aaJ (xu C hk hkey (Ad.get hi) λb=>aaK (h _))
theorem Kh{st:SortSt}{left:Bool}{key:Keyed}{arr:Array Keyed}{base n lo hi:Nat}{Q:Option Nat->SortSt->Prop}(C:vp prog w A s κ a₀)(hk:kindOf st=κ)(hkey:key∈a₀.toList)(Ad:Of a₀ arr)(hn:base+n<=arr.size)(hlh:lo<=hi)(hhn:hi<=n)(h:∀k,k<=n->Q (some k) st):wpS (model prog w) A E s (glB left key arr base n lo hi) Q st:=by
 unfold glB;refine aaJ (wpS_mono (wpS_forRange (I:=λ_ c st'=>st'=st /\ ∃lo hi,c=(none,lo,hi)/\lo<=hi/\hi<=n) (Q:=λc st'=>st'=st /\ ∃l k,c=(none,l,k)/\k<=n) ?_ ?_ ⟨Z,lo,hi,Z,hlh,hhn⟩) ?_)
 .rintro x c st' _ _ ⟨rfl,lo,hi,rfl,a1,a2⟩
  dsimp only;refine aZ (λ_=>aaK ⟨Z,_,_,Z,a2⟩) (λz=>?_);refine aaJ (mL C hk hkey Ad (by lia) λb=>?_);dsimp only;exact aZ (λ_=>aaK ⟨Z,_,_,Z,by lia,a2⟩) (λ_=>aaK ⟨Z,_,_,Z,by lia,by lia⟩)
 .rintro c st' ⟨rfl,l,k,rfl,_,a2⟩
  exact⟨Z,l,k,Z,a2⟩
 .rintro c st' ⟨rfl,l,k,rfl,a2⟩
  exact aaK (h k a2)
theorem jc{st:SortSt}{left:Bool}{key:Keyed}{arr:Array Keyed}{base n hint:Nat}{Q:Option Nat->SortSt->Prop}(C:vp prog w A s κ a₀)(hk:kindOf st=κ)(hkey:key∈a₀.toList)(Ad:Of a₀ arr)(hn:base+n<=arr.size)(hh:hint<n)(h:∀k,k<=n->Q (some k) st):
 wpS (model prog w) A E s (lC left key arr base n hint) Q st:=by
 rw[JB];refine aaJ (mL C hk hkey Ad (by lia) λb=>?_);dsimp only;refine aZ (λ_=>?_) (λ_=>?_)
 .refine aaJ (wpS_mono (wpS_forRange (I:=λ_ c st'=>st'=st /\ ∃l o,c=(none,l,o)/\l<o/\hint+l<n) (Q:=λc st'=>st'=st /\ ∃l o,c=(none,l,o)/\l<o/\hint+l<n) ?_ (λ_ _ z=>z) ⟨Z,0,1,Z,by lia,by lia⟩) ?_)
  .rintro x c st' _ _ ⟨rfl,l,o,rfl,a1,a2⟩
   dsimp only;refine aZ (λ_=>aaK ⟨Z,l,o,Z,a1,a2⟩) (λz=>?_);refine aaJ (mL C hk hkey Ad (by lia) λb=>?_);dsimp only;exact aZ (λ_=>aaK ⟨Z,l,o,Z,a1,a2⟩) (λ_=>aaK ⟨Z,_,_,Z,by lia,by lia⟩)
  .rintro c st' ⟨rfl,l,o,rfl,a1,a2⟩
   exact Kh C hk hkey Ad hn (by dsimp only;lia) (by dsimp only;lia) h
 .refine aaJ (wpS_mono (wpS_forRange (I:=λ_ c st'=>st'=st /\ ∃l o,c=(none,l,o)/\l<o/\l<=hint) (Q:=λc st'=>st'=st /\ ∃l o,c=(none,l,o)/\l<o/\l<=hint) ?_ (λ_ _ z=>z) ⟨Z,0,1,Z,by lia,by lia⟩) ?_)
  .rintro x c st' _ _ ⟨rfl,l,o,rfl,a1,a2⟩
   dsimp only;refine aZ (λ_=>aaK ⟨Z,l,o,Z,a1,a2⟩) (λz=>?_);refine aaJ (mL C hk hkey Ad (by lia) λb=>?_);dsimp only;exact aZ (λ_=>aaK ⟨Z,l,o,Z,a1,a2⟩) (λ_=>aaK ⟨Z,_,_,Z,by lia,by lia⟩)
  .rintro c st' ⟨rfl,l,o,rfl,a1,a2⟩
   exact Kh C hk hkey Ad hn (by dsimp only;lia) (by dsimp only;lia) h
structure qz(st st':SortSt):Prop where
 k:kindOf st'=kindOf st
 a:arrOf st'=arrOf st
 p:pendingOf st'=pendingOf st
 f:failedOf st'=failedOf st
theorem qz.refl(st:SortSt):qz st st:=⟨Z,Z,Z,Z⟩
theorem qz.trans{a b c:SortSt}(h:qz a b)(g:qz b c):qz a c:=⟨g.k.trans h.k,g.a.trans h.a,g.p.trans h.p,g.f.trans h.f⟩
noncomputable def fW:Nat->StateT SortSt Sem Unit:=sortPriv% PySem.Builtin.setMinGallop
theorem uy(g:Nat):fW g=modify λs=>SortSt.mk' (kindOf s) (arrOf s) (pendingOf s) g (failedOf s):=Z
theorem pU{st:SortSt}{g:Nat}{Q:Unit->SortSt->Prop}(h:∀st',qz st st'->Q () st'):wpS (model prog w) A E s (fW g) Q st:=by
 rw[uy];exact wpS_modify (h _ ⟨Z,Z,Z,Z⟩)
theorem gw(a:Array Keyed)(i j:Nat):(a.extract i j).toList=(a.toList.drop i).take (j - i):=by
 rw[Array.toList_extract,List.extract_eq_take_drop]
theorem zj(l:List Keyed)(i k:Nat):l.drop i=(l.drop i).take k++l.drop (i+k):=by
 rw[←List.drop_drop,List.take_append_drop]
end
noncomputable def yH:Array Keyed->Array Keyed->StateT SortSt Sem (Array Keyed):=sortPriv% PySem.Builtin.mergeLo
noncomputable def yI:Array Keyed->Array Keyed->StateT SortSt Sem (Array Keyed):=sortPriv% PySem.Builtin.mergeHi
noncomputable abbrev lO(a b out:Array Keyed)(ia ib:Nat):Array Keyed:=out++a.extract ia a.size++b.extract ib b.size
noncomputable abbrev yK(a b out:Array Keyed)(ia ib:Nat):Array Keyed:=out++b.extract ib b.size++a.extract ia a.size
noncomputable abbrev S1:=Option (Array Keyed)×Array Keyed×Nat×Nat×Nat×Nat
noncomputable abbrev S2:=Option (Array Keyed)×Array Keyed×Nat×Nat×Nat×Nat×Nat
noncomputable def loC(a b:Array Keyed)(ia mg ac bc:Nat)(out:Array Keyed)(ib:Nat):StateT SortSt Sem (ForInStep S2):=do
 let out:=out.push (←elem' a ia)
 if ia+1+1==a.size then return .done (some (yK a b out (ia+1) ib),out,ia+1,ib,mg,ac,bc)
 if ac<7&&bc<7 then return .done (none,out,ia+1,ib,mg,ac,bc)
 return .yield (none,out,ia+1,ib,mg,ac,bc)
noncomputable def loB(a b:Array Keyed)(ib mg ac bc:Nat)(out:Array Keyed)(ia:Nat):StateT SortSt Sem (ForInStep S2):=do
 let out:=out.push (←elem' b ib)
 if ib+1==b.size then return .done (some (lO a b out ia (ib+1)),out,ia,ib+1,mg,ac,bc)
 let some k ←lC true (←elem' a ia) b (ib+1) (b.size - (ib+1)) 0|return .done (some (lO a b out ia (ib+1)),out,ia,ib+1,mg,ac,bc)
 if k>0 then
  if ib+1+k==b.size then return .done (some (lO a b (out++b.extract (ib+1) (ib+1+k)) ia (ib+1+k)),out++b.extract (ib+1) (ib+1+k),ia,ib+1+k,mg,ac,k)
  else loC a b ia mg ac k (out++b.extract (ib+1) (ib+1+k)) (ib+1+k)
 else loC a b ia mg ac k out (ib+1)
noncomputable def loA(a b out:Array Keyed)(ia ib ac bc mg:Nat):StateT SortSt Sem (ForInStep S2):=do
 fW mg
 let some k ←lC false (←elem' b ib) a ia (a.size - ia) 0|return .done (some (lO a b out ia ib),out,ia,ib,mg,ac,bc)
 if k>0 then
  if ia+k+1==a.size then return .done (some (yK a b (out++a.extract ia (ia+k)) (ia+k) ib),out++a.extract ia (ia+k),ia+k,ib,mg,k,bc)
  else if ia+k==a.size then return .done (some (lO a b (out++a.extract ia (ia+k)) (ia+k) ib),out++a.extract ia (ia+k),ia+k,ib,mg,k,bc)
  else loB a b ib mg k bc (out++a.extract ia (ia+k)) (ia+k)
 else loB a b ib mg k bc out ia
noncomputable def lo1(a b:Array Keyed)(mg:Nat)(c:S1):StateT SortSt Sem (ForInStep S1):=
 let out:=c.2.1;let ia:=c.2.2.1;let ib:=c.2.2.2.1;let ac:=c.2.2.2.2.1;let bc:=c.2.2.2.2.2
 do
 let some bWins ←lt' (←elem' b ib) (←elem' a ia)|return .done (some (lO a b out ia ib),out,ia,ib,ac,bc)
 if bWins then
  let out:=out.push (←elem' b ib)
  if ib+1==b.size then return .done (some (lO a b out ia (ib+1)),out,ia,ib+1,0,bc+1)
  if bc+1≥mg then return .done (none,out,ia,ib+1,0,bc+1)
  return .yield (none,out,ia,ib+1,0,bc+1)
 else
  let out:=out.push (←elem' a ia)
  if ia+1+1==a.size then return .done (some (yK a b out (ia+1) ib),out,ia+1,ib,ac+1,0)
  if ac+1≥mg then return .done (none,out,ia+1,ib,ac+1,0)
  return .yield (none,out,ia+1,ib,ac+1,0)
noncomputable abbrev S0:=Option (Array Keyed)×Array Keyed×Nat×Nat×Nat
noncomputable def loO(a b:Array Keyed)(c:S0):StateT SortSt Sem (ForInStep S0):=do
 let s ←forIn [0:a.size+b.size] ((none,c.2.1,c.2.2.1,c.2.2.2.1,0,0):S1) λ_ s=>lo1 a b c.2.2.2.2 s
 match s.1 with
 | some r=>pure (.done (some r,s.2.1,s.2.2.1,s.2.2.2.1,c.2.2.2.2))
 | none=>do
   rule "list.sort.gallop"
   let s ←forIn [0:a.size+b.size] ((none,s.2.1,s.2.2.1,s.2.2.2.1,c.2.2.2.2+1,s.2.2.2.2.1,s.2.2.2.2.2):S2) λ_ c=>
    if c.2.2.2.2.1>1 then loA a b c.2.1 c.2.2.1 c.2.2.2.1 c.2.2.2.2.2.1 c.2.2.2.2.2.2 (c.2.2.2.2.1 - 1) else loA a b c.2.1 c.2.2.1 c.2.2.2.1 c.2.2.2.2.2.1 c.2.2.2.2.2.2 c.2.2.2.2.1
   match s.1 with
   | some r=>pure (.done (some r,s.2.1,s.2.2.1,s.2.2.2.1,s.2.2.2.2.1))
   | none=>do
     fW (s.2.2.2.2.1+1)
     pure (.yield (none,s.2.1,s.2.2.1,s.2.2.2.1,s.2.2.2.2.1+1))
theorem GC(a b:Array Keyed):yH a b=(do
 rule "list.sort.merge-lo"
 let out:Array Keyed:= #[←elem' b 0]
 if 1==b.size then return lO a b out 0 1
 if 0+1==a.size then return yK a b out 0 1
 let s ←forIn [0:a.size+b.size] ((none,out,0,1,gallopOf (←get)):S0) λ_ c=>loO a b c
 match s.1 with
 | some r=>pure r
 | none=>unsupported "internal:list.sort.merge-bound"):=by kernel_rfl
section
variable{a b out:Array Keyed}{ia ib k n:Nat}
noncomputable def Pm(a b out:Array Keyed)(ia ib:Nat):Prop:=(out.toList++(a.toList.drop ia++b.toList.drop ib)).Perm (a.toList++b.toList)
noncomputable def Mg(a b r:Array Keyed):Prop:=r.toList.Perm (a.toList++b.toList)
theorem Pm.swap(m:Pm a b out ia ib):Pm b a out ib ia:=(List.Perm.append_left _ List.perm_append_comm).trans (List.Perm.trans m List.perm_append_comm)
theorem Pm.pJ(m:Pm a b out ia ib):Pm a b (out++b.extract ib (ib+k)) ia (ib+k):=by
 unfold Pm;rw[Array.toList_append,gw,show ib+k - ib=k by lia,List.append_assoc];refine List.Perm.trans (List.Perm.append_left _ ?_) m;refine List.Perm.trans ?_ (List.Perm.of_eq (congrArg (a.toList.drop ia ++ ·) (zj b.toList ib k).symm));rw[←List.append_assoc];exact List.Perm.trans (List.Perm.append_right _ List.perm_append_comm) (List.Perm.of_eq (List.append_assoc _ _ _))
theorem Pm.pK(m:Pm a b out ia ib):Pm a b (out++a.extract ia (ia+k)) (ia+k) ib:=m.swap.pJ.swap
theorem Q_(h:ib<b.size):out.push b[ib]=out++b.extract ib (ib+1):=by
 apply Array.toList_inj.mp;rw[Array.toList_push,Array.toList_append,gw];congr 1;rw[show ib+1 - ib=1 by lia,List.drop_eq_getElem_cons (by rw[aaL];exact h)];rfl
theorem Pm.yq(m:Pm a b out ia ib)(h:ib<b.size):Pm a b (out.push b[ib]) ia (ib+1):=by
 rw[Q_ h];exact m.pJ
theorem Pm.yr(m:Pm a b out ia ib)(h:ia<a.size):Pm a b (out.push a[ia]) (ia+1) ib:=(m.swap.yq h).swap
theorem Pm.done(m:Pm a b out ia ib):Mg a b (lO a b out ia ib):=by
 unfold Mg lO;rw[Array.toList_append,Array.toList_append,gw,gw,List.append_assoc,List.take_of_length_le (by rw[List.length_drop,aaL];exact aaG _),List.take_of_length_le (by rw[List.length_drop,aaL];exact aaG _)];exact m
theorem Pm.last(m:Pm a b out ia ib):Mg a b (yK a b out ia ib):=List.Perm.trans m.swap.done List.perm_append_comm
theorem Pm.size(m:Pm a b out ia ib)(h:ia<a.size):out.size<a.size+b.size:=by
 have:=List.Perm.length_eq m;simp only[aaT,List.length_drop,aaL] at this;lia
noncomputable def LI(a b:Array Keyed)(n:Nat){γ:Type}:Option (Array Keyed)×Array Keyed×Nat×Nat×γ->Prop
 | (none,out,ia,ib,_)=>Pm a b out ia ib/\ia+2<=a.size/\ib+1<=b.size/\n<=out.size
 | _=>False
noncomputable def LP(a b:Array Keyed)(n:Nat){γ:Type}:Option (Array Keyed)×Array Keyed×Nat×Nat×γ->Prop
 | (some r,_)=>Mg a b r
 | c=>LI a b n c
noncomputable def LQ(a b:Array Keyed)(m n:Nat){γ:Type}:ForInStep (Option (Array Keyed)×Array Keyed×Nat×Nat×γ)->Prop
 | .done c=>LP a b m c
 | .yield c=>LI a b n c
noncomputable def LR(a b:Array Keyed)(n:Nat){γ:Type}:ForInStep (Option (Array Keyed)×Array Keyed×Nat×Nat×γ)->Prop
 | .done c=>∃r t,c=(some r,t)/\Mg a b r
 | .yield c=>LI a b n c
end
section
variable{prog:Program}{w:World}{A:Around}{E:Value->Shared->Prop}{s:Shared}{κ:SortKind}{a₀ a b out:Array Keyed}{ia ib n m mg ac bc:Nat}{st st0:SortSt}
theorem Ka(m2:Pm a b out ia ib)(h1:ia+2<=a.size)(h2:ib+1<=b.size)(hm:m<=out.size)(hn:n<=out.size+1)(kp:qz st0 st):
 wpS (model prog w) A E s (loC a b ia mg ac bc out ib) (λr st'=>qz st0 st'/\LQ a b m n r) st:=by
 unfold loC;refine aaJ (bY (by lia) ?_);have p:=m2.yr (show ia<a.size by lia);dsimp only;refine aZ (λe=>aaK ⟨kp,p.last⟩) (λe=>?_);have e:¬ia+1+1=a.size:=by simpa using e
 have z:(out.push (a[ia]'(by lia))).size=out.size+1:=Array.size_push _;exact aZ (λ_=>aaK ⟨kp,p,by lia,h2,by lia⟩) (λ_=>aaK ⟨kp,p,by lia,h2,by lia⟩)
theorem Kc(C:vp prog w A s κ a₀)(ha:Of a₀ a)(hb:Of a₀ b)(m2:Pm a b out ia ib)(h1:ia+2<=a.size)(h2:ib+1<=b.size)(hm:m<=out.size)(hn:n<=out.size+1)(kp:qz st0 st)(hk:kindOf st=κ):
 wpS (model prog w) A E s (loB a b ib mg ac bc out ia) (λr st'=>qz st0 st'/\LQ a b m n r) st:=by
 unfold loB;refine aaJ (bY h2 ?_);have p:=m2.yq h2;have z:(out.push b[ib]).size=out.size+1:=Array.size_push _;dsimp only;generalize out.push b[ib]=afm at p z ⊢;refine aZ (λe=>aaK ⟨kp,p.done⟩) (λe=>?_);have e:¬ib+1=b.size:=by simpa using e
 refine aaJ (bY (by lia) (aaJ (jc C hk (ha.get (by lia)) hb (by lia) (by lia) λk hk2=>?_)));dsimp only;refine aZ (λ_=>aZ (λe=>aaK ⟨kp,p.pJ.done⟩) (λe=>?_)) (λ_=>Ka p h1 (by lia) (by lia) (by lia) kp);have e:¬ib+1+k=b.size:=by simpa using e
 exact Ka p.pJ h1 (by lia) (by rw[Array.size_append];lia) (by rw[Array.size_append];lia) kp
theorem Kd(C:vp prog w A s κ a₀)(ha:Of a₀ a)(hb:Of a₀ b)(m2:Pm a b out ia ib)(h1:ia+2<=a.size)(h2:ib+1<=b.size)(hm:m<=out.size)(hn:n<=out.size+1)(kp:qz st0 st)(hk:kindOf st0=κ):
 wpS (model prog w) A E s (loA a b out ia ib ac bc mg) (λr st'=>qz st0 st'/\LQ a b m n r) st:=by
 unfold loA;refine aaJ (pU λvq k4=>?_);have kp:=kp.trans k4;have hk:=kp.k.trans hk;refine aaJ (bY h2 (aaJ (jc C hk (hb.get h2) ha (by lia) (by lia) λk hk2=>?_)));dsimp only;refine aZ (λ_=>aZ (λe=>aaK ⟨kp,m2.pK.last⟩) (λe1=>aZ (λe=>aaK ⟨kp,m2.pK.done⟩) (λe2=>?_))) (λ_=>Kc C ha hb m2 h1 h2 hm hn kp hk);have e1:¬ia+k+1=a.size:=by simpa using e1
 have e2:¬ia+k=a.size:=by simpa using e2
 exact Kc C ha hb m2.pK (by lia) h2 (by rw[Array.size_append];lia) (by rw[Array.size_append];lia) kp hk
theorem U5(C:vp prog w A s κ a₀)(ha:Of a₀ a)(hb:Of a₀ b)(m2:Pm a b out ia ib)(h1:ia+2<=a.size)(h2:ib+1<=b.size)(hm:m<=out.size+1)(hn:n<=out.size+1)(hk:kindOf st=κ):
 wpS (model prog w) A E s (lo1 a b mg (none,out,ia,ib,ac,bc)) (λr st'=>st'=st/\LQ a b m n r) st:=by
 unfold lo1;dsimp only;refine aaJ (bY h2 (aaJ (bY (by lia) (aaJ (xu C hk (hb.get h2) (ha.get (by lia)) λt=>?_)))));dsimp only;refine aZ (λ_=>aaJ (bY h2 ?_)) (λ_=>aaJ (bY (by lia) ?_))
 .have p:=m2.yq h2
  have z:(out.push b[ib]).size=out.size+1:=Array.size_push _;refine aZ (λe=>aaK ⟨Z,p.done⟩) (λe=>?_);have e:¬ib+1=b.size:=by simpa using e
  exact aZ (λ_=>aaK ⟨Z,p,h1,by lia,by lia⟩) (λ_=>aaK ⟨Z,p,h1,by lia,by lia⟩)
 .have p:=m2.yr (show ia<a.size by lia)
  have z:(out.push (a[ia]'(by lia))).size=out.size+1:=Array.size_push _;refine aZ (λe=>aaK ⟨Z,p.last⟩) (λe=>?_);have e:¬ia+1+1=a.size:=by simpa using e
  exact aZ (λ_=>aaK ⟨Z,p,by lia,h2,by lia⟩) (λ_=>aaK ⟨Z,p,by lia,h2,by lia⟩)
theorem U4(C:vp prog w A s κ a₀)(ha:Of a₀ a)(hb:Of a₀ b)(m2:Pm a b out ia ib)(h1:ia+2<=a.size)(h2:ib+1<=b.size)(hm:n<=out.size)(hk:kindOf st0=κ)(kp:qz st0 st):
 wpS (model prog w) A E s (loO a b (none,out,ia,ib,mg)) (λr st'=>qz st0 st'/\LR a b (n+1) r) st:=by
 unfold loO;dsimp only;refine aaJ (wpS_mono (wpS_forRange (I:=λy c st2=>st2=st/\LI a b (n+y) c) (Q:=λc st2=>st2=st/\LP a b (n+1) c) ?_ ?_ ⟨Z,m2,h1,h2,hm⟩) ?_)
 .rintro y ⟨_|r,out,ia,ib,ac,bc⟩ _ _ _ ⟨rfl,h⟩
  .obtain⟨p,q1,q2,q3⟩:=h
   refine wpS_mono (U5 (m:=n+1) (n:=n+(y+1)) C ha hb p q1 q2 (by lia) (by lia) (kp.k.trans hk)) λr st' h=>?_;cases r with
   | done c=>exact h
   | yield c=>exact h
  .exact h.elim
 .rintro⟨_|r,out,ia,ib,ac,bc⟩ _ ⟨rfl,h⟩
  .obtain⟨p,q1,q2,q3⟩:=h
   have:=p.size (by lia);lia
  .exact h.elim
 rintro⟨_|r,out,ia,ib,ac,bc⟩ _ ⟨rfl,h⟩
 .obtain⟨p,q1,q2,q3⟩:=h
  dsimp only;refine aaJ (wpS_lift (wpAny_rule ⟨Z, ?_⟩));refine aaJ (wpS_mono (wpS_forRange (I:=λy c st2=>qz st0 st2/\LI a b (n+1+y) c) (Q:=λc st2=>qz st0 st2/\LP a b (n+1) c) ?_ ?_ ⟨kp,p,q1,q2,q3⟩) ?_)
  .rintro y ⟨_|r,out,ia,ib,mg,ac,bc⟩ st2 _ _ ⟨k2,h⟩
   .obtain⟨p,q1,q2,q3⟩:=h
    dsimp only;refine wpS_mono (aZ (λ_=>Kd (m:=n+1) (n:=n+1+(y+1)) C ha hb p q1 q2 (by lia) (by lia) k2 hk) (λ_=>Kd C ha hb p q1 q2 (by lia) (by lia) k2 hk)) λr st' h=>?_;cases r with
    | done c=>exact h
    | yield c=>exact h
   .exact h.elim
  .rintro⟨_|r,out,ia,ib,mg,ac,bc⟩ st2 ⟨k2,h⟩
   .obtain⟨p,q1,q2,q3⟩:=h
    have:=p.size (by lia);lia
   .exact h.elim
  rintro⟨_|r,out,ia,ib,mg,ac,bc⟩ st2 ⟨k2,h⟩
  .exact aaJ (pU λvq k4=>aaK ⟨k2.trans k4,h⟩)
  .exact aaK ⟨k2,r,_,Z,h⟩
 .exact aaK ⟨kp,r,_,Z,h⟩
theorem E_{Q:Array Keyed->SortSt->Prop}(C:vp prog w A s κ a₀)(hk:kindOf st=κ)(ha:Of a₀ a)(hb:Of a₀ b)(ha1:1<=a.size)(hb1:1<=b.size)(h:∀r st',qz st st'->Mg a b r->Q r st'):wpS (model prog w) A E s (yH a b) Q st:=by
 have p:Pm a b #[b[0]] 0 1:=Pm.yq (out:= #[]) (ib:=0) (ia:=0) (show Pm a b #[] 0 0 from .refl _) hb1;rw[GC];refine aaJ (wpS_lift (wpAny_rule ⟨Z, ?_⟩));refine aaJ (bY hb1 ?_);dsimp only;refine aZ (λe=>aaK (h _ _ (.refl _) p.done)) (λe1=>?_);refine aZ (λe=>aaK (h _ _ (.refl _) p.last)) (λe2=>?_);have e1:¬1=b.size:=by simpa using e1
 have e2:¬1=a.size:=by simpa using e2
 refine aaJ (wpS_get ?_);refine aaJ (wpS_mono (wpS_forRange (I:=λy c st2=>qz st st2/\LI a b y c) (Q:=λc st2=>qz st st2 /\ ∃r t,c=(some r,t)/\Mg a b r) ?_ ?_ ⟨.refl _,p,by lia,by lia,Nat.zero_le _⟩) ?_)
 .rintro y ⟨_|r,out,ia,ib,mg⟩ st2 _ _ ⟨k2,h⟩
  .obtain⟨p,q1,q2,q3⟩:=h
   refine wpS_mono (U4 (n:=y) C ha hb p q1 q2 q3 hk k2) λr st' h=>?_;cases r with
   | done c=>exact h
   | yield c=>exact h
  .exact h.elim
 .rintro⟨_|r,out,ia,ib,mg⟩ st2 ⟨k2,h⟩
  .obtain⟨p,q1,q2,q3⟩:=h
   have:=p.size (by lia);lia
  .exact h.elim
 rintro c st2 ⟨k2,r,t,rfl,hm⟩;exact aaK (h _ _ k2 hm)
end
noncomputable abbrev lQ(a b out:Array Keyed)(na nb:Nat):Array Keyed:=a.extract 0 na++b.extract 0 nb++out.reverse
noncomputable abbrev sZ(a b out:Array Keyed)(na nb:Nat):Array Keyed:=b.extract 0 nb++a.extract 0 na++out.reverse
noncomputable abbrev H1:=Option (Array Keyed)×Nat×Nat×Array Keyed×Nat×Nat
noncomputable abbrev H2:=Option (Array Keyed)×Nat×Nat×Array Keyed×Nat×Nat×Nat
noncomputable abbrev H0:=Option (Array Keyed)×Nat×Nat×Array Keyed×Nat
noncomputable def hiC(a b:Array Keyed)(na mg ac bc:Nat)(out:Array Keyed)(nb:Nat):StateT SortSt Sem (ForInStep H2):=do
 let out:=out.push (←elem' a (na - 1))
 if na - 1==0 then return .done (some (lQ a b out (na - 1) nb),na - 1,nb,out,mg,ac,bc)
 if ac<7&&bc<7 then return .done (none,na - 1,nb,out,mg,ac,bc)
 return .yield (none,na - 1,nb,out,mg,ac,bc)
noncomputable def hiB(a b:Array Keyed)(nb mg ac bc:Nat)(out:Array Keyed)(na:Nat):StateT SortSt Sem (ForInStep H2):=do
 let out:=out.push (←elem' b (nb - 1))
 if nb - 1==1 then return .done (some (sZ a b out na (nb - 1)),na,nb - 1,out,mg,ac,bc)
 let some t ←lC true (←elem' a (na - 1)) b 0 (nb - 1) (nb - 1 - 1)|return .done (some (lQ a b out na (nb - 1)),na,nb - 1,out,mg,ac,bc)
 if nb - 1 - t>0 then
  if t==1 then return .done (some (sZ a b (out++(b.extract t (nb - 1)).reverse) na t),na,t,out++(b.extract t (nb - 1)).reverse,mg,ac,nb - 1 - t)
  else if t==0 then return .done (some (lQ a b (out++(b.extract t (nb - 1)).reverse) na t),na,t,out++(b.extract t (nb - 1)).reverse,mg,ac,nb - 1 - t)
  else hiC a b na mg ac (nb - 1 - t) (out++(b.extract t (nb - 1)).reverse) t
 else hiC a b na mg ac (nb - 1 - t) out (nb - 1)
noncomputable def hiA(a b out:Array Keyed)(na nb ac bc mg:Nat):StateT SortSt Sem (ForInStep H2):=do
 fW mg
 let some t ←lC false (←elem' b (nb - 1)) a 0 na (na - 1)|return .done (some (lQ a b out na nb),na,nb,out,mg,ac,bc)
 if na - t>0 then
  if t==0 then return .done (some (lQ a b (out++(a.extract t na).reverse) t nb),t,nb,out++(a.extract t na).reverse,mg,na - t,bc)
  else hiB a b nb mg (na - t) bc (out++(a.extract t na).reverse) t
 else hiB a b nb mg (na - t) bc out na
noncomputable def hi1(a b:Array Keyed)(mg:Nat)(c:H1):StateT SortSt Sem (ForInStep H1):=
 let na:=c.2.1;let nb:=c.2.2.1;let out:=c.2.2.2.1;let ac:=c.2.2.2.2.1;let bc:=c.2.2.2.2.2
 do
 let some aWins ←lt' (←elem' b (nb - 1)) (←elem' a (na - 1))|return .done (some (lQ a b out na nb),na,nb,out,ac,bc)
 if aWins then
  let out:=out.push (←elem' a (na - 1))
  if na - 1==0 then return .done (some (lQ a b out (na - 1) nb),na - 1,nb,out,ac+1,0)
  if ac+1≥mg then return .done (none,na - 1,nb,out,ac+1,0)
  return .yield (none,na - 1,nb,out,ac+1,0)
 else
  let out:=out.push (←elem' b (nb - 1))
  if nb - 1==1 then return .done (some (sZ a b out na (nb - 1)),na,nb - 1,out,0,bc+1)
  if bc+1≥mg then return .done (none,na,nb - 1,out,0,bc+1)
  return .yield (none,na,nb - 1,out,0,bc+1)
noncomputable def hiO(a b:Array Keyed)(c:H0):StateT SortSt Sem (ForInStep H0):=do
 let s ←forIn [0:a.size+b.size] ((none,c.2.1,c.2.2.1,c.2.2.2.1,0,0):H1) λ_ s=>hi1 a b c.2.2.2.2 s
 match s.1 with
 | some r=>pure (.done (some r,s.2.1,s.2.2.1,s.2.2.2.1,c.2.2.2.2))
 | none=>do
   rule "list.sort.gallop"
   let s ←forIn [0:a.size+b.size] ((none,s.2.1,s.2.2.1,s.2.2.2.1,c.2.2.2.2+1,s.2.2.2.2.1,s.2.2.2.2.2):H2) λ_ c=>
    if c.2.2.2.2.1>1 then hiA a b c.2.2.2.1 c.2.1 c.2.2.1 c.2.2.2.2.2.1 c.2.2.2.2.2.2 (c.2.2.2.2.1 - 1) else hiA a b c.2.2.2.1 c.2.1 c.2.2.1 c.2.2.2.2.2.1 c.2.2.2.2.2.2 c.2.2.2.2.1
   match s.1 with
   | some r=>pure (.done (some r,s.2.1,s.2.2.1,s.2.2.2.1,s.2.2.2.2.1))
   | none=>do
     fW (s.2.2.2.2.1+1)
     pure (.yield (none,s.2.1,s.2.2.1,s.2.2.2.1,s.2.2.2.2.1+1))
theorem GD(a b:Array Keyed):yI a b=(do
 rule "list.sort.merge-hi"
 let out:Array Keyed:= #[←elem' a (a.size - 1)]
 if a.size - 1==0 then return lQ a b out (a.size - 1) b.size
 if b.size==1 then return sZ a b out (a.size - 1) b.size
 let s ←forIn [0:a.size+b.size] ((none,a.size - 1,b.size,out,gallopOf (←get)):H0) λ_ c=>hiO a b c
 match s.1 with
 | some r=>pure r
 | none=>unsupported "internal:list.sort.merge-bound"):=by kernel_rfl
section
variable{a b out:Array Keyed}{na nb k n t:Nat}
noncomputable def Ph(a b out:Array Keyed)(na nb:Nat):Prop:=(out.toList++(a.toList.take na++b.toList.take nb)).Perm (a.toList++b.toList)
theorem Ph.swap(m:Ph a b out na nb):Ph b a out nb na:=(List.Perm.append_left _ List.perm_append_comm).trans (List.Perm.trans m List.perm_append_comm)
theorem Ph.pK(m:Ph a b out na nb)(h:t<=na):Ph a b (out++(a.extract t na).reverse) t nb:=by
 unfold Ph;rw[Array.toList_append,Array.toList_reverse,gw,List.append_assoc];refine List.Perm.trans (List.Perm.append_left _ ?_) m
 have e:a.toList.take na=a.toList.take t++(a.toList.drop t).take (na - t):=by rw[List.take_drop,show t+(na - t)=na by lia];exact(show _=_ by
  have:=(List.take_append_drop t (a.toList.take na)).symm;rwa [List.take_take,Nat.min_eq_left h] at this)
 rw[e,←List.append_assoc];exact List.Perm.append_right _ ((List.Perm.append_right _ (List.reverse_perm _)).trans List.perm_append_comm)
theorem Ph.pJ(m:Ph a b out na nb)(h:t<=nb):Ph a b (out++(b.extract t nb).reverse) na t:=(m.swap.pK h).swap
theorem Q9(h:na - 1<a.size)(h1:1<=na):out.push a[na - 1]=out++(a.extract (na - 1) na).reverse:=by
 apply Array.toList_inj.mp;rw[Array.toList_push,Array.toList_append,Array.toList_reverse,gw];congr 1;rw[show na - (na - 1)=1 by lia,List.drop_eq_getElem_cons (by rw[aaL];exact h)];rfl
theorem Ph.yr(m:Ph a b out na nb)(h:na - 1<a.size)(h1:1<=na):Ph a b (out.push a[na - 1]) (na - 1) nb:=by
 rw[Q9 h h1];exact m.pK (Nat.sub_le _ _)
theorem Ph.yq(m:Ph a b out na nb)(h:nb - 1<b.size)(h1:1<=nb):Ph a b (out.push b[nb - 1]) na (nb - 1):=(m.swap.yr h h1).swap
theorem Ph.done(m:Ph a b out na nb):Mg a b (lQ a b out na nb):=by
 unfold Mg lQ;rw[Array.toList_append,Array.toList_append,gw,gw,Array.toList_reverse];exact List.perm_append_comm.trans ((List.Perm.append_right _ (List.reverse_perm _)).trans m)
theorem Ph.first(m:Ph a b out na nb):Mg a b (sZ a b out na nb):=List.Perm.trans m.swap.done List.perm_append_comm
theorem Ph.size(m:Ph a b out na nb)(h:1<=na)(h2:na<=a.size):out.size<a.size+b.size:=by
 have:=List.Perm.length_eq m;simp only[aaT,abe,aaL] at this;lia
noncomputable def Hd(a b:Array Keyed)(na nb:Nat):Prop:=1<=na/\2<=nb/\na<=a.size/\nb<=b.size
noncomputable def HI(a b:Array Keyed)(n:Nat){γ:Type}:Option (Array Keyed)×Nat×Nat×Array Keyed×γ->Prop
 | (none,na,nb,out,_)=>Ph a b out na nb/\Hd a b na nb/\n<=out.size
 | _=>False
noncomputable def HP(a b:Array Keyed)(n:Nat){γ:Type}:Option (Array Keyed)×Nat×Nat×Array Keyed×γ->Prop
 | (some r,_)=>Mg a b r
 | c=>HI a b n c
noncomputable def HQ(a b:Array Keyed)(m n:Nat){γ:Type}:ForInStep (Option (Array Keyed)×Nat×Nat×Array Keyed×γ)->Prop
 | .done c=>HP a b m c
 | .yield c=>HI a b n c
noncomputable def HR(a b:Array Keyed)(n:Nat){γ:Type}:ForInStep (Option (Array Keyed)×Nat×Nat×Array Keyed×γ)->Prop
 | .done c=>∃r t,c=(some r,t)/\Mg a b r
 | .yield c=>HI a b n c
end
section
variable{prog:Program}{w:World}{A:Around}{E:Value->Shared->Prop}{s:Shared}{κ:SortKind}{a₀ a b out:Array Keyed}{na nb n m mg ac bc:Nat}{st st0:SortSt}
theorem Ke(p:Ph a b out na nb)(h:Hd a b na nb)(hm:m<=out.size)(hn:n<=out.size+1)(kp:qz st0 st):
 wpS (model prog w) A E s (hiC a b na mg ac bc out nb) (λr st'=>qz st0 st'/\HQ a b m n r) st:=by
 obtain⟨h1,h2,h3,h4⟩:=h;unfold hiC;have i:na - 1<a.size:=by lia
 refine aaJ (bY i ?_);have p:=p.yr i h1;have z:(out.push a[na - 1]).size=out.size+1:=Array.size_push _;dsimp only;refine aZ (λe=>aaK ⟨kp,p.done⟩) (λe=>?_);have e:¬na - 1=0:=by simpa using e
 have hd:Hd a b (na - 1) nb:=⟨by lia,h2,by lia,h4⟩;exact aZ (λ_=>aaK ⟨kp,p,hd,by lia⟩) (λ_=>aaK ⟨kp,p,hd,by lia⟩)
theorem Kf(C:vp prog w A s κ a₀)(ha:Of a₀ a)(hb:Of a₀ b)(p:Ph a b out na nb)(h:Hd a b na nb)(hm:m<=out.size)(hn:n<=out.size+1)(kp:qz st0 st)(hk:kindOf st=κ):
 wpS (model prog w) A E s (hiB a b nb mg ac bc out na) (λr st'=>qz st0 st'/\HQ a b m n r) st:=by
 obtain⟨h1,h2,h3,h4⟩:=h;unfold hiB;have i:nb - 1<b.size:=by lia
 have j:na - 1<a.size:=by lia
 refine aaJ (bY i ?_);have p:=p.yq i (by lia);have z:(out.push b[nb - 1]).size=out.size+1:=Array.size_push _;dsimp only;generalize out.push b[nb - 1]=afm at p z ⊢;refine aZ (λe=>aaK ⟨kp,p.first⟩) (λe=>?_);have e:¬nb - 1=1:=by simpa using e
 refine aaJ (bY j (aaJ (jc C hk (ha.get j) hb (by lia) (by lia) λt ht=>?_)));dsimp only;refine aZ (λ_=>aZ (λe=>aaK ⟨kp,(p.pJ ht).first⟩) (λe1=>aZ (λe=>aaK ⟨kp,(p.pJ ht).done⟩) (λe2=>?_))) (λ_=>Ke p ⟨h1,by lia,h3,by lia⟩ (by lia) (by lia) kp);have e1:¬t=1:=by simpa using e1
 have e2:¬t=0:=by simpa using e2
 exact Ke (p.pJ ht) ⟨h1,by lia,h3,by lia⟩ (by rw[Array.size_append];lia) (by rw[Array.size_append];lia) kp
theorem Kg(C:vp prog w A s κ a₀)(ha:Of a₀ a)(hb:Of a₀ b)(p:Ph a b out na nb)(h:Hd a b na nb)(hm:m<=out.size)(hn:n<=out.size+1)(kp:qz st0 st)(hk:kindOf st0=κ):
 wpS (model prog w) A E s (hiA a b out na nb ac bc mg) (λr st'=>qz st0 st'/\HQ a b m n r) st:=by
 have h':=h;obtain⟨h1,h2,h3,h4⟩:=h';unfold hiA;have i:nb - 1<b.size:=by lia
 refine aaJ (pU λvq k4=>?_);have kp:=kp.trans k4;have hk:=kp.k.trans hk;refine aaJ (bY i (aaJ (jc C hk (hb.get i) ha (by lia) (by lia) λt ht=>?_)));dsimp only;refine aZ (λ_=>aZ (λe=>aaK ⟨kp,(p.pK ht).done⟩) (λe1=>?_)) (λ_=>Kf C ha hb p h hm hn kp hk);have e1:¬t=0:=by simpa using e1
 exact Kf C ha hb (p.pK ht) ⟨by lia,h2,by lia,h4⟩ (by rw[Array.size_append];lia) (by rw[Array.size_append];lia) kp hk
theorem U8(C:vp prog w A s κ a₀)(ha:Of a₀ a)(hb:Of a₀ b)(p:Ph a b out na nb)(h:Hd a b na nb)(hm:m<=out.size+1)(hn:n<=out.size+1)(hk:kindOf st=κ):
 wpS (model prog w) A E s (hi1 a b mg (none,na,nb,out,ac,bc)) (λr st'=>st'=st/\HQ a b m n r) st:=by
 obtain⟨h1,h2,h3,h4⟩:=h;unfold hi1;dsimp only;have i:nb - 1<b.size:=by lia
 have j:na - 1<a.size:=by lia
 refine aaJ (bY i (aaJ (bY j (aaJ (xu C hk (hb.get i) (ha.get j) λt=>?_)))));dsimp only;refine aZ (λ_=>aaJ (bY j ?_)) (λ_=>aaJ (bY i ?_))
 .have p:=p.yr j h1
  have z:(out.push a[na - 1]).size=out.size+1:=Array.size_push _;refine aZ (λe=>aaK ⟨Z,p.done⟩) (λe=>?_);have e:¬na - 1=0:=by simpa using e
  have hd:Hd a b (na - 1) nb:=⟨by lia,h2,by lia,h4⟩;exact aZ (λ_=>aaK ⟨Z,p,hd,by lia⟩) (λ_=>aaK ⟨Z,p,hd,by lia⟩)
 .have p:=p.yq i (by lia)
  have z:(out.push b[nb - 1]).size=out.size+1:=Array.size_push _;refine aZ (λe=>aaK ⟨Z,p.first⟩) (λe=>?_);have e:¬nb - 1=1:=by simpa using e
  have hd:Hd a b na (nb - 1):=⟨h1,by lia,h3,by lia⟩;exact aZ (λ_=>aaK ⟨Z,p,hd,by lia⟩) (λ_=>aaK ⟨Z,p,hd,by lia⟩)
theorem U6(C:vp prog w A s κ a₀)(ha:Of a₀ a)(hb:Of a₀ b)(p:Ph a b out na nb)(h:Hd a b na nb)(hm:n<=out.size)(hk:kindOf st0=κ)(kp:qz st0 st):
 wpS (model prog w) A E s (hiO a b (none,na,nb,out,mg)) (λr st'=>qz st0 st'/\HR a b (n+1) r) st:=by
 unfold hiO;dsimp only;refine aaJ (wpS_mono (wpS_forRange (I:=λy c st2=>st2=st/\HI a b (n+y) c) (Q:=λc st2=>st2=st/\HP a b (n+1) c) ?_ ?_ ⟨Z,p,h,hm⟩) ?_)
 .rintro y ⟨_|r,na,nb,out,ac,bc⟩ _ _ _ ⟨rfl,h⟩
  .obtain⟨p,q,q3⟩:=h
   refine wpS_mono (U8 (m:=n+1) (n:=n+(y+1)) C ha hb p q (by lia) (by lia) (kp.k.trans hk)) λr st' h=>?_;cases r with
   | done c=>exact h
   | yield c=>exact h
  .exact h.elim
 .rintro⟨_|r,na,nb,out,ac,bc⟩ _ ⟨rfl,h⟩
  .obtain⟨p,q,q3⟩:=h
   have:=p.size q.1 q.2.2.1;lia
  .exact h.elim
 rintro⟨_|r,na,nb,out,ac,bc⟩ _ ⟨rfl,h⟩
 .obtain⟨p,q,q3⟩:=h
  dsimp only;refine aaJ (wpS_lift (wpAny_rule ⟨Z, ?_⟩));refine aaJ (wpS_mono (wpS_forRange (I:=λy c st2=>qz st0 st2/\HI a b (n+1+y) c) (Q:=λc st2=>qz st0 st2/\HP a b (n+1) c) ?_ ?_ ⟨kp,p,q,q3⟩) ?_)
  .rintro y ⟨_|r,na,nb,out,mg,ac,bc⟩ st2 _ _ ⟨k2,h⟩
   .obtain⟨p,q,q3⟩:=h
    dsimp only;refine wpS_mono (aZ (λ_=>Kg (m:=n+1) (n:=n+1+(y+1)) C ha hb p q (by lia) (by lia) k2 hk) (λ_=>Kg C ha hb p q (by lia) (by lia) k2 hk)) λr st' h=>?_;cases r with
    | done c=>exact h
    | yield c=>exact h
   .exact h.elim
  .rintro⟨_|r,na,nb,out,mg,ac,bc⟩ st2 ⟨k2,h⟩
   .obtain⟨p,q,q3⟩:=h
    have:=p.size q.1 q.2.2.1;lia
   .exact h.elim
  rintro⟨_|r,na,nb,out,mg,ac,bc⟩ st2 ⟨k2,h⟩
  .exact aaJ (pU λvq k4=>aaK ⟨k2.trans k4,h⟩)
  .exact aaK ⟨k2,r,_,Z,h⟩
 .exact aaK ⟨kp,r,_,Z,h⟩
theorem Fb{Q:Array Keyed->SortSt->Prop}(C:vp prog w A s κ a₀)(hk:kindOf st=κ)(ha:Of a₀ a)(hb:Of a₀ b)(ha1:1<=a.size)(hb1:1<=b.size)(h:∀r st',qz st st'->Mg a b r->Q r st'):wpS (model prog w) A E s (yI a b) Q st:=by
 have i:a.size - 1<a.size:=by lia
 have p:Ph a b #[a[a.size - 1]] (a.size - 1) b.size:=by
  refine Ph.yr (out:= #[]) (na:=a.size) ?_ i ha1;unfold Ph;rw[List.take_of_length_le (by rw[aaL];exact aaG _),List.take_of_length_le (by rw[aaL];exact aaG _)];exact .refl _
 rw[GD];refine aaJ (wpS_lift (wpAny_rule ⟨Z, ?_⟩));refine aaJ (bY i ?_);dsimp only;refine aZ (λe=>aaK (h _ _ (.refl _) p.done)) (λe1=>?_);refine aZ (λe=>aaK (h _ _ (.refl _) p.first)) (λe2=>?_);have e1:¬a.size - 1=0:=by simpa using e1
 have e2:¬b.size=1:=by simpa using e2
 refine aaJ (wpS_get ?_);refine aaJ (wpS_mono (wpS_forRange (I:=λy c st2=>qz st st2/\HI a b y c) (Q:=λc st2=>qz st st2 /\ ∃r t,c=(some r,t)/\Mg a b r) ?_ ?_ ⟨.refl _,p,⟨by lia,by lia,by lia,aaG _⟩,Nat.zero_le _⟩) ?_)
 .rintro y ⟨_|r,na,nb,out,mg⟩ st2 _ _ ⟨k2,h⟩
  .obtain⟨p,q,q3⟩:=h
   refine wpS_mono (U6 (n:=y) C ha hb p q q3 hk k2) λr st' h=>?_;cases r with
   | done c=>exact h
   | yield c=>exact h
  .exact h.elim
 .rintro⟨_|r,na,nb,out,mg⟩ st2 ⟨k2,h⟩
  .obtain⟨p,q,q3⟩:=h
   have:=p.size q.1 q.2.2.1;lia
  .exact h.elim
 rintro c st2 ⟨k2,r,t,rfl,hm⟩;exact aaK (h _ _ k2 hm)
end
noncomputable def crL(lo nrem a:Nat):StateT SortSt Sem (Option (Option Nat)×Nat):=
 forIn [a:nrem] ((none,a):Option (Option Nat)×Nat) λ_ c=>do
  match ←ltAt' (lo+c.2) (lo+c.2 - 1) with
  | some t=>if t=true then pure (.done (none,c.2)) else pure (.yield (none,c.2+1))
  | _=>pure (.done (some none,c.2))
noncomputable def crR(lo nrem n:Nat):StateT SortSt Sem (Option Nat):=do
 reverseSlice' lo (lo+n)
 let s ←crL lo nrem n
 match s.1 with
 | some r=>pure r
 | none=>pure (some s.2)
noncomputable def crB(lo n q:Nat):StateT SortSt Sem (ForInStep (Option (Option Nat)×Nat×Nat)):=do
 match ←ltAt' (lo+n) (lo+n - 1) with
 | some t=>
   if t=true then
    if q>0 then do
     reverseSlice' (lo+n - (q+1)) (lo+n)
     pure (.yield (none,n+1,0))
    else pure (.yield (none,n+1,0))
   else do
    match ←ltAt' (lo+n - 1) (lo+n) with
    | some t=>if t=true then pure (.done (none,n,q)) else pure (.yield (none,n+1,q+1))
    | _=>pure (.done (some none,n,q))
 | _=>pure (.done (some none,n,q))
noncomputable def crD(lo nrem n:Nat):StateT SortSt Sem (Option Nat):=do
 rule "list.sort.descending-run"
 let s ←forIn [n+1:nrem] ((none,n+1,0):Option (Option Nat)×Nat×Nat) λ_ c=>crB lo c.2.1 c.2.2
 match s.1 with
 | some r=>pure r
 | none=>
   if s.2.2>0 then do
    reverseSlice' (lo+s.2.1 - (s.2.2+1)) (lo+s.2.1)
    crR lo nrem s.2.1
   else crR lo nrem s.2.1
theorem countRun'_eq(lo nrem:Nat):countRun' lo nrem=(do
 let s ←crL lo nrem 1
 match s.1 with
 | some r=>pure r
 | none=>
   if (s.2==nrem)=true then pure (some s.2) else
   if s.2>1 then do
    match ←ltAt' lo (lo+s.2 - 1) with
    | some t=>if t=true then pure (some s.2) else do
      reverseSlice' lo (lo+s.2)
      crD lo nrem s.2
    | _=>pure none
   else crD lo nrem s.2):=by kernel_rfl
noncomputable def bsB(lo k:Nat):StateT SortSt Sem (ForInStep (Option Bool×Unit)):=do
 let s ←forIn [0:k] ((none,0,k):Option Bool×Nat×Nat) λ_ c=>
  if c.2.1≥c.2.2 then pure (.done (none,c.2.1,c.2.2)) else do
   match ←ltAt' (lo+k) (lo+(c.2.1+c.2.2) / 2) with
   | some t=>if t=true then pure (.yield (none,c.2.1,(c.2.1+c.2.2) / 2)) else pure (.yield (none,(c.2.1+c.2.2) / 2+1,c.2.2))
   | _=>pure (.done (some false,c.2.1,c.2.2))
 match s.1 with
 | some r=>pure (.done (some r,()))
 | none=>do
   moveDown' (lo+k) (lo+s.2.1)
   pure (.yield (none,()))
theorem Hv(lo n ok:Nat):binarySort' lo n ok=(do
 let s ←forIn [max ok 1:n] ((none,()):Option Bool×Unit) λk _=>bsB lo k
 match s.1 with
 | some r=>pure r
 | none=>pure true):=by kernel_rfl
theorem GF(i:Nat):mergeAt' i=(do
 let s ←get
 match (pendingOf s)[i]?,(pendingOf s)[i+1]? with
 | some (sa,na,power),some (sb,nb,_)=>do
   set (SortSt.mk' (kindOf s) (arrOf s) (((pendingOf s).setIfInBounds i (sa,na+nb,power)).eraseIdxIfInBounds (i+1)) (gallopOf s) (failedOf s))
   match ←lC false (←elem' (arrOf s) sb) (arrOf s) sa na 0 with
   | some k=>
     if (na - k==0)=true then pure true else do
      match ←lC true (←elem' (arrOf s) (sa+k+(na - k) - 1)) (arrOf s) sb nb (nb - 1) with
      | some n2=>
        if (n2==0)=true then pure true else do
         let merged ←if na - k<=n2 then yH ((arrOf s).extract (sa+k) sb) ((arrOf s).extract sb (sb+n2)) else yI ((arrOf s).extract (sa+k) sb) ((arrOf s).extract sb (sb+n2))
         modify λs=>setArr s (merged.toList.zipIdx.foldl (λa x=>a.setIfInBounds (sa+k+x.2) x.1) (arrOf s))
         return (failedOf (←get)).isNone
      | _=>pure false
   | _=>pure false
 | _,_=>unsupported "internal:list.sort.pending"):=by kernel_rfl
section
variable{prog:Program}{w:World}{A:Around}{E:Value->Shared->Prop}{s:Shared}{κ:SortKind}{a₀:Array Keyed}{pd:Array (Nat×Nat×Nat)}{st:SortSt}
structure SB(κ:SortKind)(a₀:Array Keyed)(pd:Array (Nat×Nat×Nat))(st:SortSt):Prop where
 perm:(arrOf st).Perm a₀
 kind:kindOf st=κ
 failed:failedOf st=none
 pend:pendingOf st=pd
theorem SB.size(h:SB κ a₀ pd st):(arrOf st).size=a₀.size:=h.perm.size_eq
theorem SB.set(h:SB κ a₀ pd st){xs:Array Keyed}(hp:xs.Perm (arrOf st)):SB κ a₀ pd (setArr st xs):=⟨hp.trans h.perm,h.kind,h.failed,h.pend⟩
theorem SB.of(h:SB κ a₀ pd st):Of a₀ (arrOf st):=λ_ hp=>(Array.perm_iff_toList_perm.mp h.perm).mem_iff.mp hp
theorem wpS_ltAt{i j:Nat}{Q:Option Bool->SortSt->Prop}(C:vp prog w A s κ a₀)(hB:SB κ a₀ pd st)(hi:i<a₀.size)(hj:j<a₀.size)(h:∀b,Q (some b) st):wpS (model prog w) A E s (ltAt' i j) Q st:=by
 rw[ltAt'_eq];have hi:i<(arrOf st).size:=by rw[hB.size];exact hi
 have hj:j<(arrOf st).size:=by rw[hB.size];exact hj
 exact aaJ (wpS_get (aaJ (bY hi (aaJ (bY hj (xu C hB.kind (hB.of.get hi) (hB.of.get hj) h))))))
theorem wG{i j:Nat}{Q:PUnit->SortSt->Prop}(hB:SB κ a₀ pd st)(h:∀st',SB κ a₀ pd st'->Q ⟨⟩ st'):wpS (model prog w) A E s (reverseSlice' i j) Q st:=by
 rw[reverseSlice'_eq];exact wpS_modify (h _ (hB.set (mirror_perm _ _ _ _)))
theorem Km{lo nrem a:Nat}{Q:Option (Option Nat)×Nat->SortSt->Prop}(C:vp prog w A s κ a₀)(hn:lo+nrem<=a₀.size)(ha:a<=nrem)(hB:SB κ a₀ pd st)(h:∀m,a<=m->m<=nrem->Q (none,m) st):wpS (model prog w) A E s (crL lo nrem a) Q st:=by
 refine wpS_forRange (I:=λx c st'=>st'=st/\c=(none,x)) ?_ ?_ ⟨Z,Z⟩
 .rintro x c st' x1 xn ⟨rfl,rfl⟩
  refine aaJ (wpS_ltAt C hB (by dsimp only;lia) (by dsimp only;lia) λb=>?_);exact aZ (λ_=>aaK (h x x1 (by lia))) (λ_=>aaK ⟨Z,Z⟩)
 .rintro c st' ⟨rfl,rfl⟩
  rw[show max a nrem=nrem by lia];exact h nrem ha (aaG _)
theorem Kl{lo nrem n:Nat}{Q:Option Nat->SortSt->Prop}(C:vp prog w A s κ a₀)(hn:lo+nrem<=a₀.size)(n1:1<=n)(n2:n<=nrem)(hB:SB κ a₀ pd st)(h:∀m st',SB κ a₀ pd st'->1<=m->m<=nrem->Q (some m) st'):wpS (model prog w) A E s (crR lo nrem n) Q st:=
 aaJ (wG hB λst' hB'=>aaJ (Km C hn n2 hB' λm m1 m2=>aaK (h m st' hB' (by lia) m2)))
theorem Ko{lo nrem n:Nat}{Q:Option Nat->SortSt->Prop}(C:vp prog w A s κ a₀)(hn:lo+nrem<=a₀.size)(n2:n+1<=nrem)(hB:SB κ a₀ pd st)(h:∀m st',SB κ a₀ pd st'->1<=m->m<=nrem->Q (some m) st'):wpS (model prog w) A E s (crD lo nrem n) Q st:=by
 unfold crD;refine aaJ (wpS_lift (wpAny_rule ⟨Z, ?_⟩));refine aaJ (wpS_mono (wpS_forRange (I:=λx c st'=>SB κ a₀ pd st' /\ ∃q,c=(none,x,q)) (Q:=λc st'=>SB κ a₀ pd st' /\ ∃x q,c=(none,x,q)/\n+1<=x/\x<=nrem) ?_ ?_ ⟨hB,0,Z⟩) ?_)
 .rintro x c st' x1 xn ⟨hB',q,rfl⟩
  dsimp only;unfold crB;refine aaJ (wpS_ltAt C hB' (by lia) (by lia) λb=>?_);dsimp only;refine aZ (λ_=>aZ (λ_=>aaJ (wG hB' λst2 hB2=>aaK ⟨hB2,_,Z⟩)) (λ_=>aaK ⟨hB',_,Z⟩)) (λ_=>?_);refine aaJ (wpS_ltAt C hB' (by lia) (by lia) λb=>?_);exact aZ (λ_=>aaK ⟨hB',x,_,Z,x1,by lia⟩) (λ_=>aaK ⟨hB',_,Z⟩)
 .rintro c st' ⟨hB',q,rfl⟩
  rw[show max (n+1) nrem=nrem by lia];exact⟨hB',nrem,q,Z,n2,aaG _⟩
 .rintro c st' ⟨hB',x,q,rfl,x1,x2⟩
  exact aZ (λ_=>aaJ (wG hB' λst2 hB2=>Kl C hn (by dsimp only;lia) x2 hB2 h)) (λ_=>Kl C hn (by dsimp only;lia) x2 hB' h)
theorem wpS_countRun{lo nrem:Nat}{Q:Option Nat->SortSt->Prop}(C:vp prog w A s κ a₀)(hn:lo+nrem<=a₀.size)(h1:1<=nrem)(hB:SB κ a₀ pd st)(h:∀m st',SB κ a₀ pd st'->1<=m->m<=nrem->Q (some m) st'):wpS (model prog w) A E s (countRun' lo nrem) Q st:=by
 rw[countRun'_eq];refine aaJ (Km C hn h1 hB λm m1 m2=>?_);dsimp only;refine aZ (λ_=>aaK (h m _ hB m1 m2)) (λe=>?_);have e:¬m=nrem:=λz=>e (beq_iff_eq.mpr z);refine aZ (λ_=>aaJ (wpS_ltAt C hB (by lia) (by lia) λb=>?_)) (λ_=>Ko C hn (by lia) hB h);exact aZ (λ_=>aaK (h m _ hB m1 m2)) (λ_=>aaJ (wG hB λst2 hB2=>Ko C hn (by lia) hB2 h))
theorem Fe{lo n ok:Nat}{Q:Bool->SortSt->Prop}(C:vp prog w A s κ a₀)(hn:lo+n<=a₀.size)(hB:SB κ a₀ pd st)(h:∀st',SB κ a₀ pd st'->Q true st'):wpS (model prog w) A E s (binarySort' lo n ok) Q st:=by
 rw[Hv];refine aaJ (wpS_mono (wpS_forRange (I:=λ_ c st'=>c=(none,())/\SB κ a₀ pd st') (Q:=λc st'=>c=(none,())/\SB κ a₀ pd st') ?_ (λ_ _ z=>z) ⟨Z,hB⟩) ?_)
 .rintro k c st' _ kn ⟨rfl,hB'⟩
  unfold bsB;refine aaJ (wpS_mono (wpS_forRange (I:=λ_ c st2=>st2=st' /\ ∃l r,c=(none,l,r)/\r<=k) (Q:=λc st2=>st2=st' /\ ∃l r,c=(none,l,r)/\r<=k) ?_ (λ_ _ z=>z) ⟨Z,0,k,Z,aaG _⟩) ?_)
  .rintro x c st2 _ _ ⟨rfl,l,r,rfl,rk⟩
   refine aZ (λ_=>aaK ⟨Z,l,r,Z,rk⟩) (λz=>?_);dsimp only at z ⊢;refine aaJ (wpS_ltAt C hB' (by lia) (by lia) λb=>?_);exact aZ (λ_=>aaK ⟨Z,_,_,Z,by lia⟩) (λ_=>aaK ⟨Z,_,_,Z,rk⟩)
  .rintro c st2 ⟨rfl,l,r,rfl,_⟩
   refine aaJ ?_;rw[moveDown'_eq];exact wpS_modify (aaK ⟨Z,hB'.set (bubble_perm _ _ _)⟩)
 .rintro c st' ⟨rfl,hB'⟩
  exact aaK (h st' hB')
theorem Q6(b:Nat)(m:List Keyed):∀(n:Nat)(xs:Array Keyed),b+n+m.length<=xs.size->((m.zipIdx n).foldl (λa x=>a.setIfInBounds (b+x.2) x.1) xs).toList=xs.toList.take (b+n)++(m++xs.toList.drop (b+n+m.length)):=by
 induction m with
 | nil=>intro n xs h;simp
 | cons p m ih=>
   intro n xs h;rw[abE] at h;have hl:b+n<xs.toList.length:=by rw[aaL];lia
   rw[List.zipIdx_cons,List.foldl_cons,ih (n+1) _ (by rw[Array.size_setIfInBounds];lia),Array.toList_setIfInBounds,abE,List.drop_set_of_lt (by lia),show b+(n+1)=b+n+1 by lia,aa6,List.take_set_of_le (aaG _),List.getElem?_set_self hl,show b+n+1+m.length=b+n+(m.length+1) by lia];simp
theorem Q5{b n:Nat}{m:List Keyed}{xs:Array Keyed}(hb:b+n<=xs.size)(hp:m.Perm ((xs.toList.drop b).take n)):((m.zipIdx).foldl (λa x=>a.setIfInBounds (b+x.2) x.1) xs).Perm xs:=by
 have hl:m.length=n:=by rw[hp.length_eq,abe,List.length_drop,aaL];lia
 refine Array.perm_iff_toList_perm.mpr ?_;rw[Q6 b m 0 xs (by lia),hl,Nat.add_zero];refine List.Perm.trans ?_ (List.Perm.of_eq (List.take_append_drop b xs.toList));rw[zj xs.toList b n];exact List.Perm.append_left _ (List.Perm.append_right _ hp)
theorem U3{σ:Type}{M:Model}{A:Around}{E:Value->Shared->Prop}{s:Shared}{x:σ}{Q:PUnit->σ->Prop}{st:σ}(h:Q ⟨⟩ x):wpS M A E s (set x:StateT σ Sem PUnit) Q st:=by
 unfold wpS;rw[StateT.run_set];exact aaI ⟨Z,h⟩
theorem Fd{i sa na pw sb nb pw2:Nat}{Q:Bool->SortSt->Prop}(C:vp prog w A s κ a₀)(hB:SB κ a₀ pd st)(h1:pd[i]? = some (sa,na,pw))(h2:pd[i+1]? = some (sb,nb,pw2))(hsb:sa+na=sb)(na1:1<=na)(nb1:1<=nb)(hz:sb+nb<=a₀.size)(h:∀st',SB κ a₀ ((pd.setIfInBounds i (sa,na+nb,pw)).eraseIdxIfInBounds (i+1)) st'->Q true st'):wpS (model prog w) A E s (mergeAt' i) Q st:=by
 rw[GF];refine aaJ (wpS_get ?_);rw[hB.pend,h1,h2];dsimp only;have sz:(arrOf st).size=a₀.size:=hB.size;refine aaJ (U3 ?_);have qt:SB κ a₀ ((pd.setIfInBounds i (sa,na+nb,pw)).eraseIdxIfInBounds (i+1)) (SortSt.mk' (kindOf st) (arrOf st) ((pd.setIfInBounds i (sa,na+nb,pw)).eraseIdxIfInBounds (i+1)) (gallopOf st) (failedOf st)):=⟨hB.perm,hB.kind,hB.failed,Z⟩;have hA1:arrOf (SortSt.mk' (kindOf st) (arrOf st) ((pd.setIfInBounds i (sa,na+nb,pw)).eraseIdxIfInBounds (i+1)) (gallopOf st) (failedOf st))=arrOf st:=Z;generalize (pd.setIfInBounds i (sa,na+nb,pw)).eraseIdxIfInBounds (i+1)=pd1 at qt hA1 h ⊢;generalize SortSt.mk' (kindOf st) (arrOf st) pd1 (gallopOf st) (failedOf st)=st1 at qt hA1 ⊢;have of:=hB.of;have zb:sb<(arrOf st).size:=by lia
 refine aaJ (bY zb (aaJ (jc C qt.kind (of.get zb) of (by lia) (by lia) λk k1=>?_)));dsimp only;refine aZ (λe=>aaK (h st1 qt)) (λe=>?_);have ek:k<na:=by have:¬na - k=0:=λz=>e (beq_iff_eq.mpr z);lia
 have zc:sa+k+(na - k) - 1<(arrOf st).size:=by lia
 refine aaJ (bY zc (aaJ (jc C qt.kind (of.get zc) of (by lia) (by lia) λn2 l1=>?_)));dsimp only;refine aZ (λe=>aaK (h st1 qt)) (λe=>?_);have e2:¬n2=0:=λz=>e (beq_iff_eq.mpr z);have xz:((arrOf st).extract (sa+k) sb).size=sb - (sa+k):=by rw[Array.size_extract,Nat.min_eq_left (by lia)]
 have yz:((arrOf st).extract sb (sb+n2)).size=n2:=by rw[Array.size_extract,Nat.min_eq_left (by lia)];lia
 have sub:∀i j,Of a₀ ((arrOf st).extract i j):=λi j p hp=>of p (by rw[gw] at hp;exact List.mem_of_mem_drop (List.mem_of_mem_take hp))
 have fin:∀r st2,qz st1 st2->Mg ((arrOf st).extract (sa+k) sb) ((arrOf st).extract sb (sb+n2)) r->wpS (model prog w) A E s (do
  modify λs=>setArr s (List.foldl (λa x=>a.setIfInBounds (sa+k+x.2) x.1) (arrOf s) r.toList.zipIdx)
  return (failedOf (←get)).isNone) Q st2:=λr st2 k2 mg=>by
  refine aaJ (wpS_modify (aaJ (wpS_get ?_)));have hf:failedOf (setArr st2 (List.foldl (λa x=>a.setIfInBounds (sa+k+x.2) x.1) (arrOf st2) r.toList.zipIdx))=none:=k2.f.trans qt.failed;rw[hf];have hA2:arrOf st2=arrOf st:=k2.a.trans hA1;refine aaK (h _ ⟨?_,k2.k.trans qt.kind,hf,k2.p.trans qt.pend⟩);refine Array.Perm.trans ?_ hB.perm;rw[←hA2];refine Q5 (n:=na - k+n2) (by rw[hA2];lia) (List.Perm.trans mg (List.Perm.of_eq ?_));rw[hA2,gw,gw,List.take_add,List.drop_drop,show sb+n2 - sb=n2 by lia,show sa+k+(na - k)=sb by lia,show sb - (sa+k)=na - k by lia]
 exact aZ (λ_=>aaJ (E_ C qt.kind (sub _ _) (sub _ _) (by lia) (by lia) fin)) (λ_=>aaJ (Fb C qt.kind (sub _ _) (sub _ _) (by lia) (by lia) fin))
end
noncomputable def srP(lo n:Nat):StateT SortSt Sem (ForInStep (Option Unit×Nat)):=do
 modify λs=>setPending s ((pendingOf s).push (lo,n,0))
 pure (.yield (none,lo+n))
noncomputable def srC(pw:Nat):StateT SortSt Sem (ForInStep (Option Unit×Unit)):=do
 let st ←get
 match (if (pendingOf st).size>1 then (pendingOf st)[(pendingOf st).size - 2]? else none) with
 | some (_,_,older)=>if older<=pw then pure (.done (none,())) else do
   if (!(←mergeAt' ((pendingOf st).size - 2)))=true then pure (.done (some (),())) else pure (.yield (none,()))
 | _=>pure (.done (none,()))
noncomputable def srM(size lo n:Nat):StateT SortSt Sem (ForInStep (Option Unit×Nat)):=do
 let st ←get
 match (pendingOf st).back? with
 | some (s1,n1,_)=>do
   let s ←forIn [0:size] ((none,()):Option Unit×Unit) λ_ _=>srC (power' size (2*s1+n1) (2*s1+n1+n1+n) size)
   match s.1 with
   | some r=>pure (.done (some r,lo))
   | none=>do
     modify λs=>setPending s ((pendingOf s).modify ((pendingOf s).size - 1) λx=>match x with |(st,len,_)=>(st,len,power' size (2*s1+n1) (2*s1+n1+n1+n) size))
     srP lo n
 | _=>srP lo n
noncomputable def srB(size mr:Nat)(lo:Nat):StateT SortSt Sem (ForInStep (Option Unit×Nat)):=
 if lo≥size then pure (.done (none,lo)) else do
  match ←countRun' lo (size - lo) with
  | some n=>
    if n<mr then do
     rule "list.sort.binary-insertion"
     if (!(←binarySort' lo (min (size - lo) mr) n))=true then pure (.done (some (),lo)) else srM size lo (min (size - lo) mr)
    else srM size lo n
  | _=>pure (.done (some (),lo))
noncomputable def srI(p:Array (Nat×Nat×Nat)):Nat:=if Option.any (λx=>decide (x<p[p.size - 2+1]?.elim 0 λx=>x.2.1)) (if p.size - 2>0 then Option.map (λx=>x.2.1) p[p.size - 2 - 1]? else none)=true then p.size - 2 - 1 else p.size - 2
noncomputable def srF:StateT SortSt Sem (ForInStep (Option Unit×Unit)):=do
 let st ←get
 if (pendingOf st).size<=1 then pure (.done (none,())) else do
  if (!(←mergeAt' (srI (pendingOf st))))=true then pure (.done (some (),())) else pure (.yield (none,()))
theorem sortRuns'_eq:sortRuns'=(do
 let st ←get
 let s ←forIn [0:(arrOf st).size] ((none,0):Option Unit×Nat) λ_ c=>srB (arrOf st).size (minRun' (arrOf st).size (arrOf st).size 0) c.2
 match s.1 with
 | some r=>pure r
 | none=>do
   let s ←forIn [0:(arrOf st).size] ((none,()):Option Unit×Unit) λ_ _=>srF
   match s.1 with
   | some r=>pure r
   | none=>pure ()):=by kernel_rfl
section
variable{prog:Program}{w:World}{A:Around}{E:Value->Shared->Prop}{s:Shared}{κ:SortKind}{a₀:Array Keyed}{st:SortSt}{e lo n:Nat}
noncomputable def Rn:List (Nat×Nat×Nat)->Nat->Nat->Prop
 | [],a,e=>a=e
 | (s,n,_)::r,a,e=>s=a/\1<=n/\Rn r (a+n) e
theorem Rn.le:∀{l:List (Nat×Nat×Nat)}{a e:Nat},Rn l a e->a<=e
 | [],_,_,h=>Nat.le_of_eq h
 | _::_,_,_,h=>abX (Nat.le_add_right _ _) (Rn.le h.2.2)
theorem Rn.app{r:List (Nat×Nat×Nat)}:∀{l:List (Nat×Nat×Nat)}{a e:Nat},Rn (l++r) a e ↔ ∃m,Rn l a m/\Rn r m e
 | [],a,e=>⟨λh=>⟨a,Z,h⟩,λ⟨m,h1,h2⟩=>(show a=m from h1)▸h2⟩
 | (s,n,_)::l,a,e=>⟨λ⟨h1,h2,h3⟩=>(Rn.app.mp h3).elim λm ⟨m1,m2⟩=>⟨m,⟨h1,h2,m1⟩,m2⟩,λ⟨m,⟨h1,h2,h3⟩,m2⟩=>⟨h1,h2,Rn.app.mpr ⟨m,h3,m2⟩⟩⟩
theorem Rn.modify{f:Nat×Nat×Nat->Nat×Nat×Nat}(hf:∀x,(f x).1=x.1/\(f x).2.1=x.2.1)(l:List (Nat×Nat×Nat)):∀(i a e:Nat),Rn l a e->Rn (l.modify i f) a e:=by
 induction l with
 | nil=>intro i a e h;cases i<;>exact h
 | cons t r ih=>
   intro i a e h;obtain⟨h1,h2,h3⟩:=h;cases i with
   | zero=>
     rw[List.modify_zero_cons];obtain⟨q1,q2⟩:=hf t;exact⟨q1.trans h1,by rw[q2];exact h2,by rw[q2];exact h3⟩
   | succ i=>
     rw[List.modify_succ_cons];exact⟨h1,h2,ih i _ _ h3⟩
noncomputable def RI(κ:SortKind)(a₀:Array Keyed)(e:Nat)(st:SortSt):Prop:=SB κ a₀ (pendingOf st) st/\Rn (pendingOf st).toList 0 e
theorem xg{i:Nat}{Q:Bool->SortSt->Prop}(C:vp prog w A s κ a₀)(hR:RI κ a₀ e st)(he:e<=a₀.size)(hi:i+1<(pendingOf st).size)(h:∀st',RI κ a₀ e st'->Q true st'):wpS (model prog w) A E s (mergeAt' i) Q st:=by
 obtain⟨hB,hr⟩:=hR;have hl:(pendingOf st).toList.length=(pendingOf st).size:=aaL;generalize pendingOf st=pd at hB hr hi hl
 obtain⟨pre,⟨sa,na,pw⟩,⟨sb,nb,pw2⟩,post,el,pl⟩:∃pre p q post,pd.toList=pre++p::q::post/\pre.length=i:=
  ⟨pd.toList.take i,pd.toList[i],pd.toList[i+1],pd.toList.drop (i+2),by rw[←List.drop_eq_getElem_cons,←List.drop_eq_getElem_cons,List.take_append_drop],by rw[abe];lia⟩
 rw[el] at hr;obtain⟨m,r1,e1,n1,e2,n2,r3⟩:=Rn.app.mp hr;subst e1;have le3:=Rn.le r3;have h1:pd[i]? = some (sa,na,pw):=by rw[←Array.getElem?_toList,el,aaU (by lia),pl,Nat.sub_self];rfl
 have h2:pd[i+1]? = some (sb,nb,pw2):=by rw[←Array.getElem?_toList,el,aaU (by lia),pl,show i+1 - i=1 by lia];rfl
 refine Fd C hB h1 h2 e2.symm n1 n2 (by lia) λst' hB'=>h st' ?_
 have ep:((pd.setIfInBounds i (sa,na+nb,pw)).eraseIdxIfInBounds (i+1)).toList=pre++(sa,na+nb,pw)::post:=by
  rw[Array.toList_eraseIdxIfInBounds,Array.toList_setIfInBounds,el,List.set_append_right _ _ (by lia),pl,Nat.sub_self,List.eraseIdx_append_of_length_le (by lia),pl,show i+1 - i=1 by lia];rfl
 unfold RI;rw[hB'.pend,ep];exact⟨hB',Rn.app.mpr ⟨sa,r1,Z,by lia,by rw[←Nat.add_assoc];exact r3⟩⟩
theorem J9{Q:ForInStep (Option Unit×Nat)->SortSt->Prop}(hR:RI κ a₀ lo st)(n1:1<=n)(h:∀st',RI κ a₀ (lo+n) st'->Q (.yield (none,lo+n)) st'):wpS (model prog w) A E s (srP lo n) Q st:=by
 unfold srP;refine aaJ (wpS_modify (aaK (h _ ⟨⟨hR.1.perm,hR.1.kind,hR.1.failed,Z⟩, ?_⟩)));show Rn ((pendingOf st).push _).toList _ _;rw[Array.toList_push];exact Rn.app.mpr ⟨lo,hR.2,Z,n1,Z⟩
theorem J_{Q:ForInStep (Option Unit×Nat)->SortSt->Prop}(C:vp prog w A s κ a₀)(hR:RI κ a₀ lo st)(hlo:lo<=a₀.size)(n1:1<=n)(h:∀st',RI κ a₀ (lo+n) st'->Q (.yield (none,lo+n)) st'):wpS (model prog w) A E s (srM a₀.size lo n) Q st:=by
 unfold srM;refine aaJ (wpS_get ?_);cases hb:(pendingOf st).back? with
 | none=>exact J9 hR n1 h
 | some t=>
   obtain⟨s1,n1',pw⟩:=t;dsimp only;generalize power' a₀.size (2*s1+n1') (2*s1+n1'+n1'+n) a₀.size=pwr;refine aaJ (wpS_mono (wpS_forRange (I:=λ_ c vq=>c=(none,())/\RI κ a₀ lo vq) (Q:=λc vq=>c=(none,())/\RI κ a₀ lo vq) ?_ (λ_ _ z=>z) ⟨Z,hR⟩) ?_)
   .rintro y c vq _ _ ⟨rfl,h4⟩
    unfold srC;refine aaJ (wpS_get ?_);cases hg:(if (pendingOf vq).size>1 then (pendingOf vq)[(pendingOf vq).size - 2]? else none) with
    | none=>exact aaK ⟨Z,h4⟩
    | some t=>
      have gt:(pendingOf vq).size>1:=by
       by_cases g:(pendingOf vq).size>1
       .exact g
       .rw[ab6 g] at hg;cases hg
      exact aZ (λ_=>aaK ⟨Z,h4⟩) (λ_=>aaJ (xg C h4 hlo (by lia) λVi h5=>aaK ⟨Z,h5⟩))
   .rintro c vq ⟨rfl,h4⟩
    refine aaJ (wpS_modify (J9 ⟨⟨h4.1.perm,h4.1.kind,h4.1.failed,Z⟩, ?_⟩ n1 h));show Rn ((pendingOf vq).modify _ _).toList _ _;rw[Array.toList_modify];exact Rn.modify (f:=λx=>(x.1,x.2.1,pwr)) (λx=>⟨Z,Z⟩) _ _ _ _ h4.2
theorem wpS_sortRuns{Q:Unit->SortSt->Prop}(C:vp prog w A s κ a₀)(hB:SB κ a₀ #[] st)(h:∀st',(arrOf st').Perm a₀->failedOf st'=none->Q () st'):wpS (model prog w) A E s sortRuns' Q st:=by
 rw[sortRuns'_eq];refine aaJ (wpS_get ?_);rw[hB.size];generalize minRun' a₀.size a₀.size 0=mr;refine aaJ (wpS_mono (wpS_forRange (I:=λ_ c st'=>∃lo,c=(none,lo)/\lo<=a₀.size/\RI κ a₀ lo st') (Q:=λc st'=>∃lo,c=(none,lo)/\lo<=a₀.size/\RI κ a₀ lo st') ?_ (λ_ _ z=>z) ⟨0,Z,Nat.zero_le _,by unfold RI;rw[hB.pend];exact⟨hB,Z⟩⟩) ?_)
 .rintro x c st' _ _ ⟨lo,rfl,x2,hR⟩
  dsimp only;unfold srB;refine aZ (λ_=>aaK ⟨lo,Z,x2,hR⟩) (λge=>?_);refine aaJ (wpS_countRun C (by lia) (by lia) hR.1 λm st2 hB2 m1 m2=>?_);have Ox:RI κ a₀ lo st2:=by unfold RI;rw[hB2.pend];exact⟨hB2,hR.2⟩
  refine aZ (λlt=>?_) (λ_=>J_ C Ox x2 m1 λst3 h3=>⟨lo+m,Z,by lia,h3⟩);refine aaJ (wpS_lift (wpAny_rule ⟨Z,aaJ (Fe C (by lia) hB2 λst3 hB3=>?_)⟩));have Wv:RI κ a₀ lo st3:=by unfold RI;rw[hB3.pend];exact⟨hB3,hR.2⟩
  exact J_ C Wv x2 (by lia) λvq h4=>⟨_,Z,by lia,h4⟩
 .rintro c st' ⟨lo,rfl,x2,hR⟩
  dsimp only;refine aaJ (wpS_mono (wpS_forRange (I:=λ_ c vq=>c=(none,())/\RI κ a₀ lo vq) (Q:=λc vq=>c=(none,())/\RI κ a₀ lo vq) ?_ (λ_ _ z=>z) ⟨Z,hR⟩) ?_)
  .rintro y c vq _ _ ⟨rfl,h4⟩
   unfold srF;refine aaJ (wpS_get (aZ (λ_=>aaK ⟨Z,h4⟩) (λl1=>aaJ (xg C h4 x2 ?_ λVi h5=>aaK ⟨Z,h5⟩))));have hix:∀(c:Prop)[Decidable c],(if c then (pendingOf vq).size - 2 - 1 else (pendingOf vq).size - 2)+1<(pendingOf vq).size:=λc _=>by split<;>lia
   exact hix _
  .rintro c vq ⟨rfl,h4⟩
   exact aaK (h vq h4.1.perm h4.1.failed)
end
section
variable{prog:Program}{w:World}{A:Around}{E:Value->Shared->Prop}{s:Shared}{κ:SortKind}
theorem Zn{vs:List Value}{xs:Array Keyed}(hp:xs.Perm (pairsOf vs)):(xs.map (·.2)).toList.Perm vs:=by
 have:=(Array.perm_iff_toList_perm.mp hp).map Prod.snd;rwa [pairsOf_toList,List.map_snd_zip (aaG _),←Array.toList_map] at this
theorem z_{a:Addr}{vs:List Value}{n:Nat}{P:PySem.Fin->Shared->Prop}(ho:s.heap.get? a=some (seqObj "list" vs.toArray n))(hz:vs.length<=sizeLine)(hk:2<=vs.length -> ∀h':Heap,(∀b o,b≠a->s.heap.get? b=some o->h'.get? b=some o)->(∀(Q:SortKind->Shared->Prop)(E:Value->Shared->Prop),Q κ {s with heap:=h'}->wpAny (model prog w) A (keyKind' vs.toArray) Q E {s with heap:=h'})/\vp prog w A {s with heap:=h'} κ (pairsOf vs))(h:∀out:List Value,out.Perm vs->P (.done (.ret .none)) {s with heap:=sortedHeap s.heap a vs out.toArray}):
 wpAny (model prog w) A (Builtin.«list.sort» ⟨[.ref a],[]⟩) P E s:=by
 rw[list_sort_plain];have ha:a<s.heap.objs.size:=aaB ho;refine aaH (listItems_at ho rfl ?_);refine aaH (listUpdate_at ho rfl ?_ (by rw[aaR];exact hz) (Nat.zero_le _));obtain⟨e1,ho1⟩:∃e1,(s.heap.update a (Obj.mapSeq λ_=> #[])).get? a=some (seqObj "list" #[] e1):=⟨_,get?_update_seq ho (λ_=> #[])⟩;refine aaH (seqEpoch_at ho1 rfl ?_);refine aaH (wpAny_newTuple ?_ (by show vs.length<=_;exact hz));refine aaH (wpAny_newList ?_ (Nat.zero_le _));refine wpAny_holding ?_
 have keep:∀b o,b≠a->s.heap.get? b=some o->(((s.heap.update a (Obj.mapSeq λ_=> #[])).push (seqObj "tuple" vs.toArray 0)).push (seqObj "list" #[] 0)).get? b=some o:=λb o nb e=>by
  refine aaj _ (aaj _ ?_);rw[Heap.get?_update_ne _ _ _ _ nb];exact e
 have ho6:(((s.heap.update a (Obj.mapSeq λ_=> #[])).push (seqObj "tuple" vs.toArray 0)).push (seqObj "list" #[] 0)).get? a=some (seqObj "list" #[] e1):=aaj _ (aaj _ ho1);show wpAny (model prog w) A _ P E {s with heap:=((s.heap.update a (Obj.mapSeq λ_=> #[])).push (seqObj "tuple" vs.toArray 0)).push (seqObj "list" #[] 0)};dsimp only;have hsz:vs.toArray.size=vs.length:=by simp
 have fin:∀st':SortSt,(arrOf st').Perm (pairsOf vs)->P (.done (.ret .none)) {s with heap:=sortedHeap s.heap a vs ((arrOf st').map (·.2))}:=by
  intro st' hp;have:=h _ (Zn hp);rwa [Array.toArray_toList] at this
 by_cases h2:vs.toArray.size<2
 .rw[ab9 h2,ab9 h2]
  refine aaH (aaI ?_);rw[StateT.run_pure];refine aaH (aaI ?_);dsimp only;refine aaH (seqEpoch_at ho6 rfl ?_);refine aaH (listUpdate_at ho6 rfl ?_ (Nat.zero_le _) (by rw[Array.size_map];show (pairsOf vs).size<=_;rw[pairsOf_size];lia));simp only[bne_self_eq_false,Bool.false_eq_true,if_false];exact aaI (fin (SortSt.mk' general' (vs.toArray.zip vs.toArray) #[] 7 none) (Array.Perm.refl _))
 .rw[ab6 h2,ab6 h2]
  obtain⟨kk,kc⟩:=hk (by lia) _ keep;refine aaH (kk _ _ ?_)
  refine aaH (wpAny_mono (wpS_sortRuns (a₀:=pairsOf vs) (st:=SortSt.mk' κ (vs.toArray.zip vs.toArray) #[] 7 none)
   (Q:=λ_ st'=>(arrOf st').Perm (pairsOf vs)/\failedOf st'=none)
   kc ⟨Array.Perm.refl _,Z,Z,Z⟩ λst' a1 a2=>⟨a1,a2⟩) ?_ λ_ _ e=>e)
  rintro⟨⟨⟩,st'⟩ s' ⟨rfl,hp,hf⟩;dsimp only;refine aaH (seqEpoch_at ho6 rfl ?_);refine aaH (listUpdate_at ho6 rfl ?_ (Nat.zero_le _) (abX (Nat.le_of_eq ((Array.size_map ..).trans (hp.size_eq.trans (pairsOf_size _)))) (Nat.le_succ_of_le hz)));rw[hf];simp only[bne_self_eq_false,Bool.false_eq_true,if_false];exact aaI (fin st' hp)
theorem Ij{l:Addr}{vs:List Value}{Q:Value->Shared->Prop}(hl:s.heap.IsList l vs.toArray)(hz:vs.length<=sizeLine)(hk:2<=vs.length -> ∀h':Heap,(∀b o,s.heap.get? b=some o->h'.get? b=some o)->(∀(Q:SortKind->Shared->Prop)(E:Value->Shared->Prop),Q κ {s with heap:=h'}->wpAny (model prog w) A.in1.in1 (keyKind' vs.toArray) Q E {s with heap:=h'})/\vp prog w A.in1.in1 {s with heap:=h'} κ (pairsOf vs))(h:∀(h':Heap)(D:Addr)(c:Nat)(out:List Value),(∀b o,s.heap.get? b=some o->h'.get? b=some o)->s.heap.objs.size<=D->h'.get? D=some (seqObj "list" out.toArray c)->out.Perm vs->Q (.ref D) {s with heap:=h'}):
 wpAny (model prog w) A (call (.builtin "sorted") [.ref l]) Q E s:=by
 refine Calls.call_function_entry kind_sorted plain_sorted entry_sorted (args_sorted1 _) ?_;unfold Builtin.«sorted»;refine aaH (m:=checkCount "sorted" 1 1 _) (aaI ?_);refine aaH (collect_list hl ?_ hz);refine aaH (wpAny_newList ?_ hz)
 have hsz:((s.heap.push (seqObj "list" #[] 0)).update s.heap.objs.size (Obj.mapSeq (· ++ vs.toArray))).objs.size=s.heap.objs.size+1:=by
  rw[Heap.size_update,size_push']
 have hoL:(((s.heap.push (seqObj "list" #[] 0)).update s.heap.objs.size (Obj.mapSeq (· ++ vs.toArray))).push (seqObj "list" vs.toArray 0)).get? (s.heap.objs.size+1)=some (seqObj "list" vs.toArray 0):=by
  rw[←hsz];exact aam _ rfl
 have keep:∀b o,s.heap.get? b=some o->(((s.heap.push (seqObj "list" #[] 0)).update s.heap.objs.size (Obj.mapSeq (· ++ vs.toArray))).push (seqObj "list" vs.toArray 0)).get? b=some o:=λb o q=>by
  have hlt:b<s.heap.objs.size:=aaB q;rw[Heap.get?_push_ne _ _ _ (by rw[hsz];exact aaW (Nat.lt_succ_of_lt hlt)),Heap.get?_update_ne _ _ _ _ (aaW hlt),Heap.get?_push_ne _ _ _ (aaW hlt)];exact q
 show wpAny _ _ _ _ _ {s with heap:=((s.heap.push (seqObj "list" #[] 0)).update s.heap.objs.size (Obj.mapSeq (· ++ vs.toArray))).push (seqObj "list" vs.toArray 0)};rw[hsz];generalize ((s.heap.push (seqObj "list" #[] 0)).update s.heap.objs.size (Obj.mapSeq (· ++ vs.toArray))).push (seqObj "list" vs.toArray 0)=h1 at keep hoL ⊢;have nD:∀b o,s.heap.get? b=some o->b≠s.heap.objs.size+1:=λb o e=>aaW (Nat.lt_succ_of_lt (aaB e));refine aaH (wpAny_holding (wpAny_call_entry slot_list_sort ⟨_,hoL,Z⟩ entry_list_sort (z_ (s:={s with heap:=h1}) hoL hz (λh2 h' kp=>hk h2 h' λb o e=>kp b o (nD b o e) (keep b o e)) λout p1=>⟨_,Z, ?_⟩) (args_list_sort _)));refine aaI ⟨_,Z, ?_⟩;obtain⟨e1,ho1⟩:∃e1,(h1.update (s.heap.objs.size+1) (Obj.mapSeq λ_=> #[])).get? (s.heap.objs.size+1)=some (seqObj "list" #[] e1):=⟨_,get?_update_seq hoL (λ_=> #[])⟩;have ho2:(((h1.update (s.heap.objs.size+1) (Obj.mapSeq λ_=> #[])).push (seqObj "tuple" vs.toArray 0)).push (seqObj "list" #[] 0)).get? (s.heap.objs.size+1)=some (seqObj "list" #[] e1):=aaj _ (aaj _ ho1);refine h (sortedHeap h1 (s.heap.objs.size+1) vs out.toArray) _ _ out (λb o e=>?_) (Nat.le_succ _) (by unfold sortedHeap;exact get?_update_seq ho2 (λ_=>out.toArray)) p1;unfold sortedHeap;rw[Heap.get?_update_ne _ _ _ _ (nD b o e)];refine aaj _ (aaj _ ?_);rw[Heap.get?_update_ne _ _ _ _ (nD b o e)];exact keep b o e
end
end Tip
namespace L2
open PySem PySem.Spec PyProof.Rows PySem.W
section
variable{X:Cx}
theorem Ls{prog:Program}{w:World}{A:Around}{s:Shared}{Q:Bool->Shared->Prop}(h:∀b,Q b s)(fin:Bool):∀(xs ys:List Value)(ns ms:List Int)(i:Nat),IntsAre xs ns->IntsAre ys ms->KatLex prog w A true fin Q (xs.zip ys) i s
 | _,_,[],[],i,.nil,.nil=>h fin
 | _,_,_::_,[],_,.cons _ _ _,.nil=>h fin
 | _,_,[],_::_,_,.nil,.cons _ _ _=>h fin
 | _,_,n::ns,m::ms,i,.cons _ t hx,.cons _ u hy=>by
   rw[List.zip_cons_cons];refine kat_cons (wpAny_eqBool_int ?_);cases (n==m) with
   | true=>exact kat_yes (Ls h fin _ _ ns ms (i+1) hx hy)
   | false=>
     refine kat_no ?_;cases (true&&i==0) with
     | true=>exact oneLt_int (h _)
     | false=>exact kat_one _ _ (lt_int (show W.BoolBack Q (.bool (decide (n<m))) s from h _))
noncomputable def Uj(h:Heap)(vs:List Value):Prop:=∀v∈vs,∃a its ns,v = .ref a/\IsTup h a its.toArray/\IntsAre its ns/\1<=ns.length
theorem Qq{prog:Program}{w:World}{A:Around}{s:Shared}{vs:List Value}{h0:Heap}(T:Uj h0 vs)(kp:∀b o,h0.get? b=some o->s.heap.get? b=some o):Tip.vp prog w A s (tuples' true) (pairsOf vs):=by
 refine⟨λp hp q hq E Q h=>?_⟩;rw[pairsOf_toList] at hp hq;obtain⟨_,mp⟩:=mem_zip_self hp;obtain⟨_,mq⟩:=mem_zip_self hq;obtain⟨a,its,ns,ep,⟨oa,ea,ca,n1,da⟩,ia,_⟩:=T _ mp;obtain⟨b,jts,ms,eq,⟨ob,eb,cb,n2,db⟩,ib,_⟩:=T _ mq;rw[ep,eq];refine kat_lt (kp _ _ ea) da (kp _ _ eb) db ?_;rw[show its.toArray.toList=its by simp,show jts.toArray.toList=jts by simp];exact Ls h _ its jts ns ms 0 ia ib
theorem Fo{h0 h1:Heap}(kp:∀b o,h0.get? b=some o->h1.get? b=some o):∀{vs:List Value},Uj h0 vs -> ∃fs,KatTups h1 vs fs/\fs.length=vs.length /\ ∀f∈fs,∃n t,f=Value.int n t
 | [],_=>⟨[],trivial,Z,λ_ z=>acq z (by simp)⟩
 | v::vs,T=>by
   obtain⟨fs,t1,t2,t3⟩:=Fo kp (vs:=vs) λu hu=>T u (aa1 _ hu);obtain⟨a,its,ns,rfl,⟨o,e,c,n,d⟩,ia,la⟩:=T v (List.mem_cons_self ..)
   match its,ns,ia,la,d with
   | _,_,.nil,la,d=>simp at la
   | _,_,.cons m t r,la,d=>
     refine⟨_::fs,KatTups.cons (kp _ _ e) c d rfl t1,by simp[t2],λf hf=>?_⟩;rcases List.mem_cons.mp hf with rfl|hf
     .exact⟨_,_,Z⟩
     .exact t3 f hf
theorem MN{ys:List V}{us out:List Value}(r:Vals ys us)(p:out.Perm us):∃zs,Vals zs out/\zs.Perm ys:=by
 induction p generalizing ys with
 | nil=>cases r;exact⟨[],.nil,.refl _⟩
 | cons x p ih=>
   cases r with
   | cons rx rt=>
     obtain⟨zs,z1,z2⟩:=ih rt;exact⟨_::zs,.cons rx z1,.cons _ z2⟩
 | swap x y l=>
   cases r with
   | cons rx rt=>
     cases rt with
     | cons ry rl=>exact⟨_,.cons ry (.cons rx rl),.swap _ _ _⟩
 | trans p q ih1 ih2=>
   obtain⟨zs,z1,z2⟩:=ih2 r;obtain⟨ws,w1,w2⟩:=ih1 z1;exact⟨ws,w1,w2.trans z2⟩
theorem Bv:∀{ns:List Int}{vs:List Value},Vals (ns.map V.int) vs->IntsAre vs ns
 | [],_,.nil=> .nil
 | n::ns,_,.cons ⟨t,e⟩ r=>by subst e;exact .cons n t (Bv r)
noncomputable def IK(K:PySem.W.Frag):List V->Hp->VK->Prop:=λxs H Q=>∃(p:Addr) (ys:List V),xs=[.ref p]/\bH K H p ys/\(∀y∈ys,∃(a:Addr) (ns:List Int),y = .ref a/\cA K H a (ns.map V.int)/\1<=ns.length) /\
 ∀l zs,H l=none->zs.Perm ys->Q (.ref l) (upd H l (.lst zs))
theorem JL:k_ X (.builtin "sorted") (IK X.K):=by
 intro pins s σ H xs us Q I r h;obtain⟨p,ys,rfl,hq,ht,q⟩:=h;obtain⟨u,rfl,rx⟩:=vals1 r;cases rx;obtain⟨its,rv,pl,hz⟩:=I.list hq;have hlen:its.length=ys.length:=by rw[←rv.length]
 have T:Uj s.heap its:=λv hv=>by
  obtain⟨i,hi,e⟩:=List.getElem_of_mem hv;have hy:i<ys.length:=by lia
  obtain⟨v',hv',ry⟩:=rv.get (i:=i) (x:=ys[i]) (by rw[aae hy]);rw[aae hi,e] at hv';cases hv';obtain⟨a,ns,e1,sq,hl⟩:=ht _ (List.getElem_mem hy);rw[e1] at ry;cases ry;obtain⟨jts,rj,tj,_⟩:=I.tuple sq;exact⟨a,jts,_,Z,tj,Bv rj,hl⟩
 refine Tip.Ij (κ:=tuples' true) pl.isList (by lia) (λh2 h' kp=>⟨λQ E hQ=>?_,Qq T kp⟩) λh' D c out kp hD hd hp=>?_
 .obtain⟨fs,t1,t2,t3⟩:=Fo (h1:=h') kp T
  exact kat_kind (T:= .type "int") t1 (by lia) (λv hv=>by obtain⟨n,t,rfl⟩:=t3 v hv;exact .now) rfl hQ
 obtain⟨zs,z1,z2⟩:=MN rv hp;have hzl:zs.length<=sizeLine:=by rw[z2.length_eq];lia
 exact⟨.ref D,_,I.laid (t':=s.toks) kp hD (show cU X.prog X.w _ h' _ (.lst zs) from ⟨hzl,out,c,z1,hd⟩),Z,q D zs (I.hok.fresh hD) z2⟩
theorem vM{K:PySem.W.Frag}(hK:X.K=K):k_ X (.builtin "sorted") (IK K):=by subst hK;exact JL
end
end L2
namespace Prf
open PySem L2
noncomputable def top(i:Nat):Stmt:=PySem.Challenge.pw_fewnotes_k61_no_such_way.main.body.getD i (.Pass ⟨0,0,0,0⟩)
noncomputable abbrev qT:Stmt:=top 8
noncomputable abbrev qW:Stmt:=top 9
noncomputable abbrev uI:Stmt:=top 12
noncomputable abbrev oK:Stmt:=inClass (top 16) 0
noncomputable abbrev j6:Stmt:=inClass (top 16) 1
noncomputable abbrev j5:Stmt:=inClass (top 16) 3
noncomputable abbrev uJ:Stmt:=inClass (top 16) 4
noncomputable abbrev m5:Stmt:=inClass (top 16) 5
noncomputable abbrev oJ:Stmt:=inClass (top 16) 6
noncomputable abbrev g_:Stmt:=inClass (top 16) 7
noncomputable abbrev bR:Stmt:=inClass (top 17) 0
noncomputable abbrev mZ:Stmt:=inClass (top 17) 1
noncomputable abbrev jd:Stmt:=inClass (top 17) 2
noncomputable abbrev oH:Stmt:=inClass (top 17) 6
noncomputable abbrev mY:Stmt:=inClass (top 17) 8
noncomputable abbrev jz:Stmt:=inClass (top 17) 9
noncomputable abbrev jx:Stmt:=top 18
noncomputable abbrev dO:Stmt:=top 20
noncomputable abbrev CK:Stmt:=top 21
noncomputable abbrev jY:Stmt:=top 22
noncomputable abbrev uG:Stmt:=top 23
noncomputable abbrev mW:Stmt:=top 24
noncomputable abbrev CJ:Stmt:=top 26
noncomputable abbrev uH:Stmt:=top 27
noncomputable abbrev jZ:Stmt:=top 28
noncomputable abbrev oG:Stmt:=top 29
noncomputable abbrev jy:Stmt:=top 30
noncomputable abbrev qR:Stmt:=top 31
noncomputable abbrev mX:Stmt:=top 32
noncomputable abbrev qU:Stmt:=top 33
noncomputable abbrev CP:Stmt:=top 34
noncomputable abbrev b_:Stmt:=top 36
noncomputable abbrev uF:Stmt:=top 37
noncomputable abbrev Iv:Stmt:=top 39
noncomputable abbrev CZ:Stmt:=top 40
noncomputable abbrev Dd:Stmt:=top 41
noncomputable abbrev yh:Stmt:=top 42
noncomputable abbrev yd:Stmt:=top 43
noncomputable abbrev Iu:Stmt:=top 44
noncomputable abbrev C_:Stmt:=top 45
noncomputable abbrev qX:Stmt:=top 46
noncomputable abbrev yj:Stmt:=top 47
noncomputable abbrev Ir:Stmt:=top 48
noncomputable abbrev yg:Stmt:=top 49
noncomputable abbrev jB:Stmt:=top 50
noncomputable abbrev jA:Stmt:=top 51
noncomputable abbrev j4:Stmt:=top 52
noncomputable abbrev CQ:Stmt:=top 53
noncomputable abbrev CV:Stmt:=top 54
noncomputable abbrev CT:Stmt:=top 55
noncomputable abbrev qY:Stmt:=top 56
noncomputable abbrev QJ:Stmt:=top 57
structure rN(mg:Str->Option Value):Prop where
 Eb:mg "ValueError" = none
 Yp:mg "all" = none
 ain:mg "any" = none
 aau:mg "bool" = none
 vO:mg "enumerate" = none
 acQ:mg "int" = none
 dH:mg "isinstance" = none
 lD:mg "len" = none
 kW:mg "list" = none
 Yo:mg "max" = none
 acP:mg "min" = none
 ji:mg "range" = none
 Hw:mg "sorted" = none
 Xe:mg "tuple" = none
 acO:mg "zip" = none
theorem FQ:aY ["value"] ["value"] (aH qT):=⟨Z,Z,Z,by decide +kernel,Z,by decide +kernel,by decide +kernel⟩
theorem FW:aY ["value","count"] ["value","count"] (aH qW):=⟨Z,Z,Z,by decide +kernel,Z,by decide +kernel,by decide +kernel⟩
theorem Io:aY ["row"] ["row"] (aH uI):=⟨Z,Z,Z,by decide +kernel,Z,by decide +kernel,by decide +kernel⟩
theorem CG:aY ["self","rows"] ["self","rows"] (aH oK):=⟨Z,Z,Z,by decide +kernel,Z,by decide +kernel,by decide +kernel⟩
theorem nF:aY ["self","other"] ["self"] (aH j6):=⟨Z,Z,Z,by decide +kernel,Z,by decide +kernel,by decide +kernel⟩
theorem jw:aY ["self","done"] ["self"] (aH j5):=⟨Z,Z,Z,by decide +kernel,Z,by decide +kernel,by decide +kernel⟩
theorem Ip:aY ["self","row"] ["self","row"] (aH uJ):=⟨Z,Z,Z,by decide +kernel,Z,by decide +kernel,by decide +kernel⟩
theorem lK:aY ["self","row","left","right"] ["self","row"] (aH m5):=⟨Z,Z,Z,by decide +kernel,Z,by decide +kernel,by decide +kernel⟩
theorem Cz:aY ["self","box","number"] ["self","box","number"] (aH oJ):=⟨Z,Z,Z,by decide +kernel,Z,by decide +kernel,by decide +kernel⟩
theorem gG:aY ["self","part","left","right"] ["self","part"] (aH g_):=⟨Z,Z,Z,by decide +kernel,Z,by decide +kernel,by decide +kernel⟩
theorem lJ:aY ["self","program","cells","one"] ["self","program","cells"] (aH bR):=⟨Z,Z,Z,by decide +kernel,Z,by decide +kernel,by decide +kernel⟩
theorem lH:aY ["self","hand","one","touch"] ["self","hand"] (aH mZ):=⟨Z,Z,Z,by decide +kernel,Z,by decide +kernel,by decide +kernel⟩
theorem eE:aY ["self","one","row","cell","read","written"] ["self","one"] (aH jd):=⟨Z,Z,Z,by decide +kernel,Z,by decide +kernel,by decide +kernel⟩
theorem Cy:aY ["self","hand"] ["self","hand"] (aH oH):=⟨Z,Z,Z,by decide +kernel,Z,by decide +kernel,by decide +kernel⟩
theorem qJ:aY ["self","other"] ["self"] (aH mY):=⟨Z,Z,Z,by decide +kernel,Z,by decide +kernel,by decide +kernel⟩
theorem uD:aY ["self","hand"] ["self","hand"] (aH jz):=⟨Z,Z,Z,by decide +kernel,Z,by decide +kernel,by decide +kernel⟩
theorem uz:aY ["cells","count"] ["cells","count"] (aH jx):=⟨Z,Z,Z,by decide +kernel,Z,by decide +kernel,by decide +kernel⟩
theorem lW:aY ["program","order","cells","works","web","hand","touch"] ["program","order","cells"] (aH dO):=⟨Z,Z,Z,by decide +kernel,Z,by decide +kernel,by decide +kernel⟩
theorem oE:aY ["web","counts","told","touch","k"] ["web"] (aH CK):=⟨Z,Z,Z,by decide +kernel,Z,by decide +kernel,by decide +kernel⟩
theorem vR:aY ["one","other"] ["one","other"] (aH jY):=⟨Z,Z,Z,by decide +kernel,Z,by decide +kernel,by decide +kernel⟩
theorem Il:aY ["web","place","later"] ["web","place","later"] (aH uG):=⟨Z,Z,Z,by decide +kernel,Z,by decide +kernel,by decide +kernel⟩
theorem jg:aY ["web","one","other","left","here","steps"] ["web","one","other"] (aH mW):=⟨Z,Z,Z,by decide +kernel,Z,by decide +kernel,by decide +kernel⟩
theorem jX:aY ["web","named","knowns","told","place","name","found"] ["web"] (aH CJ):=⟨Z,Z,Z,by decide +kernel,Z,by decide +kernel,by decide +kernel⟩
theorem Im:aY ["value"] ["value"] (aH uH):=⟨Z,Z,Z,by decide +kernel,Z,by decide +kernel,by decide +kernel⟩
theorem vU:aY ["web","note"] ["web","note"] (aH jZ):=⟨Z,Z,Z,by decide +kernel,Z,by decide +kernel,by decide +kernel⟩
theorem jK:aY ["web","places","place","name"] ["web"] (aH oG):=⟨Z,Z,Z,by decide +kernel,Z,by decide +kernel,by decide +kernel⟩
theorem lX:aY ["web","one","other","left"] ["web","one","other"] (aH jy):=⟨Z,Z,Z,by decide +kernel,Z,by decide +kernel,by decide +kernel⟩
theorem FN:aY ["named","bare","name"] ["named","bare","name"] (aH qR):=⟨Z,Z,Z,by decide +kernel,Z,by decide +kernel,by decide +kernel⟩
theorem jh:aY ["web","named","knowns","place","bare","known","earlier"] ["web","named","knowns","place"] (aH mX):=⟨Z,Z,Z,by decide +kernel,Z,by decide +kernel,by decide +kernel⟩
theorem FT:aY ["name","known"] ["name","known"] (aH qU):=⟨Z,Z,Z,by decide +kernel,Z,by decide +kernel,by decide +kernel⟩
theorem FP:aY ["known","more","hand"] ["known","more"] (aH CP):=⟨Z,Z,Z,by decide +kernel,Z,by decide +kernel,by decide +kernel⟩
theorem gD:aY ["program","order","note","cells","web","places","ahead","works","hand"] ["program","order","note","cells"] (aH b_):=⟨Z,Z,Z,by decide +kernel,Z,by decide +kernel,by decide +kernel⟩
theorem qQ:aY ["works","one","other","twin","first"] ["works","one","other"] (aH uF):=⟨Z,Z,Z,by decide +kernel,Z,by decide +kernel,by decide +kernel⟩
theorem wK:aY ["script","total","cell"] ["script"] (aH Iv):=⟨Z,Z,Z,by decide +kernel,Z,by decide +kernel,by decide +kernel⟩
theorem xY:aY ["number","place","one","two"] ["number","place"] (aH CZ):=⟨Z,Z,Z,by decide +kernel,Z,by decide +kernel,by decide +kernel⟩
theorem yc:aY ["bag","many","cell","found"] ["bag","many"] (aH Dd):=⟨Z,Z,Z,by decide +kernel,Z,by decide +kernel,by decide +kernel⟩
theorem Nk:aY ["bag"] ["bag"] (aH yh):=⟨Z,Z,Z,by decide +kernel,Z,by decide +kernel,by decide +kernel⟩
theorem uE:aY ["bag","kind","one"] ["bag"] (aH yd):=⟨Z,Z,Z,by decide +kernel,Z,by decide +kernel,by decide +kernel⟩
theorem sJ:aY ["bag","size","rows","kind","box","cell","to"] ["bag","size","rows"] (aH Iu):=⟨Z,Z,Z,by decide +kernel,Z,by decide +kernel,by decide +kernel⟩
theorem xZ:aY ["bag","size","rows"] ["bag","size"] (aH C_):=⟨Z,Z,Z,by decide +kernel,Z,by decide +kernel,by decide +kernel⟩
theorem oF:aY ["bag","many","size"] ["bag"] (aH qX):=⟨Z,Z,Z,by decide +kernel,Z,by decide +kernel,by decide +kernel⟩
theorem Nm:aY ["bag","size"] ["bag","size"] (aH yj):=⟨Z,Z,Z,by decide +kernel,Z,by decide +kernel,by decide +kernel⟩
theorem sI:aY ["bag","program","first","works","order","step","some"] ["bag","program","first"] (aH Ir):=⟨Z,Z,Z,by decide +kernel,Z,by decide +kernel,by decide +kernel⟩
theorem cQ:aY ["touches","hands","rows","called","brought","many","hand","kind","cell","got","fresh","i","other","sort","there","meets"] ["touches","hands"] (aH yg):=⟨Z,Z,Z,by decide +kernel,Z,by decide +kernel,by decide +kernel⟩
theorem gF:aY ["bag","size","some","kind","at","far"] ["bag","size","some"] (aH jB):=⟨Z,Z,Z,by decide +kernel,Z,by decide +kernel,by decide +kernel⟩
theorem cI:aY ["bag","hands","order","kind","to","at","hand","far","found"] ["bag","hands","order"] (aH jA):=⟨Z,Z,Z,by decide +kernel,Z,by decide +kernel,by decide +kernel⟩
theorem d9:aY ["bag","ties","kind","part","step","far","tie"] ["bag","ties"] (aH j4):=⟨Z,Z,Z,by decide +kernel,Z,by decide +kernel,by decide +kernel⟩
theorem sE:aY ["works","hand","found"] ["works","hand"] (aH CQ):=⟨Z,Z,Z,by decide +kernel,Z,by decide +kernel,by decide +kernel⟩
theorem sG:aY ["program","some","order","works","hand","found"] ["program","some","order"] (aH CV):=⟨Z,Z,Z,by decide +kernel,Z,by decide +kernel,by decide +kernel⟩
theorem xX:aY ["program","some","order","found","row"] ["program","some","order"] (aH CT):=⟨Z,Z,Z,by decide +kernel,Z,by decide +kernel,by decide +kernel⟩
theorem jk:aY ["program","order","tie","some","found","e"] ["program","order","tie","some"] (aH qY):=⟨Z,Z,Z,by decide +kernel,Z,by decide +kernel,by decide +kernel⟩
theorem gR:aY ["script","bag","program","plain","some","good","run","order","ties","tie","due","handed","found"] ["script"] (aH QJ):=⟨Z,Z,Z,by decide +kernel,Z,by decide +kernel,by decide +kernel⟩
structure gM(K:PySem.W.Frag)(C:Addr):Prop where
 cls:Cls K C
 pq:gU K C "rows"
 uQ:gU K C "at"
 kj:gU K C "in_boxes"
 qg:gU K C "sayings"
 lA:gU K C "state"
structure fV(K:PySem.W.Frag)(C:Addr):Prop where
 cls:Cls K C
 uP:gU K C "program"
 jR:gU K C "numbers"
 qj:gU K C "hands"
 wU:gU K C "turns"
section
variable{P:Program}{w:World}{K:PySem.W.Frag}{mg:Str->Option Value}{base:Heap}
noncomputable def bV(H:Hp)(r b:Addr)(n:Nat):Prop:=∃(ns:List Int) (i f c t:Int),H r=some (.lst [.ref b,.int i,.int f,.int c,.int t])/\H b=some (.lst (ns.map V.int))/\b≠r/\0<=i/\i<=ns.length/\0<=f/\0<=c/\c<=n
theorem bV.keep{H H':Hp}{r b:Addr}{n:Nat}(h:bV H r b n)(k:Same H H'):bV H' r b n:=by
 obtain⟨ns,i,f,c,t,e1,e2,q⟩:=h;exact⟨ns,i,f,c,t,k _ _ e1,k _ _ e2,q⟩
theorem bV.kp{H H':Hp}{r b p:Addr}{n:Nat}(h:bV H r b n)(k:Kp p H H')(n1:r≠p)(n2:b≠p):bV H' r b n:=by
 obtain⟨ns,i,f,c,t,e1,e2,q⟩:=h;exact⟨ns,i,f,c,t,k _ _ e1 n1,k _ _ e2 n2,q⟩
theorem bV.mono{H:Hp}{r b:Addr}{n m:Nat}(h:bV H r b n)(k:n<=m):bV H r b m:=by
 obtain⟨ns,i,f,c,t,e1,e2,q0,q1,q2,q3,q4,q5⟩:=h;exact⟨ns,i,f,c,t,e1,e2,q0,q1,q2,q3,q4,by lia⟩
theorem bV.lst{H:Hp}{r b:Addr}{n:Nat}(h:bV H r b n):∃ys,H r=some (.lst ys):=by
 obtain⟨ns,i,f,c,t,e1,_⟩:=h;exact⟨_,e1⟩
theorem bV.ne{H:Hp}{r b p:Addr}{n:Nat}(h:bV H r b n)(hp:H p=none):p≠r/\p≠b:=by
 obtain⟨ns,i,f,c,t,e1,e2,_⟩:=h;exact⟨(aA e1 hp).symm,(aA e2 hp).symm⟩
theorem bV.at{H:Hp}{r b:Addr}{n:Nat}(h:bV H r b n):∃o,H r=some o:=by
 obtain⟨ns,i,f,c,t,e1,_⟩:=h;exact⟨_,e1⟩
theorem bV.tups{H H':Hp}{r b:Addr}{n:Nat}(h:bV H r b n)(k:Kp r H H'):∀a xs,H a=some (HO.tup xs)->H' a=some (HO.tup xs):=by
 obtain⟨ys,e⟩:=h.lst;exact k.tups e
noncomputable def Qx(K:PySem.W.Frag):Sp:=λvs H Q _=>∃(x p:Int),vs=[.int x,.int p]/\0<=p/\p<2 ^ 62 /\ ∀z:Int,0<=z->Q (.int z) H
theorem VN{f:Addr}{fd:FuncData}(F:gP K "_law_stir" "_law_stir" CZ f fd):bN P w K mg base iY 1 f fd ["number","place"] (Qx K):=by
 refine F.ok xY (λvs H Q E h=>?_) (λcdv A outer s H vs Q E hr h=>?_)
 .obtain⟨x,p,rfl,_⟩:=h
  rfl
 .obtain⟨x,p,rfl,p0,p1,k⟩:=h
  refine⟨_,(aq (aM (i:=2) xY.nd rfl (Or.inl rfl) (bA j_ (bA cX (bA cX (bA oY (pv 0) au) (bA oY (pv 1) au)) au) au))
   (aq (aM (i:=3) xY.nd rfl (Or.inl rfl) (bA j_ (bA oY (pv 2) (pv 2)) au))
   (aG (aW (bA Li (bA j_ (bA cX (bA cX (bA oY (pv 3) au) (bA oY (bA oY (pv 1) (pv 1)) au)) (bA Li (pv 2) au)) au) au))))), ?_⟩
  refine⟨_,Z,_,_,Z,Z,.inr ⟨by decide,by decide⟩,_,Z,_,_,Z,Z,.inr ⟨by decide,by decide⟩,_,_,Z,Z,_,_,Z,Z,_,_,Z,Z,(by show (0:Int)<2305843009213693951;decide), ?_⟩;have o0:(0:Int)<=(x*998244353+p*1000000007+5) % 2305843009213693951:=Int.emod_nonneg _ (by decide);have o1:(x*998244353+p*1000000007+5) % 2305843009213693951<2305843009213693951:=Int.emod_lt_of_pos _ (by decide);generalize (x*998244353+p*1000000007+5) % 2305843009213693951=one at o0 o1;refine⟨_,Z,_,Z,_,_,Z,Z,.inl ⟨by lia,by lia⟩,_,_,Z,Z,(by show (0:Int)<2305843009213693951;decide), ?_⟩;refine⟨_,Z,_,_,Z,Z,.inr ⟨by decide,by decide⟩,_,Z,_,Z,_,_,Z,Z,.inl ⟨by lia,by lia⟩,_,_,Z,Z,.inr ⟨by decide,by decide⟩,_,_,Z,Z,_,Z,_,_,Z,Z,(by show aaF _ 3;exact⟨by decide,by decide⟩),_,_,Z,Z,_,_,Z,Z,(by show (0:Int)<2305843009213693921;decide),_,_,Z,Z,(by show aaF _ 1024;exact⟨by decide,by decide⟩), ?_⟩;exact k _ (Int.ediv_nonneg (Int.emod_nonneg _ (by decide)) (by decide))
noncomputable def iu(K:PySem.W.Frag):Sp:=λvs H Q _=>∃(r b:Addr) (m:Int) (n:Nat),vs=[.ref r,.int m]/\bV H r b n/\n<1099511627776/\0<m/\m<1329227995784915872903807060280344576 /\ ∀(z:Int)(H':Hp),0<=z->z<m->bV H' r b (n+1)->Kp r H H'->Q (.int z) H'
theorem V2{f:Addr}{fd:FuncData}(F:gP K "_law_draw" "_law_draw" Dd f fd)(Mz:FnAt P w K mg base 1 "_law_stir" ["number","place"] (Qx K))(Bt:rN mg):bN P w K mg base iY 2 f fd ["bag","many"] (iu K):=by
 refine F.ok yc (λvs H Q E h=>?_) (λcdv A outer s H vs Q E hr h=>?_)
 .obtain⟨r,b,m,n,rfl,_⟩:=h
  rfl
 .obtain⟨r,b,m,n,rfl,⟨ns,i,f,c,t,hR,hB,nb,i0,i1,f0,c0,c1⟩,hn,m0,m1,k⟩:=h
  have iZ:=hr.units
  refine⟨_,(aq (bQ (aU cH (pv 1) au (aV _)) (aG (aW au)) bh)
   (aq (lM (bA cX (aL (aN (K:=K) rfl) (pv 0) au (λ_ _=>rfl)) au) (oR (pv 0) au set_list))
   (aq (bQ (PW.pt (uM (aU oZ (aL (aN (K:=K) rfl) (pv 0) au (λ_ _=>rfl)) au (aV _)) (pZ (aU cH (aL (aN (K:=K) rfl) (pv 0) au (λ_ _=>rfl)) (bM (bO (K:=K) rfl) (by rfl) Bt.lD iT (aj (aL (aN (K:=K) rfl) (pv 0) au (λ_ _=>rfl)) ao)) (aV _))))) (aG (aW (bA j_ (aX Mz (hr.mono (by decide)) (by rfl) (aj (aL (aN (K:=K) rfl) (pv 0) au (λ_ _=>rfl)) (aj (aL (aN (K:=K) rfl) (pv 0) au (λ_ _=>rfl)) ao))) (pv 1)))) bh)
   (aq (bQ (aU oZ (aL (aN (K:=K) rfl) (pv 0) au (λ_ _=>rfl)) au (aV _)) (aq (aM (i:=2) yc.nd rfl (Or.inl rfl) (aL (aN (K:=K) rfl) (aL (aN (K:=K) rfl) (pv 0) au (λ_ _=>rfl)) (aL (aN (K:=K) rfl) (pv 0) au (λ_ _=>rfl)) (λ_ _=>rfl)))
   (aq (lM (bA cX (aL (aN (K:=K) rfl) (pv 0) au (λ_ _=>rfl)) au) (oR (pv 0) au set_list))
   (aq (bQ (aU oZ (pv 2) (bA yD au au) (aV _)) (aG (aW (bA j_ (aX Mz (hr.mono (by decide)) (by rfl) (aj (bA j_ (pv 2) au) (aj (aL (aN (K:=K) rfl) (pv 0) au (λ_ _=>rfl)) ao))) (pv 1)))) bh)
   (aG (lM (bA lN (pv 2) (bA yD au au)) (oR (pv 0) au set_list)))))) bh)
   (aq (aM (i:=3) yc.nd rfl (Or.inl rfl) (bA j_ (aL (aN (K:=K) rfl) (pv 0) au (λ_ _=>rfl)) (pv 1)))
   (aq (lM (bA Rp (aL (aN (K:=K) rfl) (pv 0) au (λ_ _=>rfl)) (pv 1)) (oR (pv 0) au set_list))
   (aG (aW (pv 3))))))))), ?_⟩
  refine⟨_,Z,Z,_,Z, ?_⟩;refine bJ (λh0=>?_) (λh0=>?_)
  .have e:m=1:=by injection (aaP h0)
   subst e;exact k 0 H (by decide) (by decide) ⟨ns,i,f,c,t,hR,hB,nb,i0,i1,f0,c0,by lia⟩ (Kp.refl _ _)
  .
   refine⟨_,Z,_,_,_,_,Z,Z,bH.of hR,Z,_,_,Z,Z,_,Z,_,_,_,_,Z,Z,hR,Z, ?_⟩;have k1:Kp r H (upd H r (.lst [.ref b,.int i,.int f,.int (c+1),.int t])):=Kp.set;have qM:(upd H r (.lst [.ref b,.int i,.int f,.int (c+1),.int t])) r=some (.lst [.ref b,.int i,.int f,.int (c+1),.int t]):=ak;have qt:=k1 _ _ hB nb;have ln:(List.map V.int ns).length=ns.length:=aad ..;have zQ:(0:Int)<=c+1:=by lia
   have Gm:c+1<2 ^ 62:=by lia
   have md0:∀z:Int,0<=z % m:=λz=>Int.emod_nonneg _ (by lia);have md1:∀z:Int,z % m<m:=λz=>Int.emod_lt_of_pos _ m0;refine⟨_,Z,_,_,_,_,Z,Z,bH.of qM,Z,_,_,Z,Z,_,Z, ?_⟩
   by_cases f2:f<2
   .rw[aaN f2]
    refine fD ?_;refine⟨_,Z,_,_,_,_,Z,Z,bH.of qM,Z,_,Z,_,_,_,_,Z,Z,bH.of qM,Z,b,_,Z,.inl (bH.of qt),Z,_,Z, ?_⟩;refine bJ (λh1=>?_) (λh1=>?_)
    .refine⟨_,Z,_,_,_,_,Z,Z,bH.of qM,Z,_,Z,_,_,_,_,Z,Z,bH.of qM,Z,t,c+1,Z,zQ,Gm,λz z0=>?_⟩
     refine⟨_,Z,_,_,Z,Z,m0, ?_⟩;exact k _ _ (md0 z) (md1 z) ⟨ns,i,f,c+1,t,qM,qt,nb,i0,i1,f0,zQ,by lia⟩ k1
    .have hlt:i<ns.length:=by
      have:¬i=(ns.length:Int):=λz=>h1 (aaN (by rw[ln,z]));lia
     obtain⟨cell,hc,_⟩:∃cell:Int,rJ (ns.map V.int) i=some (V.int cell)/\True:=by
      obtain⟨m',rfl⟩:=abQ i0;have:m'<ns.length:=by lia
      exact⟨ns[m'],cL (by simp[this]),trivial⟩
     refine⟨_,Z,_,_,_,_,Z,Z,bH.of qM,Z,_,_,Z,Z,_,Z, ?_⟩;rw[aaN f2];refine fD ?_;refine⟨_,Z,_,_,_,_,Z,Z,bH.of qM,Z,_,Z,_,_,_,_,Z,Z,bH.of qM,Z,_,_,_,_,Z,Z,bH.of qt,hc, ?_⟩;refine⟨_,Z,_,_,_,_,Z,Z,bH.of qM,Z,_,_,Z,Z,_,Z,_,_,_,_,Z,Z,qM,Z, ?_⟩;have k2:Kp r (upd H r (.lst [.ref b,.int i,.int f,.int (c+1),.int t])) (upd (upd H r (.lst [.ref b,.int i,.int f,.int (c+1),.int t])) r (.lst [.ref b,.int (i+1),.int f,.int (c+1),.int t])):=Kp.set;have Ox:(upd (upd H r (.lst [.ref b,.int i,.int f,.int (c+1),.int t])) r (.lst [.ref b,.int (i+1),.int f,.int (c+1),.int t])) r=some (.lst [.ref b,.int (i+1),.int f,.int (c+1),.int t]):=ak;have hB2:=k2 _ _ qt nb;refine⟨_,Z,_,_,Z,Z,(by show PK 10 18;exact⟨by decide,by decide,by decide⟩),_,_,Z,Z,_,Z, ?_⟩;refine bJ (λh2=>?_) (λh2=>?_)
     .refine⟨_,Z,_,_,Z,Z,(by show (0:Int)<2305843009213693951;decide),_,Z,_,_,_,_,Z,Z,bH.of Ox,Z,_,c+1,Z,zQ,Gm,λz z0=>?_⟩
      refine⟨_,Z,_,_,Z,Z,m0, ?_⟩;exact k _ _ (md0 z) (md1 z) ⟨ns,i+1,f,c+1,t,Ox,hB2,nb,by lia,by lia,f0,zQ,by lia⟩ (k1.trans k2)
     .have hbig:(0:Int)<=cell - 10 ^ ((18:Int).toNat):=by
       have h2':(1000000000000000000:Int)<=cell:=by simpa using h2
       show (0:Int)<=cell - 1000000000000000000
       lia
      refine⟨_,Z,_,_,Z,Z,(by show PK 10 18;exact⟨by decide,by decide,by decide⟩),_,_,Z,Z,_,Z,_,_,_,_,Z,Z,Ox,Z, ?_⟩;have Wv:(upd (upd (upd H r (.lst [.ref b,.int i,.int f,.int (c+1),.int t])) r (.lst [.ref b,.int (i+1),.int f,.int (c+1),.int t])) r (.lst [.ref b,.int (i+1),.int (cell - 10 ^ ((18:Int).toNat)),.int (c+1),.int t])) r=some (.lst [.ref b,.int (i+1),.int (cell - 10 ^ ((18:Int).toNat)),.int (c+1),.int t]):=ak;have k3:Kp r (upd (upd H r (.lst [.ref b,.int i,.int f,.int (c+1),.int t])) r (.lst [.ref b,.int (i+1),.int f,.int (c+1),.int t])) (upd (upd (upd H r (.lst [.ref b,.int i,.int f,.int (c+1),.int t])) r (.lst [.ref b,.int (i+1),.int f,.int (c+1),.int t])) r (.lst [.ref b,.int (i+1),.int (cell - 10 ^ ((18:Int).toNat)),.int (c+1),.int t])):=Kp.set;have hB3:=k3 _ _ hB2 nb;refine⟨_,Z,_,_,_,_,Z,Z,bH.of Wv,Z,_,Z,_,_,Z,Z,m0, ?_⟩;refine⟨_,Z,_,_,_,_,Z,Z,bH.of Wv,Z,_,Z,_,_,Z,Z,⟨m0,m1⟩,_,Z,_,_,_,_,Z,Z,Wv,Z, ?_⟩;refine⟨_,Z, ?_⟩;refine k _ _ (md0 _) (md1 _) ⟨ns,i+1,_,c+1,t,ak, ?_,nb,by lia,by lia,Int.ediv_nonneg hbig (by lia),zQ,by lia⟩ (((k1.trans k2).trans k3).trans Kp.set);rw[aF nb];exact hB3
   .have f2':decide (f<2)=false:=aaO f2
    rw[f2'];refine fG ?_;refine⟨_,Z,_,_,_,_,Z,Z,bH.of qM,Z,_,_,Z,Z,_,Z, ?_⟩;rw[f2'];refine fG ?_;refine⟨_,Z,_,_,_,_,Z,Z,bH.of qM,Z,_,Z,_,_,Z,Z,m0, ?_⟩;refine⟨_,Z,_,_,_,_,Z,Z,bH.of qM,Z,_,Z,_,_,Z,Z,⟨m0,m1⟩,_,Z,_,_,_,_,Z,Z,qM,Z, ?_⟩;refine⟨_,Z, ?_⟩;refine k _ _ (md0 _) (md1 _) ⟨ns,i,_,c+1,t,ak, ?_,nb,by lia,by lia,Int.ediv_nonneg f0 (by lia),zQ,by lia⟩ (k1.trans Kp.set);rw[aF nb];exact qt
noncomputable def XF(K:PySem.W.Frag):Sp:=λvs H Q _=>∃(a:Addr) (ns:List Int),vs=[.ref a]/\bH K H a (ns.map V.int)/\ns.length<=63 /\ ∀(r b:Addr)(H':Hp),H r=none->H b=none->bV H' r b 0->Same H H'->Q (.ref r) H'
theorem Zw{f:Addr}{fd:FuncData}(F:gP K "_law_bag" "_law_bag" Iv f fd)(Bt:rN mg):bN P w K mg base iY 1 f fd ["script"] (XF K):=by
 refine F.ok wK (λvs H Q E h=>?_) (λcdv A outer s H vs Q E hr h=>?_)
 .obtain⟨a,ns,rfl,_⟩:=h
  rfl
 .obtain⟨a,ns,rfl,hs,hlen,k⟩:=h
  refine⟨_,(aq (aM (i:=1) wK.nd rfl (Or.inl rfl) au)
   (aq (iy PassesOwn.never rfl (dR (K:=K) rfl (pv 0)) (bD (i:=2) wK.nd rfl (Or.inl rfl))
   (aG (aM (i:=1) wK.nd rfl (Or.inl rfl) (bA j_ (bA cX (bA cX (bA oY (pv 1) au) (bA j_ (pv 2) au)) au) au))))
   (aG (aW (bK (aj (fX (cM (K:=K) rfl) (by rfl) Bt.kW iR (aj (pv 0) ao)) (aj au (aj au (aj au (aj (pv 1) ao)))))))))), ?_⟩
  refine⟨_,Z,a,Z,⟨_,hs⟩,jo (K:=K) (a:=a) (xs:=ns.map V.int) (λi σ H2=>∃(t:Int) (v:Option V),σ=[some (.ref a),some (.int t),v]/\H2=H)
   ⟨1,none,Z,Z⟩ (λi σ H2 _ ⟨_,_,_,e⟩=>by rw[e];exact hs) ?_ ?_⟩
  .rintro i y σ H2 hi ⟨t,v,rfl,rfl⟩
   obtain⟨z,rfl⟩:∃z,y=V.int z:=by
    rw[aah] at hi;cases e:ns[i]? with
    | none=>rw[e] at hi;cases hi
    | some z=>rw[e] at hi;exact⟨z,(aaS hi).symm⟩
   refine⟨_,Z,_,_,Z,Z,.inr ⟨by decide,by decide⟩,_,Z,_,_,Z,Z,(by show (0:Int)<2305843009213693951;decide),_,_,Z,Z,_,_,Z,Z,_,_,Z,Z,(by show (0:Int)<2305843009213693951;decide), ?_⟩;exact⟨_,_,Z,Z⟩
  .rintro σ H2 ⟨t,v,rfl,rfl⟩
   refine⟨_,Z,a,_,Z,.inl hs,λb hb=>?_⟩;refine⟨_,Z,(by show 5<=sizeLine;decide),λr hr'=>?_⟩;have sm:=aB (o:=HO.lst (ns.map V.int)) hb;exact k r b _ (sm.free hr') hb ⟨ns,0,0,0,t,ak,aB hr' _ _ ak,aA ak hr',by decide,by lia,by decide,by decide,by decide⟩ (sm.trans (aB hr'))
section
variable{D r b:Addr}{te:TE}{Q:VK}{rest:St}{H1:Hp}{n bn:Nat}
end
noncomputable abbrev dB:=Int×Str×Int
noncomputable def tD(x:dB):PyData:= .tuple [.int x.1,.str x.2.1,.int x.2.2]
theorem Dv(x:dB):Dw (tD x)=true:=Z
theorem W0{H:Hp}{t:Addr}{x:dB}(h:H t=some (.tup [.int x.1,.str x.2.1,.int x.2.2])):Dat H (.ref t) (tD x):=by
 simp only[tD,Dat];exact⟨t,_,Z,h,by simp only[aO,Dat,and_self]⟩
theorem Hj{H:Hp}{v:V}{d:PyData}(h:Dat H v d):aO H [v] [d]:=by
 simp only[aO,and_true];exact h
noncomputable def kY(H:Hp)(a:Addr)(ws:List dB):Prop:=∃vs,H a=some (.lst vs)/\aO H vs (ws.map tD)
theorem kY.same{H H':Hp}{a:Addr}{ws:List dB}(h:kY H a ws)(k:Same H H'):kY H' a ws:=by
 obtain⟨vs,e,d⟩:=h;exact⟨vs,k _ _ e,aO.keep k.tups _ (cj _ Dv ws) d⟩
theorem pG{H:Hp}{v:V}{x:dB}(h:Dat H v (tD x)):∃t,v = .ref t/\H t=some (.tup [.int x.1,.str x.2.1,.int x.2.2]):=by
 simp only[tD,Dat] at h;obtain⟨t,vs,e,q,d⟩:=h
 match vs,d with
 | [a,b,c],d=>
   simp only[aO,Dat,and_true] at d;obtain⟨rfl,rfl,rfl⟩:=d;exact⟨t,e,q⟩
 | [],d=>simp only[aO] at d
 | [_],d=>simp only[aO,and_false] at d
 | [_,_],d=>simp only[aO,and_false] at d
 | _::_::_::_::_,d=>simp only[aO,and_false] at d
theorem wH{H:Hp}{a:Addr}{ws:List dB}{i:Nat}{x:dB}(h:kY H a ws)(e:ws[i]? = some x):∃vs t,H a=some (.lst vs)/\vs[i]? = some (.ref t)/\H t=some (.tup [.int x.1,.str x.2.1,.int x.2.2]):=by
 obtain⟨vs,ha,d⟩:=h;obtain⟨v,ev,dv⟩:=d.getD (i:=i) (d:=tD x) (by rw[aah,e];rfl);obtain⟨t,rfl,ht⟩:=pG dv;exact⟨vs,t,ha,ev,ht⟩
noncomputable def ac4(k:Str):Prop:=k = "load" \/ k = "store" \/ k = "swap"
noncomputable def Uk(hn:Int)(x:dB):Prop:=(0<=x.1/\x.1<hn)/\ac4 x.2.1/\(0<=x.2.2/\x.2.2<20)
noncomputable def mt(x y:dB):Bool:=if x.1=y.1 then false else if x.2.2=y.2.2 then (if x.2.1 = "load" then !decide (y.2.1 = "load") else true) else false
noncomputable def abx(K:PySem.W.Frag):Sp:=λvs H Q _=>∃(a b:Addr) (x y:dB),vs=[.ref a,.ref b]/\H a=some (.tup [.int x.1,.str x.2.1,.int x.2.2])/\H b=some (.tup [.int y.1,.str y.2.1,.int y.2.2])/\Q (.bl (mt x y)) H
theorem Wb{K:PySem.W.Frag}{a b:Addr}{x y:dB}{H:Hp}{Q:VK}(ha:H a=some (.tup [.int x.1,.str x.2.1,.int x.2.2]))(hb:H b=some (.tup [.int y.1,.str y.2.1,.int y.2.2]))(k:Q (.bl (mt x y)) H){D:Ends}(hD:D.rt=Q):
 (Qt (abo (tOr (Kv (Ig rEq (Ig (Gf K) (rR 0) (tC (.int 0))) (Ig (Gf K) (rR 1) (tC (.int 0))))) (Kv (Ig rNe (Ig (Gf K) (rR 0) (tC (.int 2))) (Ig (Gf K) (rR 1) (tC (.int 2)))))) (Vd (tC (.bl false))) XC)
   (Vd (abk (Ig rNe (Ig (Gf K) (rR 0) (tC (.int 1))) (tC (.str "load"))) (Ig rNe (Ig (Gf K) (rR 1) (tC (.int 1))) (tC (.str "load")))))) D [some (.ref a),some (.ref b)] H:=by
 refine⟨_,Z,_,_,_,_,Z,Z,cA.of ha,Z,_,Z,_,_,_,_,Z,Z,cA.of hb,Z,Z,_,Z, ?_⟩;refine bJ (λh1=>?_) (λh1=>?_)
 .have e:x.1=y.1:=by injection (aaP h1)
  have em:mt x y=false:=by unfold mt;rw[ab9 e]
  refine(show D.rt (.bl false) H from ?_);rw[hD,←em];exact k
 .have e:¬x.1=y.1:=λz=>h1 (aaN (by rw[z]))
  refine⟨_,Z,_,_,_,_,Z,Z,cA.of ha,Z,_,Z,_,_,_,_,Z,Z,cA.of hb,Z,Z,_,Z, ?_⟩
  by_cases e2:x.2.2=y.2.2
  .refine GQ (by rw[e2]) ?_
   refine⟨_,Z,_,_,_,_,Z,Z,cA.of ha,Z,Z,_,Z, ?_⟩
   by_cases e3:x.2.1 = "load"
   .refine GQ (by rw[e3]) ?_
    refine⟨_,Z,_,_,_,_,Z,Z,cA.of hb,Z,Z, ?_⟩
    have em:mt x y = !decide (V.str y.2.1=V.str "load"):=by
     unfold mt;rw[ab6 e,ab9 e2,ab9 e3];congr 1;rw[Bool.eq_iff_iff,decide_eq_true_iff,decide_eq_true_iff];exact⟨λz=>by rw[z],λz=>by injection z⟩
    rw[←em,hD];exact k
   .have ne:¬V.str x.2.1=V.str "load" :=λz=>e3 (by injection z)
    rw[aaO ne];refine fD ?_;have em:mt x y=true:=by unfold mt;rw[ab6 e,ab9 e2,ab6 e3]
    rw[←em,hD];exact k
  .have ne:¬V.int x.2.2=V.int y.2.2:=λz=>e2 (by injection z)
   rw[aaO ne];refine fD ?_;have em:mt x y=false:=by unfold mt;rw[ab6 e,ab6 e2]
   refine(show D.rt (.bl false) H from ?_);rw[hD,←em];exact k
theorem vV{f:Addr}{fd:FuncData}(F:gP K "touches_meet" "touches_meet" jY f fd):bN P w K mg base iY 1 f fd ["one","other"] (abx K):=by
 refine F.ok vR (λvs H Q E h=>?_) (λcdv A outer s H vs Q E hr h=>?_)
 .obtain⟨a,b,x,y,rfl,_⟩:=h
  rfl
 .obtain⟨a,b,x,y,rfl,ha,hb,k⟩:=h
  exact⟨_,(aq (bQ (PW.pt (vA (aU cH (aL (aR (K:=K) rfl) (pv 0) au (λ_ _=>rfl)) (aL (aR (K:=K) rfl) (pv 1) au (λ_ _=>rfl)) (aV _)) (oM (aU lZ (aL (aR (K:=K) rfl) (pv 0) au (λ_ _=>rfl)) (aL (aR (K:=K) rfl) (pv 1) au (λ_ _=>rfl)) (aV _))))) (aG (aW sV)) bh)
   (aG (aW (Rg (eN lZ (aL (aR (K:=K) rfl) (pv 0) au (λ_ _=>rfl)) bw (aV _)) (q_ (eN lZ (aL (aR (K:=K) rfl) (pv 1) au (λ_ _=>rfl)) bw (aV _))))))),Wb (K:=K) ha hb k rfl⟩
noncomputable def YW(ws:List dB)(i j:Nat):Bool:=match ws[i]?,ws[j]? with |some x,some y=>decide (x.1=y.1)||mt x y|_,_=>false
noncomputable def ou(ws:List dB)(i j:Nat):Bool:=decide (i<j)&&YW ws i j
theorem mR{ws:List dB}{i j:Nat}(h:ou ws i j=true):i<j/\j<ws.length:=by
 unfold ou YW at h;simp only[aa0,decide_eq_true_eq] at h;refine⟨h.1, ?_⟩
 by_cases l:j<ws.length
 .exact l
 .have e:ws[j]? = none:=by simp;lia
  rw[e] at h;cases ws[i]? <;> simp at h
theorem wY{vs:List V}{i:Nat}{v:V}(h:vs[i]? = some v):rJ vs (i:Int)=some v:=cL h
noncomputable def Ii(K:PySem.W.Frag):Sp:=λvs H Q _=>∃(a:Addr) (ws:List dB) (i j:Nat),vs=[.ref a,.int i,.int j]/\kY H a ws/\i<ws.length/\j<ws.length/\Q (.bl (ou ws i j)) H
theorem Je{f:Addr}{fd:FuncData}(F:gP K "is_step" "is_step" uG f fd)(zM:FnAt P w K mg base 1 "touches_meet" ["one","other"] (abx K)):bN P w K mg base iY 2 f fd ["web","place","later"] (Ii K):=by
 refine F.ok Il (λvs H Q E h=>?_) (λcdv A outer s H vs Q E hr h=>?_)
 .obtain⟨a,ws,i,j,rfl,_⟩:=h
  rfl
 .obtain⟨a,ws,i,j,rfl,W,hi,hj,k⟩:=h
  refine⟨_,(aq (bQ (aU X6 (pv 1) (pv 2) (aV _)) (aG (aW sV)) bh)
   (aG (aW (Rg (eN cH (aL (aR (K:=K) rfl) (aL (aN (K:=K) rfl) (pv 0) (pv 1) (λ_ _=>rfl)) au (λ_ _=>rfl)) (aL (aR (K:=K) rfl) (aL (aN (K:=K) rfl) (pv 0) (pv 2) (λ_ _=>rfl)) au (λ_ _=>rfl)) (aV _)) (q_ (aX zM (hr.mono (by decide)) (by rfl) (aj (aL (aN (K:=K) rfl) (pv 0) (pv 1) (λ_ _=>rfl)) (aj (aL (aN (K:=K) rfl) (pv 0) (pv 2) (λ_ _=>rfl)) ao)))))))), ?_⟩
  refine⟨_,Z,_,Z,_,_,Z,Z,_,Z, ?_⟩
  by_cases l:i<j
  .rw[aaO (show ¬(j:Int)<=(i:Int) by lia)]
   refine fG ?_;obtain⟨x,ex⟩:∃x,ws[i]? = some x:=⟨ws[i],by simp[hi]⟩;obtain⟨y,ey⟩:∃y,ws[j]? = some y:=⟨ws[j],by simp[hj]⟩;obtain⟨vs,t1,ha,e1,ht1⟩:=wH W ex;obtain⟨vs',t2,ha',e2,UJ⟩:=wH W ey;have ev:vs=vs':=by rw[ha] at ha';injection ha' with q;injection q
   subst ev;have es:ou ws i j=(decide (x.1=y.1)||mt x y):=by unfold ou YW;rw[ex,ey,aaN l,Bool.true_and]
   refine⟨_,Z,_,Z,_,_,_,_,Z,Z,bH.of ha,wY e1,_,_,_,_,Z,Z,cA.of ht1,Z,_,Z,_,Z,_,_,_,_,Z,Z,bH.of ha,wY e2,_,_,_,_,Z,Z,cA.of UJ,Z,Z,_,Z, ?_⟩
   by_cases q:x.1=y.1
   .rw[show decide (V.int x.1=V.int y.1)=true by simp[q]]
    refine fD ?_;rw[aaN q,Bool.true_or] at es;rw[←es];exact k
   .rw[show decide (V.int x.1=V.int y.1)=false by simp[q]]
    refine fG ?_;rw[aaO q,Bool.false_or] at es;exact⟨_,Z,_,Z,_,_,_,_,Z,Z,bH.of ha,wY e1,_,Z,_,Z,_,_,_,_,Z,Z,bH.of ha,wY e2,t1,t2,x,y,Z,ht1,UJ,by rw[←es];exact k⟩
  .rw[aaN (show (j:Int)<=(i:Int) by lia)]
   refine fD ?_;have es:ou ws i j=false:=by unfold ou;rw[aaO l,Bool.false_and]
   rw[←es];exact k
inductive qD(ws:List dB)(j:Nat):Nat->Prop
 | one {i:Nat} (h:ou ws i j=true):qD ws j i
 | more {i k:Nat} (h:ou ws i k=true) (r:qD ws j k):qD ws j i
theorem qD.lt{ws:List dB}{i j:Nat}(r:qD ws j i):i<j/\j<ws.length:=by
 induction r with
 | one h=>exact mR h
 | more h _ ih=>exact⟨Nat.lt_trans (mR h).1 ih.1,ih.2⟩
noncomputable abbrev Nt:=Int×Int×Int×Int
noncomputable def nD(x:Nt):PyData:= .tuple [.int x.1,.int x.2.1,.int x.2.2.1,.int x.2.2.2]
noncomputable def nV(x:Nt):List V:=[.int x.1,.int x.2.1,.int x.2.2.1,.int x.2.2.2]
theorem jE(x:Nt):Dw (nD x)=true:=Z
theorem DQ{H:Hp}{t:Addr}{x:Nt}(h:H t=some (.tup (nV x))):Dat H (.ref t) (nD x):=by
 simp only[nD,Dat];exact⟨t,_,Z,h,by simp only[nV,aO,Dat,and_self]⟩
theorem JF{H:Hp}{v:V}{x:Nt}(h:Dat H v (nD x)):∃t,v = .ref t/\H t=some (.tup (nV x)):=by
 simp only[nD,Dat] at h;obtain⟨t,vs,e,q,d⟩:=h
 match vs,d with
 | [a,b,c,z],d=>
   simp only[aO,Dat,and_true] at d;obtain⟨rfl,rfl,rfl,rfl⟩:=d;exact⟨t,e,q⟩
 | [],d=>simp only[aO] at d
 | [_],d=>simp only[aO,and_false] at d
 | [_,_],d=>simp only[aO,and_false] at d
 | [_,_,_],d=>simp only[aO,and_false] at d
 | _::_::_::_::_::_,d=>simp only[aO,and_false] at d
noncomputable def gO(H:Hp)(a:Addr)(ns:List Nt):Prop:=∃vs,H a=some (.lst vs)/\aO H vs (ns.map nD)
theorem gO.kp{H H':Hp}{a r:Addr}{ns:List Nt}(h:gO H a ns)(hr:∀a xs,H a=some (HO.tup xs)->H' a=some (HO.tup xs))(k:Kp r H H')(n:a≠r):gO H' a ns:=by
 obtain⟨vs,e,d⟩:=h;exact⟨vs,k _ _ e n,aO.keep hr _ (cj _ jE ns) d⟩
theorem gO.same{H H':Hp}{a:Addr}{ns:List Nt}(h:gO H a ns)(k:Same H H'):gO H' a ns:=by
 obtain⟨vs,e,d⟩:=h;exact⟨vs,k _ _ e,aO.keep k.tups _ (cj _ jE ns) d⟩
theorem Ln{H:Hp}{vs:List V}{ns:List Nt}{i:Nat}{v:V}(d:aO H vs (ns.map nD))(e:vs[i]? = some v):∃x t,ns[i]? = some x/\v = .ref t/\H t=some (.tup (nV x)):=by
 obtain⟨q,eq,dq⟩:=d.get e;rw[aah] at eq;cases ex:ns[i]? with
 | none=>rw[ex] at eq;cases eq
 | some x=>
   rw[ex] at eq;cases eq;obtain⟨t,rfl,ht⟩:=JF dq;exact⟨x,t,Z,Z,ht⟩
noncomputable def gI(cs:List Int)(h:Int):Int:=(cs[h.toNat]?).getD 0
theorem zG{cs:List Int}{h:Int}(h0:0<=h)(h1:h<cs.length):rJ (cs.map V.int) h=some (.int (gI cs h)):=by
 obtain⟨m,rfl⟩:=abQ h0;have:m<cs.length:=by lia
 refine cL ?_;simp[gI,this]
theorem JD{cs:List Int}{i:Nat}{c:Int}(h:cs[i]? = some c):gI cs i=c:=by simp[gI,h]
theorem Ly{n:Nat}{i:Int}(h0:0<=i)(h1:i<n):Lz n i=some i.toNat:=by unfold Lz;rw[ab9 h0,ab9 h1]
theorem JC{cs:List Int}{h k v:Int}(h0:0<=h)(h1:h<cs.length)(k0:0<=k):gI (cs.set h.toNat v) k=if k=h then v else gI cs k:=by
 unfold gI;rw[List.getElem?_set]
 by_cases e:k=h
 .subst e
  have:k.toNat<cs.length:=by lia
  simp[this]
 .have:¬h.toNat=k.toNat:=by lia
  simp[e,this]
noncomputable abbrev zT:=Int×Int
noncomputable def pD(x:zT):PyData:= .tuple [.int x.1,.int x.2]
theorem Jw(x:zT):Dw (pD x)=true:=Z
theorem W5{H:Hp}{t:Addr}{x:zT}(h:H t=some (.tup [.int x.1,.int x.2])):Dat H (.ref t) (pD x):=by
 simp only[pD,Dat];exact⟨t,_,Z,h,by simp only[aO,Dat,and_self]⟩
theorem vK{H:Hp}{v:V}{x:zT}(h:Dat H v (pD x)):∃t,v = .ref t/\H t=some (.tup [.int x.1,.int x.2]):=by
 simp only[pD,Dat] at h;obtain⟨t,vs,e,q,d⟩:=h
 match vs,d with
 | [a,b],d=>
   simp only[aO,Dat,and_true] at d;obtain⟨rfl,rfl⟩:=d;exact⟨t,e,q⟩
 | [],d=>simp only[aO] at d
 | [_],d=>simp only[aO,and_false] at d
 | _::_::_::_,d=>simp only[aO,and_false] at d
noncomputable def nO(H:Hp)(a:Addr)(ps:List zT):Prop:=∃vs,H a=some (.lst vs)/\aO H vs (ps.map pD)
theorem nO.same{H H':Hp}{a:Addr}{ws:List zT}(h:nO H a ws)(k:Same H H'):nO H' a ws:=by
 obtain⟨vs,e,d⟩:=h;exact⟨vs,k _ _ e,aO.keep k.tups _ (cj _ Jw ws) d⟩
theorem nO.kp{H H':Hp}{a r:Addr}{ws:List zT}{ys:List V}(h:nO H a ws)(hr:H r=some (.lst ys))(k:Kp r H H')(n:a≠r):nO H' a ws:=by
 obtain⟨vs,e,d⟩:=h;exact⟨vs,k _ _ e n,aO.keep (k.tups hr) _ (cj _ Jw ws) d⟩
theorem Vt{H:Hp}{vs:List V}{ps:List zT}{i:Nat}{v:V}(d:aO H vs (ps.map pD))(e:vs[i]? = some v):∃x t,ps[i]? = some x/\v = .ref t/\H t=some (.tup [.int x.1,.int x.2]):=by
 obtain⟨q,eq,dq⟩:=d.get e;rw[aah] at eq;cases ex:ps[i]? with
 | none=>rw[ex] at eq;cases eq
 | some x=>
   rw[ex] at eq;cases eq;obtain⟨t,rfl,ht⟩:=vK dq;exact⟨x,t,Z,Z,ht⟩
noncomputable def cnt(ws:List dB)(h:Int):Int:=((ws.filter λx=>decide (x.1=h)).length:Int)
theorem kJ(ws:List dB)(x:dB)(h:Int):cnt (ws++[x]) h=if h=x.1 then cnt ws h+1 else cnt ws h:=by
 unfold cnt;rw[ab0,aaT]
 by_cases e:h=x.1
 .subst e;simp
 .rw[ab6 e]
  have:¬x.1=h:=λz=>e z.symm;simp[this]
noncomputable def hnd(ws:List dB)(i:Nat):Int:=match ws[i]? with |some x=>x.1|none=>0
theorem jF{ws:List dB}{i:Nat}{x:dB}(h:ws[i]? = some x):hnd ws i=x.1:=by unfold hnd;rw[h]
noncomputable def nm(ws:List dB):List zT:=(List.range ws.length).map λi=>(hnd ws i,cnt (ws.take i) (hnd ws i))
theorem V8(ws:List dB)(x:dB):nm (ws++[x])=nm ws++[(x.1,cnt ws x.1)]:=by
 unfold nm;rw[aaT,aa5,List.range_succ,aaY];congr 1
 .refine List.map_congr_left λi hi=>?_
  have hi':i<ws.length:=by simpa using hi
  unfold hnd;rw[aaV hi',List.take_append_of_le_length (by lia)]
 .simp[hnd]
theorem jQ(ws:List dB):(nm ws).length=ws.length:=by unfold nm;simp
noncomputable def Cq(K:PySem.W.Frag):Sp:=λvs H Q _=>∃(a:Addr) (ws:List dB),vs=[.ref a]/\kY H a ws/\ws.length<=1000 /\ ∀(r:Addr)(H':Hp),H r=none->nO H' r (nm ws)->Same H H'->Q (.ref r) H'
theorem Rx{f:Addr}{fd:FuncData}(F:gP K "names" "names" CK f fd):bN P w K mg base iY 1 f fd ["web"] (Cq K):=by
 refine F.ok oE (λvs H Q E h=>?_) (λcdv A outer s H vs Q E hr h=>?_)
 .obtain⟨a,ws,rfl,_⟩:=h
  rfl
 .obtain⟨a,ws,rfl,W,hlen,k⟩:=h
  have hu:=vH hr
  refine⟨_,(aq (aM (i:=1) oE.nd rfl (Or.inl rfl) Gk)
   (aq (aM (i:=2) oE.nd rfl (Or.inl rfl) (bK ao))
   (aq (iy PassesOwn.never rfl (dR (K:=K) rfl (pv 0)) (bD (i:=3) oE.nd rfl (Or.inl rfl))
   (aq (aM (i:=4) oE.nd rfl (Or.inl rfl) (yw hu (pv 1) (aL (aR (K:=K) rfl) (pv 3) au (λ_ _=>rfl)) au ⟨Z,Z,Z,Z⟩))
   (aq (cB (dU (K:=K) rfl (pv 2) (aj (cO (aj (aL (aR (K:=K) rfl) (pv 3) au (λ_ _=>rfl)) (aj (pv 4) ao))) ao)))
   (aG (wN hu (pv 1) (aL (aR (K:=K) rfl) (pv 3) au (λ_ _=>rfl)) (bA cX (pv 4) au) rfl)))))
   (aG (aW (pv 2)))))), ?_⟩
  obtain⟨vs,ha,dv⟩:=id W;have eZ:vs.length=ws.length:=by rw[dv.length,aad]
  intro d hd;have sm1:=aB (o:=HO.dK []) hd;refine⟨(by show 0<=sizeLine;decide),λp hp=>?_⟩;have sm2:=aB (o:=HO.lst []) hp;have V_:d≠p:=aA ak hp;have hp0:H p=none:=sm1.free hp
  refine⟨_,Z,a,Z,⟨_,bH.of (sm2 _ _ (sm1 _ _ ha))⟩,jo (K:=K) (a:=a) (xs:=vs) (λi σ H2=>∃(kvs:List (Key×V)) (x1 x2:Option V),σ=[some (.ref a),some (.ref d),some (.ref p),x1,x2]/\Same H H2 /\
   H2 d=some (.dK kvs)/\kvs.length<=i/\(∀h:Int,(gQ kvs (Sum.inl h)).getD (.int 0) = .int (cnt (ws.take i) h))/\nO H2 p (nm (ws.take i)))
   ⟨[],none,none,Z,sm1.trans sm2,sm2 _ _ ak,Nat.zero_le _,λh=>rfl,⟨[],ak,by simp only[List.take_zero,nm,List.length_nil,List.range_zero,List.map_nil,aO]⟩⟩ (λi σ H2 _ ⟨_,_,_,_,sm,_⟩=>bH.of (sm _ _ ha)) ?_ ?_⟩
  .rintro i y σ H2 hi ⟨kvs,x1,x2,rfl,sm,hd2,kl,hval,PA⟩
   have hil:i<ws.length:=by have:=(aaf.mp hi).1;lia
   obtain⟨x,ex⟩:∃x,ws[i]? = some x:=⟨ws[i],by simp[hil]⟩;obtain⟨dd,ed,dy⟩:=dv.get hi;rw[aah,ex] at ed;cases ed;obtain⟨t,rfl,ht⟩:=pG dy;have UJ:H2 t=some (.tup [.int x.1,.str x.2.1,.int x.2.2]):=sm.tups _ _ ht;have tk:ws.take (i+1)=ws.take i++[x]:=by rw[aa6,ex];rfl
   have Va:(ws.take i).length=i:=by rw[abe];lia
   refine⟨_,Z,d,Z,.inl ⟨_,.inl hd2⟩,_,Z,_,_,_,_,Z,Z,cA.of UJ,Z,_,pR.k (k:=Sum.inl x.1) hd2, ?_⟩;rw[hval x.1];obtain⟨ts,hts,Et⟩:=id PA;refine⟨_,Z,.inl ⟨Z,_,bH.of hts⟩,_,Z,_,_,_,_,Z,Z,cA.of UJ,Z,_,Z,(by show 2<=sizeLine;decide),λq hq=>?_⟩;have sm3:=aB (o:=HO.tup [V.int x.1,V.int (cnt (ws.take i) x.1)]) hq;have GZ:=sm3 _ _ hts;have Ku:ts.length=i:=by rw[Et.length,aad,jQ,Va]
   refine⟨p,ts,_,Z,Z,GZ,(by rw[Ku,sizeLine_eq];lia), ?_⟩;have Ol:Kp p (upd H2 q (HO.tup [V.int x.1,V.int (cnt (ws.take i) x.1)])) (upd (upd H2 q (HO.tup [V.int x.1,V.int (cnt (ws.take i) x.1)])) p (HO.lst (ts++[V.ref q]))):=Kp.set;have DG:=Ol _ _ (sm3 _ _ hd2) V_;refine⟨_,Z,_,_,Z,Z,_,Z,_,Z,_,_,_,_,Z,Z,cA.of (Ol.tups GZ _ _ (sm3.tups _ _ UJ)),Z,d,_,Z,Ao.k (k:=Sum.inl x.1) DG (Ni (by lia)), ?_⟩;refine⟨putK kvs (Sum.inl x.1) (V.int (cnt (ws.take i) x.1+1)),_,_,Z, ?_,ak, ?_,λh=>?_, ?_⟩
   .intro b o e
    have nb:b≠p:=aA e hp0;have nb2:b≠d:=aA e hd;rw[aF nb2];exact Ol b o (sm3 b o (sm b o e)) nb
   .exact abX (jm ..) (by lia)
   .rw[xH,tk,kJ]
    by_cases e:h=x.1
    .subst e
     rw[ab9 rfl,ab9 rfl];rfl
    .rw[ab6 (λz=>e (Sum.inl.inj z)),ab6 e]
     exact hval h
   .rw[tk,V8]
    have kd2:Kp d (upd (upd H2 q (HO.tup [V.int x.1,V.int (cnt (ws.take i) x.1)])) p (HO.lst (ts++[V.ref q]))) (upd (upd (upd H2 q (HO.tup [V.int x.1,V.int (cnt (ws.take i) x.1)])) p (HO.lst (ts++[V.ref q]))) d (HO.dK (putK kvs (Sum.inl x.1) (V.int (cnt (ws.take i) x.1+1))))):=Kp.set
    have aa8:∀a xs,(upd H2 q (HO.tup [V.int x.1,V.int (cnt (ws.take i) x.1)])) a=some (HO.tup xs)->(upd (upd (upd H2 q (HO.tup [V.int x.1,V.int (cnt (ws.take i) x.1)])) p (HO.lst (ts++[V.ref q]))) d (HO.dK (putK kvs (Sum.inl x.1) (V.int (cnt (ws.take i) x.1+1))))) a=some (HO.tup xs):=λa xs hx=>
     kd2.tups' DG _ _ (Ol.tups GZ _ _ hx)
    refine⟨_,kd2 _ _ ak V_.symm, ?_⟩;rw[aaY];refine aO.append (aO.keep (λa xs hx=>aa8 a xs (sm3.tups _ _ hx)) _ (cj _ Jw _) Et) (Hj (W5 (x:=(x.1,cnt (ws.take i) x.1)) ?_));exact kd2 _ _ (Ol _ _ ak (cD ak GZ (by intro z;cases z))) (cD (Ol _ _ ak (cD ak GZ (by intro z;cases z))) DG (by intro z;cases z))
  .rintro σ H2 ⟨kvs,x1,x2,rfl,sm,hd2,kl,hval,PA⟩
   rw[eZ,aa4] at PA;exact⟨_,Z,k p H2 hp0 PA sm⟩
theorem Ge{ws:List dB}{j m:Nat}(r:qD ws j m):∃i,ou ws i j=true/\(m=i\/qD ws i m):=by
 induction r with
 | one h=>exact⟨_,h,.inl rfl⟩
 | more h _ ih=>
   obtain⟨i,st,q⟩:=ih;refine⟨i,st,.inr ?_⟩;rcases q with rfl|q
   .exact .one h
   .exact .more h q
theorem QW{ws:List dB}{i j m:Nat}(st:ou ws i j=true)(r:qD ws i m):qD ws j m:=by
 induction r with
 | one h=>exact .more h (.one st)
 | more h _ ih=>exact .more h ih
theorem pH(ws:List dB)(h:Int)(i:Nat):∀d:Nat,cnt (ws.take i) h<=cnt (ws.take (i+d)) h
 | 0=>Int.le_refl _
 | d+1=>by
   have ih:=pH ws h i d;have e:ws.take (i+(d+1))=ws.take (i+d)++(ws[i+d]?).toList:=by rw[←Nat.add_assoc,aa6]
   rw[e];cases ws[i+d]? with
   | none=>simpa using ih
   | some x=>
     show _<=cnt (ws.take (i+d)++[x]) h;rw[kJ];split<;>lia
theorem u_(ws:List dB)(h:Int):0<=cnt ws h:=by unfold cnt;lia
theorem uO{ws:List dB}{i:Nat}{x:dB}(e:ws[i]? = some x):(nm ws)[i]? = some (x.1,cnt (ws.take i) x.1):=by
 have:i<ws.length:=(aaf.mp e).1;unfold nm;rw[aah,List.getElem?_range this];simp only[Option.map_some,jF e]
theorem Di{H:Hp}{a:Addr}{ps:List zT}{i:Nat}{x:zT}(h:nO H a ps)(e:ps[i]? = some x):∃vs t,H a=some (.lst vs)/\vs[i]? = some (.ref t)/\H t=some (.tup [.int x.1,.int x.2]):=by
 obtain⟨vs,ha,d⟩:=h;obtain⟨v,ev,dv⟩:=d.getD (i:=i) (d:=pD x) (by rw[aah,e];rfl);obtain⟨t,rfl,ht⟩:=vK dv;exact⟨vs,t,ha,ev,ht⟩
noncomputable def mx(a b:Int):Int:=if b>a then b else a
theorem RZ{c a b:Int}:c<mx a b↔c<a\/c<b:=by unfold mx;split<;>lia
theorem ab2{a b:Int}(h:0<=a):0<=mx a b:=by unfold mx;split<;>lia
noncomputable def KN(K:PySem.W.Frag):Sp:=λvs H Q _=>∃(t d:Addr) (h k:Int) (g:Int->Int),vs=[.ref t,.ref d]/\H t=some (.tup [.int h,.int k])/\jJ H d g/\Q (.bl (decide (k<g h))) H
theorem RB{f:Addr}{fd:FuncData}(F:gP K "is_known" "is_known" qU f fd):bN P w K mg base iY 1 f fd ["name","known"] (KN K):=by
 refine F.ok FT (λvs H Q E h=>?_) (λcdv A outer s H vs Q E hr h=>?_)
 .obtain⟨t,d,h,k,g,rfl,_⟩:=h
  rfl
 .obtain⟨t,d,h,k,g,rfl,ht,kd,q⟩:=h
  have hu:=vH hr;refine⟨_,(aG (aW (eN oZ (aL (aR (K:=K) rfl) (pv 0) au (λ_ _=>rfl)) (yw hu (pv 1) (aL (aR (K:=K) rfl) (pv 0) au (λ_ _=>rfl)) au ⟨Z,Z,Z,Z⟩) (aV _)))), ?_⟩;obtain⟨kvs,hd,_,val⟩:=kd.get;refine⟨_,Z,_,_,_,_,Z,Z,cA.of ht,Z,_,Z,d,Z,.inl ⟨_,.inl hd⟩,_,Z,_,_,_,_,Z,Z,cA.of ht,Z,_,pR.k (k:=Sum.inl h) hd, ?_⟩;rw[val h];exact⟨_,_,Z,Z,q⟩
noncomputable def KD(K:PySem.W.Frag):Sp:=λvs H Q _=>∃(d m:Addr) (g1 g2:Int->Int),vs=[.ref d,.ref m]/\jJ H d g1/\jJ H m g2/\d≠m /\ ∀H',jJ H' d (λh=>mx (g1 h) (g2 h))->Kp d H H'->Q .non H'
noncomputable def gUp(hs:List Int)(g1 g2:Int->Int):Int->Int:=λh=>if h∈hs then mx (g1 h) (g2 h) else g1 h
theorem Ry{f:Addr}{fd:FuncData}(F:gP K "learn" "learn" CP f fd)(Bt:rN mg):bN P w K mg base iY 1 f fd ["known","more"] (KD K):=by
 refine F.ok FP (λvs H Q E h=>?_) (λcdv A outer s H vs Q E hr h=>?_)
 .obtain⟨d,m,g1,g2,rfl,_⟩:=h
  rfl
 .obtain⟨d,m,g1,g2,rfl,k1,k2,ne,q⟩:=h
  have hu:=vH hr
  refine⟨_,(aG (K8 (iy PassesOwn.never rfl (Ld (pv 1)) (bD (i:=2) FP.nd rfl (Or.inl rfl))
   (aG (wN hu (pv 0) (pv 2) (bM (BP rfl) (by rfl) Bt.Yo Ud (aj (yw hu (pv 0) (pv 2) au ⟨Z,Z,Z,Z⟩) (aj (wO hu (pv 1) (pv 2) (λ_ _=>rfl)) ao))) rfl))))), ?_⟩
  obtain⟨hs,hm,nd,rg,zz⟩:=k2.ex;refine⟨_,Z,m,_,Z,hm,λo=>?_⟩;have kf:Kp m H (upd H m (.m_ o (.dK (Aa hs g2)))):=Kp.set
  refine S6 (λi σ H2=>∃v:Option V,σ=[some (.ref d),some (.ref m),v]/\jJ H2 d (gUp (hs.take i) g1 g2)/\H2 m=some (.m_ o (.dK (Aa hs g2)))/\Kp d (upd H m (.m_ o (.dK (Aa hs g2)))) H2)
   ⟨none,Z,(k1.kp kf ne).ext (λh=>by simp[gUp]),ak,Kp.refl _ _⟩ (λi σ H2 _ ⟨_,_,_,e,_⟩=>e) ?_ ?_
  .rintro i kk v σ H2 hi ⟨x,rfl,kd,fz,kp⟩
   have hi':(Aa hs g2)[i]? = some (kk,v):=hi;unfold Aa at hi';rw[aah] at hi';cases eh:hs[i]? with
   | none=>rw[eh] at hi';cases hi'
   | some h=>
     rw[eh] at hi';cases hi';have hm':h∈hs:=aaM eh;obtain⟨h0,h1⟩:=rg h hm';have tk:hs.take (i+1)=hs.take i++[h]:=by rw[aa6,eh];rfl
     have nin:h∉hs.take i:=by
      intro z;have:(hs.take i++[h]).Nodup:=by rw[←tk];exact nd.sublist (List.take_sublist _ _)
      rw[List.nodup_append] at this;exact this.2.2 h z h (by simp) rfl
     obtain⟨kvs,hd2,_,val⟩:=kd.get;have gi:gUp (hs.take i) g1 g2 h=g1 h:=by unfold gUp;rw[ab6 nin]
     refine⟨_,Z,d,Z,.inl ⟨_,.inl hd2⟩,_,Z,_,pR.k (k:=Sum.inl h) hd2, ?_⟩;rw[val h,gi];have gm:pR H2 m (kV (Sum.inl h)) (some (V.int (g2 h))):= .inl ⟨_,Sum.inl h,.inr ⟨o,fz⟩,Z,by rw[Ds,ab9 hm']⟩;refine⟨_,Z,_,Z,m,_,Z,gm,_,_,Z, ?_⟩;obtain⟨kvs',hd3,hz,put⟩:=kd.put (v:=mx (g1 h) (g2 h)) h0 h1 (ab2 (k1.nn h));refine⟨_,Z,_,Z,d,_,Z,Ao.k (k:=Sum.inl h) hd3 hz, ?_⟩;refine⟨_,Z,(put _ ak).ext λx=>?_,by rw[aF ne.symm];exact fz,kp.trans Kp.set⟩;unfold G5 gUp;rw[tk]
     by_cases e:x=h
     .subst e;simp
     .simp[e]
  .rintro σ H2 ⟨x,rfl,kd,fz,kp⟩
   refine⟨_,⟨m,_,o,_,hm,fz,Z⟩, ?_⟩;have kt:Kp m H2 (upd H2 m (.dK (Aa hs g2))):=Kp.set;refine q _ ((kd.kp kt ne).ext λh=>?_) λb u e nb=>?_
   .have el:hs.take (Aa hs g2).length=hs:=by rw[Aa,aad,aa4]
    rw[el];unfold gUp
    by_cases hh:h∈hs
    .rw[ab9 hh]
    .rw[ab6 hh,zz h hh]
     have:=k1.nn h;unfold mx;rw[ab6 (by lia)]
   .by_cases eb:b=m
    .subst eb
     rw[hm] at e;rw[ak];exact e
    .rw[aF eb]
     exact kp _ _ (by rw[aF eb];exact e) nb
noncomputable def Xn(ws:List dB)(g:Int->Int)(R:Nat->Prop):Prop:=∀m x,ws[m]? = some x->(cnt (ws.take m) x.1<g x.1↔R m)
noncomputable def aaA(ws:List dB)(j:Nat)(g:Int->Int):Prop:=Xn ws g (λm=>m=j\/qD ws j m) /\ ∀h,g h<=cnt (ws.take (j+1)) h
noncomputable def PJ(ws:List dB)(j lo m:Nat):Prop:=∃x,lo<=x/\ou ws x j=true/\(m=x\/qD ws x m)
noncomputable def Bare(ws:List dB)(j e:Nat):Prop:=ou ws e j=true /\ ¬PJ ws j (e+1) e
noncomputable instance (ws:List dB) (j e:Nat):Decidable (Bare ws j e):=Classical.propDecidable _
theorem pY{ws:List dB}{a b c:Nat}(h:qD ws b a)(g:qD ws c b):qD ws c a:=by
 induction h with
 | one h=>exact .more h g
 | more h _ ih=>exact .more h ih
theorem Xn.iff{ws:List dB}{g:Int->Int}{R S:Nat->Prop}(h:Xn ws g R)(e:∀m,R m↔S m):Xn ws g S:=λm x ex=>(h m x ex).trans (e m)
theorem Hl{ws:List dB}{j e m:Nat}(h:¬ou ws e j=true):PJ ws j (e+1) m↔PJ ws j e m:=by
 constructor
 .rintro⟨x,a,b,c⟩
  exact⟨x,by lia,b,c⟩
 .rintro⟨x,a,b,c⟩
  have:x≠e:=λz=>h (z▸b);exact⟨x,by lia,b,c⟩
theorem Pb{ws:List dB}{j e m:Nat}(k:PJ ws j (e+1) e):PJ ws j (e+1) m↔PJ ws j e m:=by
 constructor
 .rintro⟨x,a,b,c⟩
  exact⟨x,by lia,b,c⟩
 .rintro⟨x,a,b,c⟩
  by_cases z:x=e
  .subst z
   obtain⟨y,y1,y2,y3⟩:=k;have r:qD ws y x:=y3.resolve_left (by lia);rcases c with c|c
   .subst c;exact⟨y,y1,y2,.inr r⟩
   .exact⟨y,y1,y2,.inr (pY c r)⟩
  .exact⟨x,by lia,b,c⟩
theorem Mp{ws:List dB}{j e m:Nat}(h:ou ws e j=true):(PJ ws j (e+1) m\/(m=e\/qD ws e m))↔PJ ws j e m:=by
 constructor
 .rintro(⟨x,a,b,c⟩|c)
  .exact⟨x,by lia,b,c⟩
  .exact⟨e,aaG _,h,c⟩
 .rintro⟨x,a,b,c⟩
  by_cases z:x=e
  .subst z;exact .inr c
  .exact .inl ⟨x,by lia,b,c⟩
theorem Wh{ws:List dB}{g g':Int->Int}{R S:Nat->Prop}(h:Xn ws g R)(h':Xn ws g' S):Xn ws (λx=>mx (g x) (g' x)) λm=>R m\/S m:=λm x ex=>by
 show cnt _ _<mx _ _↔_;rw[RZ,h m x ex,h' m x ex]
theorem Ml{ws:List dB}{j m:Nat}:PJ ws j 0 m↔qD ws j m:=by
 constructor
 .rintro⟨x,_,b,c|c⟩
  .subst c;exact .one b
  .exact QW b c
 .intro r
  obtain⟨i,s,q⟩:=Ge r;exact⟨i,Nat.zero_le _,s,q⟩
theorem Wg{ws:List dB}{j:Nat}{y:dB}{g:Int->Int}(h:Xn ws g (qD ws j))(bd:∀h,g h<=cnt (ws.take j) h)(ey:ws[j]? = some y):aaA ws j (λx=>mx (g x) (if x=y.1 then cnt (ws.take j) y.1+1 else 0)):=by
 have tk:ws.take (j+1)=ws.take j++[y]:=by rw[aa6,ey];rfl
 refine⟨?_,λh=>?_⟩
 rotate_left
 .have b1:=bd h
  have b2:=u_ (ws.take j) h;rw[tk,kJ];show mx _ _<=_;unfold mx
  by_cases e:h=y.1
  .rw[ab9 e,ab9 e];subst e;split<;>lia
  .rw[ab6 e,ab6 e];split<;>lia
 intro m x ex;show cnt _ _<mx _ _↔_;rw[RZ,h m x ex]
 by_cases e:x.1=y.1
 .rw[ab9 e]
  constructor
  .rintro(z|z)
   .exact .inr z
   .rw[e] at z
    by_cases l:m<=j
    .by_cases em:m=j
     .exact .inl em
     .refine .inr (.one ?_)
      unfold ou YW;rw[ex,ey,aaN (show m<j by lia)];simp[e]
    .have:=pH ws y.1 (j+1) (m - (j+1))
     rw[show j+1+(m - (j+1))=m by lia] at this;have t:ws.take (j+1)=ws.take j++[y]:=by rw[aa6,ey];rfl
     rw[t,kJ,ab9 rfl] at this;lia
  .rintro(z|z)
   .subst z
    rw[e];exact .inr (by lia)
   .exact .inl z
 .rw[ab6 e]
  constructor
  .rintro(z|z)
   .exact .inr z
   .have:=u_ (ws.take m) x.1;lia
  .rintro(z|z)
   .subst z
    rw[ex] at ey;cases ey;exact acq rfl e
   .exact .inl z
noncomputable def vQ(H:Hp)(kn:Addr)(ws:List dB)(n:Nat):Prop:=∃rs:List Addr,H kn=some (.lst (rs.map V.ref))/\rs.length=n /\ ∀j r,rs[j]? = some r -> ∃g,jJ H r g/\aaA ws j g
theorem vQ.same{H H':Hp}{kn:Addr}{ws:List dB}{n:Nat}(h:vQ H kn ws n)(k:Same H H'):vQ H' kn ws n:=by
 obtain⟨rs,e,l,q⟩:=h;refine⟨rs,k _ _ e,l,λj r hj=>?_⟩;obtain⟨g,a,b⟩:=q j r hj;exact⟨g,a.same k,b⟩
theorem vQ.kp{H H':Hp}{kn r:Addr}{ys:List V}{ws:List dB}{n:Nat}(h:vQ H kn ws n)(k:Kp r H H')(hr:H r=some (.lst ys))(ne:kn≠r):vQ H' kn ws n:=by
 obtain⟨rs,e,l,q⟩:=h;refine⟨rs,k _ _ e ne,l,λj r' hj=>?_⟩;obtain⟨g,a,b⟩:=q j r' hj;obtain⟨hs,e',_⟩:=a.ex;exact⟨g,a.kp k (cD e' hr (by intro z;cases z)),b⟩
noncomputable def fu(ws:List dB)(j i:Nat):List Nat:=((List.range i).map λt=>j - 1 - t).filter λe=>decide (Bare ws j e)
theorem zF(ws:List dB)(j i:Nat):fu ws j (i+1)=fu ws j i++(if Bare ws j (j - 1 - i) then [j - 1 - i] else []):=by
 unfold fu;rw[List.range_succ,aaY,ab0];congr 1
 by_cases h:Bare ws j (j - 1 - i)<;>simp[h]
theorem qx(ws:List dB)(j i:Nat):(fu ws j i).length<=i:=by
 unfold fu;exact abX (List.length_filter_le _ _) (by simp)
noncomputable def nH(l:List Nat):List V:=l.map λn:Nat=>V.int (n:Int)
noncomputable def QF(K:PySem.W.Frag):Sp:=λvs H Q _=>∃(a nd kn:Addr) (ws:List dB) (j:Nat),vs=[.ref a,.ref nd,.ref kn,.int j]/\kY H a ws/\nO H nd (nm ws)/\vQ H kn ws j/\j<ws.length/\ws.length<=300/\(∀x∈ws,0<=x.1/\x.1<8) /\
 ∀(p b d:Addr)(g:Int->Int)(H':Hp),H' p=some (.tup [.ref b,.ref d])->H' b=some (.lst (nH (fu ws j j)))->jJ H' d g->aaA ws j g->H b=none->H d=none->H p=none->Same H H'->Q (.ref p) H'
theorem ZV{H:Hp}{d:Addr}(h:H d=some (.dK [])):jJ H d λ_=>0:=⟨⟨[],h,List.nodup_nil,λ_ z=>acq z (by simp),λ_ _=>rfl⟩,λ_=>Int.le_refl _⟩
theorem V3{f:Addr}{fd:FuncData}(F:gP K "bare_steps" "bare_steps" mX f fd)(vm:FnAt P w K mg base 2 "is_step" ["web","place","later"] (Ii K))(J2:FnAt P w K mg base 1 "is_known" ["name","known"] (KN K))(Mx:FnAt P w K mg base 1 "learn" ["known","more"] (KD K))(Bt:rN mg):bN P w K mg base iY 3 f fd ["web","named","knowns","place"] (QF K):=by
 refine F.ok jh (λvs H Q E h=>?_) (λcdv A outer s H vs Q E hr h=>?_)
 .obtain⟨a,nd,kn,ws,j,rfl,_⟩:=h
  rfl
 .obtain⟨a,nd,kn,ws,j,rfl,W,N,Kn,jl,wl,Uz,k⟩:=h
  have hu:=vH hr
  refine⟨_,(aq (aM (i:=4) jh.nd rfl (Or.inl rfl) (bK ao))
   (aq (aM (i:=5) jh.nd rfl (Or.inl rfl) Gk)
   (aq (iy PassesOwn.never rfl (uN (by rfl) Bt.ji (aj (bA lN (pv 3) au) (aj (oU jW au) (aj (oU jW au) ao)))) (bD (i:=6) jh.nd rfl (Or.inl rfl))
   (aG (bQ (PW.pt (uM (jC (aX vm (hr.mono (by decide)) (by rfl) (aj (pv 0) (aj (pv 6) (aj (pv 3) ao))))) (pZ (qZ (jC (aX J2 (hr.mono (by decide)) (by rfl) (aj (aL (aN (K:=K) rfl) (pv 1) (pv 6) (λ_ _=>rfl)) (aj (pv 5) ao)))))))) (aq (cB (dU (K:=K) rfl (pv 4) (aj (pv 6) ao)))
   (aG (cB (aX Mx (hr.mono (by decide)) (by rfl) (aj (pv 5) (aj (aL (aN (K:=K) rfl) (pv 2) (pv 6) (λ_ _=>rfl)) ao)))))) bh)))
   (aq (cB (aX Mx (hr.mono (by decide)) (by rfl) (aj (pv 5) (aj (Le (Gh (aL (aR (K:=K) rfl) (aL (aN (K:=K) rfl) (pv 1) (pv 3) (λ_ _=>rfl)) au (λ_ _=>rfl)) (bA cX (aL (aR (K:=K) rfl) (aL (aN (K:=K) rfl) (pv 1) (pv 3) (λ_ _=>rfl)) au (λ_ _=>rfl)) au) K_) rfl rfl (by simp) (by decide)) ao))))
   (aG (aW (cO (aj (pv 4) (aj (pv 5) ao))))))))), ?_⟩
  refine⟨(by show 0<=sizeLine;decide),λb hb=>?_⟩;have s1:=aB (o:=HO.lst []) hb;intro d hd;have s2:=aB (o:=HO.dK []) hd;have s12:=s1.trans s2;have hd0:H d=none:=s1.free hd;have Gx:b≠d:=aA ak hd;refine⟨_,Z,_,_,Z,Z,_,Z,_,Z,(j:Int) - 1, -1,Z,⟨by lia,by lia,by lia,by lia⟩, ?_⟩;have en:((j:Int) - 1 - (-1)).toNat=j:=by lia
  rw[en]
  refine rF (hi:=(j:Int) - 1) (n:=j) (λi σ H2=>∃(x1:Option V) (g:Int->Int),σ=[some (.ref a),some (.ref nd),some (.ref kn),some (.int j),some (.ref b),some (.ref d),x1]/\Same H H2/\H2 b=some (.lst (nH (fu ws j i)))/\jJ H2 d g/\Xn ws g (PJ ws j (j - i)) /\ ∀h,g h<=cnt (ws.take j) h)
   ⟨none,λ_=>0,Z,s12,s2 _ _ (by rw[ak];rfl),ZV ak,⟨λm x ex=>⟨λz=>?_,λ⟨x,x1,x2,_⟩=>?_⟩,λh=>u_ _ _⟩⟩ ?_ ?_
  .have:=u_ (ws.take m) x.1
   have z:cnt (ws.take m) x.1<0:=z;lia
  .have:=(mR x2).1
   lia
  .rintro i σ H2 hi ⟨x1,g,rfl,sm,hb2,kd,kp,bd⟩
   have ee:(j:Int) - 1 - (i:Int)=((j - 1 - i:Nat):Int):=by lia
   rw[ee];have bs:=zF ws j i;have bl:=qx ws j i;generalize he:j - 1 - i=e at bs;have el:e<ws.length:=by lia
   have e1:j - i=e+1:=by lia
   have e2:j - (i+1)=e:=by lia
   rw[e1] at kp;rw[e2];obtain⟨x,ex⟩:∃x,ws[e]? = some x:=⟨ws[e],by simp[el]⟩;refine⟨_,Z,_,Z,_,Z,a,ws,e,j,Z,W.same sm,el,jl,_,Z, ?_⟩
   by_cases st:ou ws e j=true
   .rw[st]
    refine fD ?_;obtain⟨ns,t,hn,en,ht⟩:=Di (N.same sm) (uO ex);refine⟨_,Z,_,Z,_,_,_,_,Z,Z,bH.of hn,cL en,_,Z,t,d,_,_,g,Z,ht,kd,_,Z, ?_⟩;have kx:=kp e x ex
    by_cases kk:PJ ws j (e+1) e
    .rw[aaN (kx.mpr kk)]
     refine fG ?_;have nb:¬Bare ws j e:=λz=>z.2 kk;rw[ab6 nb,List.append_nil] at bs;exact⟨_,g,Z,sm,by rw[bs];exact hb2,kd,kp.iff λm=>Pb kk,bd⟩
    .rw[aaO (λz=>kk (kx.mp z))]
     refine fD ?_;have nb:Bare ws j e:=⟨st,kk⟩;rw[ab9 nb] at bs;refine⟨_,Z,.inl ⟨Z,_,bH.of hb2⟩,_,Z,b,_,_,Z,Z,hb2,by rw[nH,aad,sizeLine_eq];lia, ?_⟩;have k3:Kp b H2 (upd H2 b (.lst (nH (fu ws j i)++[V.int (e:Int)]))):=Kp.set;obtain⟨rs,hk,rl,rq⟩:=id (Kn.same sm);have er:e<rs.length:=by lia
     obtain⟨r,err⟩:∃r,rs[e]? = some r:=⟨rs[e],by simp[er]⟩;obtain⟨ge,kde,kne⟩:=rq e r err
     have nkb:kn≠b:=by
      obtain⟨_,hk0,_⟩:=Kn;exact aA hk0 hb
     obtain⟨_,Z5,_⟩:=kde.ex;have V7:r≠b:=cD Z5 hb2 (by intro z;cases z)
     have nrd:d≠r:=by
      obtain⟨PN,hk0,_,rq0⟩:=Kn
      have er0:rs=PN:=by
       have:=(sm _ _ hk0).symm.trans hk;injection this with this
       injection this with this
       exact(List.map_inj_right (λx y e=>by injection e)).mp this.symm
      subst er0;obtain⟨g0,kd0,_⟩:=rq0 e r err;obtain⟨_,h0,_⟩:=kd0.ex;exact(aA h0 hd0).symm
     have hk3:=k3 _ _ hk nkb;have kd3:=kd.kp k3 Gx.symm;have afR:=kde.kp k3 V7;refine⟨_,Z,_,Z,_,Z,_,_,_,_,Z,Z,bH.of hk3,cL (by rw[aah,err];rfl),d,r,g,ge,Z,kd3,afR,nrd,λH4 kd4 k4=>?_⟩;refine⟨_,_,Z,λy u hy=>k4 _ _ (k3 _ _ (sm _ _ hy) (aA hy hb)) (aA hy hd0), ?_,kd4, ?_,λh=>?_⟩
     .have:=k4 _ _ (ak (H:=H2) (a:=b) (o:= .lst (nH (fu ws j i)++[V.int (e:Int)]))) Gx
      rw[this,bs];unfold nH;rw[aaY];rfl
     .exact(Wh kp kne.1).iff λm=>Mp st
     .have b1:=bd h
      have b2:=kne.2 h;have b3:=pH ws h (e+1) (j - (e+1));rw[show e+1+(j - (e+1))=j by lia] at b3;show mx _ _<=_;unfold mx;split<;>lia
   .have st':ou ws e j=false:=by simpa using st
    rw[st'];refine fG ?_;have nb:¬Bare ws j e:=λz=>st z.1;rw[ab6 nb,List.append_nil] at bs;exact⟨_,g,Z,sm,by rw[bs];exact hb2,kd,kp.iff λm=>Hl st,bd⟩
  .rintro σ H2 ⟨x1,g,rfl,sm,hb2,kd,kp,bd⟩
   rw[Nat.sub_self] at kp;obtain⟨y,ey⟩:∃y,ws[j]? = some y:=⟨ws[j],by simp[jl]⟩;obtain⟨y0,y1⟩:=Uz y (aaM ey);obtain⟨ns,t,hn,en,ht⟩:=Di (N.same sm) (uO ey);refine⟨_,Z,λm hm=>?_⟩;have s3:=aB (o:=HO.dK []) hm;refine⟨_,Z,_,Z,_,_,_,_,Z,Z,bH.of (s3 _ _ hn),cL en,_,_,_,_,Z,Z,cA.of (s3 _ _ ht),Z,_,Z,_,Z,_,_,_,_,Z,Z,bH.of (s3 _ _ hn),cL en,_,_,_,_,Z,Z,cA.of (s3 _ _ ht),Z,_,_,Z,Z,ak,[(Sum.inl y.1,V.int (cnt (ws.take j) y.1+1))],Z,by show 1<=15;decide, ?_⟩
   have e1:upd (upd H2 m (.dK [])) m (.dK (rm [] [(Sum.inl y.1,V.int (cnt (ws.take j) y.1+1))]))=upd H2 m (.dK (Aa [y.1] λx=>if x=y.1 then cnt (ws.take j) y.1+1 else 0)):=by
    rw[Ks];congr 2;show [(Sum.inl y.1,V.int (cnt (ws.take j) y.1+1))]=_;simp[Aa]
   rw[e1];have s4:Same H2 (upd H2 m (.dK (Aa [y.1] λx=>if x=y.1 then cnt (ws.take j) y.1+1 else 0))):=aB hm
   have hmd:d≠m:=by
    obtain⟨_,h,_⟩:=kd.ex;exact aA h hm
   have kdm:jJ (upd H2 m (.dK (Aa [y.1] λx=>if x=y.1 then cnt (ws.take j) y.1+1 else 0))) m (λx=>if x=y.1 then cnt (ws.take j) y.1+1 else 0):=by
    refine⟨⟨[y.1],ak,by simp,λh hh=>?_,λh hh=>?_⟩,λh=>?_⟩
    .have:h=y.1:=by simpa using hh
     subst this;exact⟨y0,y1⟩
    .have:h≠y.1:=by simpa using hh
     rw[ab6 this]
    .have:=u_ (ws.take j) y.1
     show (0:Int)<=if h=y.1 then _ else 0;split<;>lia
   refine⟨d,m,g,_,Z,kd.same s4,kdm,hmd,λH5 kd5 k5=>?_⟩;have hb5:H5 b=some (.lst (nH (fu ws j j))):=k5 _ _ (s4 _ _ hb2) Gx;refine⟨_,Z,_,Z,(by show 2<=sizeLine;decide),λp hp=>?_⟩;have s6:=aB (o:=HO.tup [V.ref b,V.ref d]) hp;have s05:Same H H5:=λy u hy=>k5 _ _ (s4 _ _ (sm _ _ hy)) (aA hy hd0);exact k p b d _ _ ak (s6 _ _ hb5) (kd5.same s6) (Wg (kp.iff λm=>Ml) bd ey) hb hd0 (s05.free hp) (s05.trans s6)
theorem O6{α:Type}{H:Hp}{f:α->PyData}{ys zs:List V}(p:zs.Perm ys):∀{ns:List α},aO H ys (ns.map f) -> ∃ms:List α,aO H zs (ms.map f)/\ms.Perm ns:=by
 induction p with
 | nil=>intro ns d;exact⟨ns,d,.refl _⟩
 | cons x p ih=>
   intro ns d;cases ns with
   | nil=>simp only[List.map_nil,aO] at d
   | cons n ns=>
     simp only[List.map_cons,aO] at d;obtain⟨ms,d',p'⟩:=ih d.2;exact⟨n::ms,by simp only[List.map_cons,aO];exact⟨d.1,d'⟩,.cons _ p'⟩
 | swap x y l=>
   intro ns d
   match ns,d with
   | [],d=>simp only[List.map_nil,aO] at d
   | [_],d=>simp only[List.map_cons,List.map_nil,aO,and_false] at d
   | a::b::ns,d=>
     simp only[List.map_cons,aO] at d;exact⟨b::a::ns,by simp only[List.map_cons,aO];exact⟨d.2.1,d.1,d.2.2⟩,.swap _ _ _⟩
 | trans p q ih1 ih2=>
   intro ns d;obtain⟨ms,d1,p1⟩:=ih2 d;obtain⟨ks,d2,p2⟩:=ih1 d1;exact⟨ks,d2,p2.trans p1⟩
noncomputable def ac2(_:List Nt):Prop:=True
theorem FJ{K:PySem.W.Frag}{H:Hp}{p:Addr}{ns:List Nt}{Q:VK}(N:gO H p ns)(k:∀l ns' H',H l=none->gO H' l ns'->ns'.Perm ns->ac2 ns'->Same H H'->Q (.ref l) H'):IK K [.ref p] H Q:=by
 obtain⟨ys,hp,d⟩:=N;refine⟨p,ys,Z,bH.of hp,λy hy=>?_,λl zs hl pz=>?_⟩
 .obtain⟨i,hi,e⟩:=List.getElem_of_mem hy
  obtain⟨x,t,ex,ev,ht⟩:=Ln d (i:=i) (v:=y) (by rw[aae hi,e]);exact⟨t,[x.1,x.2.1,x.2.2.1,x.2.2.2],ev,cA.of ht,by show 1<=4;decide⟩
 .have sm:=aB (o:=HO.lst zs) hl
  obtain⟨ms,d1,p1⟩:=O6 pz d;exact k l ms _ hl ⟨zs,ak,aO.keep sm.tups _ (cj _ jE _) d1⟩ p1 trivial sm
noncomputable def kh(ws:List dB)(i j:Nat):Nt:=(hnd ws i,cnt (ws.take i) (hnd ws i),hnd ws j,cnt (ws.take j) (hnd ws j))
noncomputable def cP(ws:List dB)(j:Nat)(l:List Nat):List Nt:=(l.filter λe=>decide (¬hnd ws e=hnd ws j)).map λe=>kh ws e j
noncomputable def Bg(K:PySem.W.Frag):Sp:=λvs H Q _=>∃(nd b t:Addr) (ws:List dB) (j:Nat) (l:List Nat),vs=[.ref nd,.ref b,.ref t]/\nO H nd (nm ws)/\H b=some (.lst (nH l))/\H t=some (.tup [.int (hnd ws j),.int (cnt (ws.take j) (hnd ws j))])/\(∀e∈l,e<ws.length)/\l.length<=300 /\
 ∀(r:Addr)(H':Hp),H r=none->gO H' r (cP ws j l)->Same H H'->Q (.ref r) H'
theorem S_{α β:Type}(l:List α)(f:α->Option β):(List.range l.length).filterMap (λi=>(l[i]?).bind f)=l.filterMap f:=by
 induction l with
 | nil=>rfl
 | cons x l ih=>
   rw[abE,List.range_succ_eq_map,List.filterMap_cons,List.filterMap_map,List.filterMap_cons];have e:List.filterMap ((λi=>((x::l)[i]?).bind f)∘Nat.succ) (List.range l.length)=l.filterMap f:=by rw[←ih];rfl
   rw[e];rfl
theorem Jj(ws:List dB)(j:Nat)(l:List Nat):(l.filterMap λe=>if hnd ws e=hnd ws j then none else some (nD (kh ws e j)))=(cP ws j l).map nD:=by
 unfold cP
 induction l with
 | nil=>rfl
 | cons e l ih=>
   rw[List.filterMap_cons,abD]
   by_cases h:hnd ws e=hnd ws j
   .rw[ab9 h]
    simp only[h,not_true_eq_false,decide_false,Bool.false_eq_true,if_false];exact ih
   .rw[ab6 h]
    simp only[h,not_false_eq_true,decide_true,if_true,List.map_cons];rw[ih]
theorem Jd{f:Addr}{fd:FuncData}(F:gP K "notes_to" "notes_to" qR f fd):bN P w K mg base iY 1 f fd ["named","bare","name"] (Bg K):=by
 refine F.ok FN (λvs H Q E h=>?_) (λcdv A outer s H vs Q E hr h=>?_)
 .obtain⟨nd,b,t,ws,j,l,rfl,_⟩:=h
  rfl
 .obtain⟨nd,b,t,ws,j,l,rfl,N,hb,ht,el,ll,k⟩:=h
  refine⟨_,(aG (aW (h_ rfl (N:=["earlier","name","named"]) (own:=["earlier"]) (caps:=[2,0]) (bC.of (by kernel_rfl)) (dR (K:=K) rfl (pv 1)) (λ_ _ _ _=>(bD (i:=0) (show List.Nodup (["earlier","name","named"]:List Str) by decide +kernel) rfl (Or.inl rfl))) (λ_ _ _ _=>(wM (aU lZ (aL (aR (K:=K) rfl) (aL (aN (K:=K) rfl) (pv 2) (pv 0) (λ_ _=>rfl)) au (λ_ _=>rfl)) (aL (aR (K:=K) rfl) (pv 1) au (λ_ _=>rfl)) (aV _)))) (λ_ _ _ _=>(bA (Rr (K:=K) rfl) (aL (aN (K:=K) rfl) (pv 2) (pv 0) (λ_ _=>rfl)) (pv 1)))))), ?_⟩;have il:(nH l).length=l.length:=by rw[nH,aad]
  refine⟨_,Z,b,Z,⟨_,bH.of hb⟩,λD hD=>?_⟩;refine Pr (K:=K) (xs:=nH l) (λi=>(l[i]?).bind λe=>if hnd ws e=hnd ws j then none else some (nD (kh ws e j))) (λi d h=>?_) hD (bH.of hb) (by lia) (λi x H2 G F hi s2 kG kF=>?_) (λH2 vs s2 e2 d2=>?_)
  .cases e:l[i]? with
   | none=>rw[e] at h;cases h
   | some z=>
     rw[e] at h;simp only[Option.bind_some] at h;split at h
     .cases h
     .cases h;rfl
  .unfold nH at hi
   rw[aah] at hi;cases e:l[i]? with
   | none=>rw[e] at hi;cases hi
   | some z=>
     rw[e] at hi;cases hi;have zl:=el z (aaM e);obtain⟨x,ex⟩:∃x,ws[z]? = some x:=⟨ws[z],by simp[zl]⟩;have hx:=jF ex;obtain⟨ns,tz,hn,en,htz⟩:=Di (N.same s2) (uO ex);rw[←hx] at htz;refine⟨_,Z,_,Z,_,_,_,_,Z,Z,bH.of hn,cL en,_,_,_,_,Z,Z,cA.of htz,Z,_,Z,_,_,_,_,Z,Z,cA.of (s2 _ _ ht),Z,Z,_,Z, ?_⟩
     by_cases eh:hnd ws z=hnd ws j
     .rw[show (!decide (V.int (hnd ws z)=V.int (hnd ws j)))=false by simp[eh]]
      refine fG ?_;exact kG _ (Same.refl _) (by rw[e];simp[eh])
     .rw[show (!decide (V.int (hnd ws z)=V.int (hnd ws j)))=true by simp[eh]]
      refine fD ?_;refine⟨_,Z,_,Z,_,_,_,_,Z,Z,bH.of hn,cL en,_,Z,tz,t,_,_,Z,Z,cA.of htz,cA.of (s2 _ _ ht),by simp,by show 4<=sizeLine;decide,λz=>acq z (by simp),λ_ p hp=>?_⟩;exact kF _ (nD (kh ws z j)) _ (aB hp) (by rw[e];simp[eh]) (DQ (x:=kh ws z j) (by rw[ak];rfl))
  .rw[il,S_,Jj] at d2
   exact k D H2 hD ⟨vs,e2,d2⟩ s2
noncomputable def jN(ws:List dB)(n:Nat):List Nt:=(List.range n).flatMap λj=>cP ws j (fu ws j j)
theorem vf(ws:List dB)(n:Nat):jN ws (n+1)=jN ws n++cP ws n (fu ws n n):=by
 unfold jN;rw[List.range_succ,List.flatMap_append];simp
theorem o_(ws:List dB)(j:Nat)(l:List Nat):(cP ws j l).length<=l.length:=by
 unfold cP;rw[aad];exact List.length_filter_le _ _
theorem zJ(ws:List dB):∀n,(jN ws n).length<=n*n
 | 0=>aaG _
 | n+1=>by
   rw[vf,aaT];have h1:=zJ ws n;have h2:=abX (o_ ws n (fu ws n n)) (qx ws n n);have:(n+1)*(n+1)=n*n+n+n+1:=by rw[Nat.add_mul,Nat.mul_add];lia
   lia
theorem Ug{ws:List dB}{j i e:Nat}(h:e∈fu ws j i):e<j\/j=0:=by
 unfold fu at h;obtain⟨h1,_⟩:=abw.mp h;obtain⟨t,_,rfl⟩:=aa3.mp h1;lia
noncomputable def KC(K:PySem.W.Frag):Sp:=λvs H Q _=>∃(a:Addr) (ws:List dB),vs=[.ref a]/\kY H a ws/\ws.length<=300/\(∀x∈ws,0<=x.1/\x.1<8) /\
 ∀(r:Addr)(ns:List Nt)(H':Hp),H r=none->gO H' r ns->ns.Perm (jN ws ws.length)->ac2 ns->Same H H'->Q (.ref r) H'
theorem Rv{f:Addr}{fd:FuncData}(F:gP K "notes" "notes" CJ f fd)(Em:FnAt P w K mg base 1 "names" ["web"] (Cq K))(En:FnAt P w K mg base 3 "bare_steps" ["web","named","knowns","place"] (QF K))(J1:FnAt P w K mg base 1 "notes_to" ["named","bare","name"] (Bg K))(Bt:rN mg):bN P w K mg base iY 4 f fd ["web"] (KC K):=by
 refine F.ok jX (λvs H Q E h=>?_) (λcdv A outer s H vs Q E hr h=>?_)
 .obtain⟨a,ws,rfl,_⟩:=h
  rfl
 .obtain⟨a,ws,rfl,W,wl,Uz,k⟩:=h
  refine⟨_,(aq (aM (i:=1) jX.nd rfl (Or.inl rfl) (aX Em (hr.mono (by decide)) (by rfl) (aj (pv 0) ao)))
   (aq (aM (i:=2) jX.nd rfl (Or.inl rfl) (bK ao))
   (aq (aM (i:=3) jX.nd rfl (Or.inl rfl) (bK ao))
   (aq (iy PassesOwn.never rfl (Gi (K:=K) rfl (by rfl) Bt.vO (aj (pv 1) ao)) (p8 (K:=K) (n:=2) rfl rfl (eF (bD (i:=4) jX.nd rfl (Or.inl rfl)) (eF (bD (i:=5) jX.nd rfl (Or.inl rfl)) p7)))
   (aq (aM (i:=6) jX.nd rfl (Or.inl rfl) (aX En (hr.mono (by decide)) (by rfl) (aj (pv 0) (aj (pv 1) (aj (pv 2) (aj (pv 4) ao))))))
   (aq (cB (Dk (K:=K) rfl PySem.F.plainAttrs_list PySem.F.slot_list_extend PySem.F.type_list_extend Bo (pv 3) (aj (aX J1 (hr.mono (by decide)) (by rfl) (aj (pv 1) (aj (aL (aR (K:=K) rfl) (pv 6) au (λ_ _=>rfl)) (aj (pv 5) ao)))) ao)))
   (aG (cB (dU (K:=K) rfl (pv 2) (aj (aL (aR (K:=K) rfl) (pv 6) au (λ_ _=>rfl)) ao)))))))
   (aG (aW (bM (vM (K:=K) rfl) (by rfl) Bt.Hw BR (aj (pv 3) ao)))))))), ?_⟩
  refine⟨_,Z,a,ws,Z,W,by lia,λnd H1 ajL N s1=>?_⟩;refine⟨(by show 0<=sizeLine;decide),λkn hkn=>?_⟩;have s2:=aB (o:=HO.lst []) hkn;refine⟨(by show 0<=sizeLine;decide),λtl htl=>?_⟩;have s3:=aB (o:=HO.lst []) htl;have s13:=(s1.trans s2).trans s3;have af':H kn=none:=s1.free hkn;have af5:H tl=none:=(s1.trans s2).free htl;have nkt:kn≠tl:=aA ak htl;obtain⟨vs,hv,dv⟩:=id N;have vl:vs.length=ws.length:=by rw[dv.length,aad,jQ]
  have nnk:nd≠kn:=aA hv hkn;have nnt:nd≠tl:=aA (s2 _ _ hv) htl;refine⟨_,Z,nd,vs,Z,bH.of (s3 _ _ (s2 _ _ hv)), ?_⟩
  refine G6 (K:=K) (a:=nd) (xs:=vs) (λj σ H3=>∃(x1 x2 x3:Option V),σ=[some (.ref a),some (.ref nd),some (.ref kn),some (.ref tl),x1,x2,x3]/\Same H H3/\H3 nd=some (.lst vs)/\nO H3 nd (nm ws)/\vQ H3 kn ws j/\gO H3 tl (jN ws j))
   ⟨none,none,none,Z,s13,s3 _ _ (s2 _ _ hv),(N.same s2).same s3,⟨[],s3 _ _ ak,Z,λj r hj=>by simp at hj⟩,⟨[],ak,by simp[jN,aO]⟩⟩ (λi σ H3 _ ⟨_,_,_,_,_,e,_⟩=>bH.of e) ?_ ?_
  .rintro j v σ H3 q hj ⟨x1,x2,x3,rfl,sm,hv3,N3,Kn,T⟩ hq
   have jl:j<ws.length:=by have:=(aaf.mp hj).1;lia
   obtain⟨y,ey⟩:∃y,ws[j]? = some y:=⟨ws[j],by simp[jl]⟩;have hy:=jF ey;obtain⟨vs',t,hv',et,ht⟩:=Di N3 (uO ey);have ev:vs'=vs:=by rw[hv3] at hv';injection hv' with z;injection z with z;exact z.symm
   subst ev;rw[hj] at et;cases et;rw[←hy] at ht;have sq:=aB (o:=HO.tup [V.int j,V.ref t]) hq;refine⟨q,_,Z,cA.of ak,Z,_,_,Z,_,_,Z,Z, ?_⟩;refine⟨_,Z,_,Z,_,Z,_,Z,a,nd,kn,ws,j,Z,W.same (sm.trans sq),N3.same sq,Kn.same sq,jl,wl,Uz,λp b d g H4 hp hb kd ko hb0 hd0 hp0 s4=>?_⟩;have Uu:=sq.trans s4;obtain⟨ts,hts,Et⟩:=id (T.same Uu)
   have el:∀e∈fu ws j j,e<ws.length:=λe he=>by
    rcases Ug he with h|h
    .lia
    .subst h;simp[fu] at he
   have bl:=qx ws j j;refine⟨_,Z,.inl ⟨Z,_,bH.of hts⟩,_,Z,_,Z,_,_,_,_,Z,Z,cA.of hp,Z,_,Z,nd,b,t,ws,j,_,Z,N3.same Uu,hb,Uu _ _ ht,el,by lia,λr H5 hr0 NT s5=>?_⟩;obtain⟨Y6,hrs,drs⟩:=NT;have tll:=zJ ws j;have l1:ts.length=(jN ws j).length:=by rw[Et.length,aad]
   have l2:Y6.length=(cP ws j (fu ws j j)).length:=by rw[drs.length,aad]
   have l3:=o_ ws j (fu ws j j);have jj:j*j<=300*300:=Nat.mul_le_mul (by lia) (by lia);refine⟨tl,r,_,_,Z,Z,s5 _ _ hts,hrs,by rw[sizeLine_eq];lia, ?_⟩;have k6:Kp tl H5 (upd H5 tl (.lst (ts++Y6))):=Kp.set;have Wr:=s5 _ _ hts;have t6:=k6.tups Wr;obtain⟨rs,hk,rl,rq⟩:=id (((Kn.same Uu).same s5).kp k6 Wr nkt);have hp6:(upd H5 tl (.lst (ts++Y6))) p=some (.tup [.ref b,.ref d]):=t6 _ _ (s5 _ _ hp);refine⟨_,Z,.inl ⟨Z,_,bH.of hk⟩,_,Z,_,_,_,_,Z,Z,cA.of hp6,Z,kn,_,_,Z,Z,hk,by rw[aad,sizeLine_eq];lia, ?_⟩;have k7:Kp kn (upd H5 tl (.lst (ts++Y6))) (upd (upd H5 tl (.lst (ts++Y6))) kn (.lst (rs.map V.ref++[V.ref d]))):=Kp.set;have t7:=k7.tups hk
   have kd6:jJ (upd H5 tl (.lst (ts++Y6))) d g:=by
    obtain⟨_,h,_⟩:=kd.ex;exact(kd.same s5).kp k6 (cD (s5 _ _ h) Wr (by intro z;cases z))
   refine⟨_,_,_,Z,λx u e=>k7 _ _ (k6 _ _ (s5 _ _ (Uu _ _ (sm _ _ e))) (aA e af5)) (aA e af'), ?_, ?_, ?_, ?_⟩
   .exact k7 _ _ (k6 _ _ (s5 _ _ (Uu _ _ hv3)) nnt) nnk
   .exact(((N3.same Uu).same s5).kp Wr k6 nnt).kp hk k7 nnk
   .refine⟨rs++[d],by rw[ak,aaY];rfl,by simp[rl],λm r' hm=>?_⟩
    by_cases hml:m<rs.length
    .rw[aaV hml] at hm
     obtain⟨g',kd',ko'⟩:=rq m r' hm;obtain⟨_,h,_⟩:=kd'.ex;exact⟨g',kd'.kp k7 (cD h hk (by intro z;cases z)),ko'⟩
    .have hm2:=(aaf.mp hm).1
     rw[aaT,aa5] at hm2;have em:m=rs.length:=by lia
     subst em;rw[aaU (aaG _)] at hm;simp at hm;subst hm;rw[rl];obtain⟨_,h,_⟩:=kd6.ex;exact⟨g,kd6.kp k7 (cD h hk (by intro z;cases z)),ko⟩
   .refine⟨ts++Y6,k7 _ _ ak nkt.symm, ?_⟩
    rw[vf,aaY];refine aO.append (aO.keep (λa xs h=>t7 _ _ (t6 _ _ (s5.tups _ _ h))) _ (cj _ jE _) Et) (aO.keep (λa xs h=>t7 _ _ (t6 _ _ h)) _ (cj _ jE _) drs)
  .rintro σ H3 ⟨x1,x2,x3,rfl,sm,hv3,N3,Kn,T⟩
   rw[vl] at T;exact⟨_,Z,FJ T λl ns H4 hl NN pp ss s4=>k l ns H4 (sm.free hl) NN pp ss (sm.trans s4)⟩
noncomputable def Aj(ws:List dB)(hn:Nat)(row:List Int)(R:Nat->Prop):Prop:=row.length=hn /\ ∀m x,ws[m]? = some x->(cnt (ws.take m) x.1<gI row x.1↔R m)
noncomputable def dI(H:Hp)(t:Addr)(ex:List Addr)(n:Nat)(C:Hp->Nat->Addr->Prop):Prop:=∃rs:List Addr,H t=some (.lst (rs.map V.ref))/\rs.length=n /\ ∀j r,rs[j]? = some r->(∀e∈ex,r≠e)/\C H j r
noncomputable def RowC(ws:List dB)(hn:Nat):Hp->Nat->Addr->Prop:=λH j r=>∃a:List Int,H r=some (.lst (a.map V.int))/\Aj ws hn a λm=>m=j\/qD ws j m
noncomputable def BrC(ws:List dB)(H0:Hp):Hp->Nat->Addr->Prop:=λH j r=>∃ns:List Nt,gO H r ns/\ns.Perm (cP ws j (fu ws j j))/\H0 r=none
noncomputable def Keeps(C:Hp->Nat->Addr->Prop):Prop:=∀(H H':Hp)(j:Nat)(r:Addr),C H j r->(∃o,H r=some o)/\((∀a xs,H a=some (HO.tup xs)->H' a=some (HO.tup xs))->(∀o,H r=some o->H' r=some o)->C H' j r)
theorem jT(ws:List dB)(hn:Nat):Keeps (RowC ws hn):=λH H' j r ⟨a,h,q⟩=>⟨⟨_,h⟩,λ_ k=>⟨a,k _ h,q⟩⟩
theorem pB(ws:List dB)(H0:Hp):Keeps (BrC ws H0):=λH H' j r ⟨ns,⟨vs,h,d⟩,q⟩=>⟨⟨_,h⟩,λt k=>⟨ns,⟨vs,k _ h,aO.keep t _ (cj _ jE ns) d⟩,q⟩⟩
theorem dI.same{H H':Hp}{t:Addr}{ex:List Addr}{n:Nat}{C:Hp->Nat->Addr->Prop}(kc:Keeps C)(h:dI H t ex n C)(k:Same H H'):dI H' t ex n C:=by
 obtain⟨rs,e,l,q⟩:=h;exact⟨rs,k _ _ e,l,λj r hj=>⟨(q j r hj).1,((kc H H' j r (q j r hj).2).2 k.tups λo ho=>k _ _ ho)⟩⟩
theorem dI.kp{H H':Hp}{t x:Addr}{ys:List V}{ex:List Addr}{n:Nat}{C:Hp->Nat->Addr->Prop}(kc:Keeps C)(h:dI H t ex n C)(k:Kp x H H')(hx:H x=some (.lst ys))(ne:t≠x)(m:x∈ex):dI H' t ex n C:=by
 obtain⟨rs,e,l,q⟩:=h;exact⟨rs,k _ _ e ne,l,λj r hj=>⟨(q j r hj).1,((kc H H' j r (q j r hj).2).2 (k.tups hx) λo ho=>k _ _ ho ((q j r hj).1 x m))⟩⟩
theorem dI.move{H2 H':Hp}{t:Addr}{ex:List Addr}{n:Nat}{C:Hp->Nat->Addr->Prop}(kc:Keeps C)(h:dI H2 t ex n C)(W:List Addr)(k:∀b o,H2 b=some o->b∉W->H' b=some o)(tw:t∉W)(hw:∀x∈W,x∈ex\/H2 x=none)(tp:∀a xs,H2 a=some (HO.tup xs)->H' a=some (HO.tup xs)):dI H' t ex n C:=by
 obtain⟨rs,e,l,q⟩:=h;refine⟨rs,k _ _ e tw,l,λj r hj=>⟨(q j r hj).1, ?_⟩⟩;have c:=(q j r hj).2;refine(kc H2 H' j r c).2 tp λo ho=>k _ _ ho λm=>?_;rcases hw r m with z|z
 .exact(q j r hj).1 r z rfl
 .rw[ho] at z;cases z
theorem dI.push{H:Hp}{t r:Addr}{ex:List Addr}{n:Nat}{C:Hp->Nat->Addr->Prop}(kc:Keeps C)(h:dI H t ex n C)(te:t∈ex)(re:∀e∈ex,r≠e)(c:C H n r):∃rs:List Addr,H t=some (.lst (rs.map V.ref))/\rs.length=n/\dI (upd H t (.lst (rs.map V.ref++[V.ref r]))) t ex (n+1) C:=by
 obtain⟨rs,e,l,q⟩:=h;have k:Kp t H (upd H t (.lst (rs.map V.ref++[V.ref r]))):=Kp.set;have mv:∀j r',(∀e∈ex,r'≠e)->C H j r'->C (upd H t (.lst (rs.map V.ref++[V.ref r]))) j r':=λj r' x c=>(kc _ _ j r' c).2 (k.tups e) λo ho=>k _ _ ho (x t te);refine⟨rs,e,l,rs++[r],by rw[ak,aaY];rfl,by simp[l],λj r' hj=>?_⟩
 by_cases hl:j<rs.length
 .rw[aaV hl] at hj
  exact⟨(q j r' hj).1,mv _ _ (q j r' hj).1 (q j r' hj).2⟩
 .have h2:=(aaf.mp hj).1
  rw[aaT,aa5] at h2;have em:j=rs.length:=by lia
  subst em;rw[aaU (aaG _)] at hj;simp at hj;subst hj;rw[l];exact⟨re,mv _ _ re c⟩
noncomputable def ZJ(hn:Nat)(a b:List Int):List Int:=(List.range hn).map λh:Nat=>mx (gI a (h:Int)) (gI b (h:Int))
theorem Z7{hn:Nat}{a b:List Int}{h:Int}(h0:0<=h)(h1:h<hn):gI (ZJ hn a b) h=mx (gI a h) (gI b h):=by
 obtain⟨m,rfl⟩:=abQ h0;have hm:m<hn:=by lia
 refine JD ?_;unfold ZJ;rw[aah,List.getElem?_range hm];rfl
theorem QS{ws:List dB}{hn:Nat}{a b:List Int}{R S:Nat->Prop}(ok:∀x∈ws,0<=x.1/\x.1<(hn:Int))(p:Aj ws hn a R)(q:Aj ws hn b S):Aj ws hn (ZJ hn a b) λm=>R m\/S m:=by
 refine⟨by unfold ZJ;simp,λm x ex=>?_⟩;obtain⟨x0,x1⟩:=ok x (aaM ex);rw[Z7 x0 x1,RZ,p.2 m x ex,q.2 m x ex]
theorem Aj.iff{ws:List dB}{hn:Nat}{a:List Int}{R S:Nat->Prop}(h:Aj ws hn a R)(e:∀m,R m↔S m):Aj ws hn a S:=⟨h.1,λm x ex=>(h.2 m x ex).trans (e m)⟩
theorem QT{ws:List dB}{hn j:Nat}{a:List Int}{y:dB}(ok:∀x∈ws,0<=x.1/\x.1<(hn:Int))(p:Aj ws hn a (qD ws j))(ey:ws[j]? = some y):Aj ws hn (a.set y.1.toNat (cnt (ws.take j) y.1+1)) λm=>m=j\/qD ws j m:=by
 obtain⟨y0,y1⟩:=ok y (aaM ey);have al:=p.1;refine⟨by simp[al],λm x ex=>?_⟩;obtain⟨x0,x1⟩:=ok x (aaM ex);rw[JC y0 (by lia) x0]
 by_cases e:x.1=y.1
 .rw[ab9 e,e]
  by_cases l:m<=j
  .have:=pH ws y.1 m (j - m)
   rw[show m+(j - m)=j by lia] at this;refine⟨λ_=>?_,λ_=>by lia⟩
   by_cases em:m=j
   .exact .inl em
   .refine .inr (.one ?_)
    unfold ou YW;rw[ex,ey,aaN (show m<j by lia)];simp[e]
  .have:=pH ws y.1 (j+1) (m - (j+1))
   rw[show j+1+(m - (j+1))=m by lia] at this;have t:ws.take (j+1)=ws.take j++[y]:=by rw[aa6,ey];rfl
   rw[t,kJ,ab9 rfl] at this;refine⟨λh=>by lia,λh=>?_⟩;rcases h with h|h
   . lia
   .have:=h.lt;lia
 .rw[ab6 e,p.2 m x ex]
  constructor
  .intro z;exact .inr z
  .rintro(z|z)
   .subst z
    rw[ex] at ey;cases ey;exact acq rfl e
   .exact z
theorem abG(hn:Int):(List.replicate hn.toNat [V.int 0]).flatten=(List.replicate hn.toNat (0:Int)).map V.int:=by
 generalize hn.toNat=n
 induction n with
 | zero=>rfl
 | succ n ih=>rw[List.replicate_succ,List.flatten_cons,ih,List.replicate_succ,List.map_cons];rfl
theorem SN(n:Nat)(h:Int):gI (List.replicate n 0) h=0:=by unfold gI;rw[List.getElem?_replicate];split<;>rfl
noncomputable def Eu(ws:List dB)(n:Nat):List Int:=(List.range n).map λi=>cnt (ws.take i) (hnd ws i)
theorem W9{ws:List dB}{n i:Nat}(h:i<n):(Eu ws n)[i]? = some (cnt (ws.take i) (hnd ws i)):=by
 unfold Eu;rw[aah,List.getElem?_range h];rfl
theorem T9(ws:List dB)(n:Nat):Eu ws (n+1)=Eu ws n++[cnt (ws.take n) (hnd ws n)]:=by
 unfold Eu;rw[List.range_succ,aaY];rfl
theorem vB(ws:List dB)(j:Nat)(l l':List Nat):cP ws j (l++l')=cP ws j l++cP ws j l':=by
 unfold cP;rw[ab0,aaY]
noncomputable def Fz(K:PySem.W.Frag):Sp:=λvs H Q _=>∃(a:Addr) (hn:Int) (ws:List dB),vs=[.ref a,.int hn]/\kY H a ws/\(∀x∈ws,Uk hn x)/\1<=hn/\hn<=8/\ws.length<=300 /\
 ∀(p t1 t2:Addr)(H':Hp),H' p=some (.tup [.ref t1,.ref t2])->dI H' t1 [] ws.length (RowC ws hn.toNat)->dI H' t2 [] ws.length (BrC ws H)->H t1=none->H t2=none->Same H H'->Q (.ref p) H'
theorem dI.any{H:Hp}{t:Addr}{ex:List Addr}{n:Nat}{C:Hp->Nat->Addr->Prop}(h:dI H t ex n C):dI H t [] n C:=by
 obtain⟨rs,e,l,q⟩:=h;exact⟨rs,e,l,λj r hj=>⟨λ_ z=>acq z (by simp),(q j r hj).2⟩⟩
noncomputable def bSt(a:Addr)(hn:Int)(rw' cl br mn:Addr)(x1 x2 x3 x4 x5 x6 x7 x8 x9 x10:Option V):St:=[some (.ref a),some (.int hn),some (.ref rw'),some (.ref cl),some (.ref br),some (.ref mn),x1,x2,x3,x4,x5,x6,x7,x8,x9,x10]
structure ac8(ws:List dB)(hn:Int)(H H2:Hp)(a rw' cl br mn:Addr)(j:Nat):Prop where
 sm:Same H H2
 rows:dI H2 rw' [rw',cl,br,mn] j (RowC ws hn.toNat)
 brt:dI H2 br [rw',cl,br,mn] j (BrC ws H)
 called:H2 cl=some (.lst ((Eu ws j).map V.int))
 many:∃ms:List Int,H2 mn=some (.lst (ms.map V.int))/\ms.length=hn.toNat /\ ∀h:Int,0<=h->h<hn->gI ms h=cnt (ws.take j) h
theorem Wm{c:Bool}{A B:Prop}(a:A)(b:¬c=true->A->B):if c=true then A else B:=by
 split
 .exact a
 .rename_i h
  exact b h a
theorem Od{f:Addr}{fd:FuncData}(F:gP K "_law_table" "_law_table" yg f fd)(Bt:rN mg):bN P w K mg base iY 1 f fd ["touches","hands"] (Fz K):=by
 refine F.ok cQ (λvs H Q E h=>?_) (λcdv A outer s H vs Q E hr h=>?_)
 .obtain⟨a,hn,ws,rfl,_⟩:=h
  rfl
 .obtain⟨a,hn,ws,rfl,W,ok,hn0,hn1,wl,k⟩:=h
  obtain⟨vs,ha,dv⟩:=id W;have eZ:vs.length=ws.length:=by rw[dv.length,aad]
  have Uz:∀x∈ws,0<=x.1/\x.1<((hn.toNat:Nat):Int):=λx hx=>⟨(ok x hx).1.1,by have:=(ok x hx).1.2;lia⟩
  refine⟨_,(aq (aM (i:=2) cQ.nd rfl (Or.inl rfl) (bK ao))
   (aq (aM (i:=3) cQ.nd rfl (Or.inl rfl) (bK ao))
   (aq (aM (i:=4) cQ.nd rfl (Or.inl rfl) (bK ao))
   (aq (aM (i:=5) cQ.nd rfl (Or.inl rfl) (bA Ro (bK (aj au ao)) (pv 1)))
   (aq (iy PassesOwn.never rfl (dR (K:=K) rfl (pv 0)) (p8 (K:=K) (n:=3) rfl rfl (eF (bD (i:=6) cQ.nd rfl (Or.inl rfl)) (eF (bD (i:=7) cQ.nd rfl (Or.inl rfl)) (eF (bD (i:=8) cQ.nd rfl (Or.inl rfl)) p7))))
   (aq (aM (i:=9) cQ.nd rfl (Or.inl rfl) (bA Ro (bK (aj au ao)) (pv 1)))
   (aq (aM (i:=10) cQ.nd rfl (Or.inl rfl) (bK ao))
   (aq (iy PassesOwn.never rfl (uN (by rfl) Bt.ji (aj (bA lN (bM (bO (K:=K) rfl) (by rfl) Bt.lD iT (aj (pv 2) ao)) au) (aj (oU jW au) (aj (oU jW au) ao)))) (bD (i:=11) cQ.nd rfl (Or.inl rfl))
   (aq (lM (aL (aN (K:=K) rfl) (pv 0) (pv 11) (λ_ _=>rfl)) (p8 (K:=K) (n:=3) rfl rfl (eF (bD (i:=12) cQ.nd rfl (Or.inl rfl)) (eF (bD (i:=13) cQ.nd rfl (Or.inl rfl)) (eF (bD (i:=14) cQ.nd rfl (Or.inl rfl)) p7)))))
   (aq (aM (i:=15) cQ.nd rfl (Or.inl rfl) (yx (eN lZ (pv 12) (pv 6) (aV _)) (yx (eN cH (pv 14) (pv 8) (aV _)) (q_ (Rg (eN lZ (pv 7) bw (aV _)) (q_ (eN lZ (pv 13) bw (aV _))))))))
   (aq (bQ (PW.pt (uM (jC (pv 15)) (pZ (aU X6 (aL (aN (K:=K) rfl) (pv 3) (pv 11) (λ_ _=>rfl)) (aL (aN (K:=K) rfl) (pv 9) (pv 12) (λ_ _=>rfl)) (aV _))))) (aG (cB (dU (K:=K) rfl (pv 10) (aj (cO (aj (pv 12) (aj (aL (aN (K:=K) rfl) (pv 3) (pv 11) (λ_ _=>rfl)) (aj (pv 6) (aj (aL (aN (K:=K) rfl) (pv 5) (pv 6) (λ_ _=>rfl)) ao))))) ao)))) bh)
   (aG (bQ (PW.pt (vA (jC (pv 15)) (oM (aU cH (pv 12) (pv 6) (aV _))))) (aG (sS (i:=9) rfl cQ.nd rfl (Or.inl rfl) (N:=["a","b"]) (own:=["a","b"]) (caps:=[]) (bC.of (by kernel_rfl)) (Vu (K:=K) rfl (by rfl) Bt.acO (aj (pv 9) (aj (aL (aN (K:=K) rfl) (pv 2) (pv 11) (λ_ _=>rfl)) ao))) (λ_ _ _ _=>(p8 (K:=K) (n:=2) rfl rfl (eF (bD (i:=0) (show List.Nodup (["a","b"]:List Str) by decide +kernel) rfl (Or.inl rfl)) (eF (bD (i:=1) (show List.Nodup (["a","b"]:List Str) by decide +kernel) rfl (Or.inl rfl)) p7)))) (λ_ _ _ _=>gH) (λ_ _ _ _=>(bM (BP rfl) (by rfl) Bt.Yo Ud (aj (pv 0) (aj (pv 1) ao)))))) bh))))))
   (aq (cB (dU (K:=K) rfl (pv 3) (aj (aL (aN (K:=K) rfl) (pv 5) (pv 6) (λ_ _=>rfl)) ao)))
   (aq (lM (bA cX (aL (aN (K:=K) rfl) (pv 5) (pv 6) (λ_ _=>rfl)) au) (oR (pv 5) (pv 6) set_list))
   (aq (lM (aL (aN (K:=K) rfl) (pv 5) (pv 6) (λ_ _=>rfl)) (oR (pv 9) (pv 6) set_list))
   (aq (cB (dU (K:=K) rfl (pv 2) (aj (pv 9) ao)))
   (aG (cB (dU (K:=K) rfl (pv 4) (aj (bM (vM (K:=K) rfl) (by rfl) Bt.Hw BR (aj (pv 10) ao)) ao))))))))))))
   (aG (aW (cO (aj (pv 2) (aj (pv 4) ao)))))))))), ?_⟩
  refine⟨(by show 0<=sizeLine;decide),λrw' h1=>?_⟩;have s1:=aB (o:=HO.lst []) h1;refine⟨(by show 0<=sizeLine;decide),λcl h2=>?_⟩;have s2:=aB (o:=HO.lst []) h2;refine⟨(by show 0<=sizeLine;decide),λbr h3=>?_⟩;have s3:=aB (o:=HO.lst []) h3;refine⟨(by show 1<=sizeLine;decide),λl h4=>?_⟩;have s4:=aB (o:=HO.lst [V.int 0]) h4;refine⟨_,Z,l,_,_,Z,Z,ak,by lia,by lia,by rw[sizeLine_eq];simp;lia,λmn h5=>?_⟩;rw[abG];have s5:=aB (o:=HO.lst ((List.replicate hn.toNat (0:Int)).map V.int)) h5;have n12:rw'≠cl:=aA ak h2;have n13:rw'≠br:=aA (s2 _ _ ak) h3;have n23:cl≠br:=aA ak h3;have n15:rw'≠mn:=aA (s4 _ _ (s3 _ _ (s2 _ _ ak))) h5;have n25:cl≠mn:=aA (s4 _ _ (s3 _ _ ak)) h5;have n35:br≠mn:=aA (s4 _ _ ak) h5;have Uv:=(((s1.trans s2).trans s3).trans s4).trans s5;have f1:H rw'=none:=h1;have f2:H cl=none:=s1.free h2;have f3:H br=none:=(s1.trans s2).free h3;have f5:H mn=none:=(((s1.trans s2).trans s3).trans s4).free h5
  have I0:ac8 ws hn H _ a rw' cl br mn 0:=⟨Uv,⟨[],s5 _ _ (s4 _ _ (s3 _ _ (s2 _ _ ak))),Z,λj r hj=>by simp at hj⟩,⟨[],s5 _ _ (s4 _ _ ak),Z,λj r hj=>by simp at hj⟩,s5 _ _ (s4 _ _ (s3 _ _ ak)),
   ⟨List.replicate hn.toNat 0,ak,by simp,λh _ _=>by rw[SN];rfl⟩⟩
  generalize (upd (upd (upd (upd (upd H rw' (HO.lst [])) cl (HO.lst [])) br (HO.lst [])) l (HO.lst [V.int 0])) mn (HO.lst ((List.replicate hn.toNat (0:Int)).map V.int)))=H5 at I0 ⊢;refine⟨_,Z,a,Z,⟨_,bH.of (I0.sm _ _ ha)⟩, ?_⟩
  refine jo (K:=K) (a:=a) (xs:=vs) (λj σ H2=>∃x1 x2 x3 x4 x5 x6 x7 x8 x9 x10,σ=bSt a hn rw' cl br mn x1 x2 x3 x4 x5 x6 x7 x8 x9 x10/\ac8 ws hn H H2 a rw' cl br mn j)
   ⟨none,none,none,none,none,none,none,none,none,none,Z,I0⟩ (λj σ H2 _ ⟨_,_,_,_,_,_,_,_,_,_,_,I⟩=>bH.of (I.sm _ _ ha)) ?_ ?_
  .rintro j v σ H2 hj ⟨x1,x2,x3,x4,x5,x6,x7,x8,x9,x10,rfl,I⟩
   have jl:j<ws.length:=by have:=(aaf.mp hj).1;lia
   obtain⟨y,ey⟩:∃y,ws[j]? = some y:=⟨ws[j],by simp[jl]⟩;obtain⟨dd,ed,dy⟩:=dv.get hj;rw[aah,ey] at ed;cases ed;obtain⟨t,rfl,ht⟩:=pG dy;obtain⟨⟨y0,y1⟩,ykd,_⟩:=ok y (aaM ey);have nY:=jF ey;refine⟨t,_,Z,cA.of (I.sm _ _ ht),Z,_,_,Z,_,_,Z,_,_,Z,Z, ?_⟩;refine⟨(by show 1<=sizeLine;decide),λl0 hl0=>?_⟩;have s6:=aB (o:=HO.lst [V.int 0]) hl0;refine⟨_,Z,l0,_,_,Z,Z,ak,by lia,by lia,by rw[sizeLine_eq];simp;lia,λgt hgt=>?_⟩;rw[abG];have s7:=aB (o:=HO.lst ((List.replicate hn.toNat (0:Int)).map V.int)) hgt;refine⟨(by show 0<=sizeLine;decide),λfr hfr=>?_⟩;have s8:=aB (o:=HO.lst []) hfr;have s27:=s6.trans s7;have s28:=s27.trans s8;have g0:H2 gt=none:=s6.free hgt;have r0:H2 fr=none:=s27.free hfr;have qd:gt≠fr:=aA ak hfr;have iC:(upd (upd (upd H2 l0 (HO.lst [V.int 0])) gt (HO.lst ((List.replicate hn.toNat (0:Int)).map V.int))) fr (HO.lst [])) gt=some (.lst ((List.replicate hn.toNat (0:Int)).map V.int)):=s8 _ _ ak;have iD:(upd (upd (upd H2 l0 (HO.lst [V.int 0])) gt (HO.lst ((List.replicate hn.toNat (0:Int)).map V.int))) fr (HO.lst [])) fr=some (.lst []):=ak;generalize (upd (upd (upd H2 l0 (HO.lst [V.int 0])) gt (HO.lst ((List.replicate hn.toNat (0:Int)).map V.int))) fr (HO.lst []))=H8 at s28 iC iD ⊢;obtain⟨rs,hrs,rl,_⟩:=id I.rows;refine⟨_,Z,rw',_,Z,.inl (bH.of (s28 _ _ hrs)),_,_,Z,Z,_,Z,_,Z,(j:Int) - 1, -1,by rw[aad,rl],⟨by lia,by lia,by lia,by lia⟩, ?_⟩;rw[show ((j:Int) - 1 - (-1)).toNat=j by lia]
   refine rF (hi:=(j:Int) - 1) (n:=j) (λi σ H9=>∃(gt:Addr) (row:List Int) (x6 x7 x8 x9 x10:Option V),σ=bSt a hn rw' cl br mn (some (.int y.1)) (some (.str y.2.1)) (some (.int y.2.2)) (some (.ref gt)) (some (.ref fr)) x6 x7 x8 x9 x10/\Same H2 H9/\H2 gt=none/\gt≠fr/\H9 gt=some (.lst (row.map V.int))/\Aj ws hn.toNat row (PJ ws j (j - i))/\gO H9 fr (cP ws j (fu ws j i)))
    ⟨gt,List.replicate hn.toNat 0,_,_,_,_,_,Z,s28,g0,qd,iC,⟨by simp,λm x ex=>⟨λz=>?_,λ⟨x,q1,q2,_⟩=>?_⟩⟩,⟨[],iD,by simp[fu,cP,aO]⟩⟩ ?_ ?_
   .rw[SN] at z
    have:=u_ (ws.take m) x.1;lia
   .have:=(mR q2).1
    lia
   .rintro i σ H9 hi ⟨gt,row,x6,x7,x8,x9,x10,rfl,s9,g0,qd,tY,rh,N9⟩
    have ee:(j:Int) - 1 - (i:Int)=((j - 1 - i:Nat):Int):=by lia
    rw[ee];have bs:=zF ws j i;have bl:=qx ws j i;generalize he:j - 1 - i=e at bs;have el:e<ws.length:=by lia
    have ej:e<j:=by lia
    have e1:j - i=e+1:=by lia
    have e2:j - (i+1)=e:=by lia
    rw[e1] at rh;rw[e2];obtain⟨x,ex⟩:∃x,ws[e]? = some x:=⟨ws[e],by simp[el]⟩;obtain⟨⟨x0,x1'⟩,xkd,_⟩:=ok x (aaM ex);have P0:=jF ex;have sH9:=I.sm.trans s9;obtain⟨us,tx,hus,Yj,htx⟩:=wH (W.same sH9) ex;have vZ:ou ws e j=(decide (x.1=y.1)||mt x y):=by unfold ou YW;rw[ex,ey,aaN ej,Bool.true_and]
    have Es:=rh.1;refine⟨_,Z,_,Z,_,_,_,_,Z,Z,bH.of hus,cL Yj,tx,_,Z,cA.of htx,Z,_,_,Z,_,_,Z,_,_,Z,Z, ?_⟩;dsimp only;refine lu (λσ zV=>zV=H9/\σ=bSt a hn rw' cl br mn (some (.int y.1)) (some (.str y.2.1)) (some (.int y.2.2)) (some (.ref gt)) (some (.ref fr)) (some (.int (e:Int))) (some (.int x.1)) (some (.str x.2.1)) (some (.int x.2.2)) (some (.bl (mt x y)))) (λD' hD' _=>?_) ?_
    .have fin:∀b:Bool,b=mt x y->D'.nx (bSt a hn rw' cl br mn (some (.int y.1)) (some (.str y.2.1)) (some (.int y.2.2)) (some (.ref gt)) (some (.ref fr)) (some (.int (e:Int))) (some (.int x.1)) (some (.str x.2.1)) (some (.int x.2.2)) (some (.bl b))) H9:=λb hb=>hD' _ _ ⟨Z,by rw[hb]⟩
     refine⟨_,Z,_,Z,Z,_,Z, ?_⟩
     by_cases c1:x.1=y.1
     .rw[show (!decide (V.int x.1=V.int y.1))=false by simp[c1]]
      refine fG ?_;exact fin false (by unfold mt;rw[ab9 c1])
     rw[show (!decide (V.int x.1=V.int y.1))=true by simp[c1]];refine fD ?_;refine⟨_,Z,_,Z,Z,_,Z, ?_⟩
     by_cases c2:x.2.2=y.2.2
     rotate_left
     .rw[show decide (V.int x.2.2=V.int y.2.2)=false by simp[c2]]
      refine fG ?_;exact fin false (by unfold mt;rw[ab6 c1,ab6 c2])
     rw[show decide (V.int x.2.2=V.int y.2.2)=true by simp[c2]];refine fD ?_;refine⟨_,Z,Z,_,Z, ?_⟩
     by_cases c3:y.2.1 = "load"
     .rw[show (!decide (V.str y.2.1=V.str "load"))=false by simp[c3]]
      refine fG ?_;refine⟨_,Z,Z, ?_⟩;refine fin _ ?_;unfold mt;rw[ab6 c1,ab9 c2,c3]
      by_cases c4:x.2.1 = "load"
      .rw[ab9 c4];simp[c4]
      .rw[ab6 c4];simp[c4]
     .rw[show (!decide (V.str y.2.1=V.str "load"))=true by simp[c3]]
      refine fD ?_;refine fin true ?_;unfold mt;rw[ab6 c1,ab9 c2]
      by_cases c4:x.2.1 = "load"
      .rw[ab9 c4];simp[c3]
      .rw[ab6 c4]
    rintro σ zV ⟨rfl,rfl⟩;have jG:zV cl=some (.lst ((Eu ws j).map V.int)):=s9 _ _ I.called;have hcle:rJ ((Eu ws j).map V.int) ((e:Nat):Int)=some (V.int (cnt (ws.take e) (hnd ws e))):=cL (by rw[aah,W9 ej];rfl);have rx:=rh.2 e x ex;refine lu (λσ Qa=>σ=bSt a hn rw' cl br mn (some (.int y.1)) (some (.str y.2.1)) (some (.int y.2.2)) (some (.ref gt)) (some (.ref fr)) (some (.int (e:Int))) (some (.int x.1)) (some (.str x.2.1)) (some (.int x.2.2)) (some (.bl (mt x y)))/\Same H2 Qa/\Qa gt=some (.lst (row.map V.int))/\gO Qa fr (cP ws j (fu ws j (i+1)))) (λD' hD' _=>?_) ?_
    .have stay:¬(Bare ws j e /\ ¬hnd ws e=hnd ws j)->D'.nx (bSt a hn rw' cl br mn (some (.int y.1)) (some (.str y.2.1)) (some (.int y.2.2)) (some (.ref gt)) (some (.ref fr)) (some (.int (e:Int))) (some (.int x.1)) (some (.str x.2.1)) (some (.int x.2.2)) (some (.bl (mt x y)))) zV:=λnb=>hD' _ _ ⟨Z,s9,tY,by
      rw[bs,vB]
      by_cases b1:Bare ws j e
      .have b2:hnd ws e=hnd ws j:=Classical.byContradiction λz=>nb ⟨b1,z⟩
       rw[ab9 b1];simp only[cP,abD,b2,not_true_eq_false,decide_false,Bool.false_eq_true,if_false,List.filter_nil,List.map_nil,List.append_nil];exact N9
      .rw[ab6 b1]
       simp only[cP,List.filter_nil,List.map_nil,List.append_nil];exact N9⟩
     refine⟨_,Z,_,Z, ?_⟩
     by_cases mm:mt x y=true
     rotate_left
     .have mm':mt x y=false:=by simpa using mm
      refine bJ (λz=>acq z mm) (λ_=>?_);refine bJ (λz=>acq z (by decide)) (λ_=>?_);refine stay λz=>?_;have st:=z.1.1;rw[vZ,mm',Bool.or_false] at st;exact z.2 (by rw[P0,nY];exact aaP st)
     refine bJ (λ_=>?_) (λz=>acq mm z);have hne:¬x.1=y.1:=λz=>by unfold mt at mm;rw[ab9 z] at mm;cases mm
     have st:ou ws e j=true:=by rw[vZ,mm,Bool.or_true]
     refine⟨_,Z,_,Z,_,_,_,_,Z,Z,bH.of jG,hcle,_,Z,_,Z,_,_,_,_,Z,Z,bH.of tY,zG x0 (by lia),_,_,Z,Z,_,Z, ?_⟩;rw[P0]
     by_cases cv:PJ ws j (e+1) e
     .have lt:=rx.mpr cv
      rw[aaO (show ¬gI row x.1<=cnt (ws.take e) x.1 by lia)];refine fG ?_;exact stay λz=>z.1.2 cv
     .have ge:¬cnt (ws.take e) x.1<gI row x.1:=λz=>cv (rx.mp z)
      rw[aaN (show gI row x.1<=cnt (ws.take e) x.1 by lia)];refine fD ?_;obtain⟨ms,hm,ml,mg⟩:=I.many;obtain⟨ts,hts,Et⟩:=id N9;have tl:ts.length<=i:=by rw[Et.length,aad];exact abX (o_ ws j _) bl
      refine⟨_,Z,.inl ⟨Z,_,bH.of hts⟩,_,Z,_,Z,_,Z,_,_,_,_,Z,Z,bH.of jG,hcle,_,Z,_,Z,_,Z,_,_,_,_,Z,Z,bH.of (s9 _ _ hm),zG y0 (by lia),(by show 4<=sizeLine;decide),λq hq=>?_⟩;rw[mg y.1 y0 y1,←P0,←nY];have sq:=aB (o:=HO.tup [V.int (hnd ws e),V.int (cnt (ws.take e) (hnd ws e)),V.int (hnd ws j),V.int (cnt (ws.take j) (hnd ws j))]) hq;refine⟨fr,ts,_,Z,Z,sq _ _ hts,by rw[sizeLine_eq];lia, ?_⟩;have kf:Kp fr (upd zV q (HO.tup [V.int (hnd ws e),V.int (cnt (ws.take e) (hnd ws e)),V.int (hnd ws j),V.int (cnt (ws.take j) (hnd ws j))])) (upd (upd zV q (HO.tup [V.int (hnd ws e),V.int (cnt (ws.take e) (hnd ws e)),V.int (hnd ws j),V.int (cnt (ws.take j) (hnd ws j))])) fr (.lst (ts++[V.ref q]))):=Kp.set;have tf:=kf.tups (sq _ _ hts);refine hD' _ _ ⟨by rw[P0,nY],λb u e=>kf _ _ (sq _ _ (s9 _ _ e)) (aA e r0),kf _ _ (sq _ _ tY) qd,ts++[V.ref q],ak, ?_⟩;have nb:Bare ws j e:=⟨st,cv⟩;have hne':¬hnd ws e=hnd ws j:=by rw[P0,nY];exact hne
      rw[bs,ab9 nb,vB,aaY];refine aO.append (aO.keep (λa xs h=>tf _ _ (sq.tups _ _ h)) _ (cj _ jE _) Et) ?_;simp only[cP,abD,hne',not_false_eq_true,decide_true,if_true,List.filter_nil,List.map_cons,List.map_nil];exact Hj (DQ (x:=kh ws e j) (tf _ _ ak))
    rintro σ Qa ⟨rfl,Ux,Sv,N11⟩;obtain⟨rs2,Z2,rl2,rq2⟩:=I.rows.same (jT ws hn.toNat) Ux;have er:e<rs2.length:=by lia
    obtain⟨rr,err⟩:∃rr,rs2[e]? = some rr:=⟨rs2[e],by simp[er]⟩;obtain⟨_,re,Z5,rhe⟩:=rq2 e rr err;have rel:=rhe.1;refine⟨_,Z,_,Z, ?_⟩
    by_cases st:ou ws e j=true
    rotate_left
    .have mm:mt x y=false:=by
      cases q:mt x y with
      | false=>rfl
      | true=>rw[vZ,q,Bool.or_true] at st;exact acq rfl st
     have hne:¬x.1=y.1:=λz=>by rw[vZ,aaN z,Bool.true_or] at st;exact acq rfl st
     rw[mm];refine fG ?_;refine⟨_,Z,_,Z,Z,_,Z, ?_⟩;rw[show decide (V.int x.1=V.int y.1)=false by simp[hne]];refine fG ?_;exact⟨gt,row,_,_,_,_,_,Z,Ux,g0,qd,Sv,rh.iff λm=>Hl st,N11⟩
    refine Wm ?_ (λmm core=>?_)
    rotate_left
    .have mm:mt x y=false:=by simpa using mm
     have heq:x.1=y.1:=by rw[vZ,mm,Bool.or_false] at st;exact aaP st
     refine⟨_,Z,_,Z,Z,_,Z, ?_⟩;rw[show decide (V.int x.1=V.int y.1)=true by simp[heq]];exact fD core
    refine⟨_,Z,_,Z,_,Z,_,_,_,_,Z,Z,bH.of Z2,cL (by rw[aah,err];rfl),gt,rr,_,_,Z,bH.of Sv,bH.of Z5,λD hD=>?_⟩;refine Pg (K:=K) (n:=hn.toNat) (by rw[aad,Es]) (by rw[aad,rel]) (λh=>some (.int (mx (gI row (h:Int)) (gI re (h:Int))))) hD (bH.of Sv) (bH.of Z5) (by lia) (λh u v Am G F hu hv s12 kG kF=>?_) (λAm s12 e12=>?_)
    .rw[aah] at hu hv
     cases eu:row[h]? with
     | none=>rw[eu] at hu;cases hu
     | some uu=>
       cases ev:re[h]? with
       | none=>rw[ev] at hv;cases hv
       | some vv=>
         rw[eu] at hu;rw[ev] at hv;cases hu;cases hv;exact⟨_,Z,_,Z,_,_,Z,kF _ Am (Same.refl _) (by rw[JD eu,JD ev];rfl)⟩
    have agy:Am D=some (.lst ((ZJ hn.toNat row re).map V.int)):=by
     rw[e12];unfold ZJ;rw[List.map_map,←List.filterMap_eq_map];rfl
    have nDf:D≠fr:=by
     obtain⟨_,h,_⟩:=N11;exact(aA h hD).symm
    exact⟨D,ZJ hn.toNat row re,_,_,_,_,_,Z,Ux.trans s12,Ux.free hD,nDf,agy,(QS Uz rh rhe).iff λm=>Mp st,N11.same s12⟩
   .rintro σ H9 ⟨gt,row,x6,x7,x8,x9,x10,rfl,s9,g0,qd,tY,rh,N9⟩
    rw[Nat.sub_self] at rh;have rh':=rh.iff λm=>Ml;have Es:=rh'.1;obtain⟨ms,hm,ml,mg⟩:=I.many;have jG:=s9 _ _ I.called;have hm9:=s9 _ _ hm;have PL:y.1<ms.length:=by lia
    have W8:(Eu ws j).length=j:=by unfold Eu;simp
    have f1':=I.rows;have f2':=I.brt;obtain⟨PN,v7,_,_⟩:=id I.rows;obtain⟨bs0,yV,_,_⟩:=id I.brt;refine⟨_,Z,.inl ⟨Z,_,bH.of jG⟩,_,Z,_,Z,_,_,_,_,Z,Z,bH.of hm9,zG y0 (by lia),cl,_,_,Z,Z,jG,by rw[aad,sizeLine_eq];lia, ?_⟩;rw[mg y.1 y0 y1];have k1:Kp cl H9 (upd H9 cl (.lst ((Eu ws j).map V.int++[V.int (cnt (ws.take j) y.1)]))):=Kp.set;have hm1:=k1 _ _ hm9 n25.symm;refine⟨_,Z,_,Z,_,_,_,_,Z,Z,bH.of hm1,zG y0 (by lia),_,_,Z,Z,_,Z,_,Z,_,_,_,_,Z,Z,hm1,Ly y0 (by rw[aad];lia), ?_⟩;rw[mg y.1 y0 y1];have k2:Kp mn (upd H9 cl (.lst ((Eu ws j).map V.int++[V.int (cnt (ws.take j) y.1)]))) (upd (upd H9 cl (.lst ((Eu ws j).map V.int++[V.int (cnt (ws.take j) y.1)]))) mn (.lst ((ms.map V.int).set y.1.toNat (V.int (cnt (ws.take j) y.1+1))))):=Kp.set;have hm2:(upd (upd H9 cl (.lst ((Eu ws j).map V.int++[V.int (cnt (ws.take j) y.1)]))) mn (.lst ((ms.map V.int).set y.1.toNat (V.int (cnt (ws.take j) y.1+1))))) mn=some (.lst ((ms.set y.1.toNat (cnt (ws.take j) y.1+1)).map V.int)):=by rw[ak,List.map_set]
    have yU:=k2 _ _ (ak (H:=H9) (a:=cl) (o:= .lst ((Eu ws j).map V.int++[V.int (cnt (ws.take j) y.1)]))) n25;have Gw:gt≠cl:=(aA I.called g0).symm;have Gu:gt≠mn:=(aA hm g0).symm;have Jh:gt≠rw':=(aA v7 g0).symm;have Jm:gt≠br:=(aA yV g0).symm;have hg2:=k2 _ _ (k1 _ _ tY Gw) Gu;have Jl:fr≠cl:=(aA I.called r0).symm;have Jk:fr≠mn:=(aA hm r0).symm;have Ji:fr≠rw':=(aA v7 r0).symm;have N2:=(N9.kp (k1.tups jG) k1 Jl).kp (k2.tups hm1) k2 Jk;have T2:∀a xs,H2 a=some (HO.tup xs)->(upd (upd H9 cl (.lst ((Eu ws j).map V.int++[V.int (cnt (ws.take j) y.1)]))) mn (.lst ((ms.map V.int).set y.1.toNat (V.int (cnt (ws.take j) y.1+1))))) a=some (HO.tup xs):=λa xs h=>k2.tups hm1 _ _ (k1.tups jG _ _ (s9.tups _ _ h));have S2:∀b u,H2 b=some u->b≠cl->b≠mn->(upd (upd H9 cl (.lst ((Eu ws j).map V.int++[V.int (cnt (ws.take j) y.1)]))) mn (.lst ((ms.map V.int).set y.1.toNat (V.int (cnt (ws.take j) y.1+1))))) b=some u:=λb u e n1 n2=>k2 _ _ (k1 _ _ (s9 _ _ e) n1) n2;generalize (upd (upd H9 cl (.lst ((Eu ws j).map V.int++[V.int (cnt (ws.take j) y.1)]))) mn (.lst ((ms.map V.int).set y.1.toNat (V.int (cnt (ws.take j) y.1+1)))))=Am at hm2 yU hg2 N2 S2 T2 ⊢;have gm2:gI (ms.set y.1.toNat (cnt (ws.take j) y.1+1)) y.1=cnt (ws.take j) y.1+1:=by rw[JC y0 (by lia) y0,ab9 rfl]
    refine⟨_,Z,_,Z,_,_,_,_,Z,Z,bH.of hm2,zG y0 (by rw[aa7];lia),_,Z,_,Z,_,_,_,_,Z,Z,hg2,Ly y0 (by rw[aad];lia), ?_⟩;rw[gm2];have k3:Kp gt Am (upd Am gt (.lst ((row.map V.int).set y.1.toNat (V.int (cnt (ws.take j) y.1+1))))):=Kp.set;have hg3:(upd Am gt (.lst ((row.map V.int).set y.1.toNat (V.int (cnt (ws.take j) y.1+1))))) gt=some (.lst ((row.set y.1.toNat (cnt (ws.take j) y.1+1)).map V.int)):=by rw[ak,List.map_set]
    have abF:RowC ws hn.toNat (upd Am gt (.lst ((row.map V.int).set y.1.toNat (V.int (cnt (ws.take j) y.1+1))))) j gt:=⟨_,hg3,QT Uz rh' ey⟩
    have S3:∀b u,H2 b=some u->b∉[cl,mn,gt]->(upd Am gt (.lst ((row.map V.int).set y.1.toNat (V.int (cnt (ws.take j) y.1+1))))) b=some u:=λb u e m=>by
     have m1:b≠cl:=λz=>m (by simp[z]);have m2:b≠mn:=λz=>m (by simp[z]);have m3:b≠gt:=λz=>m (by simp[z]);exact k3 _ _ (S2 b u e m1 m2) m3
    have T3:∀a xs,H2 a=some (HO.tup xs)->(upd Am gt (.lst ((row.map V.int).set y.1.toNat (V.int (cnt (ws.take j) y.1+1))))) a=some (HO.tup xs):=λa xs h=>k3.tups hg2 _ _ (T2 _ _ h)
    have hW:∀x∈[cl,mn,gt],x∈[rw',cl,br,mn]\/H2 x=none:=λx hx=>by
     simp only[List.mem_cons,List.not_mem_nil,or_false] at hx;rcases hx with rfl|rfl|rfl
     .exact .inl (by simp)
     .exact .inl (by simp)
     .exact .inr g0
    have R3:=I.rows.move (jT _ _) [cl,mn,gt] S3 (by simp[n12,n15,Jh.symm]) hW T3;have B3:=I.brt.move (pB _ _) [cl,mn,gt] S3 (by simp[n23.symm,n35,Jm.symm]) hW T3;have N3:=N2.kp (k3.tups hg2) k3 qd.symm;have Sw:=k3 _ _ yU Gw.symm;have hm3:=k3 _ _ hm2 Gu.symm
    have S3':Same H (upd Am gt (.lst ((row.map V.int).set y.1.toNat (V.int (cnt (ws.take j) y.1+1))))):=λb u e=>S3 _ _ (I.sm _ _ e) (by
     simp only[List.mem_cons,List.not_mem_nil,or_false];rintro(z|z|z)
     .exact aA e f2 z
     .exact aA e f5 z
     .exact aA e (I.sm.free g0) z)
    generalize (upd Am gt (.lst ((row.map V.int).set y.1.toNat (V.int (cnt (ws.take j) y.1+1)))))=H13 at R3 B3 N3 Sw hm3 S3' abF ⊢
    obtain⟨rs3,Jx,rl3,R4⟩:=R3.push (jT _ _) (by simp) (λx hx=>by
     simp only[List.mem_cons,List.not_mem_nil,or_false] at hx;rcases hx with rfl|rfl|rfl|rfl<;>assumption) abF
    refine⟨_,Z,.inl ⟨Z,_,bH.of Jx⟩,_,Z,rw',_,_,Z,Z,Jx,by rw[aad,sizeLine_eq];lia, ?_⟩;have k4:Kp rw' H13 (upd H13 rw' (.lst (rs3.map V.ref++[V.ref gt]))):=Kp.set;have B4:=B3.kp (pB _ _) k4 Jx n13.symm (by simp);have N4:=N3.kp (k4.tups Jx) k4 Ji;have Jy:=k4 _ _ Sw n12.symm;have hm4:=k4 _ _ hm3 n15.symm;have S4:Same H (upd H13 rw' (.lst (rs3.map V.ref++[V.ref gt]))):=λb u e=>k4 _ _ (S3' _ _ e) (aA e f1);generalize (upd H13 rw' (.lst (rs3.map V.ref++[V.ref gt])))=H14 at R4 B4 N4 Jy hm4 S4 ⊢;obtain⟨bs4,Wu,bl4,_⟩:=id B4;obtain⟨rs4,Z1,rl4,_⟩:=id R4;refine⟨_,Z,.inl ⟨Z,_,bH.of Wu⟩,_,Z, ?_⟩;dsimp only[lF];refine FJ (K:=K) N4 λsl ns Xp hsl NN pp ss Uv=>?_
    have re:∀e∈[rw',cl,br,mn],sl≠e:=λx hx=>by
     simp only[List.mem_cons,List.not_mem_nil,or_false] at hx;rcases hx with rfl|rfl|rfl|rfl
     .exact(aA Z1 hsl).symm
     .exact(aA Jy hsl).symm
     .exact(aA Wu hsl).symm
     .exact(aA hm4 hsl).symm
    obtain⟨bs5,Wt,bl5,B6⟩:=(B4.same (pB _ _) Uv).push (pB _ _) (by simp) re (show BrC ws H Xp j sl from ⟨ns,NN,pp,S4.free hsl⟩);refine⟨br,_,_,Z,Z,Wt,by rw[aad,sizeLine_eq];lia, ?_⟩;have k6:Kp br Xp (upd Xp br (.lst (bs5.map V.ref++[V.ref sl]))):=Kp.set;refine⟨_,_,_,_,_,_,_,_,_,_,Z,⟨λb u e=>k6 _ _ (Uv _ _ (S4 _ _ e)) (aA e f3),(R4.same (jT _ _) Uv).kp (jT _ _) k6 Wt n13 (by simp),B6, ?_,⟨ms.set y.1.toNat (cnt (ws.take j) y.1+1),k6 _ _ (Uv _ _ hm4) n35.symm,by simp[ml],λh h0 h1=>?_⟩⟩⟩
    .rw[k6 _ _ (Uv _ _ Jy) n23,T9,aaY,nY]
     rfl
    .have tk:ws.take (j+1)=ws.take j++[y]:=by rw[aa6,ey];rfl
     rw[JC y0 (by lia) h0,tk,kJ]
     by_cases e:h=y.1
     .subst e;rw[ab9 rfl,ab9 rfl]
     .rw[ab6 e,ab6 e];exact mg h h0 h1
  .rintro σ H2 ⟨x1,x2,x3,x4,x5,x6,x7,x8,x9,x10,rfl,I⟩
   rw[eZ] at I;refine⟨_,Z,_,Z,(by show 2<=sizeLine;decide),λp hp=>?_⟩;have sp:=aB (o:=HO.tup [V.ref rw',V.ref br]) hp;exact k p rw' br _ ak (I.rows.same (jT _ _) sp).any (I.brt.same (pB _ _) sp).any f1 f3 (I.sm.trans sp)
noncomputable def Ac(i:Int)(n:Nat):Prop:=0<=i/\i<(n:Int)
instance (i:Int) (n:Nat):Decidable (Ac i n):=inferInstanceAs (Decidable (_/\_))
noncomputable def YX(K:PySem.W.Frag):Sp:=λvs H Q _=>∃i:Int,vs=[.int i]/\Q (.bl true) H
theorem Gp{f:Addr}{fd:FuncData}(F:gP K "is_whole" "is_whole" qT f fd)(Bt:rN mg):bN P w K mg base iY 1 f fd ["value"] (YX K):=by
 refine F.ok FQ (λvs H Q E h=>?_) (λcdv A outer s H vs Q E hr h=>?_)
 .obtain⟨i,rfl,_⟩:=h
  rfl
 .obtain⟨i,rfl,k⟩:=h
  refine⟨_,(aG (aW (yx (bM (qu (K:=K) (cv:= .ty "int") (c:= .type "int") rfl rfl) (by rfl) Bt.dH cV (aj (pv 0) (aj (sU (v:= .ty "int") (by rfl) Bt.acQ aar rfl) ao))) (q_ (Zj (bM (qu (K:=K) (cv:= .ty "bool") (c:= .type "bool") rfl rfl) (by rfl) Bt.dH cV (aj (pv 0) (aj (sU (v:= .ty "bool") (by rfl) Bt.aau Xb rfl) ao)))))))), ?_⟩;refine⟨_,Z,_,_,true,Z,.int i,GR K,true,Z, ?_⟩;refine fD ?_;exact⟨_,Z,_,_,false,Z,.int i,Dt K,false,Z,k⟩
noncomputable def Cv(K:PySem.W.Frag):Sp:=λvs H Q _=>∃(i:Int) (n:Nat),vs=[.int i,.int n]/\Q (.bl (decide (Ac i n))) H
theorem Gq{f:Addr}{fd:FuncData}(F:gP K "is_below" "is_below" qW f fd)(rK:FnAt P w K mg base 1 "is_whole" ["value"] (YX K)):bN P w K mg base iY 2 f fd ["value","count"] (Cv K):=by
 refine F.ok FW (λvs H Q E h=>?_) (λcdv A outer s H vs Q E hr h=>?_)
 .obtain⟨i,n,rfl,_⟩:=h
  rfl
 .obtain⟨i,n,rfl,k⟩:=h
  refine⟨_,(aG (aW (yx (aX rK (hr.mono (by decide)) (by rfl) (aj (pv 0) ao)) (q_ (Rj abO oZ au (pv 0) (pv 1)))))), ?_⟩;refine⟨_,Z,i,Z,true,Z, ?_⟩;refine fD ?_;refine⟨_,Z,_,_,Z,Z,_,Z, ?_⟩;refine bJ (λh0=>?_) (λh0=>?_)
  .refine⟨_,Z,_,_,Z,Z, ?_⟩
   have e:decide (Ac i n)=decide (i<(n:Int)):=by
    have h0:=aaP h0;rw[Bool.eq_iff_iff,decide_eq_true_iff,decide_eq_true_iff];exact⟨λz=>z.2,λz=>⟨h0,z⟩⟩
   show Q (.bl (decide (i<(n:Int)))) H;rw[←e];exact k
  .have e:decide (Ac i n)=false:=aaO λz=>h0 (aaN z.1)
   rw[←e];exact k
theorem WL(x y:Int):PyData.eqv (.int x) (.int y)=decide (x=y):=by
 simp only[PyData.eqv];rw[Bool.eq_iff_iff];simp
theorem tK{H:Hp}{a:Addr}{ns:List Int}(h:H a=some (.lst (ns.map V.int))):Dat H (.ref a) (.list (ns.map PyData.int)):=jq h (aO.ints ns)
theorem shaped_ints(ns:List Int):SeqAt.shaped (.list (ns.map PyData.int))=true:=oA PyData.int 0 (by decide) (λ_ _=>rfl) (λ_ _=>by show 0<=0;decide)
noncomputable def LI(H:Hp)(a:Addr)(os:List Int):Prop:=H a=some (.lst (os.map V.int))
theorem LI.same{H H':Hp}{a:Addr}{os:List Int}(h:LI H a os)(k:Same H H'):LI H' a os:=k _ _ h
theorem O_(os:List Int){n:Int}(h:0<=n):nR (os.map V.int) none (some n)=(os.take n.toNat).map V.int:=by
 obtain⟨m,rfl⟩:=abQ h;rw[tM,List.map_take,aaZ]
theorem Pa(os:List Int){n:Int}(h:0<=n):nR (os.map V.int) (some n) none=(os.drop n.toNat).map V.int:=by
 obtain⟨m,rfl⟩:=abQ h;rw[tO,List.map_drop,aaZ]
theorem pW{K:PySem.W.Frag}{H:Hp}{a:Addr}{os:List Int}{n:Int}{Q:VK}(h:LI H a os)(n0:0<=n)(k:∀p H',H p=none->LI H' p (os.take n.toNat)->Same H H'->Q (.ref p) H'):Vo K (.ref a) none (some n) H Q:=
 ⟨a,_,Z,bH.of h,λp hp=>by rw[O_ os n0];exact k p _ hp ak (aB hp)⟩
theorem pX{K:PySem.W.Frag}{H:Hp}{σ:St}{a:Addr}{os:List Int}{n:Int}{Q:VK}(h:LI H a os)(n0:0<=n)(k:∀p H',H p=none->LI H' p (os.drop n.toNat)->Same H H'->Q (.ref p) H'):Kw σ H λu H3=>Vo K (.ref a) (some n) u H3 Q:=
 ⟨a,_,Z,bH.of h,λp hp=>by rw[Pa os n0];exact k p _ hp ak (aB hp)⟩
theorem gA{H:Hp}{a b:Addr}{xs ys:List Int}{Q:VK}(ha:LI H a xs)(hb:LI H b ys)(hl:xs.length+ys.length<=1000)(k:∀p H',H p=none->LI H' p (xs++ys)->Same H H'->Q (.ref p) H'):abM (.ref a) (.ref b) H Q:=
 ⟨a,b,_,_,Z,Z,ha,hb,by rw[sizeLine_eq,aad,aad];lia,λp hp=>k p _ hp (show upd H p _ p=some (.lst ((xs++ys).map V.int)) by rw[ak,aaY]) (aB hp)⟩
noncomputable def nI(l:List Nat):List Int:=l.map λn:Nat=>(n:Int)
theorem RX(l:List Nat):(nI l).length=l.length:=by simp[nI]
theorem ZF{l:List Nat}{i x:Nat}(e:l[i]? = some x):(nI l)[i]? = some (x:Int):=by unfold nI;rw[aah,e];rfl
theorem Pu{ws:List dB}{m n:Nat}(h:m<=n)(g:Int):cnt (ws.take m) g<=cnt (ws.take n) g:=by
 have e:ws.take n=ws.take m++(ws.take n).drop m:=by
  have:=List.take_append_drop m (ws.take n);rw[List.take_take,Nat.min_eq_left h] at this;exact this.symm
 unfold cnt;rw[e,ab0,aaT];lia
theorem Lp{ws:List dB}{i:Nat}{x:zT}(h:(nm ws)[i]? = some x):∃y,ws[i]? = some y/\x=(y.1,cnt (ws.take i) y.1):=by
 have il:i<ws.length:=by have:=(aaf.mp h).1;rw[jQ] at this;exact this
 have e:ws[i]? = some ws[i]:=by simp[il]
 rw[uO e] at h;exact⟨ws[i],e,(aaS h).symm⟩
theorem X_{ws:List dB}{i j:Nat}{x:zT}(hi:(nm ws)[i]? = some x)(hj:(nm ws)[j]? = some x):¬i<j:=λlt=>by
 obtain⟨y,ey,e1⟩:=Lp hi;obtain⟨z,ez,e2⟩:=Lp hj;rw[e1] at e2;injection e2 with h1 h2
 have tk:ws.take (i+1)=ws.take i++[y]:=by rw[aa6,ey];rfl
 have m:=Pu (ws:=ws) (m:=i+1) (n:=j) lt y.1;rw[tk,kJ,ab9 rfl] at m;rw[←h1] at h2;lia
theorem RV{ws:List dB}{i j:Nat}{x:zT}(hi:(nm ws)[i]? = some x)(hj:(nm ws)[j]? = some x):i=j:=by
 have:=X_ hi hj;have:=X_ hj hi;lia
noncomputable def kx(x:zT):List Key:=[Sum.inl x.1,Sum.inl x.2]
theorem R_{x y:zT}(h:kx x=kx y):x=y:=by
 unfold kx at h;injection h with h1 h2
 injection h2 with h2 _
 have a:x.1=y.1:=Sum.inl.inj h1;have b:x.2=y.2:=Sum.inl.inj h2;exact Prod.ext a b
noncomputable def acW(kvs:List (List Key×V))(ps:List zT):Prop:=(∀(m:Nat)(x:zT),ps[m]? = some x->gQ kvs (kx x)=some (.int m)) /\ ∀x:zT,x∉ps->gQ kvs (kx x)=none
noncomputable def plK(ps:List zT):List (List Key×V):=(List.range ps.length).filterMap λm:Nat=>(ps[m]?).map λx=>(kx x,V.int (m:Int))
theorem Rc(ps:List zT)(x:zT):plK (ps++[x])=plK ps++[(kx x,V.int (ps.length:Int))]:=by
 unfold plK;rw[aaT,aa5,dG];congr 1
 .refine pF _ trivial λm hm=>?_
  have:m<ps.length:=by simpa using hm
  rw[aaV this]
 .simp
theorem Vq{kvs:List (List Key×V)}{k:List Key}{v:V}(h:gQ kvs k=none):putK kvs k v=kvs++[(k,v)]:=by
 unfold putK;rw[jV,h];rfl
noncomputable def Fw(K:PySem.W.Frag):Sp:=λvs H Q _=>∃(a:Addr) (ws:List dB),vs=[.ref a]/\kY H a ws/\ws.length<=300 /\ ∀(d:Addr)(kvs:List (List Key×V))(H':Hp),H d=none->H' d=some (.dT kvs)->acW kvs (nm ws)->kvs=plK (nm ws)->Same H H'->Q (.ref d) H'
theorem N_{f:Addr}{fd:FuncData}(F:gP K "places_of" "places_of" oG f fd)(Em:FnAt P w K mg base 1 "names" ["web"] (Cq K))(Bt:rN mg):bN P w K mg base iY 2 f fd ["web"] (Fw K):=by
 refine F.ok jK (λvs H Q E h=>?_) (λcdv A outer s H vs Q E hr h=>?_)
 .obtain⟨a,ws,rfl,_⟩:=h
  rfl
 .obtain⟨a,ws,rfl,W,wl,k⟩:=h
  have hu:=vH hr
  refine⟨_,(aq (aM (i:=1) jK.nd rfl (Or.inl rfl) Ri)
   (aq (iy PassesOwn.never rfl (Gi (K:=K) rfl (by rfl) Bt.vO (aj (aX Em (hr.mono (by decide)) (by rfl) (aj (pv 0) ao)) ao)) (p8 (K:=K) (n:=2) rfl rfl (eF (bD (i:=2) jK.nd rfl (Or.inl rfl)) (eF (bD (i:=3) jK.nd rfl (Or.inl rfl)) p7)))
   (aG (wN hu (pv 1) (pv 3) (pv 2) rfl)))
   (aG (aW (pv 1))))), ?_⟩
  intro d hd;have s1:=aB (o:=HO.dT []) hd;refine⟨_,Z,a,ws,Z,W.same s1,by lia,λp H2 hp PA s2=>?_⟩;obtain⟨vs,hp2,dv⟩:=id PA;have vl:vs.length=ws.length:=by rw[dv.length,aad,jQ]
  refine⟨p,vs,Z,bH.of hp2, ?_⟩;have V_:d≠p:=aA ak hp
  refine G6 (K:=K) (a:=p) (xs:=vs) (λi σ H3=>∃(kvs:List (List Key×V)) (x1 x2:Option V),σ=[some (.ref a),some (.ref d),x1,x2]/\H3 d=some (.dT kvs)/\kvs.length<=i/\acW kvs ((nm ws).take i)/\Kp d H2 H3/\kvs=plK ((nm ws).take i))
   ⟨[],none,none,Z,s2 _ _ ak,aaG _,⟨λm x e=>by simp at e,λx _=>rfl⟩,Kp.refl _ _,by simp[plK]⟩ (λi σ H3 _ ⟨_,_,_,_,_,_,_,kp,_⟩=>bH.of (kp _ _ hp2 V_.symm)) ?_ ?_
  .rintro i v σ H3 q hi ⟨kvs,x1,x2,rfl,hd3,kl,pl,kp,ek⟩ hq
   obtain⟨x,t,ex,rfl,ht⟩:=Vt dv hi;have il:=(aaf.mp hi).1;have sq:=aB (o:=HO.tup [V.int i,V.ref t]) hq;have ht3:H3 t=some (.tup [.int x.1,.int x.2]):=kp _ _ ht (cD ht (s2 _ _ ak) (by intro z;cases z));refine⟨q,_,Z,cA.of ak,Z,_,_,Z,_,_,Z,Z, ?_⟩;refine⟨_,Z,_,Z,_,Z,d,_,Z,Ao.t (k:=kx x) (sq _ _ hd3) (sq _ _ ht3) (by rw[sizeLine_eq];lia), ?_⟩;have tk:(nm ws).take (i+1)=(nm ws).take i++[x]:=by rw[aa6,ex];rfl
   have tl:((nm ws).take i).length=i:=by rw[abe,jQ];lia
   refine⟨putK kvs (kx x) (V.int i),_,_,Z,ak, ?_,⟨λm y e=>?_,λy hy=>?_⟩,λb o e nb=>?_, ?_⟩
   .exact abX (jm ..) (by lia)
   .rw[xH]
    rw[tk] at e
    by_cases hm:m<i
    .rw[aaV (by lia)] at e
     have ne:¬kx y=kx x:=λz=>by
      have z:=R_ z;subst z;have e':(nm ws)[m]? = some y:=by rw[List.getElem?_take_of_lt hm] at e;exact e
      have:=RV e' ex;lia
     rw[ab6 ne];exact pl.1 m y e
    .rw[aaU (by lia),tl] at e
     have ml:m - i<1:=(aaf.mp e).1;have:m=i:=by lia
     subst this;rw[Nat.sub_self] at e;cases e;rw[ab9 rfl]
   .rw[tk] at hy
    have n1:y∉(nm ws).take i:=λz=>hy (aa2.mpr (.inl z));have n2:y≠x:=λz=>hy (aa2.mpr (.inr (by rw[z];simp)));rw[xH,ab6 (λz=>n2 (R_ z))];exact pl.2 y n1
   .rw[aF nb]
    exact sq _ _ (kp _ _ e nb)
   .have nx:x∉(nm ws).take i:=λz=>by
     obtain⟨m,em⟩:=List.getElem?_of_mem z;have hm:m<i:=by have:=(aaf.mp em).1;rw[abe] at this;lia
     rw[List.getElem?_take_of_lt hm] at em;have:=RV em ex;lia
    rw[Vq (pl.2 x nx),ek,tk,Rc,tl]
  .rintro σ H3 ⟨kvs,x1,x2,rfl,hd3,kl,pl,kp,ek⟩
   have e:(nm ws).take vs.length=nm ws:=by rw[vl,←jQ ws,aa4]
   rw[e] at pl ek;exact⟨_,Z,k d kvs H3 hd hd3 pl ek λb o eb=>kp _ _ (s2 _ _ (s1 _ _ eb)) (aA eb hd)⟩
theorem Yl(a b c d:V):nR [a,b,c,d] none (some 2)=[a,b]:=tM _ 2
theorem Yk(a b c d:V):nR [a,b,c,d] (some 2) none=[c,d]:=tO _ 2
theorem Rm{α:Type}(xs:List α)(h:xs.length=4):¬(HT.iz xs.length 0 none=0/\HT.iz xs.length xs.length (some 2)=xs.length):=by
 rw[h];decide
theorem Rk{α:Type}(xs:List α)(h:xs.length=4):¬(HT.iz xs.length 0 (some 2)=0/\HT.iz xs.length xs.length none=xs.length):=by
 rw[h];decide
noncomputable def Fx(K:PySem.W.Frag):Sp:=λvs H Q _=>∃(t:Addr) (x:Nt),vs=[.ref t]/\H t=some (.tup (nV x)) /\ ∀H',Same H H'->Q (.bl (!decide (x.1=x.2.2.1))) H'
theorem Jf{f:Addr}{fd:FuncData}(F:gP K "is_note" "is_note" uH f fd)(rK:FnAt P w K mg base 1 "is_whole" ["value"] (YX K))(Bt:rN mg):bN P w K mg base iY 2 f fd ["value"] (Fx K):=by
 refine F.ok Im (λvs H Q E h=>?_) (λcdv A outer s H vs Q E hr h=>?_)
 .obtain⟨t,x,rfl,_⟩:=h
  rfl
 .obtain⟨t,x,rfl,ht,k⟩:=h
  have iZ:=hr.units
  refine⟨_,(aq (bQ (PW.pt (vA (qZ (jC (bM (qu (K:=K) (cv:= .ty "tuple") (c:= .type "tuple") rfl rfl) (by rfl) Bt.dH cV (aj (pv 0) (aj (sU (v:= .ty "tuple") (by rfl) Bt.Xe Uc rfl) ao))))) (oM (aU lZ (bM (bO (K:=K) rfl) (by rfl) Bt.lD iT (aj (pv 0) ao)) au (aV _))))) (aG (aW sV)) bh)
   (aG (aW (yx (bM (nM (K:=K) rfl rfl) (by rfl) Bt.Yp Ue (aj (h_ rfl (N:=["number"]) (own:=["number"]) (caps:=[]) (bC.of (by kernel_rfl)) (Vv (K:=K) rfl (pv 0)) (λ_ _ _ _=>(bD (i:=0) (show List.Nodup (["number"]:List Str) by decide +kernel) rfl (Or.inl rfl))) (λ_ _ _ _=>gH) (λ_ _ _ _=>(aX rK (hr.mono (by decide)) (by rfl) (aj (pv 0) ao)))) ao)) (q_ (eN lZ (aL (aR (K:=K) rfl) (pv 0) au (λ_ _=>rfl)) (aL (aR (K:=K) rfl) (pv 0) au (λ_ _=>rfl)) (aV _))))))), ?_⟩
  refine⟨_,Z,_,_,true,Z,.tup ht,vX K,true,Z, ?_⟩;refine fG ?_;refine⟨_,Z,t,_,Z,.inr (cA.of ht),Z,_,Z, ?_⟩;refine GQ (by rfl) ?_;refine⟨_,Z,t,Z,⟨_,cA.of ht⟩,λD hD=>?_⟩;refine Pj (K:=K) (λi=>some (.bl true)) hD ht (by show 4<=100000;decide) (λi v H2 G F hi s2 kG kF=>?_) (λH2 s2 e2=>?_)
  .obtain⟨z,rfl⟩:∃z,v=V.int z:=by
    have hm:=aaM hi;simp only[nV,List.mem_cons,List.not_mem_nil,or_false] at hm;rcases hm with rfl|rfl|rfl|rfl<;>exact⟨_,rfl⟩
   exact⟨_,Z,z,Z,kF _ H2 (Same.refl _) rfl⟩
  .refine⟨D,[true,true,true,true],Z,bH.of e2,true,Z, ?_⟩
   refine fD ?_;refine⟨_,Z,_,_,_,_,Z,Z,cA.of (s2 _ _ ht),Z,_,Z,_,_,_,_,Z,Z,cA.of (s2 _ _ ht),Z,Z, ?_⟩
   have e:(!decide (V.int x.1=V.int x.2.2.1))=(!decide (x.1=x.2.2.1)):=by
    by_cases q:x.1=x.2.2.1
    .simp[q]
    .simp[q]
   show Q (.bl (!decide (V.int x.1=V.int x.2.2.1))) H2;rw[e];exact k H2 s2
theorem DP(x y:Nt):PyData.eqv (nD x) (nD y)=decide (x=y):=by
 obtain⟨a,b,c,d⟩:=x;obtain⟨a',b',c',d'⟩:=y;simp only[nD,PyData.eqv,PyData.eqvAll,Bool.and_true]
 by_cases e1:a=a'
 .subst e1
  by_cases e2:b=b'
  .subst e2
   by_cases e3:c=c'
   .subst e3
    by_cases e4:d=d'
    .subst e4;simp
    .simp[e4]
   .simp[e3]
  .simp[e2]
 .simp[e1]
theorem mU(ns:List Nt):SeqAt.shaped (.list (ns.map nD))=true:=
 oA nD 1 (by decide) (λ_ _=>rfl) (λ_ _=>by show (max 0 (max 0 (max 0 (max 0 0))))+1<=1;decide)
structure Lft(ws:List dB)(other lo:Nat)(ps:List (Nat×Nat)):Prop where
 last:(other,0)∈ps
 nd:(ps.map Prod.fst).Nodup
 ln:ps.length<=other - lo+1
 rng:∀q∈ps,lo<=q.1/\q.1<=other
 bd:∀q∈ps,q.2+q.1<=other
 way:∀p n,(p,n)∈ps->(p=other/\n=0) \/ ∃q k,n=k+1/\(q,k)∈ps/\ou ws p q=true
 all:∀p,lo<=p->p<other->(∃q k,(q,k)∈ps/\ou ws p q=true) -> ∃n,(p,n)∈ps
noncomputable def yN(ps:List (Nat×Nat)):List (Key×V):=ps.map λq=>(Sum.inl (q.1:Int),V.int (q.2:Int))
theorem xJ:∀{ps:List (Nat×Nat)}(p n:Nat),(ps.map Prod.fst).Nodup->(p,n)∈ps->gQ (yN ps) (Sum.inl (p:Int))=some (V.int (n:Int))
 | [],p,n,_,h=>by cases h
 | x::ps,p,n,nd,h=>by
   rw[List.map_cons,List.nodup_cons] at nd;show gQ ((Sum.inl (x.1:Int),V.int (x.2:Int))::yN ps) _=_;rcases List.mem_cons.mp h with rfl|h
   .rw[fj rfl]
   .have ne:x.1≠p:=λz=>nd.1 (by rw[z];exact aa3.mpr ⟨(p,n),h,Z⟩)
    rw[d_ (λz=>ne (by have:=Sum.inl.inj z;lia)),xJ p n nd.2 h]
theorem lE:∀{ps:List (Nat×Nat)}(p:Nat),(∀n,(p,n)∉ps)->gQ (yN ps) (Sum.inl (p:Int))=none
 | [],p,_=>rfl
 | x::ps,p,h=>by
   show gQ ((Sum.inl (x.1:Int),V.int (x.2:Int))::yN ps) _=_;have ne:x.1≠p:=λz=>h x.2 (by rw[←z];simp);rw[d_ (λz=>ne (by have:=Sum.inl.inj z;lia)),lE p λn hn=>h n (by simp[hn])]
noncomputable def QB(K:PySem.W.Frag):Sp:=λvs H Q _=>∃(a:Addr) (ws:List dB) (one other:Nat),vs=[.ref a,.int one,.int other]/\kY H a ws/\one<=other/\other<ws.length/\ws.length<=300 /\ ∀(d:Addr)(ps:List (Nat×Nat))(H':Hp),H d=none->Lft ws other one ps->H' d=some (.dK (yN ps))->Same H H'->Q (.ref d) H'
theorem V0{f:Addr}{fd:FuncData}(F:gP K "steps_left" "steps_left" mW f fd)(vm:FnAt P w K mg base 2 "is_step" ["web","place","later"] (Ii K))(Bt:rN mg):bN P w K mg base iY 3 f fd ["web","one","other"] (QB K):=by
 refine F.ok jg (λvs H Q E h=>?_) (λcdv A outer s H vs Q E hr h=>?_)
 .obtain⟨a,ws,one,other,rfl,_⟩:=h
  rfl
 .obtain⟨a,ws,one,other,rfl,W,le,ol,wl,k⟩:=h
  have hu:=vH hr
  refine⟨_,(aq (aM (i:=3) jg.nd rfl (Or.inr rfl) (Le (Gh (pv 2) au K_) rfl rfl (by simp) (by decide)))
   (aq (iy PassesOwn.never rfl (uN (by rfl) Bt.ji (aj (bA lN (pv 2) au) (aj (bA lN (pv 1) au) (aj (oU jW au) ao)))) (bD (i:=4) jg.nd rfl (Or.inr rfl))
   (aq (K8 (sS (i:=5) rfl jg.nd rfl (Or.inl rfl) (N:=["place","left","web","here"]) (own:=["place"]) (caps:=[3,0,4]) (bC.of (by kernel_rfl)) (Ld (pv 3)) (λ_ _ _ _=>(bD (i:=0) (show List.Nodup (["place","left","web","here"]:List Str) by decide +kernel) rfl (Or.inl rfl))) (λ_ _ _ _=>(wM (jC (aX vm (hr.mono (by decide)) (by rfl) (aj (pv 2) (aj (pv 3) (aj (pv 0) ao))))))) (λ_ _ _ _=>(wO hu (pv 1) (pv 0) (λ_ _=>rfl)))))
   (aG (bQ (Nr (K:=K) rfl (pv 5)) (aG (wN hu (pv 3) (pv 4) (bA cX au (bM (JM (K:=K) rfl rfl) (by rfl) Bt.acP aaq (aj (pv 5) ao))) rfl)) bh))))
   (aG (aW (pv 3))))), ?_⟩
  intro d hd;have s1:=aB (o:=HO.dK []) hd;refine⟨_,Z,ak,[(Sum.inl (other:Int),V.int 0)],Z,by show 1<=15;decide, ?_⟩;have e1:upd (upd H d (.dK [])) d (.dK (rm [] [(Sum.inl (other:Int),V.int 0)]))=upd H d (.dK (yN [(other,0)])):=Ks;rw[e1];have s2:Same H (upd H d (.dK (yN [(other,0)]))):=aB hd;refine⟨_,Z,_,_,Z,Z,_,Z,_,_,Z,Z,_,Z,(other:Int) - 1,(one:Int) - 1,Z,⟨by lia,by lia,by lia,by lia⟩, ?_⟩;have en:((other:Int) - 1 - ((one:Int) - 1)).toNat=other - one:=by lia
  rw[en]
  refine rF (hi:=(other:Int) - 1) (n:=other - one) (λi σ H2=>∃(ps:List (Nat×Nat)) (x1 x2:Option V),σ=[some (.ref a),some (.int one),some (.int other),some (.ref d),x1,x2]/\H2 d=some (.dK (yN ps))/\Lft ws other (other - i) ps/\Same H H2)
   ⟨[(other,0)],none,none,Z,ak,⟨by simp,by simp,by simp,λq hq=>?_,λq hq=>?_,λp n h=>?_,λp h1 h2=>by lia⟩,s2⟩ ?_ ?_
  .have:q=(other,0):=by simpa using hq
   subst this;exact⟨by simp,aaG _⟩
  .have:q=(other,0):=by simpa using hq
   subst this;simp
  .have:p=other/\n=0:=by simpa using h
   exact .inl this
  .rintro i σ H2 hi ⟨ps,x1,x2,rfl,hd2,zU,sm⟩
   have eh:(other:Int) - 1 - (i:Int)=((other - 1 - i:Nat):Int):=by lia
   rw[eh];generalize hh:other - 1 - i=here;have W2:=W.same sm;have pl:=zU.ln;refine⟨_,Z,d,_,Z,hd2,λo D hD=>?_⟩;have Lq:D≠d:=λz=>by rw[z,ak] at hD;cases hD
   have fz:(upd H2 d (.m_ o (.dK (yN ps)))) d=some (.m_ o (.dK (yN ps))):=ak
   have W3:kY (upd H2 d (.m_ o (.dK (yN ps)))) a ws:=by
    obtain⟨vs,ha,dv⟩:=W2;have nad:a≠d:=cD ha hd2 (by intro z;cases z);exact⟨vs,by rw[aF nad];exact ha,aO.keep (λb xs h=>by rw[aF (cD h hd2 (by intro z;cases z))];exact h) _ (cj _ Dv ws) dv⟩
   refine Pq (λi=>(ps[i]?).bind λx=>if ou ws here x.1 then some (V.int (x.2:Int)) else none) hD fz (by simp[yN];lia) (λj kk v H3 G F hj s3 kG kF=>?_) (λH3 s3 e3=>?_)
   .unfold yN at hj
    rw[aah] at hj;cases ej:ps[j]? with
    | none=>rw[ej] at hj;cases hj
    | some x=>
      rw[ej] at hj;cases hj;simp only[ej,Option.bind_some] at kG kF;have xm:=aaM ej;have xr:=zU.rng x xm;refine⟨_,Z,_,Z,_,Z,a,ws,here,x.1,Z,W3.same s3,by lia,by lia,_,Z, ?_⟩
      by_cases st:ou ws here x.1=true
      .rw[st]
       refine fD ?_;refine⟨_,Z,_,Z,d,_,Z,.inl ⟨_,Sum.inl (x.1:Int),.inr ⟨o,s3 _ _ fz⟩,Z,(xJ x.1 x.2 zU.nd xm).symm⟩,kF _ H3 (Same.refl _) (by rw[ab9 st])⟩
      .have st':ou ws here x.1=false:=by simpa using st
       rw[st'];exact fG (kG H3 (Same.refl _) (by rw[st'];rfl))
   have hlk:(yN ps).length=ps.length:=by simp[yN]
   rw[hlk,OJ] at e3;refine⟨_,⟨d,_,o,_,hd2,s3 _ _ fz,Z⟩, ?_⟩
   have LK:(upd H3 d (.dK (yN ps))) D=some (.lst (((ps.filter λx=>ou ws here x.1).map λx=>(x.2:Int)).map V.int)):=by
    rw[aF Lq,e3,List.map_map];rfl
   have sm4:Same H (upd H3 d (.dK (yN ps))):=λb u e=>by
    have nb:b≠d:=aA e hd;rw[aF nb];exact s3 _ _ (by rw[aF nb];exact sm _ _ e)
   have DG:(upd H3 d (.dK (yN ps))) d=some (.dK (yN ps)):=ak;generalize (upd H3 d (.dK (yN ps)))=H4 at LK sm4 DG;refine⟨_,Z,_,.inl ⟨_,bH.of LK,Z⟩, ?_⟩;cases hf:ps.filter (λx=>ou ws here x.1) with
   | nil=>
     refine fG ?_;refine⟨ps,_,_,Z,DG,⟨zU.last,zU.nd,by lia,λq hq=>⟨by have:=(zU.rng q hq).1;lia,(zU.rng q hq).2⟩,zU.bd,zU.way,λp h1 h2 ⟨q,kq,hq,st⟩=>?_⟩,sm4⟩
     by_cases ep:p=here
     .subst ep
      exfalso;have:(q,kq)∈ps.filter λx=>ou ws p x.1:=abw.mpr ⟨hq,st⟩;rw[hf] at this;cases this
     .exact zU.all p (by lia) h2 ⟨q,kq,hq,st⟩
   | cons y ys=>
     rw[hf] at LK;refine fD ?_;refine⟨_,Z,D,_,Z,bH.of LK,by simp,λm hm hmin=>?_⟩;obtain⟨y0,hy0,rfl⟩:=aa3.mp hm;have ym:y0∈ps.filter λx=>ou ws here x.1:=by rw[hf];exact hy0
     obtain⟨y1,y2⟩:=abw.mp ym
     have fresh:∀n,(here,n)∉ps:=λn z=>by
      have:=(zU.rng _ z).1;simp only at this;lia
     refine⟨_,_,Z,Z,_,Z,_,Z,d,_,Z,Ao.k (k:=Sum.inl (here:Int)) DG (by rw[hlk,sizeLine_eq];lia), ?_⟩
     have ek:putK (yN ps) (Sum.inl (here:Int)) (V.int (1+(y0.2:Int)))=yN (ps++[(here,y0.2+1)]):=by
      rw[Q7 _ (lE here fresh)];unfold yN;rw[aaY];congr 1;simp;lia
     refine⟨ps++[(here,y0.2+1)],_,_,Z,by rw[ak];exact congrArg (λz=>some (HO.dK z)) ek,⟨by simp[zU.last], ?_,by simp;lia,λq hq=>?_,λq hq=>?_,λp n h=>?_,λp h1 h2 ⟨q,kq,hq,st⟩=>?_⟩,λb u e=>by rw[aF (aA e hd)];exact sm4 _ _ e⟩
     .rw[aaY]
      refine List.nodup_append.mpr ⟨zU.nd,by simp, ?_⟩;intro u hu v hv e;have:v=here:=by simpa using hv
      subst this;subst e;obtain⟨q,hq,e⟩:=aa3.mp hu;exact fresh q.2 (by rw[←e];exact hq)
     .rcases aa2.mp hq with hq|hq
      .exact⟨by have:=(zU.rng q hq).1;lia,(zU.rng q hq).2⟩
      .have:q=(here,y0.2+1):=by simpa using hq
       subst this;exact⟨by simp;lia,by simp;lia⟩
     .rcases aa2.mp hq with hq|hq
      .exact zU.bd q hq
      .have:q=(here,y0.2+1):=by simpa using hq
       subst this;have b1:=zU.bd _ y1;have b2:=(mR y2).1;simp only;lia
     .rcases aa2.mp h with h|h
      .rcases zU.way p n h with z|⟨q,kq,z1,z2,z3⟩
       .exact .inl z
       .exact .inr ⟨q,kq,z1,by simp[z2],z3⟩
      .have:p=here/\n=y0.2+1:=by simpa using h
       obtain⟨rfl,rfl⟩:=this;exact .inr ⟨y0.1,y0.2,Z,by simp[y1],y2⟩
     .by_cases ep:p=here
      .subst ep
       exact⟨y0.2+1,by simp⟩
      .have hq':(q,kq)∈ps:=by
        rcases aa2.mp hq with hq|hq
        .exact hq
        .have:q=here/\kq=y0.2+1:=by simpa using hq
         have lt:=(mR st).1
         lia
       obtain⟨n,hn⟩:=zU.all p (by lia) h2 ⟨q,kq,hq',st⟩;exact⟨n,by simp[hn]⟩
  .rintro σ H2 ⟨ps,x1,x2,rfl,hd2,zU,sm⟩
   rw[show other - (other - one)=one by lia] at zU;exact⟨_,Z,k d ps H2 hd zU hd2 sm⟩
theorem Wd{ws:List dB}{other lo:Nat}{ps:List (Nat×Nat)}(L:Lft ws other lo ps):∀n p,(p,n)∈ps->p≠other->qD ws other p:=by
 intro n
 induction n with
 | zero=>
   intro p h ne;rcases L.way p 0 h with z|⟨q,k,z,_⟩
   .exact acq z.1 ne
   . lia
 | succ n ih=>
   intro p h ne;rcases L.way p (n+1) h with z|⟨q,k,z1,z2,z3⟩
   .exact acq z.1 ne
   .have:k=n:=by lia
    subst this
    by_cases e:q=other
    .subst e;exact .one z3
    .exact .more z3 (ih q z2 e)
noncomputable instance (ws:List dB) (j e:Nat):Decidable (qD ws j e):=Classical.propDecidable _
theorem GP{ws:List dB}{other:Nat}{ps:List (Nat×Nat)}(L:Lft ws other 0 ps){p:Nat}(h:p<other):(∃n,(p,n)∈ps)↔qD ws other p:=by
 constructor
 .rintro⟨n,hn⟩
  exact Wd L n p hn (by lia)
 .intro r
  have:∀{p:Nat},qD ws other p -> ∃n,(p,n)∈ps:=fun {p} r=>by
   induction r with
   | one h=>exact L.all _ (Nat.zero_le _) (mR h).1 ⟨other,0,L.last,h⟩
   | @more i k h r ih=>
     obtain⟨n,hn⟩:=ih;exact L.all _ (Nat.zero_le _) (Nat.lt_trans (mR h).1 r.lt.1) ⟨k,n,hn,h⟩
  exact this r
noncomputable def gB(ws:List dB)(i j:Nat):List Nat:=(List.range j).filter λp=>decide (qD ws j p/\p≠i)
theorem mj{ws:List dB}{i j p:Nat}:p∈gB ws i j↔qD ws j p/\p≠i:=by
 unfold gB;rw[abw,aby,decide_eq_true_iff];exact⟨λh=>h.2,λh=>⟨h.1.lt.1,h⟩⟩
structure Xl(ws:List dB)(i j:Nat):Prop where
 lt:i<j
 jl:j<ws.length
 br:Bare ws j i
 ne:¬hnd ws i=hnd ws j
theorem Xl.st{ws:List dB}{i j:Nat}(h:Xl ws i j):ou ws i j=true:=h.br.1
theorem Xl.no{ws:List dB}{i j x:Nat}(h:Xl ws i j)(r:qD ws j x):¬qD ws x i:=λq=>by
 obtain⟨y,sy,c⟩:=Ge r;refine h.br.2 ⟨y, ?_,sy, ?_⟩
 .rcases c with c|c
  .subst c;have:=q.lt;lia
  .have:=q.lt;have:=c.lt;lia
 .rcases c with c|c
  .subst c;exact .inr q
  .exact .inr (pY q c)
theorem Wn{ws:List dB}{i j:Nat}(h:Xl ws i j):kh ws i j∈jN ws ws.length:=by
 unfold jN;refine List.mem_flatMap.mpr ⟨j,aby.mpr h.jl, ?_⟩;unfold cP fu;refine aa3.mpr ⟨i,abw.mpr ⟨abw.mpr ⟨aa3.mpr ⟨j - 1 - i,aby.mpr (by have:=h.lt;lia),by have:=h.lt;lia⟩,aaN h.br⟩,aaN h.ne⟩,Z⟩
theorem Ui(ns:List Nt)(x:Nt):((ns.map nD).any λe=>PyData.eqv e (nD x))=decide (x∈ns):=by
 rw[Bool.eq_iff_iff,List.any_eq_true,decide_eq_true_iff];constructor
 .rintro⟨e,he,q⟩
  obtain⟨y,hy,rfl⟩:=aa3.mp he;rw[DP,decide_eq_true_iff] at q;rw[←q];exact hy
 .intro h
  exact⟨nD x,aa3.mpr ⟨x,h,Z⟩,by rw[DP];simp⟩
theorem Bq{ws:List dB}{x:Nt}(h:x∈jN ws ws.length):∃i j,x=kh ws i j/\Xl ws i j:=by
 unfold jN at h;obtain⟨j,hj,h⟩:=List.mem_flatMap.mp h;unfold cP fu at h;obtain⟨i,hi,rfl⟩:=aa3.mp h;obtain⟨h1,h2⟩:=abw.mp hi;obtain⟨h3,h4⟩:=abw.mp h1;have b:=aaP h4;exact⟨i,j,Z,(mR b.1).1,aby.mp hj,b,aaP h2⟩
noncomputable def QD(C:Addr)(K:PySem.W.Frag):Sp:=λvs H Q E=>∃(a t:Addr) (ws:List dB) (x:Nt),vs=[.ref a,.ref t]/\kY H a ws/\ws.length<=300/\(∀x∈ws,0<=x.1/\x.1<8)/\H t=some (.tup (nV x))/\(x∈jN ws ws.length -> ∀H',Same H H'->Q .non H')/\(x∉jN ws ws.length -> ∀H',Same H H'->E (.ref C) none H')
theorem Zv{f:Addr}{fd:FuncData}(F:gP K "check_fewest" "check_fewest" jZ f fd){bI:Addr}(dF:Xr K mg bI "NoNote")(PB:FnAt P w K mg base 2 "is_note" ["value"] (Fx K))(Xq:FnAt P w K mg base 4 "notes" ["web"] (KC K))(Bt:rN mg):bN P w K mg base (qC P w) 5 f fd ["web","note"] (QD bI K):=by
 refine F.V4 vU (λvs H Q E h=>?_) (λcdv A outer s H vs Q E hr h hR=>?_)
 .obtain⟨a,t,ws,x,rfl,_⟩:=h
  rfl
 .obtain⟨a,t,ws,x,rfl,W,wl,Uz,ht,k1,k2⟩:=h
  refine⟨_,(aG (bQ (PW.pt (vA (qZ (jC (aX PB (hr.mono (by decide)) (by rfl) (aj (pv 1) ao)))) (oM (aU (yE (K:=K) rfl hr.Qk) (pv 1) (aX Xq (hr.mono (by decide)) (by rfl) (aj (pv 0) ao)) (by with_unfolding_all rfl))))) (aG (oN PySem.F.excBase_ValueError dF.ex dF.bd (by rfl) rfl rfl hR (aj bw ao))) bh)), ?_⟩;refine⟨_,Z,t,x,Z,ht,λH1 s1=>⟨_,Z, ?_⟩⟩
  by_cases ne:x.1=x.2.2.1
  .rw[aaN ne]
   refine(show if true=true then _ else _ from fD ?_);refine(show if true=true then _ else _ from fD ?_);refine⟨(by show 1<=sizeLine;decide),k2 (λz=>?_) H1 s1⟩;obtain⟨i,j,rfl,np⟩:=Bq z;exact np.ne ne
  rw[aaO ne];refine(show if false=true then _ else _ from fG ?_);refine⟨_,Z,_,Z,a,ws,Z,W.same s1,wl,Uz,λr ns H2 hr2 N2 p2 so2 s2=>?_⟩;obtain⟨vs,hv,dv⟩:=id N2;refine⟨r,vs,nD x,ns.map nD,Z,bH.of hv,dv,DQ (s2 _ _ (s1 _ _ ht)),Z,λe he=>?_,_,Z, ?_⟩
  .obtain⟨y,_,rfl⟩:=aa3.mp he
   rfl
  rw[ab9 rfl,Ui]
  by_cases z:x∈jN ws ws.length
  .rw[aaN (p2.mem_iff.mpr z)]
   exact(show if false=true then _ else _ from fG (k1 z _ (s1.trans s2)))
  .rw[aaO (λw=>z (p2.mem_iff.mp w))]
   refine(show if true=true then _ else _ from fD ?_);exact⟨(by show 1<=sizeLine;decide),k2 z _ (s1.trans s2)⟩
noncomputable def KY(K:PySem.W.Frag):Sp:=λvs H Q _=>∃(a:Addr) (ws:List dB) (i j:Nat),vs=[.ref a,.int i,.int j]/\kY H a ws/\ws.length<=300/\j<ws.length /\ ∀(D:Addr) H',H D=none->LI H' D (nI (gB ws i j))->Same H H'->Q (.ref D) H'
theorem RM{f:Addr}{fd:FuncData}(F:gP K "ahead_of_both" "ahead_of_both" jy f fd)(El:FnAt P w K mg base 3 "steps_left" ["web","one","other"] (QB K))(Bt:rN mg):bN P w K mg base iY 4 f fd ["web","one","other"] (KY K):=by
 refine F.ok lX (λvs H Q E h=>?_) (λcdv A outer s H vs Q E hr h=>?_)
 .obtain⟨a,ws,i,j,rfl,_⟩:=h
  rfl
 .obtain⟨a,ws,i,j,rfl,W,wl,jl,k⟩:=h
  have hu:=vH hr
  refine⟨_,(aq (aM (i:=3) lX.nd rfl (Or.inr rfl) (aX El (hr.mono (by decide)) (by rfl) (aj (pv 0) (aj au (aj (pv 2) ao)))))
   (aG (aW (h_ rfl (N:=["place","left","one"]) (own:=["place"]) (caps:=[3,1]) (bC.of (by kernel_rfl)) (je (by rfl) Bt.ji (aj (pv 2) ao)) (λ_ _ _ _=>(bD (i:=0) (show List.Nodup (["place","left","one"]:List Str) by decide +kernel) rfl (Or.inl rfl))) (λ_ _ _ _=>(wM (PW.pt (uM (Za (Zm hu (pv 0) (pv 1))) (pZ (aU lZ (pv 0) (pv 2) (aV _))))))) (λ_ _ _ _=>(pv 0)))))), ?_⟩
  refine⟨_,Z,_,Z,a,ws,0,j,Z,W,Nat.zero_le _,jl,wl,λd ps H1 hd L h1 s1=>?_⟩;refine⟨_,Z,_,Z,by lia,by lia, ?_⟩;rw[aaZ];intro D hD;refine u9 (λp:Nat=>if qD ws j p/\p≠i then some (V.int (p:Int)) else none) hD (by lia) (λp H2 G F hp s2 kG kF=>?_) (λH2 s2 e2=>?_)
  .have hpp:(0+(p:Int))=(p:Int):=Int.zero_add _
   rw[hpp];refine⟨_,Z,_,Z,d,_,Z,.inl ⟨_,Sum.inl (p:Int),.inl (s2 _ _ h1),Z,Z⟩,_,Z, ?_⟩
   by_cases r:qD ws j p
   .obtain⟨n,hn⟩:=(GP L hp).mpr r
    rw[xJ p n L.nd hn];refine(show if true=true then _ else _ from fD ?_);refine⟨_,Z,_,Z,Z,_,Z, ?_⟩
    by_cases e:p=i
    .subst e
     rw[show (!decide (V.int (p:Int)=V.int (p:Int)))=false by simp];exact fG (kG _ (Same.refl _) (ab6 λz=>z.2 rfl))
    .rw[show (!decide (V.int (p:Int)=V.int (i:Int)))=true by simp;lia]
     exact fD ⟨_,Z,kF _ _ (Same.refl _) (ab9 ⟨r,e⟩)⟩
   .rw[lE p λn hn=>r ((GP L hp).mp ⟨n,hn⟩)]
    refine(show if false=true then _ else _ from fG ?_);exact(show if false=true then _ else _ from fG (kG _ (Same.refl _) (ab6 λz=>r z.1)))
  .refine k D H2 (s1.free hD) ?_ (s1.trans s2)
   show H2 D=_;rw[e2,nI,List.map_map];congr 2;unfold gB;rw[←List.filterMap_eq_filter,List.map_filterMap];refine pF _ trivial λp _=>?_
   by_cases z:qD ws j p/\p≠i<;>simp[Option.guard,z]
theorem Yb{ws:List dB}{i:Nat}(h:i<ws.length):(nm ws)[i]? = some (hnd ws i,cnt (ws.take i) (hnd ws i)):=by
 have e:ws[i]? = some ws[i]:=by simp[h]
 rw[uO e];rw[jF e]
noncomputable def hF(r:Addr)(n:Int)(b sy:Addr)(st:Str):List (Str×V):=[("rows",.ref r),("at",.int n),("in_boxes",.ref b),("sayings",.ref sy),("state",.str st)]
structure pQ where
 (h hx r b sy:Addr)
structure nP(CH:Addr)(H:Hp)(A:pQ)(s:bL):Prop where
 h:H A.h=some (.ins CH A.hx (hF A.r s.pos A.b A.sy s.st))
 b:H A.b=some (.lst (s.bs.map V.int))
 y:H A.sy=some (.lst (s.sy.map V.int))
 Oh:A.b≠A.sy
 bl:s.bs.length=8
noncomputable def KH(A:pQ)(H H':Hp):Prop:=∀x o,H x=some o->x≠A.h->x≠A.b->x≠A.sy->H' x=some o
theorem KH.of_same{A:pQ}{H H':Hp}(k:Same H H'):KH A H H':=λx o e _ _ _=>k _ _ e
theorem KH.trans{A:pQ}{H H1 H2:Hp}(a:KH A H H1)(b:KH A H1 H2):KH A H H2:=λx o e n1 n2 n3=>b x o (a x o e n1 n2 n3) n1 n2 n3
theorem KH.qP{A:pQ}{H:Hp}{o:HO}:KH A H (upd H A.h o):=λx u e n _ _=>by rw[aF n];exact e
theorem KH.QH{A:pQ}{H:Hp}{o:HO}:KH A H (upd H A.b o):=λx u e _ n _=>by rw[aF n];exact e
theorem KH.Y4{A:pQ}{H:Hp}{o:HO}:KH A H (upd H A.sy o):=λx u e _ _ n=>by rw[aF n];exact e
theorem nP.V9{CH:Addr}{H:Hp}{A:pQ}{s:bL}(c:nP CH H A s):A.h≠A.b:=cD c.h c.b (by intro z;cases z)
theorem nP.Yc{CH:Addr}{H:Hp}{A:pQ}{s:bL}(c:nP CH H A s):A.h≠A.sy:=cD c.h c.y (by intro z;cases z)
theorem nP.same{CH:Addr}{H H':Hp}{A:pQ}{s:bL}(c:nP CH H A s)(k:Same H H'):nP CH H' A s:=⟨k _ _ c.h,k _ _ c.b,k _ _ c.y,c.Oh,c.bl⟩
theorem nP.tup{CH:Addr}{H H':Hp}{A:pQ}{s:bL}(c:nP CH H A s)(k:KH A H H'):∀x xs,H x=some (.tup xs)->H' x=some (.tup xs):=λx xs e=>k _ _ e (cD e c.h (by intro z;cases z)) (cD e c.b (by intro z;cases z)) (cD e c.y (by intro z;cases z))
theorem nP.qP{CH:Addr}{H:Hp}{A:pQ}{s:bL}(c:nP CH H A s)(n:Nat)(st:Str):nP CH (upd H A.h (.ins CH A.hx (hF A.r n A.b A.sy st))) A {s with pos:=n,st:=st}:=
 ⟨ak,by rw[aF c.V9.symm];exact c.b,by rw[aF c.Yc.symm];exact c.y,c.Oh,c.bl⟩
theorem nP.QH{CH:Addr}{H:Hp}{A:pQ}{s:bL}(c:nP CH H A s)(bs:List Int)(l:bs.length=8):nP CH (upd H A.b (.lst (bs.map V.int))) A {s with bs:=bs}:=
 ⟨by rw[aF c.V9];exact c.h,ak,by rw[aF c.Oh.symm];exact c.y,c.Oh,l⟩
theorem nP.Y4{CH:Addr}{H:Hp}{A:pQ}{s:bL}(c:nP CH H A s)(ys:List Int):nP CH (upd H A.sy (.lst (ys.map V.int))) A {s with sy:=ys}:=
 ⟨by rw[aF c.Yc];exact c.h,by rw[aF c.Oh];exact c.b,ak,c.Oh,c.bl⟩
theorem yp(r b sy:Addr)(n m:Int)(st:Str):dg "at" (.int m) (hF r n b sy st)=hF r m b sy st:=by rfl
theorem Dh(r b sy:Addr)(n:Int)(st st':Str):dg "state" (.str st') (hF r n b sy st)=hF r n b sy st':=by rfl
theorem L_(n:Nat):(List.range n).filterMap (λ_=>some (V.int 0))=(List.replicate n 0).map V.int:=by
 induction n with
 | zero=>rfl
 | succ n ih=>rw[dG,ih,List.replicate_succ',aaY];rfl
theorem qm{H H':Hp}{o p:Addr}(h:Kp o H H')(ne:p≠o)(n:H' p=none):H p=none:=by
 cases e:H p with
 | none=>rfl
 | some u=>rw[h _ _ e ne] at n;cases n
theorem acN:∀b:Fin 8,Builtin.Str.occurrences (Str.ofString "abcdefgh") (tZ b.val) 0 (Str.ofString "abcdefgh").length 1=[b.val]:=by decide +kernel
theorem Ub{b:Nat}(h:b<8):Builtin.Str.occurrences (Str.ofString "abcdefgh") (tZ b) 0 (Str.ofString "abcdefgh").length 1=[b]:=acN ⟨b,h⟩
noncomputable def wJ(CH:Addr)(K:PySem.W.Frag):Sp:=λvs H Q _=>∃(a r dx:Addr),vs=[.ref a,.ref r]/\H a=some (.ins CH dx []) /\ ∀(b sy:Addr)(H':Hp),H b=none->H sy=none->b≠sy ->
 H' a=some (.ins CH dx (hF r 0 b sy "waits"))->H' b=some (.lst ((List.replicate 8 0).map V.int))->H' sy=some (.lst [])->Kp a H H'->Q .non H'
theorem RG{aD:Addr}{f:Addr}{fd:FuncData}(F:gP K "__init__" "Hand.__init__" oK f fd)(aJ:gM K aD)(gK:Gv mg "BOXES" (.str "abcdefgh")):bN P w K mg base iY 1 f fd ["self","rows"] (wJ aD K):=by
 refine F.ok CG (λvs H Q E h=>?_) (λcdv A outer s H vs Q E hr h=>?_)
 .obtain⟨a,r,dx,rfl,_⟩:=h
  rfl
 .obtain⟨a,r,dx,rfl,ha,k⟩:=h
  refine⟨_,(aq (dZ (K:=K) rfl (pv 0) (pv 1) rfl)
   (aq (dZ (K:=K) rfl (pv 0) au rfl)
   (aq (dZ (K:=K) rfl (pv 0) (h_ rfl (N:=["box"]) (own:=["box"]) (caps:=[]) (bC.of (by kernel_rfl)) (Zg (iI (by rfl) gK.choose_spec.1 gK.choose_spec.2)) (λ_ _ _ _=>(bD (i:=0) (show List.Nodup (["box"]:List Str) by decide +kernel) rfl (Or.inl rfl))) (λ_ _ _ _=>gH) (λ_ _ _ _=>au)) rfl)
   (aq (dZ (K:=K) rfl (pv 0) (bK ao) rfl)
   (aG (dZ (K:=K) rfl (pv 0) bw rfl)))))), ?_⟩
  refine⟨_,Z,_,Z,a,aD,dx,[],Z,ha,aJ.cls,aJ.pq,by decide, ?_⟩;refine⟨_,Z,a,aD,dx,_,Z,ak,aJ.cls,aJ.uQ,(by show 1<1000;decide), ?_⟩;refine⟨_,Z,λD hD=>?_⟩;refine Pk (λ_=>some (.int 0)) hD (by decide) (λi c H1 G F hi s1 kG kF=>kF _ H1 (Same.refl _) rfl) (λH1 s1 e1=>?_);rw[L_] at e1;refine⟨_,Z,a,aD,dx,_,Z,s1 _ _ ak,aJ.cls,aJ.kj,(by show 2<1000;decide), ?_⟩;have naD:a≠D:=aA ak hD;refine⟨(by show 0<=sizeLine;decide),λq hq=>?_⟩;have naq:a≠q:=aA ak hq;refine⟨_,Z,a,aD,dx,_,Z,(by rw[aF naq];exact ak),aJ.cls,aJ.qg,(by show 3<1000;decide), ?_⟩;refine⟨_,Z,a,aD,dx,_,Z,ak,aJ.cls,aJ.lA,(by show 4<1000;decide), ?_⟩;have Ww:H D=none:=by rw[aF naD.symm,aF naD.symm] at hD;exact hD
  have nDq:D≠q:=by
   intro e;rw[←e,aF naD.symm,e1] at hq;cases hq
  have hq0:H q=none:=by
   rw[aF naq.symm] at hq;cases e:H q with
   | none=>rfl
   | some o=>
     have:=s1 q o (by rw[aF naq.symm,aF naq.symm];exact e);rw[this] at hq;cases hq
  refine k D q _ Ww hq0 nDq ?_ ?_ ?_ ?_
  .rw[ak];rfl
  .rw[aF naD.symm,aF naD.symm,aF nDq,aF naD.symm,e1];rfl
  .rw[aF naq.symm,aF naq.symm,ak]
  .intro x o e n
   have nq:x≠q:=aA e hq0;rw[aF n,aF n,aF nq,aF n];exact s1 x o (by rw[aF n,aF n];exact e)
theorem Yr{x:V}{l:List V}:rJ (x::l) 0=some x:=cL (j:=0) rfl
theorem acR{x y z:V}{l:List V}:rJ (x::y::z::l) 2=some z:=cL (j:=2) rfl
noncomputable def Hs(r:Rw):V:=if touch r then .int (gj r) else .non
noncomputable def xU(K:PySem.W.Frag):Sp:=λvs H Q _=>∃(v:V) (r:Rw),vs=[v]/\Dat H v (lR r) /\ ∀H',Same H H'->Q (Hs r) H'
theorem Oc{f:Addr}{fd:FuncData}(F:gP K "cell_of" "cell_of" uI f fd):bN P w K mg base iY 1 f fd ["row"] (xU K):=by
 refine F.ok Io (λvs H Q E h=>?_) (λcdv A outer s H vs Q E hr h=>?_)
 .obtain⟨v,r,rfl,_⟩:=h
  rfl
 .obtain⟨v,r,rfl,d,k⟩:=h
  obtain⟨t,ws,rfl,ht,ps⟩:=Mu d
  refine⟨_,(aq (bQ (aU cH (aL (aR (K:=K) rfl) (pv 0) au (λ_ _=>rfl)) bw (aV _)) (aG (aW (aL (aR (K:=K) rfl) (pv 0) au (λ_ _=>rfl)))) bh)
   (aG (aW (j9 (aU (I_ (K:=K) rfl) (aL (aR (K:=K) rfl) (pv 0) au (λ_ _=>rfl)) (cO (aj bw (aj bw ao))) (by with_unfolding_all rfl)) (aL (aR (K:=K) rfl) (pv 0) au (λ_ _=>rfl)) j8)))), ?_⟩
  have cs:(∃c e,r = .store c e) \/ ∃(x:Str) (ys:List V),ws = .str x::ys/\x≠Str.ofString "store" /\ (x=Str.ofString "load" \/ x=Str.ofString "swap" -> ∃y z,ys=y :: .int (gj r)::z/\touch r=true)/\(x≠Str.ofString "load" -> x≠Str.ofString "swap" -> touch r=false):=by
   cases r with
   | store c e=>exact .inl ⟨c,e,Z⟩
   | load b c=>exact .inr ⟨_,_,ps,by decide +kernel,λ_=>⟨_,_,Z,Z⟩,λz=>acq rfl z⟩
   | swap b c e=>
     obtain⟨x,e1,_⟩:=ps;exact .inr ⟨_,_,e1,by decide +kernel,λ_=>⟨_,_,Z,Z⟩,λ_ z=>acq rfl z⟩
   | vW b e=>
     obtain⟨x,e1,_⟩:=ps;exact .inr ⟨_,_,e1,by decide +kernel,λz=>acq z (by decide +kernel),λ_ _=>rfl⟩
   | say e=>
     obtain⟨x,e1,_⟩:=ps;exact .inr ⟨_,_,e1,by decide +kernel,λz=>acq z (by decide +kernel),λ_ _=>rfl⟩
   | go n=>exact .inr ⟨_,_,ps,by decide +kernel,λz=>acq z (by decide +kernel),λ_ _=>rfl⟩
   | zW q e f n=>
     obtain⟨x,y,e1,_⟩:=ps;exact .inr ⟨_,_,e1,by decide +kernel,λz=>acq z (by decide +kernel),λ_ _=>rfl⟩
  rcases cs with ⟨c,e,rfl⟩|⟨x,ys,rfl,nx,h1,h2⟩
  .obtain⟨x,rfl,_⟩:=ps
   refine⟨_,Z,_,_,_,_,Z,Z,cA.of ht,Z,Z,_,Z, ?_⟩;refine bJ (λ_=>?_) (λz=>acq (aaN rfl) z);exact⟨_,Z,_,_,_,_,Z,Z,cA.of ht,Z,k H (Same.refl _)⟩
  refine⟨_,Z,_,_,_,_,Z,Z,cA.of ht,Yr,Z,_,Z, ?_⟩;refine bJ (λz=>acq (by simpa using aaP z) nx) (λ_=>?_);refine⟨_,Z,_,_,_,_,Z,Z,cA.of ht,Yr,(by show 2<=sizeLine;decide),λp hp=>?_⟩;have sp:=aB (o:=HO.tup [V.str (Str.ofString "load"),V.str (Str.ofString "swap")]) hp;refine⟨p,_,Z,.inr (cA.of ak),Z,Z,_,Z, ?_⟩
  by_cases z:x=Str.ofString "load" \/ x=Str.ofString "swap"
  .obtain⟨y,w',rfl,tr⟩:=h1 z
   refine bJ (λ_=>?_) (λq=>acq ?_ q)
   .refine⟨_,Z,_,_,_,_,Z,Z,cA.of (sp _ _ ht),acR, ?_⟩
    have:=k _ sp;unfold Hs at this;rw[ab9 tr] at this;exact this
   .rcases z with rfl|rfl<;>decide +kernel
  .have n1:x≠Str.ofString "load" :=λq=>z (.inl q)
   have n2:x≠Str.ofString "swap" :=λq=>z (.inr q);have tr:=h2 n1 n2;refine bJ (λq=>acq q ?_) (λ_=>?_)
   .simp[inV,WM,n1.symm,n2.symm]
   .have:=k _ sp
    unfold Hs at this;rw[ab6 (by rw[tr];decide)] at this;exact this
noncomputable def G_:HN->Nat
 | .one _=>1
 | .two _ _ _=>2
noncomputable def xP(CH:Addr)(n:Nat)(K:PySem.W.Frag):Sp:=λvs H Q _=>∃(A:pQ) (s:bL) (v:V) (e:HN),vs=[.ref A.h,v]/\nP CH H A s/\Dat H v (mJ e)/\uX e/\G_ e<=n/\Q (.int (vx s.bs e)) H
theorem VF{aD:Addr}{f:Addr}{fd:FuncData}(F:gP K "value_of" "Hand.value_of" g_ f fd):bN P w K mg base iY 1 f fd ["self","part"] (xP aD 0 K):=by
 refine F.ok gG (λvs H Q E h=>?_) (λcdv A outer s H vs Q E hr h=>?_)
 .obtain⟨A,s,v,e,rfl,_,_,_,z,_⟩:=h
  cases e<;>simp[G_] at z
 .obtain⟨A,s,v,e,rfl,_,_,_,z,_⟩:=h
  cases e<;>simp[G_] at z
theorem Lk{aD:Addr}{n:Nat}{f:Addr}{fd:FuncData}(F:gP K "value_of" "Hand.value_of" g_ f fd)(cu:MethAt P w K mg base (n+1) aD "value_of" ["self","part"] (xP aD n K))(aJ:gM K aD)(gK:Gv mg "BOXES" (.str "abcdefgh"))(iW:Gv mg "ROUND" (.int 1000)):bN P w K mg base iY (n+1+1) f fd ["self","part"] (xP aD (n+1) K):=by
 refine F.ok gG (λvs H Q E h=>?_) (λcdv A outer s H vs Q E hr h=>?_)
 .obtain⟨A,s,v,e,rfl,_⟩:=h
  rfl
 .obtain⟨B,z,v,e,rfl,c,d,eo,dp,k⟩:=h
  refine⟨_,(aq (bQ (aU cH (aL (aR (K:=K) rfl) (pv 1) au (λ_ _=>rfl)) bw (aV _)) (aG (aW (bA j_ (aL (aR (K:=K) rfl) (pv 1) au (λ_ _=>rfl)) (iI (by rfl) iW.choose_spec.1 iW.choose_spec.2)))) bh)
   (aq (bQ (aU cH (aL (aR (K:=K) rfl) (pv 1) au (λ_ _=>rfl)) bw (aV _)) (aG (aW (aL (aN (K:=K) rfl) (bT (K:=K) rfl (pv 0) rfl) (Dk (K:=K) rfl PySem.F.plainAttrs_str PySem.F.slot_str_index PySem.F.type_str_index Bm (iI (by rfl) gK.choose_spec.1 gK.choose_spec.2) (aj (aL (aR (K:=K) rfl) (pv 1) au (λ_ _=>rfl)) ao)) (λ_ _=>rfl)))) bh)
   (aq (aM (i:=2) gG.nd rfl (Or.inl rfl) (dD cu aJ.cls (hr.mono (aaG _)) (pv 0) (aj (aL (aR (K:=K) rfl) (pv 1) au (λ_ _=>rfl)) ao)))
   (aq (aM (i:=3) gG.nd rfl (Or.inl rfl) (dD cu aJ.cls (hr.mono (aaG _)) (pv 0) (aj (aL (aR (K:=K) rfl) (pv 1) au (λ_ _=>rfl)) ao)))
   (aG (aW (bA j_ (j9 (aU cH (aL (aR (K:=K) rfl) (pv 1) au (λ_ _=>rfl)) bw (aV _)) (bA cX (pv 2) (pv 3)) (bA lN (pv 2) (pv 3))) (iI (by rfl) iW.choose_spec.1 iW.choose_spec.2)))))))), ?_⟩
  match e,d,eo,dp,k with
  | .one (.num m),d,eo,dp,k=>
    obtain⟨t,rfl,ht⟩:=Yq (x:= .num m) d;refine⟨_,Z,_,_,_,_,Z,Z,cA.of ht,Z,Z,_,Z, ?_⟩;refine bJ (λ_=>?_) (λz=>acq (aaN rfl) z);exact⟨_,Z,_,_,_,_,Z,Z,cA.of ht,Z,_,_,Z,Z,(by show (0:Int)<1000;decide),k⟩
  | .one (.box b),d,eo,dp,k=>
    obtain⟨t,rfl,ht⟩:=Yq (x:= .box b) d;refine⟨_,Z,_,_,_,_,Z,Z,cA.of ht,Z,Z,_,Z, ?_⟩;refine bJ (λz=>acq (aaP z) (by decide)) (λ_=>?_);refine⟨_,Z,_,_,_,_,Z,Z,cA.of ht,Z,Z,_,Z, ?_⟩;refine bJ (λ_=>?_) (λz=>acq (aaN rfl) z);have hb:b<8:=eo;refine⟨_,Z,B.h,aD,B.hx,_,_,Z,c.h,aJ.cls,aJ.kj,Z,Z,_,Z,_,_,_,_,Z,Z,cA.of ht,Z,_,_,b,[],Z,Z,Ub hb,_,_,_,_,Z,Z,bH.of c.b,cL (v:= .int ((z.bs[b]?).getD 0)) ?_,k⟩;have hl:b<z.bs.length:=by rw[c.bl];exact hb
    rw[aah,aae hl];rfl
  | .two p x y,d,eo,dp,k=>
    obtain⟨t,u,w',rfl,ht,du,dw⟩:=aav d;have e1:uX (.one x)/\uX (.one y):=eo
    have dn:1<=n:=by
     have:2<=n+1:=dp;lia
    have np:∀q:Bool,(Str.ofString "number")≠(if q then Str.ofString "plus" else Str.ofString "minus"):=by decide +kernel
    have nb:∀q:Bool,(Str.ofString "box")≠(if q then Str.ofString "plus" else Str.ofString "minus"):=by decide +kernel
    refine⟨_,Z,_,_,_,_,Z,Z,cA.of ht,Z,Z,_,Z, ?_⟩;refine bJ (λz=>acq (by simpa using (aaP z).symm) (np p)) (λ_=>?_);refine⟨_,Z,_,_,_,_,Z,Z,cA.of ht,Z,Z,_,Z, ?_⟩;refine bJ (λz=>acq (by simpa using (aaP z).symm) (nb p)) (λ_=>?_);refine⟨_,Z,B.h,B.hx,_,Z,c.h,Z,_,Z,_,_,_,_,Z,Z,cA.of ht,Z,B,z,u,.one x,Z,c,du,e1.1,dn, ?_⟩;refine⟨_,Z,B.h,B.hx,_,Z,c.h,Z,_,Z,_,_,_,_,Z,Z,cA.of ht,Z,B,z,w',.one y,Z,c,dw,e1.2,dn, ?_⟩;refine⟨_,Z,_,_,_,_,Z,Z,cA.of ht,Z,Z,_,Z, ?_⟩;cases p with
    | true=>
      refine bJ (λ_=>?_) (λz=>acq (aaN rfl) z);exact⟨_,Z,_,Z,_,_,Z,Z,_,_,Z,Z,(by show (0:Int)<1000;decide),k⟩
    | false=>
      refine bJ (λz=>acq (aaP z) (by decide)) (λ_=>?_);exact⟨_,Z,_,Z,_,_,Z,Z,_,_,Z,Z,(by show (0:Int)<1000;decide),k⟩
theorem O4(e:HN):G_ e<=2:=by cases e<;>simp[G_]
noncomputable def Cu(CH:Addr)(K:PySem.W.Frag):Sp:=λvs H Q _=>∃(A:pQ) (s:bL) (v:V) (q:Bool) (e f:HN) (n:Nat),vs=[.ref A.h,v]/\nP CH H A s/\Dat H v (lR (.zW q e f n))/\uX e/\uX f/\Q (.bl (uW s.bs (.zW q e f n))) H
theorem RD{aD:Addr}{f:Addr}{fd:FuncData}(F:gP K "holds" "Hand.holds" m5 f fd)(cu:MethAt P w K mg base 3 aD "value_of" ["self","part"] (xP aD 2 K))(aJ:gM K aD):bN P w K mg base iY 4 f fd ["self","row"] (Cu aD K):=by
 refine F.ok lK (λvs H Q E h=>?_) (λcdv A outer s H vs Q E hr h=>?_)
 .obtain⟨A,s,v,q,e,f,n,rfl,_⟩:=h
  rfl
 .obtain⟨B,z,v,q,e,f,n,rfl,c,d,o1,o2,k⟩:=h
  refine⟨_,(aq (aM (i:=2) lK.nd rfl (Or.inl rfl) (dD cu aJ.cls (hr.mono (by decide)) (pv 0) (aj (aL (aR (K:=K) rfl) (pv 1) au (λ_ _=>rfl)) ao)))
   (aq (aM (i:=3) lK.nd rfl (Or.inl rfl) (dD cu aJ.cls (hr.mono (by decide)) (pv 0) (aj (aL (aR (K:=K) rfl) (pv 1) au (λ_ _=>rfl)) ao)))
   (aG (aW (j9 (aU cH (aL (aR (K:=K) rfl) (pv 1) au (λ_ _=>rfl)) bw (aV _)) (eN cH (pv 2) (pv 3) (aV _)) (eN oZ (pv 2) (pv 3) (aV _))))))), ?_⟩
  obtain⟨t,ws,rfl,ht,x,y,rfl,dx,dy⟩:=Mu d;refine⟨_,Z,B.h,B.hx,_,Z,c.h,Z,_,Z,_,_,_,_,Z,Z,cA.of ht,Z,B,z,x,e,Z,c,dx,o1,O4 e, ?_⟩;refine⟨_,Z,B.h,B.hx,_,Z,c.h,Z,_,Z,_,_,_,_,Z,Z,cA.of ht,Z,B,z,y,f,Z,c,dy,o2,O4 f, ?_⟩;refine⟨_,Z,_,_,_,_,Z,Z,cA.of ht,Z,Z,_,Z, ?_⟩;cases q with
  | true=>
    refine bJ (λ_=>?_) (λz=>acq (aaN rfl) z);refine⟨_,Z,_,Z,Z, ?_⟩
    have:decide (V.int (vx z.bs e)=V.int (vx z.bs f))=uW z.bs (.zW true e f n):=by
     show _=decide (vx z.bs e=vx z.bs f);rw[Bool.eq_iff_iff,decide_eq_true_iff,decide_eq_true_iff];exact⟨λz=>V.int.inj z,λz=>by rw[z]⟩
    rw[this];exact k
  | false=>
    refine bJ (λz=>acq (aaP z) (by decide)) (λ_=>?_);exact⟨_,Z,_,Z,_,_,Z,Z,k⟩
noncomputable def Cp(CH:Addr)(K:PySem.W.Frag):Sp:=λvs H Q _=>∃(A:pQ) (s:bL) (b:Nat) (i:Int),vs=[.ref A.h,.str (tZ b),.int i]/\nP CH H A s/\b<8/\Q .non (upd H A.b (.lst ((s.bs.set b i).map V.int)))
theorem VL{aD:Addr}{f:Addr}{fd:FuncData}(F:gP K "take" "Hand.take" oJ f fd)(aJ:gM K aD)(gK:Gv mg "BOXES" (.str "abcdefgh")):bN P w K mg base iY 1 f fd ["self","box","number"] (Cp aD K):=by
 refine F.ok Cz (λvs H Q E h=>?_) (λcdv A outer s H vs Q E hr h=>?_)
 .obtain⟨A,s,b,i,rfl,_⟩:=h
  rfl
 .obtain⟨B,z,b,i,rfl,c,hb,k⟩:=h
  refine⟨_,(aG (lM (pv 2) (oR (bT (K:=K) rfl (pv 0) rfl) (Dk (K:=K) rfl PySem.F.plainAttrs_str PySem.F.slot_str_index PySem.F.type_str_index Bm (iI (by rfl) gK.choose_spec.1 gK.choose_spec.2) (aj (pv 1) ao)) set_list))), ?_⟩;refine⟨_,Z,_,Z,B.h,aD,B.hx,_,_,Z,c.h,aJ.cls,aJ.kj,Z,Z,_,Z,_,_,b,[],Z,Z,Ub hb, ?_⟩;rw[List.map_set] at k;exact⟨B.b,_,_,b,Z,Z,c.b,(by rw[aad,c.bl];unfold Lz;rw[ab9 (by lia),ab9 (by lia)];simp),k⟩
noncomputable def YZ(CH:Addr)(K:PySem.W.Frag):Sp:=λvs H Q _=>∃(A:pQ) (s:bL) (v:V) (r:Rw) (m:Nat),vs=[.ref A.h,v]/\nP CH H A s/\Dat H v (lR r)/\uK m r/\touch r=false/\s.sy.length<1000000 /\ ∀H',nP CH H' A (vJ s r)->KH A H H'->Q .non H'
theorem abR{aD:Addr}{f:Addr}{fd:FuncData}(F:gP K "do" "Hand.do" uJ f fd)(cu:MethAt P w K mg base 3 aD "value_of" ["self","part"] (xP aD 2 K))(pP:MethAt P w K mg base 1 aD "take" ["self","box","number"] (Cp aD K))(Ej:MethAt P w K mg base 4 aD "holds" ["self","row"] (Cu aD K))(aJ:gM K aD):bN P w K mg base iY 5 f fd ["self","row"] (YZ aD K):=by
 refine F.ok Ip (λvs H Q E h=>?_) (λcdv A outer s H vs Q E hr h=>?_)
 .obtain⟨A,s,v,r,m,rfl,_⟩:=h
  rfl
 .obtain⟨B,z,v,r,m,rfl,c,d,ro,tr,sl,k⟩:=h
  refine⟨_,(aq (yt (K:=K) rfl (pv 0) au Ju)
   (aG (bQ (aU cH (aL (aR (K:=K) rfl) (pv 1) au (λ_ _=>rfl)) bw (aV _)) (aG (cB (dD pP aJ.cls (hr.mono (by decide)) (pv 0) (aj (aL (aR (K:=K) rfl) (pv 1) au (λ_ _=>rfl)) (aj (dD cu aJ.cls (hr.mono (by decide)) (pv 0) (aj (aL (aR (K:=K) rfl) (pv 1) au (λ_ _=>rfl)) ao)) ao))))) (aG (bQ (aU cH (aL (aR (K:=K) rfl) (pv 1) au (λ_ _=>rfl)) bw (aV _)) (aG (cB (dU (K:=K) rfl (bT (K:=K) rfl (pv 0) rfl) (aj (dD cu aJ.cls (hr.mono (by decide)) (pv 0) (aj (aL (aR (K:=K) rfl) (pv 1) au (λ_ _=>rfl)) ao)) ao)))) (aG (bQ (PW.pt (vA (aU cH (aL (aR (K:=K) rfl) (pv 1) au (λ_ _=>rfl)) bw (aV _)) (oM (qZ (jC (dD Ej aJ.cls (hr.mono (by decide)) (pv 0) (aj (pv 1) ao))))))) (aG (dZ (K:=K) rfl (pv 0) (aL (aR (K:=K) rfl) (pv 1) (oU jW au) (λ_ _=>rfl)) rfl)) bh))))))), ?_⟩
  refine⟨_,Z,B.h,aD,B.hx,_,_,Z,c.h,aJ.cls,aJ.uQ,Z,_,_,Z,Z,B.hx,_,c.h,(by show 5<1000;decide), ?_⟩;rw[yp];have c1:=c.qP (z.pos+1) z.st;have k1:KH B H (upd H B.h (.ins aD B.hx (hF B.r ((z.pos+1:Nat):Int) B.b B.sy z.st))):=KH.qP;have d1:=d.keep (c.tup k1) _ (yS r);dsimp only;rw[show ((z.pos:Nat):Int)+1=((z.pos+1:Nat):Int) by lia];generalize (upd H B.h (.ins aD B.hx (hF B.r ((z.pos+1:Nat):Int) B.b B.sy z.st)))=H1 at c1 k1 d1 ⊢;obtain⟨t,ws,rfl,ht,ps⟩:=Mu d1;cases r with
  | load b cc=>cases tr
  | store cc e=>cases tr
  | swap b cc e=>cases tr
  | vW b e=>
    obtain⟨x,rfl,dx⟩:=ps;refine⟨_,Z,_,_,_,_,Z,Z,cA.of ht,Z,Z,_,Z, ?_⟩;refine bJ (λ_=>?_) (λz=>acq (aaN rfl) z);refine⟨_,Z,B.h,B.hx,_,Z,c1.h,Z,_,Z,_,_,_,_,Z,Z,cA.of ht,Z,_,Z,B.h,B.hx,_,Z,c1.h,Z,_,Z,_,_,_,_,Z,Z,cA.of ht,Z,B,_,x,e,Z,c1,dx,ro.2,O4 e, ?_⟩;exact⟨B,_,b,_,Z,c1,ro.1,k _ (c1.QH _ (by rw[aa7];exact c1.bl)) (k1.trans KH.QH)⟩
  | say e=>
    obtain⟨x,rfl,dx⟩:=ps;refine⟨_,Z,_,_,_,_,Z,Z,cA.of ht,Z,Z,_,Z, ?_⟩;refine bJ (λz=>acq (aaP z) (by decide)) (λ_=>?_);refine⟨_,Z,_,_,_,_,Z,Z,cA.of ht,Z,Z,_,Z, ?_⟩;refine bJ (λ_=>?_) (λz=>acq (aaN rfl) z);refine⟨_,Z,B.h,aD,B.hx,_,_,Z,c1.h,aJ.cls,aJ.qg,Z,.inl ⟨Z,_,bH.of c1.y⟩,_,Z,B.h,B.hx,_,Z,c1.h,Z,_,Z,_,_,_,_,Z,Z,cA.of ht,Z,B,_,x,e,Z,c1,dx,ro,O4 e, ?_⟩;refine⟨_,_,_,Z,Z,c1.y,(by rw[aad,sizeLine_eq];show z.sy.length<_;lia), ?_⟩;have:=k _ (c1.Y4 (z.sy++[vx z.bs e])) (k1.trans KH.Y4);rw[aaY] at this;exact this
  | go n=>
    obtain rfl:=ps;refine⟨_,Z,_,_,_,_,Z,Z,cA.of ht,Z,Z,_,Z, ?_⟩;refine bJ (λz=>acq (aaP z) (by decide)) (λ_=>?_);refine⟨_,Z,_,_,_,_,Z,Z,cA.of ht,Z,Z,_,Z, ?_⟩;refine bJ (λz=>acq (aaP z) (by decide)) (λ_=>?_);refine⟨_,Z,_,_,_,_,Z,Z,cA.of ht,Z,Z,_,Z, ?_⟩;refine bJ (λ_=>?_) (λz=>acq (aaN rfl) z);refine fD ?_;refine⟨_,Z,_,Z,_,_,_,_,Z,Z,cA.of ht,Z,_,Z,B.h,aD,B.hx,_,Z,c1.h,aJ.cls,aJ.uQ,(by show 5<1000;decide), ?_⟩;rw[yp];exact k _ (c1.qP n z.st) (k1.trans KH.qP)
  | zW q e f n=>
    obtain⟨x,y,rfl,dx,dy⟩:=ps;refine⟨_,Z,_,_,_,_,Z,Z,cA.of ht,Z,Z,_,Z, ?_⟩;refine bJ (λz=>acq (aaP z) (by decide)) (λ_=>?_);refine⟨_,Z,_,_,_,_,Z,Z,cA.of ht,Z,Z,_,Z, ?_⟩;refine bJ (λz=>acq (aaP z) (by decide)) (λ_=>?_);refine⟨_,Z,_,_,_,_,Z,Z,cA.of ht,Z,Z,_,Z, ?_⟩;refine bJ (λz=>acq (aaP z) (by decide)) (λ_=>?_);refine⟨_,Z,B.h,B.hx,_,Z,c1.h,Z,_,Z,B,_,_,q,e,f,n,Z,c1,d1,ro.1,ro.2,_,Z, ?_⟩;cases hh:uW z.bs (.zW q e f n) with
    | true=>
      refine fG ?_;refine k _ ?_ k1;show nP aD H1 B {z with pos:=if uW z.bs (.zW q e f n) then z.pos+1 else n};rw[hh];exact c1
    | false=>
      refine fD ?_;refine⟨_,Z,_,Z,_,_,_,_,Z,Z,cA.of ht,Z,_,Z,B.h,aD,B.hx,_,Z,c1.h,aJ.cls,aJ.uQ,(by show 5<1000;decide), ?_⟩;rw[yp];refine k _ ?_ (k1.trans KH.qP);show nP aD _ B {z with pos:=if uW z.bs (.zW q e f n) then z.pos+1 else n};rw[hh];exact c1.qP n z.st
noncomputable def dW(H:Hp)(r:Addr)(m:Nat)(rws:List Rw):Prop:=∃ts,H r=some (.lst ts)/\aO H ts (rws.map lR)/\(∀x∈rws,uK m x)/\rws.length<=1000
theorem GX(rws:List Rw):rB (rws.map lR)=true:=cj lR yS rws
theorem dW.keep{H H':Hp}{r:Addr}{m:Nat}{rws:List Rw}(h:dW H r m rws)(k:∀o,H r=some o->H' r=some o)(t:∀x xs,H x=some (.tup xs)->H' x=some (.tup xs)):dW H' r m rws:=by
 obtain⟨ts,e,d,q⟩:=h;exact⟨ts,k _ e,d.keep t _ (GX rws),q⟩
theorem dW.same{H H':Hp}{r:Addr}{m:Nat}{rws:List Rw}(h:dW H r m rws)(k:Same H H'):dW H' r m rws:=h.keep (λo e=>k _ _ e) k.tups
noncomputable def Cr(CH:Addr)(K:PySem.W.Frag):Sp:=λvs H Q _=>∃(A:pQ) (s:bL) (m:Nat),vs=[.ref A.h]/\nP CH H A s/\dW H A.r m s.rws/\A.r≠A.b/\A.r≠A.sy/\s.sy.length<900000 /\ ∀H',nP CH H' A (lead s)->KH A H H'->Q .non H'
theorem V1{aD:Addr}{f:Addr}{fd:FuncData}(F:gP K "lead_on" "Hand.lead_on" j5 f fd)(vo:FnAt P w K mg base 1 "cell_of" ["row"] (xU K))(Pz:MethAt P w K mg base 5 aD "do" ["self","row"] (YZ aD K))(aJ:gM K aD)(gq:Gv mg "MOST_UNTOUCHING" (.int 60))(Bt:rN mg):bN P w K mg base iY 6 f fd ["self"] (Cr aD K):=by
 refine F.ok jw (λvs H Q E h=>?_) (λcdv A outer s H vs Q E hr h=>?_)
 .obtain⟨A,s,m,rfl,_⟩:=h
  rfl
 .obtain⟨B,s,m,rfl,c,R,V7,nry,sl,k⟩:=h
  refine⟨_,(aq (aM (i:=1) jw.nd rfl (Or.inl rfl) au)
   (aq (Rb PassesOwn.never (PW.pt (uM (aU oZ (bT (K:=K) rfl (pv 0) rfl) (bM (bO (K:=K) rfl) (by rfl) Bt.lD iT (aj (bT (K:=K) rfl (pv 0) rfl) ao)) (aV _)) (pZ (aU Dn (aX vo (hr.mono (by decide)) (by rfl) (aj (aL (aN (K:=K) rfl) (bT (K:=K) rfl (pv 0) rfl) (bT (K:=K) rfl (pv 0) rfl) (λ_ _=>rfl)) ao)) j8 (aV _))))) (aq (bQ (aU cH (pv 1) (iI (by rfl) gq.choose_spec.1 gq.choose_spec.2) (aV _)) (aq (dZ (K:=K) rfl (pv 0) bw rfl)
   (aG Vs)) bh)
   (aq (cB (dD Pz aJ.cls (hr.mono (by decide)) (pv 0) (aj (aL (aN (K:=K) rfl) (bT (K:=K) rfl (pv 0) rfl) (bT (K:=K) rfl (pv 0) rfl) (λ_ _=>rfl)) ao)))
   (aG (Zd (i:=1) jw.nd rfl (Or.inl rfl) au Ju)))))
   (aG (dZ (K:=K) rfl (pv 0) (j9 (aU oZ (bT (K:=K) rfl (pv 0) rfl) (bM (bO (K:=K) rfl) (by rfl) Bt.lD iT (aj (bT (K:=K) rfl (pv 0) rfl) ao)) (aV _)) bw bw) rfl)))), ?_⟩
  have nrh:B.r≠B.h:=by
   obtain⟨ts,e,_⟩:=R;exact cD e c.h (by intro z;cases z)
  refine⟨λn σ H1=>∃(d:Nat) (z:bL),σ=[some (.ref B.h),some (.int d)]/\d<=60/\n=60 - d/\nP aD H1 B z/\KH B H H1/\led (60 - d) z=lead s/\z.rws=s.rws/\z.sy.length<=s.sy.length+d,
   ⟨60,0,s,Z,by decide,Z,c,KH.of_same (Same.refl _),Z,Z,aaG _⟩,λn σ H1 hσ=>?_⟩
  obtain⟨d,z,rfl,d60,rfl,c1,k1,hl,zr,zs⟩:=hσ
  have R1:dW H1 B.r m z.rws:=by
   rw[zr];exact R.keep (λo e=>k1 _ _ e nrh V7 nry) (c.tup k1)
  obtain⟨ts,hts,Et,ro,rl⟩:=R1;have ln:ts.length=z.rws.length:=by rw[Et.length,aad]
  refine⟨_,Z,B.h,aD,B.hx,_,_,Z,c1.h,aJ.cls,aJ.uQ,Z,_,Z,B.h,aD,B.hx,_,_,Z,c1.h,aJ.cls,aJ.pq,Z,B.r,_,Z,.inl (bH.of hts),_,_,Z,Z,_,Z, ?_⟩;cases er:z.rws[z.pos]? with
  | none=>
    have ge:z.rws.length<=z.pos:=List.getElem?_eq_none_iff.mp er;have lf:¬decide (((z.pos:Nat):Int)<((ts.length:Nat):Int))=true:=by rw[ln];simp;lia
    refine bJ (λq=>acq q lf) (λ_=>?_);refine fG ?_;refine⟨_,Z,B.h,aD,B.hx,_,_,Z,c1.h,aJ.cls,aJ.uQ,Z,_,Z,B.h,aD,B.hx,_,_,Z,c1.h,aJ.cls,aJ.pq,Z,B.r,_,Z,.inl (bH.of hts),_,_,Z,Z,_,Z, ?_⟩;refine bJ (λq=>acq q lf) (λ_=>?_);refine⟨_,Z,B.h,aD,B.hx,_,Z,c1.h,aJ.cls,aJ.lA,(by show 5<1000;decide), ?_⟩;rw[Dh];refine k _ ?_ (k1.trans KH.qP)
    have:lead s={z with st:= "ends" }:=by
     rw[←hl];cases e60:60 - d<;>simp only[led,er]
    rw[this];exact c1.qP z.pos "ends"
  | some r=>
    have lt:z.pos<z.rws.length:=(aaf.mp er).1;have lT:decide (((z.pos:Nat):Int)<((ts.length:Nat):Int))=true:=by rw[ln];simp;lia
    obtain⟨v,ev,dv⟩:=Et.getD (i:=z.pos) (d:=lR r) (by rw[aah,er];rfl);refine bJ (λ_=>?_) (λq=>acq lT q);refine⟨_,Z,B.h,aD,B.hx,_,_,Z,c1.h,aJ.cls,aJ.pq,Z,_,Z,B.h,aD,B.hx,_,_,Z,c1.h,aJ.cls,aJ.uQ,Z,_,_,_,_,Z,Z,bH.of hts,cL ev,v,r,Z,dv,λH2 s2=>⟨Z,_,Z, ?_⟩⟩;have c2:=c1.same s2;have aci:=s2 _ _ hts;have k2:=k1.trans (KH.of_same (A:=B) s2);cases tr:touch r with
    | true=>
      refine bJ (λq=>acq (aaP q) (by unfold Hs;rw[ab9 tr];intro z;cases z)) (λ_=>?_);refine⟨_,Z,B.h,aD,B.hx,_,_,Z,c2.h,aJ.cls,aJ.uQ,Z,_,Z,B.h,aD,B.hx,_,_,Z,c2.h,aJ.cls,aJ.pq,Z,B.r,_,Z,.inl (bH.of aci),_,_,Z,Z,_,Z, ?_⟩;refine bJ (λ_=>?_) (λq=>acq lT q);refine⟨_,Z,B.h,aD,B.hx,_,Z,c2.h,aJ.cls,aJ.lA,(by show 5<1000;decide), ?_⟩;rw[Dh];refine k _ ?_ (k2.trans KH.qP)
      have:lead s={z with st:= "waits" }:=by
       rw[←hl];cases e60:60 - d<;>simp only[led,er,tr,if_true]
      rw[this];exact c2.qP z.pos "waits"
    | false=>
      refine bJ (λ_=>?_) (λq=>acq (aaN (by unfold Hs;rw[ab6 (by rw[tr];decide)])) q);refine⟨λσ' H'=>∃m',m'<60 - d /\ ∃(d:Nat) (z:bL),σ'=[some (.ref B.h),some (.int d)]/\d<=60/\m'=60 - d/\nP aD H' B z/\KH B H H'/\led (60 - d) z=lead s/\z.rws=s.rws/\z.sy.length<=s.sy.length+d,λ_ _ q=>q, ?_⟩;refine⟨_,Z,Z,_,Z, ?_⟩
      by_cases e6:d=60
      .subst e6
       refine bJ (λ_=>?_) (λq=>acq (aaN rfl) q);refine⟨_,Z,B.h,aD,B.hx,_,Z,c2.h,aJ.cls,aJ.lA,(by show 5<1000;decide), ?_⟩;rw[Dh];refine k _ ?_ (k2.trans KH.qP)
       have:lead s={z with st:= "lost" }:=by
        rw[←hl];show led 0 z=_;simp only[led,er,tr];rfl
       rw[this];exact c2.qP z.pos "lost"
      .refine bJ (λq=>acq (by have:=V.int.inj (aaP q);lia) e6) (λ_=>?_)
       refine⟨_,Z,B.h,B.hx,_,Z,c2.h,Z,_,Z,B.h,aD,B.hx,_,_,Z,c2.h,aJ.cls,aJ.pq,Z,_,Z,B.h,aD,B.hx,_,_,Z,c2.h,aJ.cls,aJ.uQ,Z,_,_,_,_,Z,Z,bH.of aci,cL ev,B,z,v,r,m,Z,c2,dv.same s2 _,ro r (aaM er),tr,by lia,λH3 c3 k3=>?_⟩;refine⟨_,Z,_,_,Z,Z,60 - (d+1),by lia,d+1,vJ z r,Z,by lia,Z,c3,k2.trans k3, ?_,by rw[BJ,zr], ?_⟩
       .rw[←hl,show 60 - d=(60 - (d+1))+1 by lia]
        simp only[led,er,tr];rfl
       .have:=Hg z r
        lia
noncomputable def wF(pg nb hs tn:Addr):List (Str×V):=[("program",.ref pg),("numbers",.ref nb),("hands",.ref hs),("turns",.ref tn)]
noncomputable def fY(m:Int)(ns:List Int):Prop:=(ns.length:Int)=m /\ ∀x∈ns,0<=x/\x<1000
noncomputable def qO(CN:Addr)(K:PySem.W.Frag):Sp:=λvs H Q E=>∃(cl:Addr) (m:Int) (ns:List Int),vs=[.ref cl,.int m]/\H cl=some (.lst (ns.map V.int))/\ns.length<=100/\(fY m ns -> ∀H',Same H H'->Q .non H')/\(¬fY m ns -> ∀H',Same H H'->E (.ref CN) none H')
theorem Gr{f:Addr}{fd:FuncData}(F:gP K "check_numbers" "check_numbers" jx f fd)(rM:FnAt P w K mg base 2 "is_below" ["value","count"] (Cv K))(iW:Gv mg "ROUND" (.int 1000))(Bt:rN mg){aK:Addr}(bW:Xr K mg aK "NoNumber"):bN P w K mg base (qC P w) 3 f fd ["cells","count"] (qO aK K):=by
 refine F.V4 uz (λvs H Q E h=>?_) (λcdv A outer s H vs Q E hr h hR=>?_)
 .obtain⟨cl,m,ns,rfl,_⟩:=h
  rfl
 .obtain⟨cl,m,ns,rfl,hc,nl,k1,k2⟩:=h
  refine⟨_,(aq (bQ (PW.pt (vA (qZ (jC (bM (qu (K:=K) (cv:= .ty "list") (c:= .type "list") rfl rfl) (by rfl) Bt.dH cV (aj (pv 0) (aj (sU (v:= .ty "list") (by rfl) Bt.kW iR rfl) ao))))) (oM (aU lZ (bM (bO (K:=K) rfl) (by rfl) Bt.lD iT (aj (pv 0) ao)) (pv 1) (aV _))))) (aG (oN PySem.F.excBase_ValueError bW.ex bW.bd (by rfl) rfl rfl hR (aj bw ao))) bh)
   (aG (bQ (qZ (jC (bM (nM (K:=K) rfl rfl) (by rfl) Bt.Yp Ue (aj (h_ rfl (N:=["number"]) (own:=["number"]) (caps:=[]) (bC.of (by kernel_rfl)) (dR (K:=K) rfl (pv 0)) (λ_ _ _ _=>(bD (i:=0) (show List.Nodup (["number"]:List Str) by decide +kernel) rfl (Or.inl rfl))) (λ_ _ _ _=>gH) (λ_ _ _ _=>(aX rM (hr.mono (by decide)) (by rfl) (aj (pv 0) (aj (iI (by rfl) iW.choose_spec.1 iW.choose_spec.2) ao))))) ao)))) (aG (oN PySem.F.excBase_ValueError bW.ex bW.bd (by rfl) rfl rfl hR (aj bw ao))) bh))), ?_⟩
  refine⟨_,Z,_,_,true,Z,.lst hc,Ab K,true,Z, ?_⟩;refine fG ?_;refine⟨_,Z,cl,_,Z,.inl (bH.of hc),_,Z,Z,_,Z, ?_⟩;rw[aad]
  by_cases el:(ns.length:Int)=m
  rotate_left
  .refine bJ (λ_=>?_) (λz=>acq (by simp[el]) z)
   exact⟨(by show 1<=sizeLine;decide),k2 (λz=>el z.1) H (Same.refl _)⟩
  refine GQ (by rw[el]) ?_;refine⟨_,Z,cl,Z,⟨_,bH.of hc⟩,λD hD=>?_⟩;refine Ho (K:=K) (λi=>(ns[i]?).map λx=>V.bl (decide (Ac x 1000))) hD (bH.of hc) (by rw[aad];lia) (λi v H2 G F hi s2 kG kF=>?_) (λH2 s2 e2=>?_)
  .rw[aah] at hi
   cases ei:ns[i]? with
   | none=>rw[ei] at hi;cases hi
   | some z=>
     rw[ei] at hi;cases hi;exact⟨_,Z,z,1000,Z,kF _ H2 (Same.refl _) (by rw[ei];rfl)⟩
  rw[aad,WD] at e2;refine⟨D,ns.map (λx=>decide (Ac x 1000)),Z,bH.of (by rw[e2,List.map_map];rfl),_,Z, ?_⟩
  by_cases al:∀x∈ns,Ac x 1000
  .have ea:(ns.map (λx=>decide (Ac x 1000))).all id=true:=by
    rw[List.all_map,List.all_eq_true];intro h hh;exact aaN (al h hh)
   rw[ea];refine fG ?_;exact k1 ⟨el,λx hx=>al x hx⟩ H2 s2
  .have ea:(ns.map (λx=>decide (Ac x 1000))).all id=false:=by
    rw[List.all_map,←Bool.not_eq_true,List.all_eq_true];intro z;exact al λh hh=>aaP (p:=Ac h 1000) (z h hh)
   rw[ea];refine fD ?_;exact⟨(by show 1<=sizeLine;decide),k2 (λz=>al λx hx=>z.2 x hx) H2 s2⟩
noncomputable def ur(CW CH:Addr)(K:PySem.W.Frag):Sp:=λvs H Q _=>∃(o dx pg nb hl tn:Addr) (A:pQ) (s:bL) (m:Nat) (ns:List Int) (r:Rw),vs=[.ref o,.ref A.h]/\H o=some (.ins CW dx (wF pg nb hl tn))/\H nb=some (.lst (ns.map V.int))/\ns.length=m/\nP CH H A s/\dW H A.r m s.rws /\
 s.rws[s.pos]? = some r/\touch r=true/\nb≠A.b/\nb≠A.sy /\
 ∀t H',H t=none->H' t=some (.tup (Cj ns s.bs r))->nP CH H' A {s with bs:=rH ns s.bs r}->H' nb=some (.lst ((dz ns s.bs r).map V.int))->(∀x u,H x=some u->x≠nb->x≠A.b->H' x=some u)->Q (.ref t) H'
theorem Ja{aC aD:Addr}{f:Addr}{fd:FuncData}(F:gP K "touch_by" "Works.touch_by" jd f fd)(vo:FnAt P w K mg base 1 "cell_of" ["row"] (xU K))(cu:MethAt P w K mg base 3 aD "value_of" ["self","part"] (xP aD 2 K))(pP:MethAt P w K mg base 1 aD "take" ["self","box","number"] (Cp aD K))(aQ:fV K aC)(aJ:gM K aD):bN P w K mg base iY 4 f fd ["self","one"] (ur aC aD K):=by
 refine F.ok eE (λvs H Q E h=>?_) (λcdv A outer s H vs Q E hr h=>?_)
 .obtain⟨o,dx,pg,nb,hl,tn,A,s,m,ns,r,rfl,_⟩:=h
  rfl
 .obtain⟨o,dx,pg,nb,hl,tn,B,z,m,ns,r,rfl,ho,hnb,nl,c,R,er,tr,X8,nny,k⟩:=h
  refine⟨_,(aq (aM (i:=2) eE.nd rfl (Or.inl rfl) (aL (aN (K:=K) rfl) (bT (K:=K) rfl (pv 1) rfl) (bT (K:=K) rfl (pv 1) rfl) (λ_ _=>rfl)))
   (aq (aM (i:=3) eE.nd rfl (Or.inl rfl) (aX vo (hr.mono (by decide)) (by rfl) (aj (pv 2) ao)))
   (aq (aM (i:=4) eE.nd rfl (Or.inl rfl) (j9 (aU cH (aL (aR (K:=K) rfl) (pv 2) au (λ_ _=>rfl)) bw (aV _)) j8 (aL (aN (K:=K) rfl) (bT (K:=K) rfl (pv 0) rfl) (pv 3) (λ_ _=>rfl))))
   (aq (aM (i:=5) eE.nd rfl (Or.inl rfl) (j9 (aU cH (aL (aR (K:=K) rfl) (pv 2) au (λ_ _=>rfl)) bw (aV _)) j8 (dD cu aJ.cls (hr.mono (by decide)) (pv 1) (aj (aL (aR (K:=K) rfl) (pv 2) (oU jW au) (λ_ _=>rfl)) ao))))
   (aq (bQ (aU Lg (pv 4) j8 (aV _)) (aG (cB (dD pP aJ.cls (hr.mono (by decide)) (pv 1) (aj (aL (aR (K:=K) rfl) (pv 2) au (λ_ _=>rfl)) (aj (pv 4) ao))))) bh)
   (aq (bQ (aU Lg (pv 5) j8 (aV _)) (aG (lM (pv 5) (oR (bT (K:=K) rfl (pv 0) rfl) (pv 3) set_list))) bh)
   (aG (aW (cO (aj (aL (aR (K:=K) rfl) (pv 2) au (λ_ _=>rfl)) (aj (pv 3) (aj (pv 4) (aj (pv 5) ao))))))))))))), ?_⟩
  obtain⟨ts,hts,Et,ro,rl⟩:=R;obtain⟨v,ev,dv⟩:=Et.getD (i:=z.pos) (d:=lR r) (by rw[aah,er];rfl);have Uy:=ro r (aaM er);refine⟨_,Z,B.h,aD,B.hx,_,_,Z,c.h,aJ.cls,aJ.pq,Z,_,Z,B.h,aD,B.hx,_,_,Z,c.h,aJ.cls,aJ.uQ,Z,_,_,_,_,Z,Z,bH.of hts,cL ev, ?_⟩;refine⟨_,Z,v,r,Z,dv,λH1 s1=>?_⟩;have c1:=c.same s1;have ho1:=s1 _ _ ho;have Dy:=s1 _ _ hnb;obtain⟨t,ws,rfl,ht,ps⟩:=Mu (dv.same s1 _);have nob:o≠nb:=cD ho1 Dy (by intro z;cases z);have noB:o≠B.b:=cD ho1 c1.b (by intro z;cases z);have ntb:t≠B.b:=cD ht c1.b (by intro z;cases z);have ntn:t≠nb:=cD ht Dy (by intro z;cases z);have cellOf:∀cc,cc<m->ns[cc]? = some ((ns[cc]?).getD 0):=λcc h=>by rw[aae (by lia)];rfl
  have cellAt:∀cc,cc<m->(ns.map V.int)[cc]? = some (.int ((ns[cc]?).getD 0)):=λcc h=>by rw[aah,cellOf cc h];rfl
  have ab_:∀cc,cc<m->Lz (ns.map V.int).length ((cc:Nat):Int)=some cc:=λcc h=>by rw[aad];unfold Lz;rw[ab9 (by lia),ab9 (by lia)];simp
  cases r with
  | load b cc=>
    obtain rfl:=ps;refine⟨_,Z,_,_,_,_,Z,Z,cA.of ht,Z,Z,_,Z, ?_⟩;refine bJ (λz=>acq (aaP z) (by decide)) (λ_=>?_);refine⟨_,Z,o,aC,dx,_,_,Z,ho1,aQ.cls,aQ.jR,Z,_,Z,_,_,_,_,Z,Z,bH.of Dy,cL (cellAt cc Uy.2), ?_⟩;refine⟨_,Z,_,_,_,_,Z,Z,cA.of ht,Z,Z,_,Z, ?_⟩;refine bJ (λ_=>?_) (λz=>acq (aaN rfl) z);refine⟨_,Z,Z,_,Z, ?_⟩;refine fD ?_;refine⟨_,Z,B.h,B.hx,_,Z,c1.h,Z,_,Z,_,_,_,_,Z,Z,cA.of ht,Z,_,Z,B,z,b,_,Z,c1,Uy.1, ?_⟩;refine⟨_,Z,Z,_,Z, ?_⟩;refine fG ?_;have c2:=c1.QH (z.bs.set b ((ns[cc]?).getD 0)) (by rw[aa7];exact c1.bl);refine⟨_,Z,_,_,_,_,Z,Z,cA.of (by rw[aF ntb];exact ht),Z,_,Z,_,Z,_,Z,(by show 4<=sizeLine;decide),λp hp=>?_⟩;have sp:=aB (o:=HO.tup [V.str (Str.ofString "load"),V.int cc,V.int ((ns[cc]?).getD 0),V.non]) hp;refine k p _ ?_ ?_ (c2.same sp) (sp _ _ (by rw[aF X8];exact Dy)) ?_
    .refine s1.free ?_
     have:p≠B.b:=λe=>by rw[e,ak] at hp;cases hp
     rw[aF this] at hp;exact hp
    .rw[ak]
     show some (HO.tup [V.str (Str.ofString "load"),V.int cc,V.int ((ns[cc]?).getD 0),V.non])=some (HO.tup [V.str (Str.ofString "load"),V.int cc,oV (ns[cc]?),V.non]);rw[cellOf cc Uy.2];rfl
    .intro x u e n1 n2
     exact sp _ _ (by rw[aF n2];exact s1 _ _ e)
  | store cc e=>
    obtain⟨x,rfl,dx'⟩:=ps;refine⟨_,Z,_,_,_,_,Z,Z,cA.of ht,Z,Z,_,Z, ?_⟩;refine bJ (λ_=>?_) (λz=>acq (aaN rfl) z);refine⟨_,Z,_,_,_,_,Z,Z,cA.of ht,Z,Z,_,Z, ?_⟩;refine bJ (λz=>acq (aaP z) (by decide)) (λ_=>?_);refine⟨_,Z,B.h,B.hx,_,Z,c1.h,Z,_,Z,_,Z,_,_,_,_,Z,Z,cA.of ht,Z,B,z,x,e,Z,c1,dx',Uy.2,O4 e, ?_⟩;refine⟨_,Z,Z,_,Z, ?_⟩;refine fG ?_;refine⟨_,Z,Z,_,Z, ?_⟩;refine fD ?_;refine⟨_,Z,_,Z,o,aC,dx,_,_,Z,ho1,aQ.cls,aQ.jR,Z,_,Z,nb,_,_,cc,Z,Z,Dy,ab_ cc Uy.1, ?_⟩;rw[←List.map_set];refine⟨_,Z,_,_,_,_,Z,Z,cA.of (by rw[aF ntn];exact ht),Z,_,Z,_,Z,_,Z,(by show 4<=sizeLine;decide),λp hp=>?_⟩;have sp:=aB (o:=HO.tup [V.str (Str.ofString "store"),V.int cc,V.non,V.int (vx z.bs e)]) hp;have nbh:B.h≠nb:=cD c1.h Dy (by intro z;cases z);refine k p _ ?_ ak (nP.same ⟨by rw[aF nbh];exact c1.h,by rw[aF X8.symm];exact c1.b,by rw[aF nny.symm];exact c1.y,c1.Oh,c1.bl⟩ sp) (sp _ _ ak) ?_
    .refine s1.free ?_
     have:p≠nb:=λe=>by rw[e,ak] at hp;cases hp
     rw[aF this] at hp;exact hp
    .intro x u e n1 n2
     exact sp _ _ (by rw[aF n1];exact s1 _ _ e)
  | swap b cc e=>
    obtain⟨x,rfl,dx'⟩:=ps;refine⟨_,Z,_,_,_,_,Z,Z,cA.of ht,Z,Z,_,Z, ?_⟩;refine bJ (λz=>acq (aaP z) (by decide)) (λ_=>?_);refine⟨_,Z,o,aC,dx,_,_,Z,ho1,aQ.cls,aQ.jR,Z,_,Z,_,_,_,_,Z,Z,bH.of Dy,cL (cellAt cc Uy.2.1), ?_⟩;refine⟨_,Z,_,_,_,_,Z,Z,cA.of ht,Z,Z,_,Z, ?_⟩;refine bJ (λz=>acq (aaP z) (by decide)) (λ_=>?_);refine⟨_,Z,B.h,B.hx,_,Z,c1.h,Z,_,Z,_,Z,_,_,_,_,Z,Z,cA.of ht,Z,B,z,x,e,Z,c1,dx',Uy.2.2,O4 e, ?_⟩;refine⟨_,Z,Z,_,Z, ?_⟩;refine fD ?_;refine⟨_,Z,B.h,B.hx,_,Z,c1.h,Z,_,Z,_,_,_,_,Z,Z,cA.of ht,Z,_,Z,B,z,b,_,Z,c1,Uy.1, ?_⟩;refine⟨_,Z,Z,_,Z, ?_⟩;refine fD ?_;have c2:=c1.QH (z.bs.set b ((ns[cc]?).getD 0)) (by rw[aa7];exact c1.bl);have af_:(upd H1 B.b (.lst ((z.bs.set b ((ns[cc]?).getD 0)).map V.int))) nb=some (.lst (ns.map V.int)):=by rw[aF X8];exact Dy
    refine⟨_,Z,_,Z,o,aC,dx,_,_,Z,(by rw[aF noB];exact ho1),aQ.cls,aQ.jR,Z,_,Z,nb,_,_,cc,Z,Z,af_,ab_ cc Uy.2.1, ?_⟩;rw[←List.map_set];refine⟨_,Z,_,_,_,_,Z,Z,cA.of (by rw[aF ntn,aF ntb];exact ht),Z,_,Z,_,Z,_,Z,(by show 4<=sizeLine;decide),λp hp=>?_⟩;have sp:=aB (o:=HO.tup [V.str (Str.ofString "swap"),V.int cc,V.int ((ns[cc]?).getD 0),V.int (vx z.bs e)]) hp;have nbh:B.h≠nb:=cD c1.h Dy (by intro z;cases z);refine k p _ ?_ ?_ (nP.same ⟨by rw[aF nbh];exact c2.h,by rw[aF X8.symm];exact c2.b,by rw[aF nny.symm];exact c2.y,c2.Oh,c2.bl⟩ sp) (sp _ _ ak) ?_
    .refine s1.free ?_
     have n1:p≠nb:=λe=>by rw[e,ak] at hp;cases hp
     rw[aF n1] at hp;have n2:p≠B.b:=λe=>by rw[e,ak] at hp;cases hp
     rw[aF n2] at hp;exact hp
    .rw[ak]
     show some (HO.tup [V.str (Str.ofString "swap"),V.int cc,V.int ((ns[cc]?).getD 0),V.int (vx z.bs e)])=some (HO.tup [V.str (Str.ofString "swap"),V.int cc,oV (ns[cc]?),V.int (vx z.bs e)]);rw[cellOf cc Uy.2.1];rfl
    .intro x u e n1 n2
     exact sp _ _ (by rw[aF n1,aF n2];exact s1 _ _ e)
  | vW b e=>cases tr
  | say e=>cases tr
  | go n=>cases tr
  | zW q e f n=>cases tr
structure HX where
 (o dx pg L nb hl tn:Addr) (rs:List Addr) (hd:List pQ)
structure wj(CH:Addr)(i k m:Nat)(τ:Tg)(H:Hp)(A:pQ)(s:bL):Prop where
 c:nP CH H A s
 r:dW H A.r m s.rws
 tr:τ A.r=[0]
 th:τ A.h=[i,4,k]
 tb:τ A.b=[i,5,k]
 ty:τ A.sy=[i,6,k]
structure lU(CW CH:Addr)(i:Nat)(τ:Tg)(H:Hp)(W:HX)(S:iV):Prop where
 un:v9 τ H
 i0:i≠0
 o:H W.o=some (.ins CW W.dx (wF W.pg W.nb W.hl W.tn))
 pg:H W.pg=some (.tup [.int S.m,.ref W.L])
 L:H W.L=some (.lst (W.rs.map V.ref))
 nb:H W.nb=some (.lst (S.ns.map V.int))
 hl:H W.hl=some (.lst (W.hd.map λa=> .ref a.h))
 tn:H W.tn=some (.lst (S.ts.map V.int))
 to:τ W.o=[i,0]
 tb:τ W.nb=[i,1]
 tl:τ W.hl=[i,2]
 tt:τ W.tn=[i,3]
 tL:τ W.L=[0]
 rl:W.rs.length=S.hs.length
 rs:∀(k:Nat)(r:Addr)(s:bL),W.rs[k]? = some r->S.hs[k]? = some s->τ r=[0]/\dW H r S.m s.rws
 len:W.hd.length=S.hs.length
 hd:∀(k:Nat)(A:pQ)(s:bL),W.hd[k]? = some A->S.hs[k]? = some s->wj CH i k S.m τ H A s
 ok:∀s∈S.hs,mF s
 sl:∀s∈S.hs,s.sy.length<=60*(S.ts.length+1)
 nl:S.ns.length=S.m
 hn:S.hs.length<=100
section
variable{CW CH:Addr}{i:Nat}{τ τ':Tg}{H H':Hp}{W:HX}{S:iV}
theorem wj.mv{k m:Nat}{A:pQ}{s:bL}(h:wj CH i k m τ H A s)(q:Mv i τ H τ' H'):wj CH i k m τ' H' A s:=by
 obtain⟨⟨c1,c2,c3,c4,c5⟩,r,tr,th,tb,ty⟩:=h;have e1:=q.keep _ _ c1 (.inr (by rw[th];rfl));have e2:=q.keep _ _ c2 (.inr (by rw[tb];rfl));have e3:=q.keep _ _ c3 (.inr (by rw[ty];rfl));have rr:=r;obtain⟨ts,hr,_⟩:=rr;have e4:=q.keep _ _ hr (.inl tr);exact⟨⟨e1.1,e2.1,e3.1,c4,c5⟩,r.keep (λo e=>(q.keep _ _ e (.inl tr)).1) q.tup,e4.2.trans tr,e1.2.trans th,e2.2.trans tb,e3.2.trans ty⟩
theorem Vn{r:Addr}{m:Nat}{rws:List Rw}(h:τ r=[0]/\dW H r m rws)(q:Mv i τ H τ' H'):τ' r=[0]/\dW H' r m rws:=by
 obtain⟨t,R⟩:=h;have rr:=R;obtain⟨ts,hr,_⟩:=rr;have e4:=q.keep _ _ hr (.inl t);exact⟨e4.2.trans t,R.keep (λo e=>(q.keep _ _ e (.inl t)).1) q.tup⟩
theorem lU.mv(w:lU CW CH i τ H W S)(q:Mv i τ H τ' H')(u:v9 τ' H'):lU CW CH i τ' H' W S:=by
 have e1:=q.keep _ _ w.o (.inr (by rw[w.to];rfl));have e2:=q.keep _ _ w.nb (.inr (by rw[w.tb];rfl));have e3:=q.keep _ _ w.hl (.inr (by rw[w.tl];rfl));have e4:=q.keep _ _ w.tn (.inr (by rw[w.tt];rfl));have e5:=q.keep _ _ w.L (.inl w.tL);exact⟨u,w.i0,e1.1,q.tup _ _ w.pg,e5.1,e2.1,e3.1,e4.1,e1.2.trans w.to,e2.2.trans w.tb,e3.2.trans w.tl,e4.2.trans w.tt,e5.2.trans w.tL,w.rl,λk r s h1 h2=>Vn (w.rs k r s h1 h2) q,w.len,λk A s h1 h2=>(w.hd k A s h1 h2).mv q,w.ok,w.sl,w.nl,w.hn⟩
theorem lU.same(w:lU CW CH i τ H W S)(k:Same H H'):lU CW CH i τ H' W S:=w.mv (Mv.of_same k) (w.un.same k)
theorem lU.kp{a:Addr}{o:HO}(w:lU CW CH i τ H W S)(k:Kp a H H')(ha:H a=some o)(hn:∀xs,o ≠ .tup xs)(ht:τ a=[])(ha':∃o',H' a=some o'):lU CW CH i τ H' W S:=
 w.mv (Mv.abS k ha hn ht) (w.un.dom λx e=>by
  by_cases z:x=a
  .obtain⟨o',h'⟩:=ha'
   rw[z,h'] at e;cases e
  .exact qm k z e)
theorem lU.hand{k:Nat}{s:bL}(w:lU CW CH i τ H W S)(h:S.hs[k]? = some s):∃A,W.hd[k]? = some A/\wj CH i k S.m τ H A s:=by
 have:k<W.hd.length:=by rw[w.len];exact(aaf.mp h).1
 exact⟨W.hd[k],by simp[this],w.hd k _ _ (by simp[this]) h⟩
end
noncomputable def rW(CW CH CN:Addr)(K:PySem.W.Frag):Sp:=λvs H Q E=>∃(i:Nat) (τ:Tg) (W:HX) (S:iV) (h:Int),vs=[.ref W.o,.int h]/\lU CW CH i τ H W S/\(∀(k:Nat)(A:pQ)(s:bL),h=k->W.hd[k]? = some A->S.hs[k]? = some s->Q (.ref A.h) H)/\(¬Ac h S.hs.length->E (.ref CN) none H)
theorem Oa{aC aD:Addr}{f:Addr}{fd:FuncData}(F:gP K "hand_of" "Works.hand_of" jz f fd)(rM:FnAt P w K mg base 2 "is_below" ["value","count"] (Cv K))(aQ:fV K aC)(Bt:rN mg){aP:Addr}(cG:Xr K mg aP "NoHand"):bN P w K mg base (qC P w) 3 f fd ["self","hand"] (rW aC aD aP K):=by
 refine F.V4 uD (λvs H Q E h=>?_) (λcdv A outer s H vs Q E hr h hR=>?_)
 .obtain⟨i,τ,W,S,h,rfl,_⟩:=h
  rfl
 .obtain⟨i,τ,W,S,h,rfl,w,k1,k2⟩:=h
  refine⟨_,(aq (bQ (qZ (jC (aX rM (hr.mono (by decide)) (by rfl) (aj (pv 1) (aj (bM (bO (K:=K) rfl) (by rfl) Bt.lD iT (aj (bT (K:=K) rfl (pv 0) rfl) ao)) ao))))) (aG (oN PySem.F.excBase_ValueError cG.ex cG.bd (by rfl) rfl rfl hR (aj bw ao))) bh)
   (aG (aW (aL (aN (K:=K) rfl) (bT (K:=K) rfl (pv 0) rfl) (pv 1) (λ_ _=>rfl))))), ?_⟩
  refine⟨_,Z,_,Z,W.o,aC,W.dx,_,_,Z,w.o,aQ.cls,aQ.qj,Z,W.hl,_,Z,.inl (bH.of w.hl),h,_,Z,_,Z, ?_⟩;have ll:(W.hd.map λa=>V.ref a.h).length=S.hs.length:=by rw[aad,w.len]
  by_cases hh:Ac h (W.hd.map λa=>V.ref a.h).length
  .rw[aaN hh]
   refine fG ?_;obtain⟨n,rfl⟩:=abQ hh.1;have nl:n<S.hs.length:=by have:=hh.2;rw[ll] at this;lia
   have es:S.hs[n]? = some S.hs[n]:=by simp[nl]
   obtain⟨A,eA,_⟩:=w.hand es;exact⟨_,Z,W.o,aC,W.dx,_,_,Z,w.o,aQ.cls,aQ.qj,Z,_,Z,_,_,_,_,Z,Z,bH.of w.hl,cL (by rw[aah,eA];rfl),k1 n A _ rfl eA es⟩
  .rw[aaO hh]
   refine fD ?_;rw[ll] at hh;exact⟨(by show 1<=sizeLine;decide),k2 hh⟩
noncomputable def QC(CW CH CN:Addr)(K:PySem.W.Frag):Sp:=λvs H Q E=>∃(i:Nat) (τ:Tg) (W:HX) (S:iV) (h:Int),vs=[.ref W.o,.int h]/\lU CW CH i τ H W S/\(∀(k:Nat)(s:bL),h=k->S.hs[k]? = some s->Q (.str s.st) H)/\(¬Ac h S.hs.length->E (.ref CN) none H)
theorem Zu{aC aD aP:Addr}{f:Addr}{fd:FuncData}(F:gP K "how" "Works.how" oH f fd)(jH:jP P w K mg base 3 aC "hand_of" ["self","hand"] (rW aC aD aP K))(aQ:fV K aC)(aJ:gM K aD):bN P w K mg base (qC P w) 4 f fd ["self","hand"] (QC aC aD aP K):=by
 refine F.V4 Cy (λvs H Q E h=>?_) (λcdv A outer s H vs Q E hr h hR=>?_)
 .obtain⟨i,τ,W,S,h,rfl,_⟩:=h
  rfl
 .obtain⟨i,τ,W,S,h,rfl,w,k1,k2⟩:=h
  refine⟨_,(aG (aW (bT (K:=K) rfl (oW jH aQ.cls rfl hR (hr.mono (by decide)) (pv 0) (aj (pv 1) ao)) rfl))), ?_⟩;refine⟨_,Z,W.o,W.dx,_,Z,w.o,Z,_,Z,i,τ,W,S,h,Z,w,λk A s e eA es=>?_,k2⟩;have a:=w.hd k A s eA es;exact⟨A.h,aD,A.hx,_,_,Z,a.c.h,aJ.cls,aJ.lA,Z,k1 k s e es⟩
structure qF(C:List (List Nat))(τ:Tg)(H:Hp)(τ':Tg)(H':Hp):Prop where
 keep:∀x u,H x=some u->τ x∉C->H' x=some u/\τ' x=τ x
 tup:∀x xs,H x=some (.tup xs)->H' x=some (.tup xs)
theorem qF.of_same{C:List (List Nat)}{τ:Tg}{H H':Hp}(k:Same H H'):qF C τ H τ H':=⟨λx u e _=>⟨k _ _ e,Z⟩,k.tups⟩
theorem qF.claim{C:List (List Nat)}{τ:Tg}{H H':Hp}{p:Addr}{t:List Nat}(k:Same H H')(hp:H p=none):qF C τ H (bG τ p t) H':=⟨λx u e _=>⟨k _ _ e,bB (aA e hp)⟩,k.tups⟩
theorem qF.set{C:List (List Nat)}{τ:Tg}{H:Hp}{x:Addr}{o u:HO}(ht:τ x∈C)(hx:H x=some o)(hn:∀xs,o ≠ .tup xs):qF C τ H τ (upd H x u):=
 ⟨λy v e n=>⟨by rw[aF (λz:y=x=>n (by rw[z];exact ht))];exact e,Z⟩,λy xs e=>by rw[aF (cD e hx λz=>hn xs z.symm)];exact e⟩
theorem qF.trans{C:List (List Nat)}{τ τ1 τ2:Tg}{H H1 H2:Hp}(a:qF C τ H τ1 H1)(b:qF C τ1 H1 τ2 H2):qF C τ H τ2 H2:=⟨λx u e n=>by
 obtain⟨e1,t1⟩:=a.keep x u e n;obtain⟨e2,t2⟩:=b.keep x u e1 (by rw[t1];exact n);exact⟨e2,by rw[t2,t1]⟩,λx xs e=>b.tup _ _ (a.tup _ _ e)⟩
theorem wj.mvT{C:List (List Nat)}{CH:Addr}{i k m:Nat}{τ τ':Tg}{H H':Hp}{A:pQ}{s:bL}(h:wj CH i k m τ H A s)(q:qF C τ H τ' H')(h0:[0]∉C)(h4:[i,4,k]∉C)(h5:[i,5,k]∉C)(h6:[i,6,k]∉C):wj CH i k m τ' H' A s:=by
 obtain⟨⟨c1,c2,c3,c4,c5⟩,r,tr,th,tb,ty⟩:=h;have e1:=q.keep _ _ c1 (by rw[th];exact h4);have e2:=q.keep _ _ c2 (by rw[tb];exact h5);have e3:=q.keep _ _ c3 (by rw[ty];exact h6);have rr:=r;obtain⟨ts,hr,_⟩:=rr;have e4:=q.keep _ _ hr (by rw[tr];exact h0);exact⟨⟨e1.1,e2.1,e3.1,c4,c5⟩,r.keep (λo e=>(q.keep _ _ e (by rw[tr];exact h0)).1) q.tup,e4.2.trans tr,e1.2.trans th,e2.2.trans tb,e3.2.trans ty⟩
theorem gW{C:List (List Nat)}{τ τ':Tg}{H H':Hp}{r:Addr}{m:Nat}{rws:List Rw}(h:τ r=[0]/\dW H r m rws)(q:qF C τ H τ' H')(h0:[0]∉C):τ' r=[0]/\dW H' r m rws:=by
 obtain⟨t,R⟩:=h;have rr:=R;obtain⟨ts,hr,_⟩:=rr;have e4:=q.keep _ _ hr (by rw[t];exact h0);exact⟨e4.2.trans t,R.keep (λo e=>(q.keep _ _ e (by rw[t];exact h0)).1) q.tup⟩
noncomputable def lG(CW CH CN CO:Addr)(K:PySem.W.Frag):Sp:=λvs H Q E=>∃(i:Nat) (τ:Tg) (W:HX) (S:iV) (h:Int),vs=[.ref W.o,.int h]/\lU CW CH i τ H W S/\S.ts.length<=10000 /\
 (∀(k:Nat)(s:bL)(r:Rw)(t:Addr)(H':Hp),h=k->S.hs[k]? = some s->s.st = "waits" -> s.rws[s.pos]? = some r->touch r=true->H t=none->H' t=some (.tup (Cj S.ns s.bs r))->lU CW CH i τ H' W (bZ S k)->Xj i τ H H'->Q (.ref t) H') /\
 (¬Ac h S.hs.length->E (.ref CN) none H)/\(∀(k:Nat)(s:bL),h=k->S.hs[k]? = some s->s.st ≠ "waits" -> E (.ref CO) none H)
theorem Qp{S:iV}{k:Nat}{s:bL}{r:Rw}(es:S.hs[k]? = some s)(er:s.rws[s.pos]? = some r):bZ S k={S with ns:=dz S.ns s.bs r,hs:=S.hs.set k (kE S.ns s r),ts:=S.ts++[(k:Int)]}:=by
 unfold bZ;simp only[es,er]
theorem JH(ns bs:List Int)(r:Rw):(dz ns bs r).length=ns.length:=by cases r<;>simp[dz]
theorem lU.turned{CW CH:Addr}{i:Nat}{τ:Tg}{H H':Hp}{W:HX}{S:iV}{k:Nat}{A:pQ}{s:bL}{r:Rw}(w:lU CW CH i τ H W S)(eA:W.hd[k]? = some A)(es:S.hs[k]? = some s)(er:s.rws[s.pos]? = some r)(kp:∀x u,H x=some u->x≠W.nb->x≠A.b->x≠A.h->x≠A.sy->x≠W.tn->H' x=some u)(c:nP CH H' A (kE S.ns s r))(hnb:H' W.nb=some (.lst ((dz S.ns s.bs r).map V.int)))(htn:H' W.tn=some (.lst ((S.ts++[(k:Int)]).map V.int))):lU CW CH i τ H' W (bZ S k)/\Xj i τ H H':=by
 have a:=w.hd k A s eA es;have tup:∀x xs,H x=some (.tup xs)->H' x=some (.tup xs):=λx xs e=>kp _ _ e (cD e w.nb (by intro z;cases z)) (cD e a.c.b (by intro z;cases z)) (cD e a.c.h (by intro z;cases z)) (cD e a.c.y (by intro z;cases z)) (cD e w.tn (by intro z;cases z))
 have st:Xj i τ H H':=by
  refine⟨λx u e n=>?_,tup,λx e=>?_⟩
  .have ne:∀(y:Addr)(t:List Nat),τ y=i::t->x≠y:=λy t ty z=>n (by rw[z,ty];rfl)
   exact kp _ _ e (ne _ _ w.tb) (ne _ _ a.tb) (ne _ _ a.th) (ne _ _ a.ty) (ne _ _ w.tt)
  .cases q:H x with
   | none=>rfl
   | some u=>
     have no:∀y o,H' y=some o->x≠y:=λy o h z=>by rw[z,h] at e;cases e
     rw[kp _ _ q (no _ _ hnb) (no _ _ c.b) (no _ _ c.h) (no _ _ c.y) (no _ _ htn)] at e;cases e
 refine⟨?_,st⟩
 have q:qF [[i,1],[i,5,k],[i,4,k],[i,6,k],[i,3]] τ H τ H':=by
  refine⟨λx u e n=>⟨?_,Z⟩,tup⟩;have ne:∀(y:Addr)(t:List Nat),τ y=t->t∈[[i,1],[i,5,k],[i,4,k],[i,6,k],[i,3]]->x≠y:=λy t ty ht z=>n (by rw[z,ty];exact ht);exact kp _ _ e (ne _ _ w.tb (by simp)) (ne _ _ a.tb (by simp)) (ne _ _ a.th (by simp)) (ne _ _ a.ty (by simp)) (ne _ _ w.tt (by simp))
 have i0:=w.i0;have z0:[0]∉[[i,1],[i,5,k],[i,4,k],[i,6,k],[i,3]]:=by simp
 rw[Qp es er];have hk:k<S.hs.length:=(aaf.mp es).1
 have get:∀(j:Nat)(s':bL),(S.hs.set k (kE S.ns s r))[j]? = some s'->(j=k/\s'=kE S.ns s r)\/(j≠k/\S.hs[j]? = some s'):=λj s' e=>by
  rw[List.getElem?_set] at e
  by_cases z:k=j
  .subst z
   simp[hk] at e;exact .inl ⟨Z,e.symm⟩
  .rw[ab6 z] at e
   exact .inr ⟨λy=>z y.symm,e⟩
 have gr:(kE S.ns s r).rws=s.rws:=m9 _ _;have mem:∀s'∈S.hs.set k (kE S.ns s r),s'=kE S.ns s r\/s'∈S.hs:=λs' m=>(List.mem_or_eq_of_mem_set m).symm;refine⟨st.un w.un,i0,(q.keep _ _ w.o (by rw[w.to];simp)).1,tup _ _ w.pg,(q.keep _ _ w.L (by rw[w.tL];exact z0)).1,hnb,(q.keep _ _ w.hl (by rw[w.tl];simp)).1,htn,w.to,w.tb,w.tl,w.tt,w.tL, ?_, ?_, ?_, ?_, ?_, ?_, ?_, ?_⟩
 .simp[w.rl]
 .intro j r' s' h1 h2
  rcases get j s' h2 with ⟨rfl,rfl⟩|⟨_,h2⟩
  .rw[gr]
   exact gW (w.rs j r' s h1 es) q z0
  .exact gW (w.rs j r' s' h1 h2) q z0
 .simp[w.len]
 .intro j A' s' h1 h2
  rcases get j s' h2 with ⟨rfl,rfl⟩|⟨nj,h2⟩
  .rw[eA] at h1
   cases h1;refine⟨c, ?_,a.tr,a.th,a.tb,a.ty⟩;rw[gr];exact(gW ⟨a.tr,a.r⟩ q z0).2
  .exact(w.hd j A' s' h1 h2).mvT q z0 (by simp[nj]) (by simp[nj]) (by simp[nj])
 .intro s' m
  rcases mem s' m with rfl|m
  .exact yM _ _
  .exact w.ok s' m
 .intro s' m
  simp only[aaT,aa5];rcases mem s' m with rfl|m
  .have:=Js 60 {s with pos:=s.pos+1,bs:=rH S.ns s.bs r}
   have:=w.sl s (aaM es);show (led 60 _).sy.length<=_;simp only at *;lia
  .have:=w.sl s' m
   lia
 .show (dz S.ns s.bs r).length=S.m
  rw[JH,w.nl]
 .simp[w.hn]
theorem VH{aC aD aP bF:Addr}{f:Addr}{fd:FuncData}(F:gP K "turn" "Works.turn" mZ f fd)(jH:jP P w K mg base 3 aC "hand_of" ["self","hand"] (rW aC aD aP K))(vh:MethAt P w K mg base 4 aC "touch_by" ["self","one"] (ur aC aD K))(kZ:MethAt P w K mg base 6 aD "lead_on" ["self"] (Cr aD K))(aQ:fV K aC)(aJ:gM K aD)(eY:Xr K mg bF "Over"):bN P w K mg base (qC P w) 7 f fd ["self","hand"] (lG aC aD aP bF K):=by
 refine F.V4 lH (λvs H Q E h=>?_) (λcdv A outer s H vs Q E hr h hR=>?_)
 .obtain⟨i,τ,W,S,h,rfl,_⟩:=h
  rfl
 .obtain⟨i,τ,W,S,h,rfl,w,tl,k1,k2,k3⟩:=h
  refine⟨_,(aq (aM (i:=2) lH.nd rfl (Or.inl rfl) (oW jH aQ.cls rfl hR (hr.mono (by decide)) (pv 0) (aj (pv 1) ao)))
   (aq (bQ (aU lZ (bT (K:=K) rfl (pv 2) rfl) bw (aV _)) (aG (oN PySem.F.excBase_ValueError eY.ex eY.bd (by rfl) rfl rfl hR (aj bw ao))) bh)
   (aq (aM (i:=3) lH.nd rfl (Or.inl rfl) (dD vh aQ.cls (hr.mono (by decide)) (pv 0) (aj (pv 2) ao)))
   (aq (yt (K:=K) rfl (pv 2) au Ju)
   (aq (cB (qb kZ aJ.cls (hr.mono (by decide)) (pv 2)))
   (aq (cB (dU (K:=K) rfl (bT (K:=K) rfl (pv 0) rfl) (aj (pv 1) ao)))
   (aG (aW (pv 3))))))))), ?_⟩
  refine⟨_,Z,W.o,W.dx,_,Z,w.o,Z,_,Z,i,τ,W,S,h,Z,w,λk A s e eA es=>?_,k2⟩;have a:=w.hd k A s eA es;refine⟨_,Z,A.h,aD,A.hx,_,_,Z,a.c.h,aJ.cls,aJ.lA,Z,Z,_,Z, ?_⟩
  by_cases wt:s.st = "waits"
  rotate_left
  .refine bJ (λ_=>?_) (λz=>acq (by simp[wt]) z)
   exact⟨(by show 1<=sizeLine;decide),k3 k s e es wt⟩
  refine GQ (by rw[wt]) ?_;obtain⟨r,er,tr⟩:=w.ok s (aaM es) wt;have X8:W.nb≠A.b:=d7 w.tb a.tb (by simp);have nny:W.nb≠A.sy:=d7 w.tb a.ty (by simp);refine⟨_,Z,W.o,W.dx,_,Z,w.o,Z,_,Z,W.o,W.dx,W.pg,W.nb,W.hl,W.tn,A,s,S.m,S.ns,r,Z,w.o,w.nb,w.nl,a.c,a.r,er,tr,X8,nny,λt H1 tf t1 c1 nb1 p1=>?_⟩;refine⟨_,Z,A.h,aD,A.hx,_,_,Z,c1.h,aJ.cls,aJ.uQ,Z,_,_,Z,Z,A.hx,_,c1.h,(by show 5<1000;decide), ?_⟩;rw[yp];have c2:=c1.qP (s.pos+1) s.st;have p2:KH A H1 (upd H1 A.h (.ins aD A.hx (hF A.r ((s.pos+1:Nat):Int) A.b A.sy s.st))):=KH.qP;have t2:=c1.tup p2 _ _ t1;dsimp only;rw[show ((s.pos:Nat):Int)+1=((s.pos+1:Nat):Int) by lia];generalize (upd H1 A.h (.ins aD A.hx (hF A.r ((s.pos+1:Nat):Int) A.b A.sy s.st)))=H2 at c2 p2 t2 ⊢;have V7:A.r≠A.b:=d7 a.tr a.tb (by intro z;cases z);have nry:A.r≠A.sy:=d7 a.tr a.ty (by intro z;cases z);have nrh:A.r≠A.h:=d7 a.tr a.th (by intro z;cases z);have nrn:A.r≠W.nb:=d7 a.tr w.tb (by intro z;cases z);have ad2:∀x xs,H x=some (.tup xs)->H2 x=some (.tup xs):=λx xs q=>c1.tup p2 _ _ (p1 _ _ q (cD q w.nb (by intro z;cases z)) (cD q a.c.b (by intro z;cases z)));have R2:dW H2 A.r S.m s.rws:=a.r.keep (λo q=>p2 _ _ (p1 _ _ q nrn V7) nrh V7 nry) ad2;have sl:=w.sl s (aaM es);refine⟨_,Z,A.h,A.hx,_,Z,c2.h,Z,A,_,S.m,Z,c2,R2,V7,nry,by show s.sy.length<_;lia,λH3 c3 p3=>?_⟩;have k13:∀x u,H x=some u->x≠W.nb->x≠A.b->x≠A.h->x≠A.sy->H3 x=some u:=λx u q n1 n2 n3 n4=>p3 _ _ (p2 _ _ (p1 _ _ q n1 n2) n3 n2 n4) n3 n2 n4;have o3:=k13 _ _ w.o (d7 w.to w.tb (by simp)) (d7 w.to a.tb (by simp)) (d7 w.to a.th (by simp)) (d7 w.to a.ty (by simp));have tn3:=k13 _ _ w.tn (d7 w.tt w.tb (by simp)) (d7 w.tt a.tb (by simp)) (d7 w.tt a.th (by simp)) (d7 w.tt a.ty (by simp));have nb3:=p3 _ _ (p2 _ _ nb1 (d7 w.tb a.th (by simp)) X8 nny) (d7 w.tb a.th (by simp)) X8 nny;have t3:=c2.tup p3 _ _ t2;refine⟨_,Z,W.o,aC,W.dx,_,_,Z,o3,aQ.cls,aQ.wU,Z,.inl ⟨Z,_,bH.of tn3⟩,_,Z,_,_,_,Z,Z,tn3,(by rw[aad,sizeLine_eq];lia), ?_⟩;have k14:∀x u,H x=some u->x≠W.nb->x≠A.b->x≠A.h->x≠A.sy->x≠W.tn->(upd H3 W.tn (.lst (S.ts.map V.int++[V.int h]))) x=some u:=λx u q n1 n2 n3 n4 n5=>by rw[aF n5];exact k13 x u q n1 n2 n3 n4
  have nbt:W.nb≠W.tn:=d7 w.tb w.tt (by simp);have c4:nP aD (upd H3 W.tn (.lst (S.ts.map V.int++[V.int h]))) A (kE S.ns s r):=⟨by rw[aF (d7 a.th w.tt (by simp))];exact c3.h,by rw[aF (d7 a.tb w.tt (by simp))];exact c3.b,by rw[aF (d7 a.ty w.tt (by simp))];exact c3.y,c3.Oh,c3.bl⟩;obtain⟨w4,st⟩:=w.turned (H':=upd H3 W.tn (.lst (S.ts.map V.int++[V.int h]))) eA es er k14 c4 (by rw[aF nbt];exact nb3) (by rw[ak,aaY,e];rfl);refine⟨_,Z,k1 k s r t _ e es wt er tr tf ?_ w4 st⟩;rw[aF (cD t3 tn3 (by intro z;cases z))];exact t3
structure Bs(H0:Hp)(τ0:Tg)(o:Addr)(τ:Tg)(H:Hp):Prop where
 un:v9 τ H
 kp:Kp o H0 H
 tg:∀x u,H0 x=some u->x≠o->τ x=τ0 x
theorem Bs.same{H0 H H':Hp}{τ0 τ:Tg}{o:Addr}(b:Bs H0 τ0 o τ H)(k:Same H H'):Bs H0 τ0 o τ H':=⟨b.un.same k,b.kp.trans (Kp.of_same k),b.tg⟩
theorem Bs.claim{H0 H H':Hp}{τ0 τ:Tg}{o p:Addr}{t:List Nat}(b:Bs H0 τ0 o τ H)(k:Same H H')(hp:H p=none)(hp':∃u,H' p=some u):Bs H0 τ0 o (bG τ p t) H':=
 ⟨b.un.claim k hp',b.kp.trans (Kp.of_same k),λx u e n=>by rw[bB (aA (b.kp _ _ e n) hp)];exact b.tg x u e n⟩
theorem Bs.set{H0 H:Hp}{τ0 τ:Tg}{o x:Addr}{v:HO}(b:Bs H0 τ0 o τ H)(hx:x=o\/H0 x=none):Bs H0 τ0 o τ (upd H x v):=
 ⟨b.un.dom (λy e=>by
   by_cases z:y=x
   .rw[z,ak] at e;cases e
   .rw[aF z] at e;exact e),λy u e n=>by
   have z:y≠x:=by
    rcases hx with rfl|hx
    .exact n
    .exact aA e hx
   rw[aF z];exact b.kp _ _ e n,b.tg⟩
theorem Bs.fresh{H0 H:Hp}{τ0 τ:Tg}{o p:Addr}(b:Bs H0 τ0 o τ H)(hp:H p=none)(n:p≠o):H0 p=none:=qm b.kp n hp
noncomputable def iH(CW CH CN:Addr)(K:PySem.W.Frag):Sp:=λvs H Q E=>∃(i:Nat) (τ:Tg) (o dx p L0:Addr) (PN:List Addr) (m:Nat) (cv:V) (ns:List Int) (rws:List (List Rw)),vs=[.ref o,.ref p,cv]/\H o=some (.ins CW dx [])/\H p=some (.tup [.int m,.ref L0])/\H L0=some (.lst (PN.map V.ref))/\PN.length=rws.length /\
 (∀(k:Nat)(r:Addr)(x:List Rw),PN[k]? = some r->rws[k]? = some x->dW H r m x)/\rws.length<=100/\m<=100/\v9 τ H/\i≠0/\ns.length<=100/\((cv = .non/\ns=List.replicate m 0) \/ ∃cl,cv = .ref cl/\H cl=some (.lst (ns.map V.int))) /\
 (fY m ns -> ∀(τ':Tg)(W:HX)(H':Hp),W.o=o->lU CW CH i τ' H' W (iU m ns rws)->(∀x u,H x=some u->x≠o->τ' x=τ x)->Kp o H H'->Q .non H')/\(¬fY m ns -> ∀H',Kp o H H'->E (.ref CN) none H')
theorem mz{α:Type}{l:List α}{x y:α}{k:Nat}(h:(l++[x])[k]? = some y):l[k]? = some y\/(k=l.length/\y=x):=by
 by_cases e:k<l.length
 .rw[aaV e] at h
  exact .inl h
 .rw[aaU (by lia)] at h
  have lt:=(aaf.mp h).1;simp at lt;have:k=l.length:=by lia
  subst this;simp at h;exact .inr ⟨Z,h.symm⟩
theorem Rt{aC aD:Addr}{f:Addr}{fd:FuncData}(F:HB K "__init__" "Works.__init__" bR [.none] f fd)(aQ:fV K aC)(aJ:gM K aD){aK:Addr}(wz:qN P w K mg base 3 "check_numbers" ["cells","count"] (qO aK K))(J0:pO P w K mg base 1 aD "Hand" ["self","rows"] [] (wJ aD K))(kZ:MethAt P w K mg base 6 aD "lead_on" ["self"] (Cr aD K))(Bt:rN mg):bN P w K mg base (qC P w) 7 f fd ["self","program","cells"] (iH aC aD aK K):=by
 refine F.V4 lJ (λvs H Q E h=>?_) (λcdv A outer s H vs Q E hr h hR=>?_)
 .obtain⟨i,τ,o,dx,p,L0,PN,m,cv,ns,rws,rfl,_⟩:=h
  rfl
 .obtain⟨i,τ,o,dx,p,L0,PN,m,cv,ns,rws,rfl,ho,hp,hL,lr,acj,rl,ml,un,i0,nl,hcv,k1,k2⟩:=h
  refine⟨_,(aq (bQ (aU Dn (pv 2) j8 (aV _)) (aG (sS (i:=2) rfl lJ.nd rfl (Or.inl rfl) (N:=["cell"]) (own:=["cell"]) (caps:=[]) (bC.of (by kernel_rfl)) (je (by rfl) Bt.ji (aj (aL (aR (K:=K) rfl) (pv 1) au (λ_ _=>rfl)) ao)) (λ_ _ _ _=>(bD (i:=0) (show List.Nodup (["cell"]:List Str) by decide +kernel) rfl (Or.inl rfl))) (λ_ _ _ _=>gH) (λ_ _ _ _=>au))) bh)
   (aq (cB (Dj wz rfl hR (hr.mono (by decide)) (by rfl) (aj (pv 2) (aj (aL (aR (K:=K) rfl) (pv 1) au (λ_ _=>rfl)) ao))))
   (aq (dZ (K:=K) rfl (pv 0) (cO (aj (aL (aR (K:=K) rfl) (pv 1) au (λ_ _=>rfl)) (aj (h_ rfl (N:=["rows"]) (own:=["rows"]) (caps:=[]) (bC.of (by kernel_rfl)) (dR (K:=K) rfl (aL (aR (K:=K) rfl) (pv 1) au (λ_ _=>rfl))) (λ_ _ _ _=>(bD (i:=0) (show List.Nodup (["rows"]:List Str) by decide +kernel) rfl (Or.inl rfl))) (λ_ _ _ _=>gH) (λ_ _ _ _=>(fX (cM (K:=K) rfl) (by rfl) Bt.kW iR (aj (pv 0) ao)))) ao))) rfl)
   (aq (dZ (K:=K) rfl (pv 0) (fX (cM (K:=K) rfl) (by rfl) Bt.kW iR (aj (pv 2) ao)) rfl)
   (aq (dZ (K:=K) rfl (pv 0) (h_ rfl (N:=["rows"]) (own:=["rows"]) (caps:=[]) (bC.of (by kernel_rfl)) (dR (K:=K) rfl (aL (aR (K:=K) rfl) (bT (K:=K) rfl (pv 0) rfl) au (λ_ _=>rfl))) (λ_ _ _ _=>(bD (i:=0) (show List.Nodup (["rows"]:List Str) by decide +kernel) rfl (Or.inl rfl))) (λ_ _ _ _=>gH) (λ_ _ _ _=>(oX J0 (hr.mono (by decide)) (by rfl) (aj (pv 0) ao)))) rfl)
   (aq (dZ (K:=K) rfl (pv 0) (bK ao) rfl)
   (aG (iy PassesOwn.leaving rfl (dR (K:=K) rfl (bT (K:=K) rfl (pv 0) rfl)) (bD (i:=3) lJ.nd rfl (Or.inl rfl))
   (aG (cB (qb kZ aJ.cls (hr.mono (by decide)) (pv 3)))))))))))), ?_⟩
  refine lu (λσ H1=>∃cl:Addr,σ=[some (.ref o),some (.ref p),some (.ref cl),none]/\H1 cl=some (.lst (ns.map V.int))/\Same H H1) (λD' hD' rt'=>?_) ?_
  .refine⟨_,Z,Z,_,Z, ?_⟩
   rcases hcv with ⟨rfl,rfl⟩|⟨cl,rfl,hcl⟩
   .refine fD ?_
    refine⟨_,Z,_,_,_,_,Z,Z,cA.of hp,Z,_,Z,by lia,by lia,λD hD=>?_⟩;rw[aaZ];refine u9 (λ_=>some (.int 0)) hD (by lia) (λi H1 G F hi s1 kG kF=>kF _ H1 (Same.refl _) rfl) (λH1 s1 e1=>?_);rw[L_] at e1;exact hD' _ _ ⟨D,Z,e1,s1⟩
   .refine fG ?_
    exact hD' _ _ ⟨cl,Z,hcl,Same.refl _⟩
  rintro σ H1 ⟨cl,rfl,hcl,s1⟩;have hp1:=s1 _ _ hp;refine rZ (λR g=>?_);refine⟨_,Z,_,Z,_,_,_,_,Z,Z,cA.of hp1,Z,cl,m,ns,Z,hcl,nl,λgood H2 s2=>?_,λbad H2 s2=>k2 bad H2 (Kp.of_same (s1.trans s2))⟩;refine g _ _ ?_;have QK:=s1.trans s2;have ho2:=QK _ _ ho;have hp2:=QK _ _ hp;have hL2:=QK _ _ hL;have yU:=s2 _ _ hcl;have Z4:∀(k:Nat)(r:Addr)(x:List Rw),PN[k]? = some r->rws[k]? = some x->dW H2 r m x:=λk r x a b=>(acj k r x a b).same QK;have B2:Bs H τ o (bG τ o [i,0]) H2:=⟨λx e=>by rw[bB (aA ho2 e).symm];exact un.same QK x e,Kp.of_same QK,λx u e n=>bB n⟩;have to2:bG τ o [i,0] o=[i,0]:=cN;generalize bG τ o [i,0]=τ2 at B2 to2;refine rZ (λR g=>?_);refine⟨_,Z,_,_,_,_,Z,Z,cA.of hp2,Z,_,Z,_,_,_,_,Z,Z,cA.of hp2,Z,L0,Z,⟨_,bH.of hL2⟩,λL hLn=>?_⟩;have sL:=aB (o:=HO.lst []) hLn;have nLo:L≠o:=(aA ho2 hLn).symm;refine jU (K:=K) (xs:=PN.map V.ref) (λj σ Hc=>∃(v:Option V) (τc:Tg) (rs:List Addr),σ=[v]/\rs.length=j/\Same H2 Hc/\Hc L=some (.lst (rs.map V.ref))/\Bs H τ o τc Hc/\τc o=[i,0]/\τc L=[0] /\ ∀(k:Nat)(r:Addr)(x:List Rw),rs[k]? = some r->rws[k]? = some x->r≠L/\τc r=[0]/\dW Hc r m x) ?_ ?_ ?_ ?_
  .exact⟨none,bG τ2 L [0],[],Z,Z,sL,ak,B2.claim sL hLn ⟨_,ak⟩,by rw[bB nLo.symm];exact to2,cN,λk r x h=>by simp at h⟩
  .rintro j σ Hc hj ⟨v,τc,rs,rfl,_,sc,_⟩
   exact bH.of (sc _ _ hL2)
  .rintro j x σ Hc hj ⟨v,τc,rs,rfl,lj,sc,hLc,Bc,toc,tLc,hc⟩
   rw[aah] at hj
   obtain⟨r0,er0,rfl⟩:∃r0,PN[j]? = some r0/\x = .ref r0:=by
    cases e:PN[j]? with
    | none=>rw[e] at hj;cases hj
    | some r0=>rw[e] at hj;exact⟨r0,Z,(aaS hj).symm⟩
   have jl:j<rws.length:=by rw[←lr];exact(aaf.mp er0).1
   have ex:rws[j]? = some rws[j]:=by simp[jl]
   have rr:=Z4 j r0 _ er0 ex;obtain⟨ts,hts,Et,rq,rl'⟩:=rr;dsimp only[iK,Fp];rw[ab9 rfl];refine⟨_,Z,r0,_,Z,.inl (bH.of (sc _ _ hts)),λr hrn=>?_⟩;have sr:=aB (o:=HO.lst ts) hrn;have nrL:r≠L:=(aA hLc hrn).symm;have nro:r≠o:=(aA (sc _ _ ho2) hrn).symm;have hLf:H L=none:=QK.free hLn;refine⟨rs.map V.ref,sr _ _ hLc,(by rw[aad,sizeLine_eq];lia),some (.ref r0),bG τc r [0],rs++[r],Z,by simp[lj],λy u e=>?_,by rw[ak];simp,(Bc.claim sr hrn ⟨_,ak⟩).set (.inr hLf), ?_, ?_, ?_⟩
   .rw[aF (aA e hLn)]
    exact sr _ _ (sc _ _ e)
   .rw[bB nro.symm];exact toc
   .rw[bB nrL.symm];exact tLc
   .intro k r' x' h1 h2
    have tups:∀y ys,Hc y=some (.tup ys)->(upd (upd Hc r (.lst ts)) L (.lst (rs.map V.ref++[V.ref r]))) y=some (.tup ys):=λy ys e=>by
     rw[aF (cD e hLc (by intro z;cases z))];exact sr _ _ e
    rcases mz h1 with h1|⟨e1,rfl⟩
    .obtain⟨n1,t1,R1⟩:=hc k r' x' h1 h2
     have rr:=R1;obtain⟨ts',hr',_⟩:=rr;have n2:r'≠r:=aA hr' hrn;refine⟨n1,by rw[bB n2];exact t1,R1.keep (λu e=>?_) tups⟩;rw[aF n1];exact sr _ _ e
    .rw[e1,lj,ex] at h2
     cases h2;refine⟨nrL,cN,ts,by rw[aF nrL,ak], ?_,rq,rl'⟩;exact Et.keep (λy ys e=>tups _ _ (sc _ _ e)) _ (GX _)
  rintro σ H3 ⟨v,τ3,rs,rfl,lrs,s23,hL3,B3,to3,tL3,hr3⟩;rw[aad] at lrs;have ho3:=s23 _ _ ho2;refine⟨(by show 2<=sizeLine;decide),λpg hpg=>?_⟩;have spg:=aB (o:=HO.tup [V.int m,V.ref L]) hpg;refine⟨_,Z,o,aC,dx,_,Z,spg _ _ ho3,aQ.cls,aQ.uP,(by show 0<1000;decide), ?_⟩;refine g _ _ ?_;have afy:pg≠o:=(aA ho3 hpg).symm;have ho4:(upd (upd H3 pg (.tup [V.int m,V.ref L])) o (.ins aC dx (dg "program" (.ref pg) []))) o=some (.ins aC dx [("program",.ref pg)]):=ak;have aco:(upd (upd H3 pg (.tup [V.int m,V.ref L])) o (.ins aC dx (dg "program" (.ref pg) []))) pg=some (.tup [V.int m,V.ref L]):=by rw[aF afy,ak]
  have q4:qF [[i,0]] τ3 H3 τ3 (upd (upd H3 pg (.tup [V.int m,V.ref L])) o (.ins aC dx (dg "program" (.ref pg) []))):=(qF.of_same spg).trans (qF.set (by rw[to3];simp) (spg _ _ ho3) (by intro xs z;cases z));have B4:Bs H τ o τ3 (upd (upd H3 pg (.tup [V.int m,V.ref L])) o (.ins aC dx (dg "program" (.ref pg) []))):=(B3.same spg).set (.inl rfl);have kp4:Kp o H3 (upd (upd H3 pg (.tup [V.int m,V.ref L])) o (.ins aC dx (dg "program" (.ref pg) []))):=(Kp.of_same spg).trans Kp.set;generalize (upd (upd H3 pg (.tup [V.int m,V.ref L])) o (.ins aC dx (dg "program" (.ref pg) [])))=H4 at ho4 aco q4 B4 kp4 ⊢;have hL4:=(q4.keep _ _ hL3 (by rw[tL3];simp)).1;have hr4:∀(k:Nat)(r:Addr)(x:List Rw),rs[k]? = some r->rws[k]? = some x->τ3 r=[0]/\dW H4 r m x:=λk r x h1 h2=>gW ⟨(hr3 k r x h1 h2).2.1,(hr3 k r x h1 h2).2.2⟩ q4 (by simp);have afF:cl≠o:=cD yU ho2 (by intro z;cases z);have Jy:=kp4 _ _ (s23 _ _ yU) afF;refine rZ (λR g=>?_);refine⟨_,Z,cl,_,Z,.inl (bH.of Jy),λnb hnb=>?_⟩;have snb:=aB (o:=HO.lst (ns.map V.int)) hnb;refine⟨_,Z,o,aC,dx,_,Z,snb _ _ ho4,aQ.cls,aQ.jR,(by show 1<1000;decide), ?_⟩;refine g _ _ ?_;have ZC:nb≠o:=(aA ho4 hnb).symm;have ho5:(upd (upd H4 nb (.lst (ns.map V.int))) o (.ins aC dx (dg "numbers" (.ref nb) [("program",.ref pg)]))) o=some (.ins aC dx [("program",.ref pg),("numbers",.ref nb)]):=ak;have acs:(upd (upd H4 nb (.lst (ns.map V.int))) o (.ins aC dx (dg "numbers" (.ref nb) [("program",.ref pg)]))) nb=some (.lst (ns.map V.int)):=by rw[aF ZC,ak]
  have q5:qF [[i,0]] τ3 H4 (bG τ3 nb [i,1]) (upd (upd H4 nb (.lst (ns.map V.int))) o (.ins aC dx (dg "numbers" (.ref nb) [("program",.ref pg)]))):=(qF.claim snb hnb).trans (qF.set (by rw[bB ZC.symm,to3];simp) (snb _ _ ho4) (by intro xs z;cases z));have B5:Bs H τ o (bG τ3 nb [i,1]) (upd (upd H4 nb (.lst (ns.map V.int))) o (.ins aC dx (dg "numbers" (.ref nb) [("program",.ref pg)]))):=(B4.claim snb hnb ⟨_,ak⟩).set (.inl rfl);have to5:bG τ3 nb [i,1] o=[i,0]:=by rw[bB ZC.symm];exact to3
  have tn5:bG τ3 nb [i,1] nb=[i,1]:=cN;generalize (upd (upd H4 nb (.lst (ns.map V.int))) o (.ins aC dx (dg "numbers" (.ref nb) [("program",.ref pg)])))=H5 at ho5 acs q5 B5 ⊢;generalize bG τ3 nb [i,1]=τ5 at q5 B5 to5 tn5;have hL5:=q5.keep _ _ hL4 (by rw[tL3];simp);have hr5:∀(k:Nat)(r:Addr)(x:List Rw),rs[k]? = some r->rws[k]? = some x->τ5 r=[0]/\dW H5 r m x:=λk r x h1 h2=>gW (hr4 k r x h1 h2) q5 (by simp);have acn:=q5.tup _ _ aco;have tL5:τ5 L=[0]:=hL5.2.trans tL3;have hL5:=hL5.1;refine rZ (λR g=>?_);refine⟨_,Z,o,aC,dx,_,_,Z,ho5,aQ.cls,aQ.uP,Z,_,_,_,_,Z,Z,cA.of acn,Z,L,Z,⟨_,bH.of hL5⟩,λhl hhl=>?_⟩;have shl:=aB (o:=HO.lst []) hhl;have afE:hl≠o:=(aA ho5 hhl).symm;refine jU (K:=K) (xs:=rs.map V.ref) (λj σ Hc=>∃(v:Option V) (τc:Tg) (hd:List pQ),σ=[v]/\hd.length=j/\Same H5 Hc/\Hc hl=some (.lst (hd.map λa=> .ref a.h))/\Bs H τ o τc Hc/\(∀x u,H5 x=some u->τc x=τ5 x)/\τc hl=[i,2] /\ ∀(k:Nat)(A:pQ)(x:List Rw),hd[k]? = some A->rws[k]? = some x->wj aD i k m τc Hc A (new x)/\H A.h=none/\H A.b=none/\H A.sy=none) ?_ ?_ ?_ ?_
  .exact⟨none,bG τ5 hl [i,2],[],Z,Z,shl,ak,B5.claim shl hhl ⟨_,ak⟩,λx u e=>bB (aA e hhl),cN,λk A x h=>by simp at h⟩
  .rintro j σ Hc hj ⟨v,τc,hd,rfl,_,sc,_⟩
   exact bH.of (sc _ _ hL5)
  .rintro j x σ Hc hj ⟨v,τc,hd,rfl,lj,sc,hlc,Bc,tgc,tlc,hc⟩
   rw[aah] at hj
   obtain⟨r,er,rfl⟩:∃r,rs[j]? = some r/\x = .ref r:=by
    cases e:rs[j]? with
    | none=>rw[e] at hj;cases hj
    | some r0=>rw[e] at hj;exact⟨r0,Z,(aaS hj).symm⟩
   have jl:j<rws.length:=by rw[←lr,←lrs];exact(aaf.mp er).1
   have ex:rws[j]? = some rws[j]:=by simp[jl]
   obtain⟨tr,R⟩:=hr5 j r _ er ex;have rr:=R;obtain⟨ts,hts,_⟩:=rr;dsimp only[iK,Fp];rw[ab9 rfl];refine⟨_,Z,λh hx hn hxn nhx=>?_⟩;have hn':(upd Hc hx (.own h)) h=none:=by rw[aF nhx.symm];exact hn
   have sm:Same Hc (upd (upd Hc hx (.own h)) h (.ins aD hx [])):=(aB hxn).trans (aB hn');refine⟨h,r,hx,Z,ak,λb sy H7 hb hsy abY h7 b7 sy7 k7=>⟨Z, ?_⟩⟩;have S7:Same Hc H7:=λy u e=>k7 _ _ (sm _ _ e) (aA e hn);have fb:Hc b=none:=sm.free hb;have fy:Hc sy=none:=sm.free hsy;have nhl:hl≠h:=aA hlc hn;have nbl:hl≠b:=aA hlc fb;have nyl:hl≠sy:=aA hlc fy;have V9:h≠b:=aA ak hb;have Yc:h≠sy:=aA ak hsy;have hlf:H hl=none:=B5.fresh hhl afE;have sH:Same Hc Hc:=Same.refl _;have T:∀x u,Hc x=some u->bG (bG (bG τc h [i,4,j]) b [i,5,j]) sy [i,6,j] x=τc x:=λy u e=>by rw[bB (aA e fy),bB (aA e fb),bB (aA e hn)]
   have B7:Bs H τ o (bG (bG (bG τc h [i,4,j]) b [i,5,j]) sy [i,6,j]) H7:=by
    refine⟨λy e=>?_,Bc.kp.trans (Kp.of_same S7),λy u e n=>?_⟩
    .have n1:y≠h:=λz=>by rw[z,h7] at e;cases e
     have n2:y≠b:=λz=>by rw[z,b7] at e;cases e
     have n3:y≠sy:=λz=>by rw[z,sy7] at e;cases e
     rw[bB n3,bB n2,bB n1];exact Bc.un y (S7.free e)
    .rw[T y u (Bc.kp _ _ e n)]
     exact Bc.tg y u e n
   have q7:qF [[i,2]] τc Hc (bG (bG (bG τc h [i,4,j]) b [i,5,j]) sy [i,6,j]) (upd H7 hl (.lst ((hd.map λa=>V.ref a.h)++[V.ref h]))):=by
    refine⟨λy u e n=>⟨?_,T y u e⟩,λy ys e=>?_⟩
    .rw[aF (λz:y=hl=>n (by rw[z,tlc];simp))]
     exact S7 _ _ e
    .rw[aF (cD e hlc (by intro z;cases z))]
     exact S7 _ _ e
   have Th:bG (bG (bG τc h [i,4,j]) b [i,5,j]) sy [i,6,j] h=[i,4,j]:=by rw[bB Yc,bB V9,cN]
   have Tb:bG (bG (bG τc h [i,4,j]) b [i,5,j]) sy [i,6,j] b=[i,5,j]:=by rw[bB abY,cN]
   have Ty:bG (bG (bG τc h [i,4,j]) b [i,5,j]) sy [i,6,j] sy=[i,6,j]:=cN;generalize bG (bG (bG τc h [i,4,j]) b [i,5,j]) sy [i,6,j]=τ7 at T B7 q7 Th Tb Ty;refine⟨_,S7 _ _ hlc,(by rw[aad,sizeLine_eq];lia),some (.ref r),τ7,hd++[⟨h,hx,r,b,sy⟩],Z,by simp[lj],λy u e=>?_,by rw[ak];simp,B7.set (.inr hlf),λy u e=>?_, ?_, ?_⟩
   .rw[aF (aA e hhl)]
    exact S7 _ _ (sc _ _ e)
   .rw[T y u (sc _ _ e)]
    exact tgc y u e
   .rw[T _ _ hlc];exact tlc
   .intro k A x' h1 h2
    rcases mz h1 with h1|⟨e1,rfl⟩
    .exact⟨(hc k A x' h1 h2).1.mvT q7 (by simp) (by simp) (by simp) (by simp),(hc k A x' h1 h2).2⟩
    .rw[e1,lj,ex] at h2
     cases h2;rw[e1,lj];have tr':τc r=[0]:=by rw[tgc _ _ hts];exact tr
     obtain⟨t9,R9⟩:=gW ⟨tr',R.same sc⟩ q7 (by simp);have hoc:=sc _ _ ho5;exact⟨⟨⟨by rw[aF nhl.symm];exact h7,by rw[aF nbl.symm];exact b7,by rw[aF nyl.symm];exact sy7,abY,Z⟩,R9,t9,Th,Tb,Ty⟩,Bc.fresh hn (aA hoc hn).symm,Bc.fresh fb (aA hoc fb).symm,Bc.fresh fy (aA hoc fy).symm⟩
  rintro σ H8 ⟨v,τ8,hd,rfl,lhd,s58,agc,B8,Vb,tl8,hd8⟩;rw[aad] at lhd;have ho8:=s58 _ _ ho5;have YD:τ8 o=[i,0]:=by rw[Vb _ _ ho5];exact to5
  refine⟨_,Z,o,aC,dx,_,Z,ho8,aQ.cls,aQ.qj,(by show 2<1000;decide), ?_⟩;refine g _ _ ?_;have ho9:(upd H8 o (.ins aC dx (dg "hands" (.ref hl) [("program",.ref pg),("numbers",.ref nb)]))) o=some (.ins aC dx [("program",.ref pg),("numbers",.ref nb),("hands",.ref hl)]):=ak;have q9:qF [[i,0]] τ8 H8 τ8 (upd H8 o (.ins aC dx (dg "hands" (.ref hl) [("program",.ref pg),("numbers",.ref nb)]))):=qF.set (by rw[YD];simp) ho8 (by intro xs z;cases z);have B9:Bs H τ o τ8 (upd H8 o (.ins aC dx (dg "hands" (.ref hl) [("program",.ref pg),("numbers",.ref nb)]))):=B8.set (.inl rfl);generalize (upd H8 o (.ins aC dx (dg "hands" (.ref hl) [("program",.ref pg),("numbers",.ref nb)])))=H9 at ho9 q9 B9 ⊢;refine rZ (λR g=>?_);refine⟨(by show 0<=sizeLine;decide),λtn htn=>?_⟩;have stn:=aB (o:=HO.lst []) htn;refine⟨_,Z,o,aC,dx,_,Z,stn _ _ ho9,aQ.cls,aQ.wU,(by show 3<1000;decide), ?_⟩;refine g _ _ ?_;have Zy:tn≠o:=(aA ho9 htn).symm;have Ou:(upd (upd H9 tn (.lst [])) o (.ins aC dx (dg "turns" (.ref tn) [("program",.ref pg),("numbers",.ref nb),("hands",.ref hl)]))) o=some (.ins aC dx (wF pg nb hl tn)):=ak;have Yg:(upd (upd H9 tn (.lst [])) o (.ins aC dx (dg "turns" (.ref tn) [("program",.ref pg),("numbers",.ref nb),("hands",.ref hl)]))) tn=some (.lst []):=by rw[aF Zy,ak]
  have Q0:qF [[i,0]] τ8 H9 (bG τ8 tn [i,3]) (upd (upd H9 tn (.lst [])) o (.ins aC dx (dg "turns" (.ref tn) [("program",.ref pg),("numbers",.ref nb),("hands",.ref hl)]))):=(qF.claim stn htn).trans (qF.set (by rw[bB Zy.symm,YD];simp) (stn _ _ ho9) (by intro xs z;cases z));have B10:Bs H τ o (bG τ8 tn [i,3]) (upd (upd H9 tn (.lst [])) o (.ins aC dx (dg "turns" (.ref tn) [("program",.ref pg),("numbers",.ref nb),("hands",.ref hl)]))):=(B9.claim stn htn ⟨_,ak⟩).set (.inl rfl);have Ng:bG τ8 tn [i,3] o=[i,0]:=by rw[bB Zy.symm];exact YD
  have Nf:bG τ8 tn [i,3] tn=[i,3]:=cN;have IV:=q9.trans Q0;generalize (upd (upd H9 tn (.lst [])) o (.ins aC dx (dg "turns" (.ref tn) [("program",.ref pg),("numbers",.ref nb),("hands",.ref hl)])))=zV at Ou Yg Q0 B10 IV ⊢;generalize bG τ8 tn [i,3]=Ew at Q0 B10 Ng Nf IV;have Bw:=IV.keep _ _ agc (by rw[tl8];simp);have Qs:Ew hl=[i,2]:=Bw.2.trans tl8;have Bw:=Bw.1
  have n5:∀x u,H5 x=some u->τ5 x≠[i,0]->zV x=some u/\Ew x=τ5 x:=λx u e n=>by
   have:=IV.keep _ _ (s58 _ _ e) (by rw[Vb _ _ e];simp[n]);exact⟨this.1,by rw[this.2,Vb _ _ e]⟩
  have acA:=n5 _ _ hL5 (by rw[tL5];simp);have Yh:=n5 _ _ acs (by rw[tn5];simp);have acp:=IV.tup _ _ (s58 _ _ acn);have agf:∀(k:Nat)(A:pQ)(x:List Rw),hd[k]? = some A->rws[k]? = some x->wj aD i k m Ew zV A (new x):=λk A x h1 h2=>(hd8 k A x h1 h2).1.mvT IV (by simp) (by simp) (by simp) (by simp)
  have af6:∀(k:Nat)(r:Addr)(x:List Rw),rs[k]? = some r->rws[k]? = some x->Ew r=[0]/\dW zV r m x:=λk r x h1 h2=>by
   obtain⟨t5,R5⟩:=hr5 k r x h1 h2;have rr:=R5;obtain⟨ts,hts,_⟩:=rr;exact gW ⟨by rw[Vb _ _ hts];exact t5,R5.same s58⟩ IV (by simp)
  have lh:hd.length=rws.length:=by rw[lhd,lrs,lr]
  refine⟨_,Z,o,aC,dx,_,_,Z,Ou,aQ.cls,aQ.qj,Z,hl,Z,⟨_,bH.of Bw⟩, ?_⟩
  refine jo (K:=K) (a:=hl) (xs:=hd.map λa=>V.ref a.h) (λj σ Hc=>∃x1:Option V,σ=[some (.ref o),some (.ref p),some (.ref cl),x1]/\(∀x u,zV x=some u->(∀k,Ew x≠[i,4,k])->(∀k,Ew x≠[i,5,k])->(∀k,Ew x≠[i,6,k])->Hc x=some u)/\(∀x ys,zV x=some (.tup ys)->Hc x=some (.tup ys))/\Bs H τ o Ew Hc /\
   ∀(k:Nat)(A:pQ)(x:List Rw),hd[k]? = some A->rws[k]? = some x->wj aD i k m Ew Hc A (if k<j then lead (new x) else new x))
   ⟨none,Z,λx u e _ _ _=>e,λx ys e=>e,B10,λk A x h1 h2=>by rw[ab6 (by lia)];exact agf k A x h1 h2⟩ (λj σ Hc _ ⟨_,_,kc,_⟩=>bH.of (kc _ _ Bw (by rw[Qs];simp) (by rw[Qs];simp) (by rw[Qs];simp))) ?_ ?_
  .rintro j v σ Hc hj ⟨x1,rfl,kc,tc,Bc,hc⟩
   rw[aah] at hj
   obtain⟨A,eA,rfl⟩:∃A,hd[j]? = some A/\v = .ref A.h:=by
    cases e:hd[j]? with
    | none=>rw[e] at hj;cases hj
    | some A=>rw[e] at hj;exact⟨A,Z,(aaS hj).symm⟩
   have jl:j<rws.length:=by rw[←lh];exact(aaf.mp eA).1
   have ex:rws[j]? = some rws[j]:=by simp[jl]
   have a:=hc j A _ eA ex;rw[ab6 (by lia)] at a;refine⟨_,Z,A.h,A.hx,_,Z,a.c.h,Z,A,_,m,Z,a.c,a.r,d7 a.tr a.tb (by intro z;cases z),d7 a.tr a.ty (by intro z;cases z),(by show 0<900000;decide),λAm c12 k12=>?_⟩;have X3:qF [[i,4,j],[i,5,j],[i,6,j]] Ew Hc Ew Am:=⟨λx u e n=>⟨k12 _ _ e (λz=>n (by rw[z,a.th];simp)) (λz=>n (by rw[z,a.tb];simp)) (λz=>n (by rw[z,a.ty];simp)),Z⟩,a.c.tup k12⟩;refine⟨_,Z,λx u e n4 n5 n6=>(X3.keep _ _ (kc x u e n4 n5 n6) (by simp[n4,n5,n6])).1,λx ys e=>X3.tup _ _ (tc _ _ e), ?_, ?_⟩
   .obtain⟨f1,f2,f3⟩:=(hd8 j A _ eA ex).2
    refine⟨Bc.un.dom λx e=>?_,λx u e n=>k12 _ _ (Bc.kp _ _ e n) (aA e f1) (aA e f2) (aA e f3),Bc.tg⟩;cases q:Hc x with
    | none=>rfl
    | some u=>
      have no:∀y o,Am y=some o->x≠y:=λy o h z=>by rw[z,h] at e;cases e
      rw[k12 _ _ q (no _ _ c12.h) (no _ _ c12.b) (no _ _ c12.y)] at e;cases e
   .intro k A' x h1 h2
    by_cases z:k=j
    .subst z
     rw[eA] at h1;cases h1;rw[ex] at h2;cases h2;rw[ab9 (by lia)];have lr':(lead (new rws[k])).rws=rws[k]:=m9 _ _;refine⟨c12, ?_,a.tr,a.th,a.tb,a.ty⟩;rw[lr'];exact(gW ⟨a.tr,a.r⟩ X3 (by simp)).2
    .have b:=(hc k A' x h1 h2).mvT X3 (by simp) (by simp[z]) (by simp[z]) (by simp[z])
     by_cases lt:k<j
     .rw[ab9 lt] at b
      rw[ab9 (by lia)];exact b
     .rw[ab6 lt] at b
      rw[ab6 (by lia)];exact b
  .rintro σ Qa ⟨x1,rfl,kc,tc,Bc,hc⟩
   rw[aad] at hc;have kt:∀x u t,zV x=some u->Ew x=t->(∀k,t≠[i,4,k])->(∀k,t≠[i,5,k])->(∀k,t≠[i,6,k])->Qa x=some u:=λx u t e et n4 n5 n6=>kc x u e (by rw[et];exact n4) (by rw[et];exact n5) (by rw[et];exact n6);have abn:Ew L=[0]:=acA.2.trans tL5;have abd:Ew nb=[i,1]:=Yh.2.trans tn5
   have get:∀(k:Nat)(s:bL),(rws.map λr=>lead (new r))[k]? = some s -> ∃x,rws[k]? = some x/\s=lead (new x):=λk s e=>by
    rw[aah] at e;cases q:rws[k]? with
    | none=>rw[q] at e;cases e
    | some x=>rw[q] at e;exact⟨x,Z,(aaS e).symm⟩
   refine k1 good Ew ⟨o,dx,pg,L,nb,hl,tn,rs,hd⟩ Qa rfl ⟨Bc.un,i0,kt _ _ _ Ou Ng (by simp) (by simp) (by simp),tc _ _ acp,kt _ _ _ acA.1 abn (by simp) (by simp) (by simp),kt _ _ _ Yh.1 abd (by simp) (by simp) (by simp),kt _ _ _ Bw Qs (by simp) (by simp) (by simp),kt _ _ _ Yg Nf (by simp) (by simp) (by simp),Ng,abd,Qs,Nf,abn, ?_, ?_, ?_, ?_, ?_, ?_, ?_, ?_⟩ Bc.tg Bc.kp
   .show rs.length=(rws.map _).length
    rw[aad,lrs,lr]
   .intro k r s h1 h2
    obtain⟨x,ex,rfl⟩:=get k s h2;obtain⟨t1,R1⟩:=af6 k r x h1 ex;have lr':(lead (new x)).rws=x:=m9 _ _;rw[lr'];exact⟨t1,R1.keep (λu e=>kt _ _ _ e t1 (by simp) (by simp) (by simp)) tc⟩
   .show hd.length=(rws.map _).length
    rw[aad,lh]
   .intro k A s h1 h2
    obtain⟨x,ex,rfl⟩:=get k s h2;have:=hc k A x h1 ex;rw[ab9 (aaf.mp h1).1] at this;exact this
   .intro s ms
    obtain⟨x,_,rfl⟩:=aa3.mp ms;exact yM _ _
   .intro s ms
    obtain⟨x,_,rfl⟩:=aa3.mp ms;exact Js 60 (new x)
   .have:=good.1
    show ns.length=m;lia
   .show (rws.map _).length<=100
    rw[aad];exact rl
theorem aas:∀b:Fin 8,rJ (Str.ofString "abcdefgh").cps.toList ((b.val:Nat):Int)=some (97+b.val):=by decide +kernel
theorem Mr{i:Int}(h0:0<=i)(h1:i<8):rJ (Str.ofString "abcdefgh").cps.toList i=some (97+i.toNat):=by
 have:=aas ⟨i.toNat,by lia⟩;simp only[Int.toNat_of_nonneg h0] at this;exact this
theorem Mw:(Str.ofString "abcdefgh").length<=sizeLine:=by rw[sizeLine_eq];decide
theorem Tz{H:Hp}{p:Addr}{x:Qc}(h:H p=some (.tup (match x with | .num n=>[.str "number",.int n] | .box b=>[.str "box",.str (tZ b)]))):Dat H (.ref p) (Aq x):=by
 cases x<;>simp only[Aq,Dat]<;>refine⟨p,_,Z,h, ?_⟩<;>simp only[aO,Dat,and_true]
theorem WY{H:Hp}{p:Addr}{a b:V}{q:Bool}{x y:Qc}(h:H p=some (.tup [.str (if q then "plus" else "minus"),a,b]))(da:Dat H a (Aq x))(db:Dat H b (Aq y)):Dat H (.ref p) (mJ (.two q x y)):=by
 simp only[mJ,Dat];refine⟨p,_,Z,h, ?_⟩;simp only[aO,Dat,and_true];exact⟨trivial,da,db⟩
section
variable{H:Hp}{p:Addr}{x y:V}{b c n:Nat}{e f:HN}
theorem TJ(h:H p=some (.tup [.str "load",.str (tZ b),.int c])):Dat H (.ref p) (lR (.load b c)):=by
 simp only[lR,Dat];exact⟨p,_,Z,h,by simp only[aO,Dat,and_true]⟩
theorem O7(h:H p=some (.tup [.str "store",.int c,x]))(d:Dat H x (mJ e)):Dat H (.ref p) (lR (.store c e)):=by
 simp only[lR,Dat];exact⟨p,_,Z,h,by simp only[aO,Dat,and_true,true_and];exact d⟩
theorem TF(h:H p=some (.tup [.str "swap",.str (tZ b),.int c,x]))(d:Dat H x (mJ e)):Dat H (.ref p) (lR (.swap b c e)):=by
 simp only[lR,Dat];exact⟨p,_,Z,h,by simp only[aO,Dat,and_true,true_and];exact d⟩
theorem W6(h:H p=some (.tup [.str "let",.str (tZ b),x]))(d:Dat H x (mJ e)):Dat H (.ref p) (lR (.vW b e)):=by
 simp only[lR,Dat];exact⟨p,_,Z,h,by simp only[aO,Dat,and_true,true_and];exact d⟩
theorem W4(h:H p=some (.tup [.str "say",x]))(d:Dat H x (mJ e)):Dat H (.ref p) (lR (.say e)):=by
 simp only[lR,Dat];exact⟨p,_,Z,h,by simp only[aO,Dat,and_true,true_and];exact d⟩
theorem aan(h:H p=some (.tup [.str "go",.int n])):Dat H (.ref p) (lR (.go n)):=by
 simp only[lR,Dat];exact⟨p,_,Z,h,by simp only[aO,Dat,and_true]⟩
theorem WX{q:Bool}(h:H p=some (.tup [.str "unless",.str (if q then "=" else "<"),x,y,.int n]))(d:Dat H x (mJ e))(d':Dat H y (mJ f)):Dat H (.ref p) (lR (.zW q e f n)):=by
 simp only[lR,Dat];exact⟨p,_,Z,h,by simp only[aO,Dat,and_true,true_and];exact⟨d,d'⟩⟩
end
noncomputable def uw(CH:Addr)(K:PySem.W.Frag):Sp:=λvs H Q _=>∃(A:pQ) (s:bL),vs=[.ref A.h]/\nP CH H A s /\ ∀(B:pQ)(H':Hp),H B.h=none->H B.b=none->H B.sy=none->B.r=A.r->nP CH H' B s->Same H H'->Q (.ref B.h) H'
theorem Y_(r b b' sy:Addr)(n:Int)(st:Str):dg "in_boxes" (.ref b') (hF r n b sy st)=hF r n b' sy st:=by rfl
theorem Y9(r b sy sy':Addr)(n:Int)(st:Str):dg "sayings" (.ref sy') (hF r n b sy st)=hF r n b sy' st:=by rfl
theorem Jg{aD:Addr}{f:Addr}{fd:FuncData}(F:gP K "another" "Hand.another" j6 f fd)(aJ:gM K aD)(J0:pO P w K mg base 1 aD "Hand" ["self","rows"] [] (wJ aD K))(Bt:rN mg):bN P w K mg base iY 3 f fd ["self"] (uw aD K):=by
 refine F.ok nF (λvs H Q E h=>?_) (λcdv A outer s H vs Q E hr h=>?_)
 .obtain⟨A,s,rfl,_⟩:=h
  rfl
 .obtain⟨B,s,rfl,c,k⟩:=h
  refine⟨_,(aq (aM (i:=1) nF.nd rfl (Or.inl rfl) (oX J0 (hr.mono (by decide)) (by rfl) (aj (bT (K:=K) rfl (pv 0) rfl) ao)))
   (aq (dZ (K:=K) rfl (pv 1) (bT (K:=K) rfl (pv 0) rfl) rfl)
   (aq (dZ (K:=K) rfl (pv 1) (fX (cM (K:=K) rfl) (by rfl) Bt.kW iR (aj (bT (K:=K) rfl (pv 0) rfl) ao)) rfl)
   (aq (dZ (K:=K) rfl (pv 1) (fX (cM (K:=K) rfl) (by rfl) Bt.kW iR (aj (bT (K:=K) rfl (pv 0) rfl) ao)) rfl)
   (aq (dZ (K:=K) rfl (pv 1) (bT (K:=K) rfl (pv 0) rfl) rfl)
   (aG (aW (pv 1)))))))), ?_⟩
  refine⟨_,Z,B.h,aD,B.hx,_,_,Z,c.h,aJ.cls,aJ.pq,Z,λh hx hh hhx nx=>?_⟩;have hh':(upd H hx (.own h)) h=none:=by rw[aF nx.symm];exact hh
  have sm:Same H (upd (upd H hx (.own h)) h (.ins aD hx [])):=(aB hhx).trans (aB hh');refine⟨h,B.r,hx,Z,ak,λb0 Vf H1 hb0 ajH ajh e1 eb1 aj5 k1=>⟨Z, ?_⟩⟩;have S1:Same H H1:=λx u e=>k1 _ _ (sm _ _ e) (aA e hh);clear k1 sm hh';have c1:=c.same S1;refine⟨_,Z,B.h,aD,B.hx,_,_,Z,c1.h,aJ.cls,aJ.uQ,Z,_,Z,h,aD,hx,_,Z,e1,aJ.cls,aJ.uQ,(by show 5<1000;decide), ?_⟩;rw[yp];have S2:Same H (upd H1 h (.ins aD hx (hF B.r s.pos b0 Vf "waits"))):=λx u e=>by rw[aF (aA e hh)];exact S1 _ _ e
  have e2:(upd H1 h (.ins aD hx (hF B.r s.pos b0 Vf "waits"))) h=some (.ins aD hx (hF B.r s.pos b0 Vf "waits")):=ak;generalize (upd H1 h (.ins aD hx (hF B.r s.pos b0 Vf "waits")))=H2 at S2 e2 ⊢;have c2:=c.same S2;refine⟨_,Z,B.h,aD,B.hx,_,_,Z,c2.h,aJ.cls,aJ.kj,Z,B.b,_,Z,.inl (bH.of c2.b),λb hb=>?_⟩;have sb:=aB (o:=HO.lst (s.bs.map V.int)) hb;have V9:b≠h:=(aA e2 hb).symm;refine⟨_,Z,h,aD,hx,_,Z,sb _ _ e2,aJ.cls,aJ.kj,(by show 5<1000;decide), ?_⟩;rw[Y_];have fb:H b=none:=S2.free hb;have S3:Same H (upd (upd H2 b (.lst (s.bs.map V.int))) h (.ins aD hx (hF B.r s.pos b Vf "waits"))):=λx u e=>by rw[aF (aA e hh)];exact sb _ _ (S2 _ _ e)
  have e3:(upd (upd H2 b (.lst (s.bs.map V.int))) h (.ins aD hx (hF B.r s.pos b Vf "waits"))) h=some (.ins aD hx (hF B.r s.pos b Vf "waits")):=ak;have eb3:(upd (upd H2 b (.lst (s.bs.map V.int))) h (.ins aD hx (hF B.r s.pos b Vf "waits"))) b=some (.lst (s.bs.map V.int)):=by rw[aF V9,ak]
  generalize (upd (upd H2 b (.lst (s.bs.map V.int))) h (.ins aD hx (hF B.r s.pos b Vf "waits")))=H3 at S3 e3 eb3 ⊢;have c3:=c.same S3;refine⟨_,Z,B.h,aD,B.hx,_,_,Z,c3.h,aJ.cls,aJ.qg,Z,B.sy,_,Z,.inl (bH.of c3.y),λy hy=>?_⟩;have sy:=aB (o:=HO.lst (s.sy.map V.int)) hy;have Yc:y≠h:=(aA e3 hy).symm;have Oh:b≠y:=aA eb3 hy;refine⟨_,Z,h,aD,hx,_,Z,sy _ _ e3,aJ.cls,aJ.qg,(by show 5<1000;decide), ?_⟩;rw[Y9];have fy:H y=none:=S3.free hy;have S4:Same H (upd (upd H3 y (.lst (s.sy.map V.int))) h (.ins aD hx (hF B.r s.pos b y "waits"))):=λx u e=>by rw[aF (aA e hh)];exact sy _ _ (S3 _ _ e)
  have e4:(upd (upd H3 y (.lst (s.sy.map V.int))) h (.ins aD hx (hF B.r s.pos b y "waits"))) h=some (.ins aD hx (hF B.r s.pos b y "waits")):=ak;have eb4:(upd (upd H3 y (.lst (s.sy.map V.int))) h (.ins aD hx (hF B.r s.pos b y "waits"))) b=some (.lst (s.bs.map V.int)):=by rw[aF V9];exact sy _ _ eb3
  have ey4:(upd (upd H3 y (.lst (s.sy.map V.int))) h (.ins aD hx (hF B.r s.pos b y "waits"))) y=some (.lst (s.sy.map V.int)):=by rw[aF Yc,ak]
  generalize (upd (upd H3 y (.lst (s.sy.map V.int))) h (.ins aD hx (hF B.r s.pos b y "waits")))=H4 at S4 e4 eb4 ey4 ⊢;have c4:=c.same S4;refine⟨_,Z,B.h,aD,B.hx,_,_,Z,c4.h,aJ.cls,aJ.lA,Z,_,Z,h,aD,hx,_,Z,e4,aJ.cls,aJ.lA,(by show 5<1000;decide), ?_⟩;rw[Dh];exact⟨_,Z,k ⟨h,hx,B.r,b,y⟩ _ hh fb fy rfl ⟨ak,by rw[aF V9];exact eb4,by rw[aF Yc];exact ey4,Oh,c.bl⟩ (λx u e=>by rw[aF (aA e hh)];exact S4 _ _ e)⟩
noncomputable def Ih(CW CH:Addr)(K:PySem.W.Frag):Sp:=λvs H Q _=>∃(i i':Nat) (τ:Tg) (W:HX) (S:iV),vs=[.ref W.o]/\lU CW CH i τ H W S/\tX S/\S.m<=100/\i'≠0 /\ ∀(τ':Tg)(W':HX)(H':Hp),lU CW CH i' τ' H' W' S->(∀x u,H x=some u->τ' x=τ x)->Same H H'->Q (.ref W'.o) H'
theorem VG{aC aD aK:Addr}{f:Addr}{fd:FuncData}(F:gP K "twin" "Works.twin" mY f fd)(aQ:fV K aC)(aJ:gM K aD)(jO:pO P w K mg base 7 aC "Works" ["self","program","cells"] [] (λvs H Q _=>iH aC aD aK K vs H Q λ_ _ _=>False))(zK:MethAt P w K mg base 3 aD "another" ["self"] (uw aD K))(Bt:rN mg):bN P w K mg base iY 9 f fd ["self"] (Ih aC aD K):=by
 refine F.ok qJ (λvs H Q E h=>?_) (λcdv A outer s H vs Q E hr h=>?_)
 .obtain⟨i,i',τ,W,S,rfl,_⟩:=h
  rfl
 .obtain⟨i,i',τ,W,S,rfl,w,g,ml,i0,k⟩:=h
  refine⟨_,(aq (aM (i:=1) qJ.nd rfl (Or.inl rfl) (oX jO (hr.mono (by decide)) (by rfl) (aj (bT (K:=K) rfl (pv 0) rfl) (aj (bT (K:=K) rfl (pv 0) rfl) ao))))
   (aq (dZ (K:=K) rfl (pv 1) (h_ rfl (N:=["one"]) (own:=["one"]) (caps:=[]) (bC.of (by kernel_rfl)) (dR (K:=K) rfl (bT (K:=K) rfl (pv 0) rfl)) (λ_ _ _ _=>(bD (i:=0) (show List.Nodup (["one"]:List Str) by decide +kernel) rfl (Or.inl rfl))) (λ_ _ _ _=>gH) (λ_ _ _ _=>(qb zK aJ.cls (hr.mono (by decide)) (pv 0)))) rfl)
   (aq (dZ (K:=K) rfl (pv 1) (fX (cM (K:=K) rfl) (by rfl) Bt.kW iR (aj (bT (K:=K) rfl (pv 0) rfl) ao)) rfl)
   (aG (aW (pv 1)))))), ?_⟩
  have good:fY S.m S.ns:=⟨by rw[w.nl],g.n⟩;refine⟨_,Z,W.o,aC,W.dx,_,_,Z,w.o,aQ.cls,aQ.uP,Z,_,Z,W.o,aC,W.dx,_,_,Z,w.o,aQ.cls,aQ.jR,Z,λo dx ho hdx ndx=>?_⟩;have ho':(upd H dx (.own o)) o=none:=by rw[aF ndx.symm];exact ho
  have sm:Same H (upd (upd H dx (.own o)) o (.ins aC dx [])):=(aB hdx).trans (aB ho');refine⟨i',τ,o,dx,W.pg,W.L,W.rs,S.m,.ref W.nb,S.ns,S.hs.map bL.rws,Z,ak,sm _ _ w.pg,sm _ _ w.L,by rw[aad];exact w.rl,λkk r x h1 h2=>?_,by rw[aad];exact w.hn,ml,w.un.same sm,i0,by rw[w.nl];exact ml,.inr ⟨W.nb,Z,sm _ _ w.nb⟩,λ_ τ1 W1 H1 eo w1 tg kp=>⟨Z, ?_⟩,λbad=>acq good bad⟩
  .rw[aah] at h2
   cases e:S.hs[kk]? with
   | none=>rw[e] at h2;cases h2
   | some s=>rw[e] at h2;cases h2;exact(w.rs kk r s h1 e).2.same sm
  have S1:Same H H1:=λx u e=>kp _ _ (sm _ _ e) (aA e ho);have HW:∀x u,H x=some u->τ1 x=τ x:=λx u e=>tg x u (sm _ _ e) (aA e ho);have fo:H W1.o=none:=by rw[eo];exact ho
  have eo':V.ref o=V.ref W1.o:=by rw[eo]
  rw[eo'];clear kp tg sm ho' eo';have wA:lU aC aD i τ1 H1 W S:=w.mv (Mv.tags S1 HW) w1.un;refine⟨_,Z,W.o,aC,W.dx,_,_,Z,wA.o,aQ.cls,aQ.qj,Z,W.hl,Z,⟨_,bH.of wA.hl⟩,λD hD=>?_⟩;have sD:=aB (o:=HO.lst []) hD;refine jU (K:=K) (xs:=W.hd.map λa=>V.ref a.h) (λj σ Hc=>∃(v:Option V) (τc:Tg) (hd:List pQ),σ=[v]/\hd.length=j/\Same H1 Hc/\Hc D=some (.lst (hd.map λa=> .ref a.h))/\v9 τc Hc/\(∀x u,H1 x=some u->τc x=τ1 x)/\τc D=[i',2] /\ ∀(k:Nat)(A:pQ)(s:bL),hd[k]? = some A->S.hs[k]? = some s->wj aD i' k S.m τc Hc A s) ?_ ?_ ?_ ?_
  .exact⟨none,bG τ1 D [i',2],[],Z,Z,sD,ak,w1.un.claim sD ⟨_,ak⟩,λx u e=>bB (aA e hD),cN,λk A s e=>by simp at e⟩
  .rintro j σ Hc _ ⟨v,τc,hd,rfl,_,sc,_⟩
   exact bH.of (sc _ _ wA.hl)
  .rintro j x σ Hc hj ⟨v,τc,hd,rfl,lj,sc,hDc,unc,tgc,tDc,hc⟩
   rw[aah] at hj
   obtain⟨A,eA,rfl⟩:∃A,W.hd[j]? = some A/\x = .ref A.h:=by
    cases e:W.hd[j]? with
    | none=>rw[e] at hj;cases hj
    | some A=>rw[e] at hj;exact⟨A,Z,(aaS hj).symm⟩
   have wc:lU aC aD i τc Hc W S:=wA.mv (Mv.tags sc tgc) unc;have jl:j<S.hs.length:=by rw[←w.len];exact(aaf.mp eA).1
   have es:S.hs[j]? = some S.hs[j]:=by simp[jl]
   have a:=wc.hd j A _ eA es;dsimp only[iK,Fp];rw[ab9 rfl];refine⟨_,Z,A.h,A.hx,_,Z,a.c.h,Z,A,_,Z,a.c,λB H7 fh fb fy er c7 s7=>?_⟩;have nDh:D≠B.h:=aA hDc fh;have ZG:D≠B.b:=aA hDc fb;have nDy:D≠B.sy:=aA hDc fy;have T:∀x u,Hc x=some u->bG (bG (bG τc B.h [i',4,j]) B.b [i',5,j]) B.sy [i',6,j] x=τc x:=λy u e=>by rw[bB (aA e fy),bB (aA e fb),bB (aA e fh)]
   have U7:v9 (bG (bG (bG τc B.h [i',4,j]) B.b [i',5,j]) B.sy [i',6,j]) H7:=λy e=>by
    have n1:y≠B.h:=λz=>by rw[z,c7.h] at e;cases e
    have n2:y≠B.b:=λz=>by rw[z,c7.b] at e;cases e
    have n3:y≠B.sy:=λz=>by rw[z,c7.y] at e;cases e
    rw[bB n3,bB n2,bB n1];exact unc y (s7.free e)
   have Th:bG (bG (bG τc B.h [i',4,j]) B.b [i',5,j]) B.sy [i',6,j] B.h=[i',4,j]:=by rw[bB c7.Yc,bB c7.V9,cN]
   have Tb:bG (bG (bG τc B.h [i',4,j]) B.b [i',5,j]) B.sy [i',6,j] B.b=[i',5,j]:=by rw[bB c7.Oh,cN]
   have Ty:bG (bG (bG τc B.h [i',4,j]) B.b [i',5,j]) B.sy [i',6,j] B.sy=[i',6,j]:=cN;generalize bG (bG (bG τc B.h [i',4,j]) B.b [i',5,j]) B.sy [i',6,j]=τ7 at T U7 Th Tb Ty
   have q7:qF [[i',2]] τc Hc τ7 (upd H7 D (.lst ((hd.map λa=>V.ref a.h)++[V.ref B.h]))):=by
    refine⟨λy u e n=>⟨?_,T y u e⟩,λy ys e=>?_⟩
    .rw[aF (λz:y=D=>n (by rw[z,tDc];simp))]
     exact s7 _ _ e
    .rw[aF (cD e hDc (by intro z;cases z))]
     exact s7 _ _ e
   have hjl:hd.length<=100:=by rw[lj];have:=w.hn;lia
   refine⟨_,s7 _ _ hDc,(by rw[aad,sizeLine_eq];lia),some (.ref A.h),τ7,hd++[B],Z,by simp[lj],λy u e=>?_,by rw[ak];simp, ?_,λy u e=>?_, ?_, ?_⟩
   .rw[aF (aA e hD)]
    exact s7 _ _ (sc _ _ e)
   .exact U7.dom λy e=>by
     by_cases z:y=D
     .rw[z,ak] at e;cases e
     .rw[aF z] at e;exact e
   .rw[T y u (sc _ _ e)]
    exact tgc y u e
   .rw[T _ _ hDc];exact tDc
   .intro k A' s' h1 h2
    rcases mz h1 with h1|⟨e1,rfl⟩
    .exact(hc k A' s' h1 h2).mvT q7 (by simp) (by simp) (by simp) (by simp)
    .rw[e1,lj,es] at h2
     cases h2;rw[e1,lj];obtain⟨t9,R9⟩:=gW ⟨a.tr,a.r⟩ q7 (by simp);exact⟨⟨by rw[aF nDh.symm];exact c7.h,by rw[aF ZG.symm];exact c7.b,by rw[aF nDy.symm];exact c7.y,c7.Oh,c7.bl⟩,by rw[er];exact R9,by rw[er];exact t9,Th,Tb,Ty⟩
  rintro σ H8 ⟨v,τ8,hd,rfl,lhd,s18,hD8,un8,Vb,tD8,hd8⟩;rw[aad] at lhd;have ho8:=s18 _ _ w1.o;have YD:τ8 W1.o=[i',0]:=by rw[Vb _ _ w1.o];exact w1.to
  refine⟨_,Z,W1.o,aC,W1.dx,_,Z,ho8,aQ.cls,aQ.qj,(by show 4<1000;decide), ?_⟩;have ho9:(upd H8 W1.o (.ins aC W1.dx (dg "hands" (.ref D) (wF W1.pg W1.nb W1.hl W1.tn)))) W1.o=some (.ins aC W1.dx (wF W1.pg W1.nb D W1.tn)):=ak;have q9:qF [[i',0]] τ8 H8 τ8 (upd H8 W1.o (.ins aC W1.dx (dg "hands" (.ref D) (wF W1.pg W1.nb W1.hl W1.tn)))):=qF.set (by rw[YD];simp) ho8 (by intro xs z;cases z)
  have un9:v9 τ8 (upd H8 W1.o (.ins aC W1.dx (dg "hands" (.ref D) (wF W1.pg W1.nb W1.hl W1.tn)))):=un8.dom λy e=>by
   by_cases z:y=W1.o
   .rw[z,ak] at e;cases e
   .rw[aF z] at e;exact e
  have S9:Same H (upd H8 W1.o (.ins aC W1.dx (dg "hands" (.ref D) (wF W1.pg W1.nb W1.hl W1.tn)))):=λx u e=>by rw[aF (aA e fo)];exact s18 _ _ (S1 _ _ e)
  generalize (upd H8 W1.o (.ins aC W1.dx (dg "hands" (.ref D) (wF W1.pg W1.nb W1.hl W1.tn))))=H9 at ho9 q9 un9 S9 ⊢;have w9:lU aC aD i τ8 H9 W S:=w.mv (Mv.tags S9 λx u e=>(Vb x u (S1 _ _ e)).trans (HW x u e)) un9;refine⟨_,Z,W.o,aC,W.dx,_,_,Z,w9.o,aQ.cls,aQ.wU,Z,W.tn,_,Z,.inl (bH.of w9.tn),λt ht=>?_⟩;have st:=aB (o:=HO.lst (S.ts.map V.int)) ht;have nto:t≠W1.o:=(aA ho9 ht).symm;refine⟨_,Z,W1.o,aC,W1.dx,_,Z,st _ _ ho9,aQ.cls,aQ.wU,(by show 4<1000;decide), ?_⟩;have Ou:(upd (upd H9 t (.lst (S.ts.map V.int))) W1.o (.ins aC W1.dx (dg "turns" (.ref t) (wF W1.pg W1.nb D W1.tn)))) W1.o=some (.ins aC W1.dx (wF W1.pg W1.nb D t)):=ak;have Ws:(upd (upd H9 t (.lst (S.ts.map V.int))) W1.o (.ins aC W1.dx (dg "turns" (.ref t) (wF W1.pg W1.nb D W1.tn)))) t=some (.lst (S.ts.map V.int)):=by rw[aF nto,ak]
  have Q0:qF [[i',0]] τ8 H9 (bG τ8 t [i',3]) (upd (upd H9 t (.lst (S.ts.map V.int))) W1.o (.ins aC W1.dx (dg "turns" (.ref t) (wF W1.pg W1.nb D W1.tn)))):=(qF.claim st ht).trans (qF.set (by rw[bB nto.symm,YD];simp) (st _ _ ho9) (by intro xs z;cases z))
  have Yz:v9 (bG τ8 t [i',3]) (upd (upd H9 t (.lst (S.ts.map V.int))) W1.o (.ins aC W1.dx (dg "turns" (.ref t) (wF W1.pg W1.nb D W1.tn)))):=(un9.claim st ⟨_,ak⟩).dom λy e=>by
   by_cases z:y=W1.o
   .rw[z,ak] at e;cases e
   .rw[aF z] at e;exact e
  have S10:Same H (upd (upd H9 t (.lst (S.ts.map V.int))) W1.o (.ins aC W1.dx (dg "turns" (.ref t) (wF W1.pg W1.nb D W1.tn)))):=λx u e=>by rw[aF (aA e fo)];exact st _ _ (S9 _ _ e)
  have Ng:bG τ8 t [i',3] W1.o=[i',0]:=by rw[bB nto.symm];exact YD
  have Nf:bG τ8 t [i',3] t=[i',3]:=cN;have tgt:∀x u,H x=some u->bG τ8 t [i',3] x=τ x:=λx u e=>by rw[bB (aA (S9 _ _ e) ht)];exact(Vb x u (S1 _ _ e)).trans (HW x u e)
  have Q18:qF [[i',0]] τ1 H1 τ8 H8:=⟨λx u e _=>⟨s18 _ _ e,Vb x u e⟩,s18.tups⟩;have Q8:=q9.trans Q0;generalize (upd (upd H9 t (.lst (S.ts.map V.int))) W1.o (.ins aC W1.dx (dg "turns" (.ref t) (wF W1.pg W1.nb D W1.tn))))=zV at Ou Ws Q0 Yz S10 Q8 ⊢;generalize bG τ8 t [i',3]=Ew at Q0 Yz Ng Nf tgt Q8;have Q1:=Q18.trans Q8;have hL:=Q1.keep _ _ w1.L (by rw[w1.tL];simp);have hnb:=Q1.keep _ _ w1.nb (by rw[w1.tb];simp);have Jz:=Q8.keep _ _ hD8 (by rw[tD8];simp);refine⟨_,Z,k Ew ⟨W1.o,W1.dx,W1.pg,W1.L,W1.nb,D,t,W1.rs,hd⟩ zV ⟨Yz,i0,Ou,Q1.tup _ _ w1.pg,hL.1,hnb.1,Jz.1,Ws,Ng,hnb.2.trans w1.tb,Jz.2.trans tD8,Nf,hL.2.trans w1.tL, ?_, ?_,by rw[lhd,w.len],λkk A s h1 h2=>(hd8 kk A s h1 h2).mvT Q8 (by simp) (by simp) (by simp) (by simp),w.ok,w.sl,w.nl,w.hn⟩ tgt S10⟩
  .have:=w1.rl
   unfold iU at this;simpa using this
  .intro kk r s h1 h2
   have e1:(iU S.m S.ns (S.hs.map bL.rws)).hs[kk]? = some (lead (new s.rws)):=by
    show ((S.hs.map bL.rws).map λr=>lead (new r))[kk]? = _;rw[aah,aah,h2];rfl
   have:=w1.rs kk r _ h1 e1;rw[show (lead (new s.rws)).rws=s.rws from m9 _ _] at this;exact gW this Q1 (by simp)
structure Ak(H:Hp)(p L:Addr)(rs:List Addr)(rws:List (List Rw))(m:Nat):Prop where
 ep:H p=some (.tup [.int m,.ref L])
 eL:H L=some (.lst (rs.map V.ref))
 len:rs.length=rws.length
 row:∀(k:Nat)(r:Addr)(x:List Rw),rs[k]? = some r->rws[k]? = some x->dW H r m x
noncomputable def Al(H:Hp)(v:V)(ns:List Int)(m:Nat):Prop:=fY m ns/\((v = .non/\ns=List.replicate m 0) \/ ∃l,v = .ref l/\H l=some (.lst (ns.map V.int)))
theorem Lr{CW CH CN:Addr}{i:Nat}{τ:Tg}{H:Hp}{p L:Addr}{rs:List Addr}{rws:List (List Rw)}{m:Nat}{nv:V}{ns:List Int}{Q:Addr->Hp->Prop}(g:Ak H p L rs rws m)(n8:rws.length<=100)(vC:m<=100)(un:v9 τ H)(i0:i≠0)(nh:Al H nv ns m)(go:∀(τ':Tg)(W:HX)(H':Hp),lU CW CH i τ' H' W (iU m ns rws)->(∀x u,H x=some u->τ' x=τ x)->Same H H'->Q W.o H')(o dx:Addr)(ho:H o=none)(hdx:H dx=none)(ndx:dx≠o):
 iH CW CH CN K (.ref o::([.ref p,nv]++[])) (upd (upd H dx (.own o)) o (.ins CW dx [])) (λv H'=>v = .non/\Q o H') (λ_ _ _=>False):=by
 obtain⟨good,hv⟩:=nh;have ho':(upd H dx (.own o)) o=none:=by rw[aF ndx.symm];exact ho
 have sm:Same H (upd (upd H dx (.own o)) o (.ins CW dx [])):=(aB hdx).trans (aB ho');refine⟨i,τ,o,dx,p,L,rs,m,nv,ns,rws,Z,ak,sm _ _ g.ep,sm _ _ g.eL,g.len,λkk q' x h1 h2=>(g.row kk q' x h1 h2).same sm,n8,vC,un.same sm,i0,by have:=good.1;lia, ?_,λ_ τ5 W H5 eo w5 tg kp=>⟨Z, ?_⟩,λbad=>acq good bad⟩
 .rcases hv with h|⟨cl,e,h⟩
  .exact .inl h
  .exact .inr ⟨cl,e,sm _ _ h⟩
 .rw[←eo]
  exact go τ5 W H5 w5 (λx u e=>tg x u (sm _ _ e) (aA e ho)) (λx u e=>kp _ _ (sm _ _ e) (aA e ho))
noncomputable def Ut(t:Tc):List V:=[.str (qI t.r),.int (gj t.r),oV t.rd,oV t.wr]
noncomputable def bU(t:Tc):dB:=((t.k:Int),qI t.r,(gj t.r:Int))
theorem xK{CW CH CN CO:Addr}{i:Nat}{τ:Tg}{H:Hp}{W:HX}{S:iV}{t:Tc}{Q:VK}(w:lU CW CH i τ H W S)(tl:S.ts.length<=10000)(a:zP S t)(go:∀(p:Addr)(H':Hp),H p=none->H' p=some (.tup (Ut t))->lU CW CH i τ H' W (bZ S t.k)->Xj i τ H H'->Q (.ref p) H'):lG CW CH CN CO K [.ref W.o,.int t.k] H Q (λ_ _ _=>False):=by
 obtain⟨s,es,ws,er,e1,e2⟩:=a;have kl:=(aaf.mp es).1;have inn:Ac (t.k:Int) S.hs.length:=⟨by lia,by lia⟩
 have one:∀(k':Nat)(t':bL),(t.k:Int)=k'->S.hs[k']? = some t'->t'=s/\k'=t.k:=λk' t' e1 e2=>by
  have:k'=t.k:=by lia
  subst this;rw[es] at e2;exact⟨(aaS e2).symm,Z⟩
 refine⟨i,τ,W,S,_,Z,w,tl,λk' t' r' tt Hk q1 q2 wt' Tf tr' tf tk wk stk=>?_,λz=>acq inn z,λk' t' e1 e2 z=>acq (by rw[(one k' t' e1 e2).1];exact ws) z⟩;obtain⟨rfl,rfl⟩:=one k' t' q1 q2;rw[er] at Tf;cases Tf;refine go tt Hk tf ?_ wk stk;rw[tk];unfold Ut Cj;rw[e1,e2]
theorem Iz{S S' S1:iV}{l:List Tc}{j:Nat}{t:Tc}(R:Run S l S')(R1:Run S (l.take j) S1)(e:l[j]? = some t):zP S1 t/\Run S (l.take (j+1)) (bZ S1 t.k):=by
 have jl:=(aaf.mp e).1
 have el:l=l.take j++t::l.drop (j+1):=by
  have q:=(List.take_append_drop j l).symm;rw[List.drop_eq_getElem_cons jl] at q;rw[aae jl] at e;cases e;exact q
 rw[el] at R;obtain⟨T,r1,r2,r3⟩:=Run.app.mp R;have:=R1.det r1;subst this;refine⟨r2, ?_⟩;rw[aa6,e];exact Run.app.mpr ⟨S1,R1,r2,Z⟩
theorem uL:∀{l:List Tc}{S S':iV},Run S l S'->S'.ts=S.ts++l.map λt=>(t.k:Int)
 | [],S,S',h=>by have h:S'=S:=h;rw[h];simp
 | t::l,S,S',⟨a,h⟩=>by
   rw[uL h];obtain⟨s,_,_,e⟩:=a.turn;rw[e];simp
theorem Dg:∀{l:List Tc}{S S':iV},Run S l S'->S'.hs.length=S.hs.length/\S'.m=S.m
 | [],S,S',h=>by have h:S'=S:=h;rw[h];exact⟨Z,Z⟩
 | t::l,S,S',⟨a,h⟩=>by
   rw[(Dg h).1,(Dg h).2];obtain⟨s,_,_,e⟩:=a.turn;rw[e];simp
theorem Gd:∀{l:List Tc}{S S':iV},Run S l S'->tX S->tX S'
 | [],S,S',h,g=>by have h:S'=S:=h;rw[h];exact g
 | t::l,S,S',⟨a,h⟩,g=>Gd h (g.turn _)
theorem QM:∀{l:List Tc}{S S':iV},Run S l S' -> ∀t∈l,t.k<S.hs.length
 | [],S,S',h,t,ht=>by cases ht
 | x::l,S,S',⟨a,h⟩,t,ht=>by
   obtain⟨s,es,_⟩:=id a;rcases List.mem_cons.mp ht with rfl|ht
   .exact(aaf.mp es).1
   .have:=QM h t ht
    obtain⟨s,_,_,e⟩:=a.turn;rw[e] at this;simpa using this
noncomputable def aside(c:Nat)(H:Hp):Tg:=λx=>if (H x).isSome then [c] else []
theorem tR(c:Nat)(H:Hp):v9 (aside c H) H:=λx e=>by unfold aside;rw[e];rfl
theorem tU{c:Nat}{H:Hp}{x:Addr}{o:HO}(e:H x=some o):aside c H x=[c]:=by unfold aside;rw[e];rfl
noncomputable def Ar(hs:List bL)(k:Nat):Bool:=match hs[k]? with
 | some s=>decide (s.st = "waits")
 | none=>false
noncomputable def rO(hs:List bL):List Nat:=(List.range hs.length).filter (Ar hs)
theorem aac{α:Type}(p:Nat->Bool)(f:Nat->α)(n:Nat):(List.range n).filterMap (λi=>if p i then some (f i) else none)=((List.range n).filter p).map f:=by
 induction n with
 | zero=>rfl
 | succ n ih=>
   rw[dG,ih,List.range_succ,ab0,aaY];congr 1;cases h:p n<;>simp[h]
theorem MK{hs:List bL}{z k:Nat}(h:(rO hs)[z]? = some k):∃s,hs[k]? = some s/\s.st = "waits" :=by
 have m:=aaM h;have:=(abw.mp m).2;unfold Ar at this;cases e:hs[k]? with
 | none=>rw[e] at this;cases this
 | some s=>rw[e] at this;exact⟨s,Z,aaP this⟩
theorem Ak.same{H H':Hp}{p L:Addr}{rs:List Addr}{rws:List (List Rw)}{m:Nat}(g:Ak H p L rs rws m)(k:Same H H'):Ak H' p L rs rws m:=⟨k _ _ g.ep,k _ _ g.eL,g.len,λi r x h1 h2=>(g.row i r x h1 h2).same k⟩
noncomputable def kI(l:List Tc):List Int:=l.map λt=>(t.k:Int)
theorem jf(l:List Tc):(kI l).length=l.length:=aad _
noncomputable def Ef(S1:iV):Option Bool->List Int->Prop
 | none,[]=>True
 | some true,h::_=>¬Ac h S1.hs.length
 | some false,h::_=>∃(k:Nat) (s:bL),h=(k:Int)/\S1.hs[k]? = some s/\s.st ≠ "waits"
 | _,_=>False
noncomputable def Wk(S:iV)(os:List Int)(l:List Tc)(st:Option Bool):Prop:=∃S1 rest,Run S l S1/\os=kI l++rest/\Ef S1 st rest
theorem Fj{S:iV}(k:Nat)(ok:∀s∈S.hs,mF s):∀s∈(bZ S k).hs,mF s:=by
 unfold bZ;cases e:S.hs[k]? with
 | none=>exact ok
 | some s=>
   dsimp only;cases e2:s.rws[s.pos]? with
   | none=>exact ok
   | some r=>
     intro t ht;rcases List.mem_or_eq_of_mem_set ht with h|rfl
     .exact ok t h
     .exact yM _ _
theorem wX(m:Nat)(ns:List Int)(rws:List (List Rw)):∀s∈(iU m ns rws).hs,mF s:=λs hs=>by
 obtain⟨x,_,rfl⟩:=aa3.mp hs;exact yM _ _
theorem Qi:∀(os:List Int)(S:iV),(∀s∈S.hs,mF s) -> ∃l st,Wk S os l st
 | [],S,_=>⟨[],none,S,[],Z,Z,trivial⟩
 | h::os,S,ok=>by
   by_cases inn:Ac h S.hs.length
   .obtain⟨k,rfl⟩:=abQ inn.1
    have kl:k<S.hs.length:=by have:=inn.2;lia
    have es:S.hs[k]? = some S.hs[k]:=by simp[kl]
    by_cases w:S.hs[k].st = "waits"
    .obtain⟨r,er,_⟩:=ok _ (aaM es) w
     obtain⟨l,st,S1,rest,R,e,q⟩:=Qi os (bZ S k) (Fj k ok);exact⟨⟨k,r,qK S.ns r,EY S.hs[k].bs r⟩::l,st,S1,rest,⟨⟨_,es,w,er,Z,Z⟩,R⟩,by rw[e];rfl,q⟩
    .exact⟨[],some false,S,_,Z,Z,k,_,Z,es,w⟩
   .exact⟨[],some true,S,_,Z,Z,inn⟩
theorem um{CW CH CN CO:Addr}{i:Nat}{τ:Tg}{H:Hp}{W:HX}{S:iV}{t:Tc}{Q:VK}{E:XK}(w:lU CW CH i τ H W S)(tl:S.ts.length<=10000)(a:zP S t)(go:∀(p:Addr)(H':Hp),H p=none->H' p=some (.tup (Ut t))->lU CW CH i τ H' W (bZ S t.k)->Xj i τ H H'->Q (.ref p) H'):lG CW CH CN CO K [.ref W.o,.int t.k] H Q E:=by
 obtain⟨s,es,ws,er,e1,e2⟩:=a;have kl:=(aaf.mp es).1;have inn:Ac (t.k:Int) S.hs.length:=⟨by lia,by lia⟩
 have one:∀(k':Nat)(t':bL),(t.k:Int)=k'->S.hs[k']? = some t'->t'=s/\k'=t.k:=λk' t' e1 e2=>by
  have:k'=t.k:=by lia
  subst this;rw[es] at e2;exact⟨(aaS e2).symm,Z⟩
 refine⟨i,τ,W,S,_,Z,w,tl,λk' t' r' tt Hk q1 q2 wt' Tf tr' tf tk wk stk=>?_,λz=>acq inn z,λk' t' e1 e2 z=>acq (by rw[(one k' t' e1 e2).1];exact ws) z⟩;obtain⟨rfl,rfl⟩:=one k' t' q1 q2;rw[er] at Tf;cases Tf;refine go tt Hk tf ?_ wk stk;rw[tk];unfold Ut Cj;rw[e1,e2]
theorem Aw{CW CH CN CO:Addr}{i:Nat}{τ:Tg}{H:Hp}{W:HX}{S:iV}{h:Int}{Q:VK}{E:XK}{b:Bool}{rest:List Int}(w:lU CW CH i τ H W S)(tl:S.ts.length<=10000)(q:Ef S (some b) (h::rest))(no:b=true->E (.ref CN) none H)(ov:b=false->E (.ref CO) none H):lG CW CH CN CO K [.ref W.o,.int h] H Q E:=by
 refine⟨i,τ,W,S,_,Z,w,tl,λk' t' r' tt Hk q1 q2 wt' _ _ _ _ _ _=>?_,λz=>?_,λk' t' e1 e2 z=>?_⟩
 .cases b with
  | true=>exact acq ⟨by lia,by have:=(aaf.mp q2).1;lia⟩ (show ¬Ac h S.hs.length from q)
  | false=>
    obtain⟨k,s,e,es,nw⟩:=q;have:k=k':=by lia
    subst this;rw[es] at q2;cases q2;exact acq wt' nw
 .cases b with
  | true=>exact no rfl
  | false=>
    obtain⟨k,s,e,es,nw⟩:=q;exact acq ⟨by lia,by have:=(aaf.mp es).1;lia⟩ z
 .cases b with
  | true=>exact acq ⟨by lia,by have:=(aaf.mp e2).1;lia⟩ (show ¬Ac h S.hs.length from q)
  | false=>exact ov rfl
theorem GK{CW CH CN:Addr}{i:Nat}{τ:Tg}{H:Hp}{p L:Addr}{rs:List Addr}{rws:List (List Rw)}{m:Nat}{nv:V}{ns:List Int}{Q:Addr->Hp->Prop}{E:XK}(g:Ak H p L rs rws m)(n8:rws.length<=100)(vC:m<=100)(un:v9 τ H)(i0:i≠0)(nl:ns.length<=100)(hv:(nv = .non/\ns=List.replicate m 0) \/ ∃cl,nv = .ref cl/\H cl=some (.lst (ns.map V.int)))(go:fY m ns -> ∀(τ':Tg)(W:HX)(H':Hp),lU CW CH i τ' H' W (iU m ns rws)->(∀x u,H x=some u->τ' x=τ x)->Same H H'->Q W.o H')(bad:¬fY m ns -> ∀H',Same H H'->E (.ref CN) none H')(o dx:Addr)(ho:H o=none)(hdx:H dx=none)(ndx:dx≠o):
 iH CW CH CN K (.ref o::([.ref p,nv]++[])) (upd (upd H dx (.own o)) o (.ins CW dx [])) (λv H'=>v = .non/\Q o H') E:=by
 have ho':(upd H dx (.own o)) o=none:=by rw[aF ndx.symm];exact ho
 have sm:Same H (upd (upd H dx (.own o)) o (.ins CW dx [])):=(aB hdx).trans (aB ho');refine⟨i,τ,o,dx,p,L,rs,m,nv,ns,rws,Z,ak,sm _ _ g.ep,sm _ _ g.eL,g.len,λkk q' x h1 h2=>(g.row kk q' x h1 h2).same sm,n8,vC,un.same sm,i0,nl, ?_,λgood τ5 W H5 eo w5 tg kp=>⟨Z, ?_⟩,λz H' kp=>bad z H' λx u e=>kp _ _ (sm _ _ e) (aA e ho)⟩
 .rcases hv with h|⟨cl,e,h⟩
  .exact .inl h
  .exact .inr ⟨cl,e,sm _ _ h⟩
 .rw[←eo]
  exact go good τ5 W H5 w5 (λx u e=>tg x u (sm _ _ e) (aA e ho)) (λx u e=>kp _ _ (sm _ _ e) (aA e ho))
noncomputable def wg(H:Hp)(m:Nat)(nv:V)(ns:List Int):Prop:=ns.length<=100/\((nv = .non/\ns=List.replicate m 0) \/ ∃cl,nv = .ref cl/\H cl=some (.lst (ns.map V.int)))
theorem X5{os:List Int}{l:List Tc}{rest:List Int}{j:Nat}{h:Int}(e:os=kI l++rest)(jl:j<=l.length)(hj:os[j]? = some h):(∃t,l[j]? = some t/\h=(t.k:Int))\/(j=l.length /\ ∃r',rest=h::r'):=by
 subst e;rcases Nat.lt_or_eq_of_le jl with q|q
 .rw[aaV (by rw[jf];exact q)] at hj
  unfold kI at hj;rw[aah,aae q] at hj;exact .inl ⟨_,aae q,(aaS hj).symm⟩
 .subst q
  rw[aaU (by rw[jf];lia),jf,Nat.sub_self] at hj;cases rest with
  | nil=>cases hj
  | cons x r=>cases hj;exact .inr ⟨Z,r,Z⟩
theorem ints_get{os:List Int}{j:Nat}{v:V}(h:(os.map V.int)[j]? = some v):∃x,os[j]? = some x/\v = .int x:=by
 rw[aah] at h;cases e:os[j]? with
 | none=>rw[e] at h;cases h
 | some x=>rw[e] at h;exact⟨x,Z,(aaS h).symm⟩
noncomputable def uq(CW CH CN CNo CO:Addr)(K:PySem.W.Frag):Sp:=λvs H Q E=>∃(p L:Addr) (rs:List Addr) (rws:List (List Rw)) (m:Nat) (nv:V) (ns:List Int) (o:Addr) (os:List Int),vs=[.ref p,.ref o,nv]/\Ak H p L rs rws m/\rws.length<=8/\m<=20/\wg H m nv ns/\H o=some (.lst (os.map V.int))/\os.length<=400 /\
 (¬fY m ns -> ∀H',Same H H'->E (.ref CN) none H')/\(fY m ns -> ∃l st,Wk (iU m ns rws) os l st/\(st=none -> ∀(a:Addr)(H':Hp),H a=none->kY H' a (l.map bU)->Same H H'->Q (.ref a) H')/\(st=some true -> ∀H',Same H H'->E (.ref CNo) none H')/\(st=some false -> ∀H',Same H H'->E (.ref CO) none H'))
theorem VD{aC aD aK aP bF:Addr}{f:Addr}{fd:FuncData}(F:HB K "web_of" "web_of" dO [.none] f fd)(jO:nA P w K mg base 7 aC "Works" ["self","program","cells"] [] (iH aC aD aK K))(cW:jP P w K mg base 7 aC "turn" ["self","hand"] (lG aC aD aP bF K))(aQ:fV K aC):bN P w K mg base (qC P w) 9 f fd ["program","order","cells"] (uq aC aD aK aP bF K):=by
 refine F.V4 lW (λvs H Q E h=>?_) (λcdv A outer s H vs Q E hr h hR=>?_)
 .obtain⟨p,L,rs,rws,m,nv,ns,o,os,rfl,_⟩:=h
  rfl
 .obtain⟨p,L,rs,rws,m,nv,ns,o,os,rfl,g,r8,vC,⟨nl,hv⟩,ho,ol,kb,kg⟩:=h
  refine⟨_,(aq (aM (i:=3) lW.nd rfl (Or.inl rfl) (Gj jO rfl hR (hr.mono (by decide)) (by rfl) (aj (pv 0) (aj (pv 2) ao))))
   (aq (aM (i:=4) lW.nd rfl (Or.inl rfl) (bK ao))
   (aq (iy PassesOwn.leaving rfl (dR (K:=K) rfl (pv 1)) (bD (i:=5) lW.nd rfl (Or.inl rfl))
   (aq (aM (i:=6) lW.nd rfl (Or.inl rfl) (oW cW aQ.cls rfl hR (hr.mono (by decide)) (pv 3) (aj (pv 5) ao)))
   (aG (cB (dU (K:=K) rfl (pv 4) (aj (cO (aj (pv 5) (aj (aL (aR (K:=K) rfl) (pv 6) au (λ_ _=>rfl)) (aj (aL (aR (K:=K) rfl) (pv 6) au (λ_ _=>rfl)) ao)))) ao))))))
   (aG (aW (pv 4)))))), ?_⟩
  refine⟨_,Z,_,Z, ?_⟩;dsimp only[lF];refine(GK (i:=2) (τ:=aside 1 H) g (by lia) (by lia) (tR _ _) (by decide) nl hv (λgood τ1 W H1 w1 HW s1=>?_) kb);have HW:∀x u,H x=some u->τ1 x=[1]:=λx u e=>by rw[HW x u e];exact tU e
  obtain⟨l,st,⟨Se,rest,R,eos,stp⟩,k1,k2,k3⟩:=kg good;have ll:l.length<=os.length:=by rw[eos,aaT,jf];lia
  refine⟨(by show 0<=sizeLine;decide),λa ha=>?_⟩;have sa:=aB (o:=HO.lst []) ha;have ta:τ1 a=[]:=w1.un a ha;have ha0:H a=none:=s1.free ha;refine⟨_,Z,o,Z,⟨_,bH.of (sa _ _ (s1 _ _ ho))⟩, ?_⟩
  refine jo (K:=K) (a:=o) (xs:=os.map V.int) (λj σ Hc=>∃(x1 x2:Option V) (S1:iV) (refs:List V),σ=[some (.ref p),some (.ref o),some nv,some (.ref W.o),some (.ref a),x1,x2]/\j<=l.length/\lU aC aD 2 τ1 Hc W S1/\Run (iU m ns rws) (l.take j) S1/\Hc a=some (.lst refs)/\aO Hc refs (((l.take j).map bU).map tD)/\Same H Hc)
   ⟨none,none,_,[],Z,Nat.zero_le _,w1.same sa,by rw[List.take_zero];rfl,ak,by simp[aO],s1.trans sa⟩ (λj σ Hc _ ⟨_,_,_,_,_,_,_,_,_,_,sc⟩=>bH.of (sc _ _ ho)) ?_ ?_
  .rintro j v σ Hc hj ⟨x1,x2,S1,refs,rfl,jl,wc,R1,eac,dc,sc⟩
   obtain⟨h,eh,rfl⟩:=ints_get hj;have tl:S1.ts.length<=10000:=by rw[uL R1];show ([]++_).length<=_;simp;lia
   refine⟨_,Z,W.o,W.dx,_,Z,wc.o,Z,_,Z, ?_⟩;dsimp only[lF];rcases X5 eos jl eh with ⟨t,et,rfl⟩|⟨rfl,r',er⟩
   .have jl:=(aaf.mp et).1
    obtain⟨at1,R2⟩:=Iz R R1 et;refine um wc tl at1 λq Hd hq eq wd st=>?_;have ead:=st.keep _ _ eac (by rw[ta];simp);refine⟨_,Z,.inl ⟨Z,_,bH.of ead⟩,_,Z,_,Z,_,_,_,_,Z,Z,cA.of eq,Z,_,Z,_,_,_,_,Z,Z,cA.of eq,Z,(by show 3<=sizeLine;decide),λu hu=>?_⟩;have su:=aB (o:=HO.tup [V.int (t.k:Int),V.str (qI t.r),V.int (gj t.r)]) hu;have eau:=su _ _ ead;have eu:(upd Hd u (.tup [V.int (t.k:Int),V.str (qI t.r),V.int (gj t.r)])) u=some (.tup [V.int (t.k:Int),V.str (qI t.r),V.int (gj t.r)]):=ak;have wu:=wd.same su;have du:=(dc.keep (λx xs e=>su _ _ (st.tup _ _ e)) _ (cj tD Dv _));have scu:Same H (upd Hd u (.tup [V.int (t.k:Int),V.str (qI t.r),V.int (gj t.r)])):=λx o' e=>su _ _ (st.keep _ _ (sc _ _ e) (by rw[HW x o' e];simp));generalize (upd Hd u (.tup [V.int (t.k:Int),V.str (qI t.r),V.int (gj t.r)]))=He at eau eu wu du scu ⊢;have rl:refs.length=j:=by rw[dc.length,aad,aad,abe];lia
    refine⟨_,_,_,Z,Z,eau,(by rw[rl,sizeLine_eq];lia), ?_⟩;have kk:Kp a He (upd He a (.lst (refs++[V.ref u]))):=Kp.set;have tu:∀x ys,He x=some (.tup ys)->(upd He a (.lst (refs++[V.ref u]))) x=some (.tup ys):=kk.tups eau;refine⟨_,_,_,refs++[.ref u],Z,jl,wu.kp kk eau (by intro xs z;cases z) ta ⟨_,ak⟩,R2,ak, ?_,λx o' e=>kk _ _ (scu _ _ e) (aA e ha0)⟩;rw[aa6,et];show aO _ _ ((((l.take j)++[t]).map bU).map tD);rw[aaY,aaY];exact uZ (du.keep tu _ (cj tD Dv _)) (W0 (x:=bU t) (tu _ _ eu))
   .rw[aa4] at R1
    have:=R1.det R;subst this;subst er;cases st with
    | none=>exact stp.elim
    | some b=>exact Aw wc tl stp (λe=>k2 (by rw[e]) _ sc) (λe=>k3 (by rw[e]) _ sc)
  .rintro σ Hc ⟨x1,x2,S1,refs,rfl,jl,wc,R1,eac,dc,sc⟩
   rw[aad] at jl dc;have el:os.length=l.length:=by lia
   have er:rest=[]:=by
    rw[eos,aaT,jf] at el;exact List.eq_nil_of_length_eq_zero (by lia)
   subst er
   have es:st=none:=by
    cases st with
    | none=>rfl
    | some b=>cases b<;>exact stp.elim
   rw[el,aa4] at dc;exact⟨_,Z,k1 es a Hc ha0 ⟨refs,eac,dc⟩ sc⟩
theorem rQ(a b:Int){z:Int}(h0:0<=z)(h1:z<2):∃v,rJ [V.int a,V.int b] z=some (V.int v)/\(v=a\/v=b):=by
 have:z=0\/z=1:=by lia
 rcases this with rfl|rfl
 .exact⟨a,Z,.inl rfl⟩
 .exact⟨b,Z,.inr rfl⟩
noncomputable def Fv(K:PySem.W.Frag):Sp:=λvs H Q _=>∃(r b:Addr) (n:Nat),vs=[.ref r]/\bV H r b n/\n<500000000000 /\ ∀(v:V)(x:Qc)(H':Hp),Dat H' v (Aq x)->Qg x->bV H' r b (n+3)->Kp r H H'->Q v H'
theorem N8{f:Addr}{fd:FuncData}(F:gP K "_law_plain" "_law_plain" yh f fd)(bf:FnAt P w K mg base 2 "_law_draw" ["bag","many"] (iu K)):bN P w K mg base iY 3 f fd ["bag"] (Fv K):=by
 refine F.ok Nk (λvs H Q E h=>?_) (λcdv A outer s H vs Q E hr h=>?_)
 .obtain⟨r,b,n,rfl,_⟩:=h
  rfl
 .obtain⟨r,b,n,rfl,B0,hn,k⟩:=h
  refine⟨_,(aq (bQ (aU cH (aX bf (hr.mono (by decide)) (by rfl) (aj (pv 0) (aj au ao))) au (aV _)) (aG (aW (cO (aj bw (aj (aL (aN (K:=K) rfl) (bK (aj au (aj au (aj au (aj (aX bf (hr.mono (by decide)) (by rfl) (aj (pv 0) (aj au ao))) ao))))) (aX bf (hr.mono (by decide)) (by rfl) (aj (pv 0) (aj au ao))) (λ_ _=>rfl)) ao))))) bh)
   (aG (aW (cO (aj bw (aj (aL Sg bw (aX bf (hr.mono (by decide)) (by rfl) (aj (pv 0) (aj (aL (aN (K:=K) rfl) (bK (aj au (aj au ao))) (aX bf (hr.mono (by decide)) (by rfl) (aj (pv 0) (aj au ao))) (λ_ _=>rfl)) ao))) (λ_ _=>rfl)) ao)))))), ?_⟩
  refine⟨_,Z,r,b,2,n,Z,B0,by lia,by decide,by decide,λz H1 z0 z1 B1 k1=>⟨Z,_,Z, ?_⟩⟩;refine bJ (λ_=>?_) (λ_=>?_)
  .refine⟨_,Z,r,b,1000,_,Z,B1,by lia,by decide,by decide,λq H2 q0 q1 B2 k2=>?_⟩
   refine⟨(by show 4<=sizeLine;decide),λl hl=>?_⟩;have sl:=aB (o:=HO.lst [V.int 0,V.int 1,V.int 999,V.int q]) hl;obtain⟨zR,_⟩:=B2.ne hl;refine⟨_,Z,r,b,4,_,Z,B2.keep sl,by lia,by decide,by decide,λy H3 y0 y1 B3 k3=>?_⟩
   obtain⟨m,em,m1⟩:∃m:Int,rJ [V.int 0,V.int 1,V.int 999,V.int q] y=some (.int m)/\(0<=m/\m<1000):=by
    have:y=0\/y=1\/y=2\/y=3:=by lia
    rcases this with rfl|rfl|rfl|rfl
    .exact⟨0,Z,by decide,by decide⟩
    .exact⟨1,Z,by decide,by decide⟩
    .exact⟨999,Z,by decide,by decide⟩
    .exact⟨q,Z,q0,q1⟩
   refine⟨_,_,_,_,Z,Z,bH.of (k3 _ _ ak zR),em, ?_⟩;refine⟨(by show 2<=sizeLine;decide),λp hp=>?_⟩;have sp:=aB (o:=HO.tup [V.str (Str.ofString "number"),V.int m]) hp;exact k _ (.num m) _ (Tz (x:= .num m) ak) m1 ((B3.keep sp)) ((((k1.trans k2).trans (.of_same sl)).trans k3).trans (.of_same sp))
  .refine⟨_,Z,(by show 2<=sizeLine;decide),λl hl=>?_⟩
   have sl:=aB (o:=HO.lst [V.int 2,V.int 8]) hl;obtain⟨zR,_⟩:=B1.ne hl;refine⟨_,Z,r,b,2,_,Z,B1.keep sl,by lia,by decide,by decide,λy H2 y0 y1 B2 k2=>?_⟩;obtain⟨m,em,hm⟩:=rQ 2 8 y0 y1;refine⟨_,_,_,_,Z,Z,bH.of (k2 _ _ ak zR),em,r,b,m,_,Z,B2,by lia,by lia,by lia,λi H3 i0 i1 B3 k3=>?_⟩;refine⟨_,_,_,Z,Z,Mw,Mr i0 (by lia),(by show 2<=sizeLine;decide),λp hp=>?_⟩;have sp:=aB (o:=HO.tup [V.str (Str.ofString "box"),V.str (tZ i.toNat)]) hp;exact k _ (.box i.toNat) _ (Tz (x:= .box i.toNat) ak) (by show i.toNat<8;lia) ((B3.keep sp).mono (by lia)) ((((k1.trans (.of_same sl)).trans k2).trans k3).trans (.of_same sp))
noncomputable def Fq(K:PySem.W.Frag):Sp:=λvs H Q _=>∃(r b:Addr) (n:Nat),vs=[.ref r]/\bV H r b n/\n<400000000000 /\ ∀(v:V)(e:HN)(H':Hp),Dat H' v (mJ e)->uX e->bV H' r b (n+7)->Kp r H H'->Q v H'
theorem Nz{f:Addr}{fd:FuncData}(F:gP K "_law_worth" "_law_worth" yd f fd)(bf:FnAt P w K mg base 2 "_law_draw" ["bag","many"] (iu K))(HJ:FnAt P w K mg base 3 "_law_plain" ["bag"] (Fv K)):bN P w K mg base iY 4 f fd ["bag"] (Fq K):=by
 refine F.ok uE (λvs H Q E h=>?_) (λcdv A outer s H vs Q E hr h=>?_)
 .obtain⟨r,b,n,rfl,_⟩:=h
  rfl
 .obtain⟨r,b,n,rfl,B0,hn,k⟩:=h
  refine⟨_,(aq (aM (i:=1) uE.nd rfl (Or.inl rfl) (aX bf (hr.mono (by decide)) (by rfl) (aj (pv 0) (aj au ao))))
   (aq (aM (i:=2) uE.nd rfl (Or.inl rfl) (aX HJ (hr.mono (by decide)) (by rfl) (aj (pv 0) ao)))
   (aq (bQ (aU oZ (pv 1) au (aV _)) (aG (aW (pv 2))) bh)
   (aG (aW (cO (aj (aL (aN (K:=K) rfl) (bK (aj bw (aj bw ao))) (bA lN (pv 1) au) (λ_ _=>rfl)) (aj (pv 2) (aj (aX HJ (hr.mono (by decide)) (by rfl) (aj (pv 0) ao)) ao))))))))), ?_⟩
  refine⟨_,Z,r,b,4,n,Z,B0,by lia,by decide,by decide,λz H1 z0 z1 B1 k1=>?_⟩;refine⟨_,Z,r,b,_,Z,B1,by lia,λv x H2 dx xo B2 k2=>?_⟩;refine⟨_,Z,_,_,Z,Z,_,Z, ?_⟩;have k12:=k1.trans k2;refine bJ (λ_=>?_) (λzz=>?_)
  .exact⟨_,Z,k v (.one x) H2 dx xo (B2.mono (by lia)) k12⟩
  have z2:2<=z:=by simp at zz;lia
  refine⟨(by show 2<=sizeLine;decide),λl hl=>?_⟩;have sl:=aB (o:=HO.lst [V.str (Str.ofString "plus"),V.str (Str.ofString "minus")]) hl
  obtain⟨q,eq⟩:∃q:Bool,rJ [V.str (Str.ofString "plus"),V.str (Str.ofString "minus")] (z - 2)=some (.str (if q then "plus" else "minus")):=by
   have:z=2\/z=3:=by lia
   rcases this with rfl|rfl
   .exact⟨true,Z⟩
   .exact⟨false,Z⟩
  refine⟨_,Z,_,_,Z,Z,_,_,_,_,Z,Z,bH.of ak,eq, ?_⟩;have B3:=B2.keep sl;refine⟨_,Z,_,Z,r,b,_,Z,B3,by lia,λu y H4 dy yo B4 k4=>?_⟩;refine⟨(by show 3<=sizeLine;decide),λp hp=>?_⟩;have sp:=aB (o:=HO.tup [V.str (if q then "plus" else "minus"),v,u]) hp;have dx4:=dx.keep (λa xs e=>sp _ _ (B3.tups k4 _ _ (sl _ _ e))) _ (Jv x);exact k _ (.two q x y) _ (WY ak dx4 (dy.same sp _)) ⟨xo,yo⟩ (B4.keep sp) (((k12.trans (.of_same sl)).trans k4).trans (.of_same sp))
noncomputable def Ci:List V:=[.str "load",.str "store",.str "swap",.str "load",.str "store",.str "swap",.str "let",.str "say",.str "go",.str "unless"]
theorem MJ{z:Int}(h0:0<=z)(h1:z<10):∃wd:Str,rJ Ci z=some (.str wd)/\(wd = "load" \/ wd = "store" \/ wd = "swap" \/ wd = "let" \/ wd = "say" \/ wd = "go" \/ wd = "unless"):=by
 have:z=0\/z=1\/z=2\/z=3\/z=4\/z=5\/z=6\/z=7\/z=8\/z=9:=by lia
 rcases this with rfl|rfl|rfl|rfl|rfl|rfl|rfl|rfl|rfl|rfl
 .exact⟨_,Z,.inl rfl⟩
 .exact⟨_,Z,.inr (.inl rfl)⟩
 .exact⟨_,Z,.inr (.inr (.inl rfl))⟩
 .exact⟨_,Z,.inl rfl⟩
 .exact⟨_,Z,.inr (.inl rfl)⟩
 .exact⟨_,Z,.inr (.inr (.inl rfl))⟩
 .exact⟨_,Z,.inr (.inr (.inr (.inl rfl)))⟩
 .exact⟨_,Z,.inr (.inr (.inr (.inr (.inl rfl))))⟩
 .exact⟨_,Z,.inr (.inr (.inr (.inr (.inr (.inl rfl)))))⟩
 .exact⟨_,Z,.inr (.inr (.inr (.inr (.inr (.inr rfl)))))⟩
noncomputable def Qz(K:PySem.W.Frag):Sp:=λvs H Q _=>∃(r b:Addr) (m sz n:Nat),vs=[.ref r,.int m,.int sz]/\bV H r b n/\n<300000000000/\sz<=100/\0<m/\m<=20 /\ ∀(v:V)(x:Rw)(H':Hp),Dat H' v (lR x)->uK m x->bV H' r b (n+40)->Kp r H H'->Q v H'
theorem VR{f:Addr}{fd:FuncData}(F:gP K "_law_row" "_law_row" Iu f fd)(bf:FnAt P w K mg base 2 "_law_draw" ["bag","many"] (iu K))(mG:FnAt P w K mg base 4 "_law_worth" ["bag"] (Fq K)):bN P w K mg base iY 5 f fd ["bag","size","rows"] (Qz K):=by
 refine F.ok sJ (λvs H Q E h=>?_) (λcdv A outer s H vs Q E hr h=>?_)
 .obtain⟨r,b,m,sz,n,rfl,_⟩:=h
  rfl
 .obtain⟨r,b,m,sz,n,rfl,B0,hn,z1,m0,m1,k⟩:=h
  refine⟨_,(aq (aM (i:=3) sJ.nd rfl (Or.inl rfl) (aL (aN (K:=K) rfl) (@Vz _ _ _ ["load","store","swap","load","store","swap","let","say","go","unless"] (by decide +kernel)) (aX bf (hr.mono (by decide)) (by rfl) (aj (pv 0) (aj au ao))) (λ_ _=>rfl)))
   (aq (aM (i:=4) sJ.nd rfl (Or.inl rfl) (aL Sg bw (aX bf (hr.mono (by decide)) (by rfl) (aj (pv 0) (aj (aL (aN (K:=K) rfl) (bK (aj au (aj au ao))) (aX bf (hr.mono (by decide)) (by rfl) (aj (pv 0) (aj au ao))) (λ_ _=>rfl)) ao))) (λ_ _=>rfl)))
   (aq (aM (i:=5) sJ.nd rfl (Or.inl rfl) (aX bf (hr.mono (by decide)) (by rfl) (aj (pv 0) (aj (pv 1) ao))))
   (aq (aM (i:=6) sJ.nd rfl (Or.inl rfl) (aX bf (hr.mono (by decide)) (by rfl) (aj (pv 0) (aj (bA cX (pv 2) au) ao))))
   (aq (bQ (aU cH (pv 3) bw (aV _)) (aG (aW (cO (aj bw (aj (pv 4) (aj (pv 5) ao)))))) bh)
   (aq (bQ (aU cH (pv 3) bw (aV _)) (aG (aW (cO (aj bw (aj (pv 5) (aj (aX mG (hr.mono (by decide)) (by rfl) (aj (pv 0) ao)) ao)))))) bh)
   (aq (bQ (aU cH (pv 3) bw (aV _)) (aG (aW (cO (aj bw (aj (pv 4) (aj (pv 5) (aj (aX mG (hr.mono (by decide)) (by rfl) (aj (pv 0) ao)) ao))))))) bh)
   (aq (bQ (aU cH (pv 3) bw (aV _)) (aG (aW (cO (aj bw (aj (pv 4) (aj (aX mG (hr.mono (by decide)) (by rfl) (aj (pv 0) ao)) ao)))))) bh)
   (aq (bQ (aU cH (pv 3) bw (aV _)) (aG (aW (cO (aj bw (aj (aX mG (hr.mono (by decide)) (by rfl) (aj (pv 0) ao)) ao))))) bh)
   (aq (bQ (aU cH (pv 3) bw (aV _)) (aG (aW (cO (aj bw (aj (pv 6) ao))))) bh)
   (aG (aW (cO (aj bw (aj (aL (aN (K:=K) rfl) (bK (aj bw (aj bw ao))) (aX bf (hr.mono (by decide)) (by rfl) (aj (pv 0) (aj au ao))) (λ_ _=>rfl)) (aj (aX mG (hr.mono (by decide)) (by rfl) (aj (pv 0) ao)) (aj (aX mG (hr.mono (by decide)) (by rfl) (aj (pv 0) ao)) (aj (pv 6) ao)))))))))))))))))), ?_⟩
  refine⟨(by show 10<=sizeLine;decide),λl hl=>?_⟩;have sl:=aB (o:=HO.lst Ci) hl;obtain⟨zR,_⟩:=B0.ne hl;refine⟨_,Z,r,b,10,n,Z,B0.keep sl,by lia,by decide,by decide,λkd H1 kd0 kd1 B1 k1=>?_⟩;obtain⟨wd,ew,hw⟩:=MJ kd0 kd1;refine⟨_,_,_,_,Z,Z,bH.of (k1 _ _ (show upd H l (.lst Ci) l=some (.lst Ci) from ak) zR),ew, ?_⟩;refine⟨_,Z,(by show 2<=sizeLine;decide),λl' hl'=>?_⟩;have sl':=aB (o:=HO.lst [V.int 2,V.int 8]) hl';obtain⟨RW,_⟩:=B1.ne hl';refine⟨_,Z,r,b,2,_,Z,B1.keep sl',by lia,by decide,by decide,λy H2 y0 y1 B2 k2=>?_⟩;obtain⟨bx,eb,hbx⟩:=rQ 2 8 y0 y1;refine⟨_,_,_,_,Z,Z,bH.of (k2 _ _ ak RW),eb,r,b,bx,_,Z,B2,by lia,by lia,by lia,λi H3 i0 i1 B3 k3=>?_⟩;refine⟨_,_,_,Z,Z,Mw,Mr i0 (by lia), ?_⟩;refine⟨_,Z,_,Z,r,b,m,_,Z,B3,by lia,by lia,by lia,λc H4 c0 c1 B4 k4=>?_⟩;obtain⟨c,rfl⟩:=abQ c0;refine⟨_,Z,_,Z,_,_,Z,Z,r,b,_,_,Z,B4,by lia,by lia,by lia,λto H5 t0 t1 B5 k5=>?_⟩;obtain⟨to,rfl⟩:=abQ t0;have K5:Kp r H H5:=((((((Kp.of_same sl).trans k1).trans (Kp.of_same sl')).trans k2).trans k3).trans k4).trans k5;have ib:i.toNat<8:=by lia
  have cm:c<m:=by lia
  clear k1 k2 k3 k4 k5 B1 B2 B3 B4 sl sl' zR RW eb ew hl hl';rcases hw with rfl|rfl|rfl|rfl|rfl|rfl|rfl
  .refine⟨_,Z,Z,_,Z,bJ (λ_=>?_) (λz=>acq (aaN rfl) z)⟩
   refine⟨_,Z,_,Z,(by show 3<=sizeLine;decide),λp hp=>?_⟩;have sp:=aB (o:=HO.tup [V.str (Str.ofString "load"),V.str (tZ i.toNat),V.int c]) hp;exact k _ (.load i.toNat c) _ (TJ ak) ⟨ib,cm⟩ ((B5.keep sp).mono (by lia)) (K5.trans (.of_same sp))
  .refine⟨_,Z,Z,_,Z,bJ (λz=>acq (aaP z) (by decide)) (λ_=>?_)⟩
   refine⟨_,Z,Z,_,Z,bJ (λ_=>?_) (λz=>acq (aaN rfl) z)⟩;refine⟨_,Z,_,Z,r,b,_,Z,B5,by lia,λv e H6 d eo B6 k6=>?_⟩;refine⟨(by show 3<=sizeLine;decide),λp hp=>?_⟩;have sp:=aB (o:=HO.tup [V.str (Str.ofString "store"),V.int c,v]) hp;exact k _ (.store c e) _ (O7 ak (d.same sp _)) ⟨cm,eo⟩ ((B6.keep sp).mono (by lia)) ((K5.trans k6).trans (.of_same sp))
  .refine⟨_,Z,Z,_,Z,bJ (λz=>acq (aaP z) (by decide)) (λ_=>?_)⟩
   refine⟨_,Z,Z,_,Z,bJ (λz=>acq (aaP z) (by decide)) (λ_=>?_)⟩;refine⟨_,Z,Z,_,Z,bJ (λ_=>?_) (λz=>acq (aaN rfl) z)⟩;refine⟨_,Z,_,Z,_,Z,r,b,_,Z,B5,by lia,λv e H6 d eo B6 k6=>?_⟩;refine⟨(by show 4<=sizeLine;decide),λp hp=>?_⟩;have sp:=aB (o:=HO.tup [V.str (Str.ofString "swap"),V.str (tZ i.toNat),V.int c,v]) hp;exact k _ (.swap i.toNat c e) _ (TF ak (d.same sp _)) ⟨ib,cm,eo⟩ ((B6.keep sp).mono (by lia)) ((K5.trans k6).trans (.of_same sp))
  .refine⟨_,Z,Z,_,Z,bJ (λz=>acq (aaP z) (by decide)) (λ_=>?_)⟩
   refine⟨_,Z,Z,_,Z,bJ (λz=>acq (aaP z) (by decide)) (λ_=>?_)⟩;refine⟨_,Z,Z,_,Z,bJ (λz=>acq (aaP z) (by decide)) (λ_=>?_)⟩;refine⟨_,Z,Z,_,Z,bJ (λ_=>?_) (λz=>acq (aaN rfl) z)⟩;refine⟨_,Z,_,Z,r,b,_,Z,B5,by lia,λv e H6 d eo B6 k6=>?_⟩;refine⟨(by show 3<=sizeLine;decide),λp hp=>?_⟩;have sp:=aB (o:=HO.tup [V.str (Str.ofString "let"),V.str (tZ i.toNat),v]) hp;exact k _ (.vW i.toNat e) _ (W6 ak (d.same sp _)) ⟨ib,eo⟩ ((B6.keep sp).mono (by lia)) ((K5.trans k6).trans (.of_same sp))
  .refine⟨_,Z,Z,_,Z,bJ (λz=>acq (aaP z) (by decide)) (λ_=>?_)⟩
   refine⟨_,Z,Z,_,Z,bJ (λz=>acq (aaP z) (by decide)) (λ_=>?_)⟩;refine⟨_,Z,Z,_,Z,bJ (λz=>acq (aaP z) (by decide)) (λ_=>?_)⟩;refine⟨_,Z,Z,_,Z,bJ (λz=>acq (aaP z) (by decide)) (λ_=>?_)⟩;refine⟨_,Z,Z,_,Z,bJ (λ_=>?_) (λz=>acq (aaN rfl) z)⟩;refine⟨_,Z,r,b,_,Z,B5,by lia,λv e H6 d eo B6 k6=>?_⟩;refine⟨(by show 2<=sizeLine;decide),λp hp=>?_⟩;have sp:=aB (o:=HO.tup [V.str (Str.ofString "say"),v]) hp;exact k _ (.say e) _ (W4 ak (d.same sp _)) eo ((B6.keep sp).mono (by lia)) ((K5.trans k6).trans (.of_same sp))
  .refine⟨_,Z,Z,_,Z,bJ (λz=>acq (aaP z) (by decide)) (λ_=>?_)⟩
   refine⟨_,Z,Z,_,Z,bJ (λz=>acq (aaP z) (by decide)) (λ_=>?_)⟩;refine⟨_,Z,Z,_,Z,bJ (λz=>acq (aaP z) (by decide)) (λ_=>?_)⟩;refine⟨_,Z,Z,_,Z,bJ (λz=>acq (aaP z) (by decide)) (λ_=>?_)⟩;refine⟨_,Z,Z,_,Z,bJ (λz=>acq (aaP z) (by decide)) (λ_=>?_)⟩;refine⟨_,Z,Z,_,Z,bJ (λ_=>?_) (λz=>acq (aaN rfl) z)⟩;refine⟨_,Z,(by show 2<=sizeLine;decide),λp hp=>?_⟩;have sp:=aB (o:=HO.tup [V.str (Str.ofString "go"),V.int to]) hp;exact k _ (.go to) _ (aan ak) trivial ((B5.keep sp).mono (by lia)) (K5.trans (.of_same sp))
  .refine⟨_,Z,Z,_,Z,bJ (λz=>acq (aaP z) (by decide)) (λ_=>?_)⟩
   refine⟨_,Z,Z,_,Z,bJ (λz=>acq (aaP z) (by decide)) (λ_=>?_)⟩;refine⟨_,Z,Z,_,Z,bJ (λz=>acq (aaP z) (by decide)) (λ_=>?_)⟩;refine⟨_,Z,Z,_,Z,bJ (λz=>acq (aaP z) (by decide)) (λ_=>?_)⟩;refine⟨_,Z,Z,_,Z,bJ (λz=>acq (aaP z) (by decide)) (λ_=>?_)⟩;refine⟨_,Z,Z,_,Z,bJ (λz=>acq (aaP z) (by decide)) (λ_=>?_)⟩;refine⟨(by show 2<=sizeLine;decide),λl2 hl2=>?_⟩;have sl2:=aB (o:=HO.lst [V.str (Str.ofString "="),V.str (Str.ofString "<")]) hl2;obtain⟨nl2,_⟩:=B5.ne hl2;refine⟨_,Z,r,b,2,_,Z,B5.keep sl2,by lia,by decide,by decide,λq H6 q0 q1 B6 k6=>?_⟩
   obtain⟨sg,esg⟩:∃sg:Bool,rJ [V.str (Str.ofString "="),V.str (Str.ofString "<")] q=some (.str (if sg then "=" else "<")):=by
    have:q=0\/q=1:=by lia
    rcases this with rfl|rfl
    .exact⟨true,Z⟩
    .exact⟨false,Z⟩
   refine⟨_,_,_,_,Z,Z,bH.of (k6 _ _ ak nl2),esg, ?_⟩;refine⟨_,Z,r,b,_,Z,B6,by lia,λv e H7 d eo B7 k7=>?_⟩;refine⟨_,Z,r,b,_,Z,B7,by lia,λu f H8 d' fo B8 k8=>?_⟩;refine⟨_,Z,(by show 5<=sizeLine;decide),λp hp=>?_⟩;have sp:=aB (o:=HO.tup [V.str (Str.ofString "unless"),V.str (if sg then "=" else "<"),v,u,V.int to]) hp;have d8:=d.keep (λa xs e=>sp _ _ (B7.tups k8 _ _ e)) _ (uV e);exact k _ (.zW sg e f to) _ (WX ak d8 (d'.same sp _)) ⟨eo,fo⟩ ((B8.keep sp).mono (by lia)) ((((K5.trans (.of_same sl2)).trans k6).trans (k7.trans k8)).trans (.of_same sp))
noncomputable def dr(r:Addr)(H:Hp):Hp:=λx=>if x=r then none else H x
theorem fJ{r:Addr}{H:Hp}:Same (dr r H) H:=λx o e=>by
 unfold dr at e
 by_cases z:x=r
 .rw[ab9 z] at e;cases e
 .rw[ab6 z] at e;exact e
theorem mC{r x:Addr}{H:Hp}{o:HO}(e:H x=some o)(n:x≠r):dr r H x=some o:=by unfold dr;rw[ab6 n];exact e
theorem zm{r x:Addr}{H:Hp}{o:HO}(e:dr r H x=some o):x≠r:=λz=>by
 unfold dr at e;rw[ab9 z] at e;cases e
theorem Kp.dr{r:Addr}{H H':Hp}(k:Kp r H H'):Same (dr r H) (dr r H'):=λx o e=>mC (k _ _ (fJ _ _ e) (zm e)) (zm e)
theorem Same.dr{r:Addr}{H H':Hp}(k:Same H H'):Same (dr r H) (dr r H'):=Kp.dr (Kp.of_same k)
theorem Tr{r:Addr}{H:Hp}{ys:List V}(hr:H r=some (.lst ys)):∀x xs,H x=some (.tup xs)->dr r H x=some (.tup xs):=λx xs e=>mC e (cD e hr (by intro z;cases z))
theorem dW.dr{r q:Addr}{H:Hp}{m:Nat}{x:List Rw}{ys:List V}(h:dW H q m x)(hr:H r=some (.lst ys))(n:q≠r):dW (dr r H) q m x:=h.keep (λo e=>mC e n) (Tr hr)
noncomputable def KQ(K:PySem.W.Frag):Sp:=λvs H Q _=>∃(r b:Addr) (m n:Nat),vs=[.ref r,.int m]/\bV H r b n/\n<200000000000/\0<m/\m<=20 /\ ∀(D:Addr)(x:List Rw)(H':Hp),H D=none->dW H' D m x->x.length<=60->bV H' r b (n+2500)->Kp r H H'->Q (.ref D) H'
theorem QG{z:Int}(h0:0<=z)(h1:z<7):∃v:Int,rJ [V.int 5,V.int 9,V.int 3,V.int 9,V.int 0,V.int 21,V.int 60] z=some (.int v)/\0<=v/\v<=60:=by
 have:z=0\/z=1\/z=2\/z=3\/z=4\/z=5\/z=6:=by lia
 rcases this with rfl|rfl|rfl|rfl|rfl|rfl|rfl
 .exact⟨5,Z,by decide,by decide⟩
 .exact⟨9,Z,by decide,by decide⟩
 .exact⟨3,Z,by decide,by decide⟩
 .exact⟨9,Z,by decide,by decide⟩
 .exact⟨0,Z,by decide,by decide⟩
 .exact⟨21,Z,by decide,by decide⟩
 .exact⟨60,Z,by decide,by decide⟩
theorem RJ{f:Addr}{fd:FuncData}(F:gP K "_law_hand" "_law_hand" C_ f fd)(bf:FnAt P w K mg base 2 "_law_draw" ["bag","many"] (iu K))(aaD:FnAt P w K mg base 5 "_law_row" ["bag","size","rows"] (Qz K))(Bt:rN mg):bN P w K mg base iY 6 f fd ["bag","size"] (KQ K):=by
 refine F.ok xZ (λvs H Q E h=>?_) (λcdv A outer s H vs Q E hr h=>?_)
 .obtain⟨r,b,m,n,rfl,_⟩:=h
  rfl
 .obtain⟨r,b,m,n,rfl,B0,hn,m0,m1,k⟩:=h
  refine⟨_,(aq (aM (i:=2) xZ.nd rfl (Or.inr rfl) (aL (aN (K:=K) rfl) (bK (aj au (aj au (aj au (aj au (aj au (aj au (aj au ao)))))))) (aX bf (hr.mono (by decide)) (by rfl) (aj (pv 0) (aj au ao))) (λ_ _=>rfl)))
   (aq (aM (i:=2) xZ.nd rfl (Or.inr rfl) (aX bf (hr.mono (by decide)) (by rfl) (aj (pv 0) (aj (bA cX (pv 2) au) ao))))
   (aG (aW (h_ rfl (N:=["at","bag","size","rows"]) (own:=["at"]) (caps:=[0,1,2]) (bC.of (by kernel_rfl)) (je (by rfl) Bt.ji (aj (pv 2) ao)) (λ_ _ _ _=>(bD (i:=0) (show List.Nodup (["at","bag","size","rows"]:List Str) by decide +kernel) rfl (Or.inl rfl))) (λ_ _ _ _=>gH) (λ_ _ _ _=>(aX aaD (hr.mono (by decide)) (by rfl) (aj (pv 1) (aj (pv 2) (aj (pv 3) ao)))))))))), ?_⟩
  refine⟨(by show 7<=sizeLine;decide),λl hl=>?_⟩;have sl:=aB (o:=HO.lst [V.int 5,V.int 9,V.int 3,V.int 9,V.int 0,V.int 21,V.int 60]) hl;obtain⟨zR,_⟩:=B0.ne hl;refine⟨_,Z,r,b,7,n,Z,B0.keep sl,by lia,by decide,by decide,λy H1 y0 y1 B1 k1=>?_⟩;obtain⟨z,ez,z0,z1⟩:=QG y0 y1;refine⟨_,_,_,_,Z,Z,bH.of (k1 _ _ ak zR),ez, ?_⟩;refine⟨_,Z,_,Z,_,_,Z,Z,r,b,_,_,Z,B1,by lia,by lia,by lia,λsz H2 s0 s1 B2 k2=>?_⟩;obtain⟨sz,rfl⟩:=abQ s0;have K2:Kp r H H2:=((Kp.of_same sl).trans k1).trans k2;refine⟨_,Z,_,Z,by lia,by lia,λD hD=>?_⟩;have sD:=aB (o:=HO.lst []) hD;obtain⟨Dq,ZG⟩:=B2.ne hD
  have Ww:H D=none:=by
   cases e:H D with
   | none=>rfl
   | some o=>rw[K2 _ _ e Dq] at hD;cases hD
  refine nu (lo:=0) (n:=sz) (λi σ Hd=>∃(v:Option V) (refs:List V) (x:List Rw),σ=[v,some (.ref r),some (.int m),some (.int sz)]/\bV Hd r b (n+2+40*i)/\Hd D=some (.lst refs)/\aO Hd refs (x.map lR)/\(∀y∈x,uK m y)/\x.length=i/\Kp r H Hd) ?_ ?_ ?_
  .exact⟨none,[],[],Z,B2.keep sD,ak,by simp[aO],by simp,Z,K2.trans (.of_same sD)⟩
  .rintro i σ Hd hi ⟨v,refs,x,rfl,Bd,Jz,dd,od,ld,kd⟩
   dsimp only[iK,Fp];rw[ab9 rfl];refine⟨_,Z,_,Z,_,Z,r,b,m,sz,_,Z,Bd,by lia,by lia,m0,m1,λu w' H5 du wo B5 k5=>?_⟩;have hD5:=k5 _ _ Jz Dq;have t5:=Bd.tups k5;have tu:∀a ys,H5 a=some (.tup ys)->(upd H5 D (.lst (refs++[u]))) a=some (.tup ys):=λa ys e=>by rw[aF (cD e hD5 (by intro z;cases z))];exact e
   have ll:refs.length=x.length:=by rw[dd.length,aad]
   refine⟨refs,hD5,(by rw[ll,sizeLine_eq];lia),_,refs++[u],x++[w'],Z,(B5.kp Kp.set Dq.symm ZG.symm).mono (by lia),ak, ?_, ?_,by simp[ld], ?_⟩
   .rw[aaY]
    exact uZ ((dd.kp t5).kp tu) (du.keep tu _ (yS w'))
   .intro q hq
    rcases aa2.mp hq with hq|hq
    .exact od q hq
    .rw[List.mem_singleton.mp hq];exact wo
   .intro x' o e n'
    rw[aF (aA e Ww)];exact k5 _ _ (kd _ _ e n') n'
  .rintro σ Hd ⟨v,refs,x,rfl,Bd,Jz,dd,od,ld,kd⟩
   exact k D x Hd Ww ⟨refs,Jz,dd,od,by lia⟩ (by lia) (Bd.mono (by lia)) kd
theorem bV.stp{τ:Tg}{i:Nat}{H H':Hp}{r b:Addr}{n:Nat}(h:bV H r b n)(k:Xj i τ H H')(t1:(τ r).head?≠some i)(t2:(τ b).head?≠some i):bV H' r b n:=by
 obtain⟨ns,i,f,c,t,e1,e2,q⟩:=h;exact⟨ns,i,f,c,t,k.keep _ _ e1 t1,k.keep _ _ e2 t2,q⟩
noncomputable def Kz(K:PySem.W.Frag):Sp:=λvs H Q _=>∃(r b:Addr) (n:Nat),vs=[.ref r]/\bV H r b n/\n<100000000000 /\ ∀(p L:Addr)(rs:List Addr)(rws:List (List Rw))(m:Nat)(H':Hp),Ak (dr r H') p L rs rws m->1<=rws.length->rws.length<=8->0<m->m<=20->bV H' r b (n+25000)->Kp r H H'->Q (.ref p) H'
theorem Tp{e z:Int}(h0:0<=z)(h1:z<8)(e0:0<=e)(e1:e<4):∃v:Int,rJ [V.int 2,V.int 3,V.int 2,V.int 4,V.int 3,V.int 2,V.int 1,V.int (5+e)] z=some (.int v)/\1<=v/\v<=8:=by
 have:z=0\/z=1\/z=2\/z=3\/z=4\/z=5\/z=6\/z=7:=by lia
 rcases this with rfl|rfl|rfl|rfl|rfl|rfl|rfl|rfl
 .exact⟨2,Z,by decide,by decide⟩
 .exact⟨3,Z,by decide,by decide⟩
 .exact⟨2,Z,by decide,by decide⟩
 .exact⟨4,Z,by decide,by decide⟩
 .exact⟨3,Z,by decide,by decide⟩
 .exact⟨2,Z,by decide,by decide⟩
 .exact⟨1,Z,by decide,by decide⟩
 .exact⟨5+e,Z,by lia,by lia⟩
theorem Wz{e z:Int}(h0:0<=z)(h1:z<4)(e0:0<=e)(e1:e<20):∃v:Int,rJ [V.int 1,V.int 2,V.int 3,V.int (1+e)] z=some (.int v)/\1<=v/\v<=20:=by
 have:z=0\/z=1\/z=2\/z=3:=by lia
 rcases this with rfl|rfl|rfl|rfl
 .exact⟨1,Z,by decide,by decide⟩
 .exact⟨2,Z,by decide,by decide⟩
 .exact⟨3,Z,by decide,by decide⟩
 .exact⟨1+e,Z,by lia,by lia⟩
theorem Ru{f:Addr}{fd:FuncData}(F:gP K "_law_program" "_law_program" qX f fd)(bf:FnAt P w K mg base 2 "_law_draw" ["bag","many"] (iu K))(Xv:FnAt P w K mg base 6 "_law_hand" ["bag","size"] (KQ K))(Bt:rN mg):bN P w K mg base iY 7 f fd ["bag"] (Kz K):=by
 refine F.ok oF (λvs H Q E h=>?_) (λcdv A outer s H vs Q E hr h=>?_)
 .obtain⟨r,b,n,rfl,_⟩:=h
  rfl
 .obtain⟨r,b,n,rfl,B0,hn,k⟩:=h
  refine⟨_,(aq (aM (i:=1) oF.nd rfl (Or.inl rfl) (aL (aN (K:=K) rfl) (bK (aj au (aj au (aj au (aj au (aj au (aj au (aj au (aj (bA cX au (aX bf (hr.mono (by decide)) (by rfl) (aj (pv 0) (aj au ao)))) ao))))))))) (aX bf (hr.mono (by decide)) (by rfl) (aj (pv 0) (aj au ao))) (λ_ _=>rfl)))
   (aq (aM (i:=2) oF.nd rfl (Or.inr rfl) (aL (aN (K:=K) rfl) (bK (aj au (aj au (aj au (aj (bA cX au (aX bf (hr.mono (by decide)) (by rfl) (aj (pv 0) (aj au ao)))) ao))))) (aX bf (hr.mono (by decide)) (by rfl) (aj (pv 0) (aj au ao))) (λ_ _=>rfl)))
   (aG (aW (cO (aj (pv 2) (aj (h_ rfl (N:=["hand","bag","size"]) (own:=["hand"]) (caps:=[0,2]) (bC.of (by kernel_rfl)) (je (by rfl) Bt.ji (aj (pv 1) ao)) (λ_ _ _ _=>(bD (i:=0) (show List.Nodup (["hand","bag","size"]:List Str) by decide +kernel) rfl (Or.inl rfl))) (λ_ _ _ _=>gH) (λ_ _ _ _=>(aX Xv (hr.mono (by decide)) (by rfl) (aj (pv 1) (aj (pv 2) ao))))) ao))))))), ?_⟩
  refine⟨_,Z,r,b,4,n,Z,B0,by lia,by decide,by decide,λe1 H1 e10 e11 B1 k1=>⟨_,_,Z,Z, ?_⟩⟩;refine⟨(by show 8<=sizeLine;decide),λl hl=>?_⟩;have sl:=aB (o:=HO.lst [V.int 2,V.int 3,V.int 2,V.int 4,V.int 3,V.int 2,V.int 1,V.int (5+e1)]) hl;obtain⟨zR,_⟩:=B1.ne hl;refine⟨_,Z,r,b,8,_,Z,B1.keep sl,by lia,by decide,by decide,λy H2 y0 y1 B2 k2=>?_⟩;obtain⟨mn,en,m1,m8⟩:=Tp y0 y1 e10 e11;refine⟨_,_,_,_,Z,Z,bH.of (k2 _ _ ak zR),en, ?_⟩;have K2:Kp r H H2:=(k1.trans (.of_same sl)).trans k2;refine⟨_,Z,r,b,20,_,Z,B2,by lia,by decide,by decide,λe2 H3 e20 e21 B3 k3=>⟨_,_,Z,Z, ?_⟩⟩;refine⟨(by show 4<=sizeLine;decide),λl' hl'=>?_⟩;have sl':=aB (o:=HO.lst [V.int 1,V.int 2,V.int 3,V.int (1+e2)]) hl';obtain⟨RW,_⟩:=B3.ne hl';refine⟨_,Z,r,b,4,_,Z,B3.keep sl',by lia,by decide,by decide,λy' H4 y0' PL B4 k4=>?_⟩;obtain⟨sz,es,s1,s20⟩:=Wz y0' PL e20 e21;obtain⟨m,rfl⟩:=abQ (show 0<=sz by lia);refine⟨_,_,_,_,Z,Z,bH.of (k4 _ _ ak RW),es, ?_⟩;have K4:Kp r H H4:=((K2.trans k3).trans (.of_same sl')).trans k4;clear k1 k2 k3 k4 sl sl' B1 B2 B3 K2 en es hl hl' zR RW;refine⟨_,Z,_,Z,_,Z,by lia,by lia,λD hD=>?_⟩;have sD:=aB (o:=HO.lst []) hD;obtain⟨Dq,ZG⟩:=B4.ne hD;have Ww:H D=none:=qm K4 Dq hD;refine nu (lo:=0) (n:=mn.toNat) (λi σ Hd=>∃(v:Option V) (rs:List Addr) (rws:List (List Rw)),σ=[v,some (.ref r),some (.int m)]/\bV Hd r b (n+4+2500*i)/\Hd D=some (.lst (rs.map V.ref))/\rs.length=rws.length/\rws.length=i/\(∀(k:Nat)(q:Addr)(x:List Rw),rs[k]? = some q->rws[k]? = some x->dW (dr D (dr r Hd)) q m x)/\Kp r H Hd) ?_ ?_ ?_
  .exact⟨none,[],[],Z,B4.keep sD,ak,Z,Z,λk q x e=>by simp at e,K4.trans (.of_same sD)⟩
  .rintro i σ Hd hi ⟨v,rs,rws,rfl,Bd,Jz,lr,li,hrs,kd⟩
   dsimp only[iK,Fp];rw[ab9 rfl];refine⟨_,Z,_,Z,r,b,m,_,Z,Bd,by lia,by lia,by lia,λq x H5 hq Rq _ B5 k5=>?_⟩;have hD5:=k5 _ _ Jz Dq;have nqD:q≠D:=(aA Jz hq).symm;obtain⟨nqr,_⟩:=Bd.ne hq;obtain⟨ys,hr5⟩:=B5.lst
   have ku:Same (dr D (dr r H5)) (dr D (dr r (upd H5 D (.lst (rs.map V.ref++[V.ref q]))))):=λx o e=>by
    have n1:=zm e;have e1:=fJ _ _ e;exact mC (mC (by rw[aF n1];exact fJ _ _ e1) (zm e1)) n1
   refine⟨_,hD5,(by rw[aad,lr,li,sizeLine_eq];lia),_,rs++[q],rws++[x],Z,(B5.kp Kp.set Dq.symm ZG.symm).mono (by lia),by rw[ak,aaY];rfl,by simp[lr],by simp[li],λk' q' x' h1 h2=>?_,λx' o e n'=>by rw[aF (aA e Ww)];exact k5 _ _ (kd _ _ e n') n'⟩;refine dW.same ?_ ku;rcases mz h2 with h2|⟨ek,rfl⟩
   .have kl:=(aaf.mp h2).1
    rw[aaV (by rw[lr];exact kl)] at h1;exact(hrs k' q' x' h1 h2).same (Same.dr (Kp.dr k5))
   .have e1:q'=q:=by
     rcases mz h1 with h1|⟨_,h1⟩
     .have:=(aaf.mp h1).1;rw[lr] at this;lia
     .exact h1
    subst e1;exact(Rq.dr hr5 nqr).dr (mC hD5 Dq) nqD
  .rintro σ Hd ⟨v,rs,rws,rfl,Bd,Jz,lr,li,hrs,kd⟩
   refine⟨(by show 2<=sizeLine;decide),λp hp=>?_⟩;have sp:=aB (o:=HO.tup [V.int m,V.ref D]) hp;obtain⟨npr,_⟩:=Bd.ne hp;exact k p D rs rws m _ ⟨mC ak npr,mC (sp _ _ Jz) Dq,lr,λk' q' x' h1 h2=>((hrs k' q' x' h1 h2).same fJ).same (Same.dr sp)⟩ (by lia) (by lia) (by lia) (by lia) ((Bd.keep sp).mono (by lia)) (kd.trans (.of_same sp))
noncomputable def Fy(K:PySem.W.Frag):Sp:=λvs H Q _=>∃(r b:Addr) (m n:Nat),vs=[.ref r,.int m]/\bV H r b n/\n<100000000000/\m<=20 /\ ∀(nv:V)(ns:List Int)(H':Hp),Al (dr r H') nv ns m->bV H' r b (n+100)->Kp r H H'->Q nv H'
theorem V6(m:Nat):fY m (List.replicate m 0):=⟨by rw[List.length_replicate],λx hx=>by rw[(List.mem_replicate.mp hx).2];exact⟨by decide,by decide⟩⟩
theorem Ob{f:Addr}{fd:FuncData}(F:gP K "_law_first" "_law_first" yj f fd)(bf:FnAt P w K mg base 2 "_law_draw" ["bag","many"] (iu K))(Bt:rN mg):bN P w K mg base iY 3 f fd ["bag","size"] (Fy K):=by
 refine F.ok Nm (λvs H Q E h=>?_) (λcdv A outer s H vs Q E hr h=>?_)
 .obtain⟨r,b,m,n,rfl,_⟩:=h
  rfl
 .obtain⟨r,b,m,n,rfl,B0,hn,vC,k⟩:=h
  refine⟨_,(aq (bQ (aU cH (aX bf (hr.mono (by decide)) (by rfl) (aj (pv 0) (aj au ao))) au (aV _)) (aG (aW j8)) bh)
   (aG (aW (h_ rfl (N:=["cell","bag"]) (own:=["cell"]) (caps:=[0]) (bC.of (by kernel_rfl)) (je (by rfl) Bt.ji (aj (pv 1) ao)) (λ_ _ _ _=>(bD (i:=0) (show List.Nodup (["cell","bag"]:List Str) by decide +kernel) rfl (Or.inl rfl))) (λ_ _ _ _=>gH) (λ_ _ _ _=>(aL (aN (K:=K) rfl) (bK (aj au (aj au (aj (aX bf (hr.mono (by decide)) (by rfl) (aj (pv 1) (aj au ao))) ao)))) (aX bf (hr.mono (by decide)) (by rfl) (aj (pv 1) (aj au ao))) (λ_ _=>rfl))))))), ?_⟩
  refine⟨_,Z,r,b,3,n,Z,B0,by lia,by decide,by decide,λy H1 y0 y1 B1 k1=>⟨Z,_,Z, ?_⟩⟩;refine bJ (λ_=>k .non _ H1 ⟨V6 m,.inl ⟨Z,Z⟩⟩ (B1.mono (by lia)) k1) (λ_=>?_);refine⟨_,Z,_,Z,by lia,by lia,λD hD=>?_⟩;have sD:=aB (o:=HO.lst []) hD;obtain⟨Dq,ZG⟩:=B1.ne hD;have Ww:H D=none:=qm k1 Dq hD;rw[aaZ];refine nu (lo:=0) (n:=m) (λi σ Hd=>∃(v:Option V) (ns:List Int),σ=[v,some (.ref r)]/\bV Hd r b (n+1+2*i)/\Hd D=some (.lst (ns.map V.int))/\ns.length=i/\(∀x∈ns,0<=x/\x<1000)/\Kp r H Hd) ?_ ?_ ?_
  .exact⟨none,[],Z,B1.keep sD,ak,Z,by simp,k1.trans (.of_same sD)⟩
  .rintro i σ Hd hi ⟨v,ns,rfl,Bd,Jz,li,ok,kd⟩
   dsimp only[iK,Fp];rw[ab9 rfl];refine⟨_,Z,r,b,1000,_,Z,Bd,by lia,by decide,by decide,λq H2 q0 q1 B2 k2=>?_⟩;refine⟨(by show 3<=sizeLine;decide),λl hl=>?_⟩;have sl:=aB (o:=HO.lst [V.int 0,V.int 999,V.int q]) hl;obtain⟨zR,_⟩:=B2.ne hl;refine⟨_,Z,r,b,3,_,Z,B2.keep sl,by lia,by decide,by decide,λz H3 z0 z1 B3 k3=>?_⟩
   obtain⟨c,ec,c0,c1⟩:∃m:Int,rJ [V.int 0,V.int 999,V.int q] z=some (.int m)/\0<=m/\m<1000:=by
    have:z=0\/z=1\/z=2:=by lia
    rcases this with rfl|rfl|rfl
    .exact⟨0,Z,by decide,by decide⟩
    .exact⟨999,Z,by decide,by decide⟩
    .exact⟨q,Z,q0,q1⟩
   refine⟨_,_,_,_,Z,Z,bH.of (k3 _ _ ak zR),ec, ?_⟩;have hD3:=k3 _ _ (sl _ _ (k2 _ _ Jz Dq)) Dq;refine⟨_,hD3,(by rw[aad,li,sizeLine_eq];lia),_,ns++[c],Z,(B3.kp Kp.set Dq.symm ZG.symm).mono (by lia),by rw[ak,aaY];rfl,by simp[li],λx hx=>?_,λx' o e n'=>by rw[aF (aA e Ww)];exact k3 _ _ (sl _ _ (k2 _ _ (kd _ _ e n') n')) n'⟩;rcases aa2.mp hx with hx|hx
   .exact ok x hx
   .rw[List.mem_singleton.mp hx];exact⟨c0,c1⟩
  .rintro σ Hd ⟨v,ns,rfl,Bd,Jz,li,ok,kd⟩
   exact k _ ns Hd ⟨⟨by rw[li],ok⟩,.inr ⟨D,Z,mC Jz Dq⟩⟩ (Bd.mono (by lia)) kd
theorem Lw(l:List Tc)(t:Tc):(kI l).map V.int++[V.int (t.k:Int)]=(kI (l++[t])).map V.int:=by unfold kI;simp
theorem Al.same{H H':Hp}{v:V}{ns:List Int}{m:Nat}(h:Al H v ns m)(k:Same H H'):Al H' v ns m:=⟨h.1,h.2.elim .inl λ⟨l,e,q⟩=> .inr ⟨l,e,k _ _ q⟩⟩
noncomputable def Qy(K:PySem.W.Frag):Sp:=λvs H Q _=>∃(r b p L:Addr) (rs:List Addr) (rws:List (List Rw)) (m n:Nat) (nv:V) (ns:List Int),vs=[.ref r,.ref p,nv]/\bV H r b n/\n<100000000000/\Ak (dr r H) p L rs rws m/\rws.length<=8/\m<=20/\Al (dr r H) nv ns m /\
 ∀(o:Addr)(l:List Tc)(S1:iV)(H':Hp),H o=none->Run (iU m ns rws) l S1->l.length<=60->H' o=some (.lst ((kI l).map V.int))->bV H' r b (n+100)->Kp r H H'->Q (.ref o) H'
theorem Y8{z:Int}(h0:0<=z)(h1:z<4):∃v:Int,rJ [V.int 13,V.int 31,V.int 31,V.int 61] z=some (.int v)/\0<v/\v<=61:=by
 have:z=0\/z=1\/z=2\/z=3:=by lia
 rcases this with rfl|rfl|rfl|rfl
 .exact⟨13,Z,by decide,by decide⟩
 .exact⟨31,Z,by decide,by decide⟩
 .exact⟨31,Z,by decide,by decide⟩
 .exact⟨61,Z,by decide,by decide⟩
theorem VP{aC aD aK aP bF:Addr}{f:Addr}{fd:FuncData}(F:gP K "_law_run" "_law_run" Ir f fd)(bf:FnAt P w K mg base 2 "_law_draw" ["bag","many"] (iu K))(jO:pO P w K mg base 7 aC "Works" ["self","program","cells"] [] (λvs H Q _=>iH aC aD aK K vs H Q λ_ _ _=>False))(Hz:MethAt P w K mg base 4 aC "how" ["self","hand"] (λvs H Q _=>QC aC aD aP K vs H Q λ_ _ _=>False))(cW:MethAt P w K mg base 7 aC "turn" ["self","hand"] (λvs H Q _=>lG aC aD aP bF K vs H Q λ_ _ _=>False))(aQ:fV K aC)(Bt:rN mg):bN P w K mg base iY 9 f fd ["bag","program","first"] (Qy K):=by
 refine F.ok sI (λvs H Q E h=>?_) (λcdv A outer s H vs Q E hr h=>?_)
 .obtain⟨r,b,p,L,rs,rws,m,n,nv,ns,rfl,_⟩:=h
  rfl
 .obtain⟨r,b,p,L,rs,rws,m,n,nv,ns,rfl,B0,hn,g,r8,vC,nh,k⟩:=h
  have iZ:=hr.units;obtain⟨ob,hob⟩:∃o,H b=some o:=by obtain⟨_,_,_,_,_,_,e2,_⟩:=B0;exact⟨_,e2⟩
  have nbr:b≠r:=by obtain⟨_,_,_,_,_,_,_,q,_⟩:=B0;exact q
  refine⟨_,(aq (aM (i:=3) sI.nd rfl (Or.inr rfl) (oX jO (hr.mono (by decide)) (by rfl) (aj (pv 1) (aj (pv 2) ao))))
   (aq (aM (i:=4) sI.nd rfl (Or.inl rfl) (bK ao))
   (aq (iy PassesOwn.never rfl (je (by rfl) Bt.ji (aj (aX bf (hr.mono (by decide)) (by rfl) (aj (pv 0) (aj (aL (aN (K:=K) rfl) (bK (aj au (aj au (aj au (aj au ao))))) (aX bf (hr.mono (by decide)) (by rfl) (aj (pv 0) (aj au ao))) (λ_ _=>rfl)) ao))) ao)) (bD (i:=5) sI.nd rfl (Or.inl rfl))
   (aq (sS (i:=6) rfl sI.nd rfl (Or.inl rfl) (N:=["hand","works"]) (own:=["hand"]) (caps:=[3]) (bC.of (by kernel_rfl)) (je (by rfl) Bt.ji (aj (bM (bO (K:=K) rfl) (by rfl) Bt.lD iT (aj (aL (aR (K:=K) rfl) (pv 1) au (λ_ _=>rfl)) ao)) ao)) (λ_ _ _ _=>(bD (i:=0) (show List.Nodup (["hand","works"]:List Str) by decide +kernel) rfl (Or.inl rfl))) (λ_ _ _ _=>(wM (aU cH (dD Hz aQ.cls (hr.mono (by decide)) (pv 1) (aj (pv 0) ao)) bw (aV _)))) (λ_ _ _ _=>(pv 0)))
   (aG (bQ (aU (Lh (K:=K) rfl iZ) (pv 6) (bK ao) (aV _)) (aq (cB (dU (K:=K) rfl (pv 4) (aj (aL (aN (K:=K) rfl) (pv 6) (aX bf (hr.mono (by decide)) (by rfl) (aj (pv 0) (aj (bM (bO (K:=K) rfl) (by rfl) Bt.lD iT (aj (pv 6) ao)) ao))) (λ_ _=>rfl)) ao)))
   (aG (cB (dD cW aQ.cls (hr.mono (by decide)) (pv 3) (aj (aL (aN (K:=K) rfl) (pv 4) (oU jW au) (λ_ _=>rfl)) ao))))) bh))))
   (aG (aW (pv 4)))))), ?_⟩
  refine⟨_,Z,_,Z, ?_⟩;dsimp only[lF]
  have un0:v9 (aside 1 (dr r H)) H:=λx e=>tR 1 (dr r H) x (by
   cases q:dr r H x with
   | none=>rfl
   | some o=>rw[fJ _ _ q] at e;cases e)
  refine(Lr (i:=2) (τ:=aside 1 (dr r H)) (g.same fJ) (by lia) (by lia) un0 (by decide) (nh.same fJ) (λτ W H1 w1 HW s1=>?_))
  have tr:τ r=[]:=by
   obtain⟨ys,hy⟩:=B0.lst;rw[HW _ _ hy];unfold aside dr;simp
  have tH:∀x u,H x=some u->x≠r->τ x=[1]:=λx u e nx=>by
   rw[HW _ _ e];exact tU (mC e nx)
  have tb:=tH _ _ hob nbr;have ts0:(iU m ns rws).ts=[]:=Z;have B1:=B0.keep s1;refine⟨(by show 0<=sizeLine;decide),λo ho=>?_⟩;have so:=aB (o:=HO.lst []) ho;obtain⟨nor,nob⟩:=B1.ne ho;have to:τ o=[]:=w1.un o ho;have ho0:H o=none:=s1.free ho;have B2:=B1.keep so;have w2:=w1.same so;have k2:Kp r H (upd H1 o (.lst [])):=(Kp.of_same s1).trans (.of_same so);have eo2:(upd H1 o (.lst [])) o=some (.lst []):=ak;generalize (upd H1 o (.lst []))=H2 at B2 w2 k2 eo2 ⊢;refine⟨_,Z,(by show 4<=sizeLine;decide),λl3 hl3=>?_⟩;have sl3:=aB (o:=HO.lst [V.int 13,V.int 31,V.int 31,V.int 61]) hl3;obtain⟨nl3,_⟩:=B2.ne hl3;refine⟨_,Z,r,b,4,_,Z,B2.keep sl3,by lia,by decide,by decide,λy H3 y0 y1 B3 k3=>?_⟩;obtain⟨mn,en,m0,m61⟩:=Y8 y0 y1
  have w3:lU aC aD 2 τ H3 W (iU m ns rws):=by
   obtain⟨ys,hy⟩:=(B2.keep sl3).lst;exact(w2.same sl3).kp k3 hy (by intro xs z;cases z) tr B3.at
  have e3:=k3 _ _ (sl3 _ _ eo2) nor;have kp3:=(k2.trans (.of_same sl3)).trans k3;refine⟨_,_,_,_,Z,Z,bH.of (k3 _ _ ak nl3),en,r,b,mn,_,Z,B3,by lia,by lia,by lia,λcn H4 c0 c1 B4 k4=>⟨_,Z,by lia,by lia, ?_⟩⟩
  have w4:lU aC aD 2 τ H4 W (iU m ns rws):=by
   obtain⟨ys,hy⟩:=B3.lst;exact w3.kp k4 hy (by intro xs z;cases z) tr B4.at
  have eo4:=k4 _ _ e3 nor;have kp4:=kp3.trans k4
  refine OD (lo:=0) (n:=cn.toNat) (λj σ Hc=>∃(x1 x2:Option V) (l:List Tc) (S1:iV),σ=[some (.ref r),some (.ref p),some nv,some (.ref W.o),some (.ref o),x1,x2]/\bV Hc r b (n+2+j)/\lU aC aD 2 τ Hc W S1/\Run (iU m ns rws) l S1/\l.length<=j/\Hc o=some (.lst ((kI l).map V.int))/\Kp r H Hc)
   ⟨none,none,[],_,Z,B4,w4,Z,aaG _,eo4,kp4⟩ ?_ ?_
  .rintro j σ Hc hj ⟨x1,x2,l,S1,rfl,Bc,wc,R,lj,eoc,kc⟩
   clear B4 w4 kp4 eo4 B3 w3 kp3 e3 B2 w2 k2 eo2 k3 k4 en
   have hl1:S1.hs.length=rws.length:=by
    rw[(Dg R).1];show (rws.map _).length=_;rw[aad]
   have tl:S1.ts.length<=10000:=by rw[uL R,ts0];simp;lia
   have gc:Ak Hc p L rs rws m:=g.same λx u e=>kc _ _ (fJ _ _ e) (zm e);refine⟨_,Z,_,_,_,_,Z,Z,cA.of gc.ep,Z,L,_,Z,.inl (bH.of gc.eL),_,Z,by rw[aad,gc.len];lia,by rw[aad,gc.len];lia,λD hD=>?_⟩;rw[show (((rs.map V.ref).length:Nat):Int).toNat=S1.hs.length by rw[aaZ,aad,gc.len,hl1]];refine u9 (λz=>if Ar S1.hs z then some (.int (z:Nat)) else none) hD (by lia) (λz H7 G F hz s7 kG kF=>?_) (λH7 s7 e7=>?_)
   .have w7:=wc.same s7
    have es:S1.hs[z]? = some S1.hs[z]:=by simp[hz]
    have inn:Ac ((0:Int)+z) S1.hs.length:=⟨by lia,by lia⟩;refine⟨_,Z,W.o,W.dx,_,Z,w7.o,Z,_,Z,2,τ,W,S1,_,Z,w7,λk3 t3 e3 e3'=>?_,λz=>acq inn z⟩
    obtain rfl:t3=S1.hs[z]:=by
     have:k3=z:=by lia
     subst this;rw[es] at e3';exact(aaS e3').symm
    refine⟨Z,_,Z, ?_⟩;have eb:Ar S1.hs z=decide (S1.hs[z].st = "waits"):=by unfold Ar;rw[es]
    rw[eb] at kG kF;refine bJ (λq=>?_) (λq=>?_)
    .have hq:S1.hs[z].st=Str.ofString "waits" :=V.str.inj (aaP q)
     refine⟨_,Z,kF _ H7 (Same.refl _) ?_⟩;rw[aaN hq,Int.zero_add];rfl
    .refine kG H7 (Same.refl _) ?_
     have hq:¬S1.hs[z].st=Str.ofString "waits" :=λz=>q (aaN (by rw[z]));rw[aaO hq];rfl
   have e7':H7 D=some (.lst (((rO S1.hs).map λk:Nat=>(k:Int)).map V.int)):=by
    rw[e7,aac,List.map_map];rfl
   have w7:=wc.same s7;have B7:=Bc.keep s7;obtain⟨Dq,_⟩:=Bc.ne hD;have eo7:=s7 _ _ eoc;have k7:=kc.trans (.of_same s7)
   have wm:(rO S1.hs).length<=100:=by
    have:=List.length_filter_le (Ar S1.hs) (List.range S1.hs.length);unfold rO;rw[List.length_range] at this;lia
   refine⟨_,Z,(by show 0<=sizeLine;decide),λz hz=>?_⟩;have sz:=aB (o:=HO.lst []) hz;refine⟨_,_,tK (sz _ _ e7'),tK (ns:=[]) ak,shaped_ints _,shaped_ints _,_,Z, ?_⟩;rw[za PyData.int WL]
   by_cases nw:rO S1.hs=[]
   .rw[nw]
    refine fG ?_;exact⟨_,_,l,S1,Z,(B7.keep sz).mono (by lia),w7.same sz,R,by lia,sz _ _ eo7,k7.trans (.of_same sz)⟩
   have ne:decide (((rO S1.hs).map λk:Nat=>(k:Int))=[])=false:=aaO λe=>nw (List.map_eq_nil_iff.mp e);rw[ne];refine fD ?_;have w8:=w7.same sz;have B8:=B7.keep sz;have e8:=sz _ _ e7';have WR:=sz _ _ eo7;have k8:=k7.trans (.of_same sz);generalize (upd H7 z (.lst []))=H8 at w8 B8 e8 WR k8 ⊢;have wn:0<(rO S1.hs).length:=List.length_pos_iff.mpr nw;refine⟨_,Z,.inl ⟨Z,_,bH.of WR⟩,_,Z,_,Z,_,Z,D,_,Z,.inl (bH.of e8),r,b,_,_,Z,B8,by lia, ?_, ?_,λy H9 y0 y1 B9 k9=>?_⟩
   .simp;lia
   .simp;lia
   have y1:y<(rO S1.hs).length:=by simpa using y1
   obtain⟨y,rfl⟩:=abQ y0;obtain⟨f,ef⟩:∃f,(rO S1.hs)[y]? = some f:=⟨_,aae (by lia)⟩;obtain⟨sf,esf,wsf⟩:=MK ef
   have w9:lU aC aD 2 τ H9 W S1:=by
    obtain⟨ys,hy⟩:=B8.lst;exact w8.kp k9 hy (by intro xs z;cases z) tr B9.at
   have eo9:=k9 _ _ WR nor;have kp9:=k8.trans k9;refine⟨_,_,_,_,Z,Z,bH.of (k9 _ _ e8 Dq),cL (by rw[aah,aah,ef];rfl),o,_,_,Z,Z,eo9,(by rw[aad,jf,sizeLine_eq];lia), ?_⟩;obtain⟨rw',erw,_⟩:=w9.ok sf (aaM esf) wsf;have at9:zP S1 ⟨f,rw',qK S1.ns rw',EY sf.bs rw'⟩:=⟨sf,esf,wsf,erw,Z,Z⟩;generalize htt:(⟨f,rw',qK S1.ns rw',EY sf.bs rw'⟩:Tc)=t at at9;have ft:f=t.k:=by rw[←htt]
   rw[ft,Lw];have kk:Kp o H9 (upd H9 o (.lst ((kI (l++[t])).map V.int))):=Kp.set;have Ba:=B9.kp kk nor.symm nob.symm;have wa:=w9.kp kk eo9 (by intro xs z;cases z) to ⟨_,ak⟩;have ka:Kp r H (upd H9 o (.lst ((kI (l++[t])).map V.int))):=λx u e nx=>by rw[aF (aA e ho0)];exact kp9 _ _ e nx
   have eoa:(upd H9 o (.lst ((kI (l++[t])).map V.int))) o=some (.lst ((kI (l++[t])).map V.int)):=ak;generalize (upd H9 o (.lst ((kI (l++[t])).map V.int)))=Ha at Ba wa ka eoa ⊢;refine⟨_,Z,W.o,W.dx,_,Z,wa.o,Z,_,Z,_,Z,_,_,_,_,Z,Z,bH.of eoa,(by rw[←Lw];exact Uh _ _), ?_⟩;dsimp only[lF];refine xK wa tl at9 λq Hd hq eq wd st=>?_;refine⟨_,_,l++[t],bZ S1 t.k,Z,(Ba.stp st (by rw[tr];simp) (by rw[tb];simp)).mono (by lia),wd,Run.app.mpr ⟨S1,R,at9,Z⟩,by simp;lia,st.keep _ _ eoa (by rw[to];simp),λx u e nx=>st.keep _ _ (ka _ _ e nx) (by rw[tH _ _ e nx];simp)⟩
  .rintro σ Hc ⟨x1,x2,l,S1,rfl,Bc,wc,R,lj,eoc,kc⟩
   exact⟨_,Z,k o l S1 Hc ho0 R (by lia) eoc (Bc.mono (by lia)) kc⟩
theorem Ay{r:Rw}(t:touch r=true):isLoad r=true↔qI r = "load" :=by
 cases r<;>first |(exact⟨λ_=>rfl,λ_=>rfl⟩)|(refine⟨λz=>?_,λz=>?_⟩<;>first |(cases z;done)|(exact acq z (by decide))|(cases t;done))
theorem Vh{x y:Tc}(tx:touch x.r=true)(ty:touch y.r=true)(s:stepT x y):(bU x).1=(bU y).1\/mt (bU x) (bU y)=true:=by
 unfold stepT apart at s;rw[Ay tx,Ay ty] at s
 by_cases z:(bU x).1=(bU y).1
 .exact .inl z
 refine .inr ?_;have nk:x.k≠y.k:=λe=>z (by show ((x.k:Nat):Int)=(y.k:Int);rw[e]);have s':=s.resolve_left nk;have ec:gj x.r=gj y.r:=Classical.byContradiction λq=>s' (.inl q);unfold mt;rw[ab6 z,ab9 (show (bU x).2.2=(bU y).2.2 by show ((gj x.r:Nat):Int)=(gj y.r:Int);rw[ec])]
 by_cases l:(bU x).2.1 = "load"
 .rw[ab9 l]
  have:¬(bU y).2.1 = "load" :=λl'=>s' (.inr ⟨l,l'⟩);rw[aaO this];rfl
 .rw[ab6 l]
theorem Df:∀{l:List Tc}{S S':iV},Run S l S'->(∀s∈S.hs,mF s) -> ∀x∈l,touch x.r=true
 | [],S,S',h,ok,x,hx=>by cases hx
 | t::l,S,S',⟨a,h⟩,ok,x,hx=>by
   rcases List.mem_cons.mp hx with rfl|hx
   .obtain⟨s,es,ws,er,_⟩:=a
    obtain⟨r,Tf,tr⟩:=ok s (aaM es) ws;rw[er] at Tf;cases Tf;exact tr
   .exact Df h (Fj _ ok) x hx
theorem mO{l:List Tc}{m:Nat}{x:Tc}(e:l[m]? = some x):(l.map bU)[m]? = some (bU x):=by rw[aah,e];rfl
theorem xO{l:List Tc}(tl:∀x∈l,touch x.r=true){m a:Nat}{x y:Tc}(lt:m<a)(ey:l[m]? = some y)(ex:l[a]? = some x)(s:stepT y x):ou (l.map bU) m a=true:=by
 unfold ou YW;rw[mO ey,mO ex,aaN lt,Bool.true_and,Bool.or_eq_true,decide_eq_true_iff];exact Vh (tl _ (aaM ey)) (tl _ (aaM ex)) s
theorem JX.part{l:List Tc}{P:Nat->Bool}(cl:∀m a y x,m<a->l[m]? = some y->l[a]? = some x->stepT y x->P a=true->P m=true):∀n,n<=l.length->JX l ((List.range n).filter P)
 | 0,_=> .nil
 | n+1,h=>by
   rw[List.range_succ,ab0];cases e:P n with
   | false=>
     rw[show List.filter P [n]=[] by simp[e],List.append_nil];exact JX.part cl n (by lia)
   | true=>
     rw[show List.filter P [n]=[n] by simp[e]];refine .snoc (JX.part cl n (by lia)) (aae (show n<l.length by lia)) (λz=>?_) λm y lt ey s=>?_
     .have:=aby.mp (abw.mp z).1
      lia
     .exact abw.mpr ⟨aby.mpr lt,cl m n y _ lt ey (aae (show n<l.length by lia)) s e⟩
theorem Py{l:List Tc}(tl:∀x∈l,touch x.r=true){i j:Nat}(np:Xl (l.map bU) i j):JX l (gB (l.map bU) i j)/\JX l (gB (l.map bU) i j++[i])/\JX l (gB (l.map bU) i j++[i]++[j]):=by
 have jl:j<l.length:=by have:=np.jl;rwa [aad] at this
 have ij:=np.lt
 have o1:JX l (gB (l.map bU) i j):=by
  refine JX.part (λm a y x lt ey ex s pa=>?_) j (by lia);obtain⟨ra,na⟩:=aaP pa;have st:=xO tl lt ey ex s;refine aaN ⟨pY (.one st) ra,λz=>?_⟩;subst z;exact np.no ra (.one st)
 have at':∀{k:Nat},k<l.length->l[k]? = some (l[k]?.getD ⟨0,.go 0,none,none⟩):=fun {k} h=>by rw[aae h];rfl
 have o2:JX l (gB (l.map bU) i j++[i]):=by
  refine .snoc o1 (at' (show i<l.length by lia)) (λz=>(mj.mp z).2 rfl) λm y lt ey s=>?_;have st:=xO tl lt ey (at' (show i<l.length by lia)) s;exact mj.mpr ⟨pY (.one st) (.one np.st),by lia⟩
 refine⟨o1,o2,.snoc o2 (at' jl) (λz=>?_) λm y lt ey s=>?_⟩
 .rcases aa2.mp z with z|z
  .have:=(mj.mp z).1.lt;lia
  .have:j=i:=by simpa using z
   lia
 .have st:=xO tl lt ey (at' jl) s
  by_cases e:m=i
  .subst e;exact aa2.mpr (.inr (.head _))
  .exact aa2.mpr (.inl (mj.mpr ⟨.one st,e⟩))
structure Pair(T:iV)(x y x' y':Tc):Prop where
 x1:zP T x
 y1:zP (bZ T x.k) y
 y2:zP T y'
 x2:zP (bZ T y.k) x'
 ex:x'.k=x.k
 ey:y'.k=y.k
 rx:x'.r=x.r
 ry:y'.r=y.r
 wx:x'.wr=x.wr
 wy:y'.wr=y.wr
theorem Pair.of{T:iV}{x y:Tc}(a:zP T x)(b:zP (bZ T x.k) y)(n:x.k≠y.k):∃x' y',Pair T x y x' y':=by
 obtain⟨s,es,ws,er,rd,wr⟩:=id a;obtain⟨t,et,wt,Tf,rd',wr'⟩:=id b;have e1:=iG es er
 have et':T.hs[y.k]? = some t:=by
  rw[e1] at et;have et:(T.hs.set x.k _)[y.k]? = some t:=et;rwa [List.getElem?_set_ne n] at et
 have e2:=iG et' Tf;refine⟨⟨x.k,x.r,qK (bZ T y.k).ns x.r,x.wr⟩,⟨y.k,y.r,qK T.ns y.r,y.wr⟩,a,b,⟨t,et',wt,Tf,Z,wr'⟩,⟨s, ?_,ws,er,Z,wr⟩,Z,Z,Z,Z,Z,Z⟩;show (bZ T y.k).hs[x.k]? = some s;rw[e2];show (T.hs.set y.k _)[x.k]? = some s;rw[List.getElem?_set_ne n.symm];exact es
theorem Og{S0 S1:iV}{l:List Tc}(R:Run S0 l S1)(ok:∀s∈S0.hs,mF s){i j:Nat}(np:Xl (l.map bU) i j):∃T x y x' y',Run S0 (pick l (gB (l.map bU) i j)) T/\l[i]? = some x/\l[j]? = some y/\Pair T x y x' y':=by
 have tl:=Df R ok;obtain⟨o1,o2,o3⟩:=Py tl np;have jl:j<l.length:=by have:=np.jl;rwa [aad] at this
 have ij:=np.lt;have ei:l[i]? = some (l[i]'(by lia)):=aae _;have ej:l[j]? = some l[j]:=aae _;obtain⟨T,_,r1,_,_⟩:=R.other o1;have a1:=R.next o2 ei r1
 have r2:Run S0 (pick l (gB (l.map bU) i j++[i])) (bZ T (l[i]'(by lia)).k):=by
  rw[oO,lY ei];exact Run.app.mpr ⟨T,r1,a1,Z⟩
 have a2:=R.next o3 ej r2
 have n:(l[i]'(by lia)).k≠l[j].k:=λe=>np.ne (by
  rw[jF (mO ei),jF (mO ej)];show (((l[i]'(by lia)).k:Nat):Int)=(l[j].k:Int);rw[e])
 obtain⟨x',y',p⟩:=Pair.of a1 a2 n;exact⟨T,_,_,x',y',r1,ei,ej,p⟩
noncomputable def P_(n:Nat)(τ:Tg):Tg:=λx=>match τ x with
 | []=>[]
 | h::t=>if h<=n then h::t else []
theorem T8{n:Nat}{τ:Tg}{x:Addr}{h:Nat}{t:List Nat}(e:τ x=h::t)(l:h<=n):P_ n τ x=τ x:=by
 unfold P_;rw[e];exact ab9 l
theorem T7{n i:Nat}{τ:Tg}{x:Addr}(l:n<i):(P_ n τ x).head?≠some i:=by
 unfold P_;cases e:τ x with
 | nil=>simp
 | cons h t=>
   dsimp only;split
   .intro z
    have:=aaS z;lia
   .simp
theorem W7{n:Nat}{τ:Tg}{x:Addr}(h:τ x=[]):P_ n τ x=[]:=by
 unfold P_;rw[h]
theorem Mv.P_{n i:Nat}{τ:Tg}{H:Hp}(l:i<=n):Mv i τ H (P_ n τ) H:=⟨λx o e q=>⟨e,by
 rcases q with q|q
 .exact T8 q (Nat.zero_le _)
 .cases e':τ x with
  | nil=>rw[e'] at q;cases q
  | cons h t=>
    rw[e'] at q;have:=aaS q;rw[←e'];exact T8 e' (by lia)⟩,λx xs e=>e⟩
theorem Yy{n:Nat}{τ:Tg}{H:Hp}(u:v9 τ H):v9 (P_ n τ) H:=λx e=>W7 (u x e)
noncomputable def xR(CW CH:Addr)(K:PySem.W.Frag):Sp:=λvs H Q _=>∃(τ:Tg) (W:HX) (S:iV) (a b:Int) (t1 t2:Tc),vs=[.ref W.o,.int a,.int b]/\a=t1.k/\b=t2.k/\lU CW CH 2 τ H W S/\tX S/\S.m<=100/\S.ts.length<=9000/\zP S t1/\zP (bZ S t1.k) t2 /\
 ∀(q p1 p2:Addr)(H':Hp),H' q=some (.tup [.ref p1,.ref p2])->H' p1=some (.tup (Ut t1))->H' p2=some (.tup (Ut t2))->Same H H'->Q (.ref q) H'
theorem NP{aC aD aP bF:Addr}{f:Addr}{fd:FuncData}(F:gP K "told_by" "told_by" uF f fd)(Ei:MethAt P w K mg base 9 aC "twin" ["self"] (Ih aC aD K))(cW:MethAt P w K mg base 7 aC "turn" ["self","hand"] (λvs H Q _=>lG aC aD aP bF K vs H Q λ_ _ _=>False))(aQ:fV K aC):bN P w K mg base iY 10 f fd ["works","one","other"] (xR aC aD K):=by
 refine F.ok qQ (λvs H Q E h=>?_) (λcdv A outer s H vs Q E hr h=>?_)
 .obtain⟨τ,W,S,a,b,t1,t2,rfl,_⟩:=h
  rfl
 .obtain⟨τ,W,S,a,b,t1,t2,rfl,rfl,rfl,w,gs,ml,tl,a1,a2,k⟩:=h
  refine⟨_,(aq (aM (i:=3) qQ.nd rfl (Or.inl rfl) (qb Ei aQ.cls (hr.mono (by decide)) (pv 0)))
   (aq (aM (i:=4) qQ.nd rfl (Or.inl rfl) (dD cW aQ.cls (hr.mono (by decide)) (pv 3) (aj (pv 1) ao)))
   (aG (aW (cO (aj (pv 4) (aj (dD cW aQ.cls (hr.mono (by decide)) (pv 3) (aj (pv 2) ao)) ao))))))), ?_⟩
  have w0:lU aC aD 2 (P_ 2 τ) H W S:=w.mv (Mv.P_ (by decide)) (Yy w.un);refine⟨_,Z,W.o,W.dx,_,Z,w.o,Z,2,3,P_ 2 τ,W,S,Z,w0,gs,ml,by decide,λτ' W' H1 w1 HW s1=>?_⟩;have low:∀x u,H x=some u->(τ' x).head?≠some 3:=λx u e=>by rw[HW x u e];exact T7 (by decide)
  have ts:(bZ S t1.k).ts.length<=9001:=by
   obtain⟨_,_,_,e⟩:=a1.turn;rw[e];show (S.ts++[_]).length<=_;simp;lia
  refine⟨_,Z,W'.o,W'.dx,_,Z,w1.o,Z,_,Z, ?_⟩;dsimp only[lF];refine xK w1 (by lia) a1 λp1 H2 hp1 ep1 w2 st2=>?_;refine⟨_,Z,_,Z,W'.o,W'.dx,_,Z,w2.o,Z,_,Z, ?_⟩;dsimp only[lF];refine xK w2 (by lia) a2 λp2 H3 hp2 ep2 w3 st3=>?_;refine⟨(by show 2<=sizeLine;decide),λq hq=>?_⟩;have sq:=aB (o:=HO.tup [V.ref p1,V.ref p2]) hq;exact k q p1 p2 _ ak (sq _ _ (st3.tup _ _ ep1)) (sq _ _ ep2) λx u e=>sq _ _ (st3.keep _ _ (st2.keep _ _ (s1 _ _ e) (low x u e)) (low x u e))
theorem G3{l:List Tc}:∀(o:List Nat),(∀p∈o,p<l.length)->(o.filterMap λp=>some (V.int (hnd (l.map bU) p)))=(kI (pick l o)).map V.int
 | [],_=>rfl
 | p::o,h=>by
   have e:l[p]? = some (l[p]'(h p (.head _))):=aae _;rw[List.filterMap_cons,lY e,G3 o λq hq=>h q (.tail _ hq),jF (mO e)];rfl
noncomputable def ac7(S0:iV)(l:List Tc)(i j:Nat)(v:V)(H':Hp):Prop:=∃(q A f1 f2 p1 p2 p3 p4:Addr) (T:iV) (x y x' y':Tc),v = .ref q/\H' q=some (.tup [.ref A,.ref f1,.ref f2])/\H' A=some (.lst ((kI (pick l (gB (l.map bU) i j))).map V.int))/\H' f1=some (.tup [.ref p1,.ref p2])/\H' p1=some (.tup (Ut x))/\H' p2=some (.tup (Ut y))/\H' f2=some (.tup [.ref p3,.ref p4])/\H' p3=some (.tup (Ut y'))/\H' p4=some (.tup (Ut x'))/\Run S0 (pick l (gB (l.map bU) i j)) T/\l[i]? = some x/\l[j]? = some y/\Pair T x y x' y'
noncomputable def rY(CN CNo CO CNt:Addr)(K:PySem.W.Frag):Sp:=λvs H Q E=>∃(p L:Addr) (rs:List Addr) (rws:List (List Rw)) (m:Nat) (nv:V) (ns:List Int) (o:Addr) (os:List Int) (t:Addr) (x:Nt),vs=[.ref p,.ref o,.ref t,nv]/\Ak H p L rs rws m/\rws.length<=8/\m<=20/\wg H m nv ns/\H o=some (.lst (os.map V.int))/\os.length<=300/\H t=some (.tup (nV x)) /\
 (¬fY m ns -> ∀H',Same H H'->E (.ref CN) none H')/\(fY m ns -> ∃l st,Wk (iU m ns rws) os l st/\(st=some true -> ∀H',Same H H'->E (.ref CNo) none H')/\(st=some false -> ∀H',Same H H'->E (.ref CO) none H') /\
   (st=none->(∀i j,x=kh (l.map bU) i j->Xl (l.map bU) i j -> ∀v H',ac7 (iU m ns rws) l i j v H'->Same H H'->Q v H')/\(x∉jN (l.map bU) l.length -> ∀H',Same H H'->E (.ref CNt) none H')))
theorem Qh{S:iV}{os:List Int}{l:List Tc}(h:Wk S os l none):∃S1,Run S l S1/\os=kI l:=by
 obtain⟨S1,rest,R,e,q⟩:=h;cases rest with
 | nil=>exact⟨S1,R,by rw[e,List.append_nil]⟩
 | cons a b=>exact acq q (by simp[Ef])
theorem Yx{l:List Tc}{n:Nat}(h:∀t∈l,t.k<n)(n8:n<=8):∀x∈l.map bU,0<=x.1/\x.1<8:=λx hx=>by
 obtain⟨t,ht,rfl⟩:=aa3.mp hx;have:=h t ht;exact⟨by show (0:Int)<=(t.k:Int);lia,by show (t.k:Int)<8;lia⟩
theorem Ms(m:Nat)(ns:List Int)(rws:List (List Rw)):(iU m ns rws).hs.length=rws.length:=by show (rws.map _).length=_;rw[aad]
theorem RL{aC aD aK aP bF bI:Addr}{f:Addr}{fd:FuncData}(F:HB K "both_ways" "both_ways" b_ [.none] f fd)(zL:qN P w K mg base 9 "web_of" ["program","order","cells"] (uq aC aD aK aP bF K))(zN:qN P w K mg base 5 "check_fewest" ["web","note"] (QD bI K))(HD:FnAt P w K mg base 2 "places_of" ["web"] (Fw K))(wB:FnAt P w K mg base 4 "ahead_of_both" ["web","one","other"] (KY K))(Ca:FnAt P w K mg base 10 "told_by" ["works","one","other"] (xR aC aD K))(jO:nA P w K mg base 7 aC "Works" ["self","program","cells"] [] (iH aC aD aK K))(cW:jP P w K mg base 7 aC "turn" ["self","hand"] (lG aC aD aP bF K))(aQ:fV K aC)(Bt:rN mg):bN P w K mg base (qC P w) 11 f fd ["program","order","note","cells"] (rY aK aP bF bI K):=by
 refine F.V4 gD (λvs H Q E h=>?_) (λcdv A outer s H vs Q E hr h hR=>?_)
 .obtain⟨p,L,rs,rws,m,nv,ns,o,os,t,x,rfl,_⟩:=h
  rfl
 .obtain⟨p,L,rs,rws,m,nv,ns,o,os,t,x,rfl,g,r8,vC,na,ho,ol,ht,kb,kg⟩:=h
  have hu:=vH hr
  refine⟨_,(aq (aM (i:=4) gD.nd rfl (Or.inr rfl) (Dj zL rfl hR (hr.mono (by decide)) (by rfl) (aj (pv 0) (aj (pv 1) (aj (pv 3) ao)))))
   (aq (cB (Dj zN rfl hR (hr.mono (by decide)) (by rfl) (aj (pv 4) (aj (pv 2) ao))))
   (aq (aM (i:=5) gD.nd rfl (Or.inl rfl) (aX HD (hr.mono (by decide)) (by rfl) (aj (pv 4) ao)))
   (aq (sS (i:=6) rfl gD.nd rfl (Or.inl rfl) (N:=["place","web"]) (own:=["place"]) (caps:=[4]) (bC.of (by kernel_rfl)) (dR (K:=K) rfl (aX wB (hr.mono (by decide)) (by rfl) (aj (pv 4) (aj (wO hu (pv 5) (cJ (lq (K:=K) rfl) (pv 2) dj (dh au)) (λ_ _=>rfl)) (aj (wO hu (pv 5) (cJ (lq (K:=K) rfl) (pv 2) (dh au) dj) (λ_ _=>rfl)) ao))))) (λ_ _ _ _=>(bD (i:=0) (show List.Nodup (["place","web"]:List Str) by decide +kernel) rfl (Or.inl rfl))) (λ_ _ _ _=>gH) (λ_ _ _ _=>(aL (aR (K:=K) rfl) (aL (aN (K:=K) rfl) (pv 1) (pv 0) (λ_ _=>rfl)) au (λ_ _=>rfl))))
   (aq (aM (i:=7) gD.nd rfl (Or.inl rfl) (Gj jO rfl hR (hr.mono (by decide)) (by rfl) (aj (pv 0) (aj (pv 3) ao))))
   (aq (iy PassesOwn.leaving rfl (dR (K:=K) rfl (pv 6)) (bD (i:=8) gD.nd rfl (Or.inl rfl))
   (aG (cB (oW cW aQ.cls rfl hR (hr.mono (by decide)) (pv 7) (aj (pv 8) ao)))))
   (aG (aW (cO (aj (pv 6) (aj (aX Ca (hr.mono (by decide)) (by rfl) (aj (pv 7) (aj (aL (aR (K:=K) rfl) (pv 2) au (λ_ _=>rfl)) (aj (aL (aR (K:=K) rfl) (pv 2) au (λ_ _=>rfl)) ao)))) (aj (aX Ca (hr.mono (by decide)) (by rfl) (aj (pv 7) (aj (aL (aR (K:=K) rfl) (pv 2) au (λ_ _=>rfl)) (aj (aL (aR (K:=K) rfl) (pv 2) au (λ_ _=>rfl)) ao)))) ao)))))))))))), ?_⟩
  refine⟨_,Z,_,Z,_,Z, ?_⟩;dsimp only[lF];refine⟨p,L,rs,rws,m,nv,ns,o,os,Z,g,r8,vC,na,ho,by lia,kb,λgood=>?_⟩;obtain⟨l,st,wk,ka,kc,kn⟩:=kg good;refine⟨l,st,wk,λes a H1 ha W s1=>?_,ka,kc⟩;subst es;obtain⟨k1,k2⟩:=kn rfl;obtain⟨S1,R,eo⟩:=Qh wk;have ll:l.length<=300:=by rw[eo,jf] at ol;exact ol
  have wl:(l.map bU).length<=300:=by rw[aad];exact ll
  have Uz:∀x∈l.map bU,0<=x.1/\x.1<8:=Yx (QM R) (by rw[Ms];exact r8);refine⟨_,Z,_,Z,a,t,l.map bU,x,Z,W,wl,Uz,s1 _ _ ht,λhx H2 s2=>?_,λnx H2 s2=>k2 (by rw[aad] at nx;exact nx) H2 (s1.trans s2)⟩;obtain⟨i,j,rfl,np⟩:=Bq hx;obtain⟨T,x,y,x',y',RT,ex,ey,pr⟩:=Og R (wX _ _ _) np;have hil:i<(l.map bU).length:=Nat.lt_trans np.lt np.jl;have s12:=s1.trans s2;refine⟨_,Z,a,_,Z,W.same s2,wl,λd kvs H3 hd h3 pl _ s3=>?_⟩;have s13:=s12.trans s3;refine⟨_,Z,_,Z,_,Z,_,Z,t,_,Z,cA.of (s13 _ _ ht),Rm _ rfl,λp1 hp1=>?_⟩;rw[show nR (nV (kh (l.map bU) i j)) none (some 2)=[V.int (hnd (l.map bU) i),V.int (cnt ((l.map bU).take i) (hnd (l.map bU) i))] from Yl _ _ _ _];have t1:=aB (o:=HO.tup [V.int (hnd (l.map bU) i),V.int (cnt ((l.map bU).take i) (hnd (l.map bU) i))]) hp1;refine⟨d,V.int (i:Int),Z,by rw[←pl.1 i _ (Yb hil)];exact pR.t (t1 _ _ h3) ak, ?_⟩;refine⟨_,Z,_,Z,_,Z,t,_,Z,cA.of (t1 _ _ (s13 _ _ ht)),Rk _ rfl,λp2 hp2=>?_⟩;rw[show nR (nV (kh (l.map bU) i j)) (some 2) none=[V.int (hnd (l.map bU) j),V.int (cnt ((l.map bU).take j) (hnd (l.map bU) j))] from Yk _ _ _ _];have t2:=aB (o:=HO.tup [V.int (hnd (l.map bU) j),V.int (cnt ((l.map bU).take j) (hnd (l.map bU) j))]) hp2;refine⟨d,V.int (j:Int),Z,by rw[←pl.1 j _ (Yb np.jl)];exact pR.t (t2 _ _ (t1 _ _ h3)) ak, ?_⟩;have s24:=((s2.trans s3).trans t1).trans t2;refine⟨a,l.map bU,i,j,Z,W.same s24,wl,np.jl,λD0 H5 Ww A5 s5=>?_⟩;have s25:=s24.trans s5;obtain⟨vs,ha5,dv⟩:=W.same s25
  have al:∀p∈gB (l.map bU) i j,p<l.length:=λp hp=>by
   have:=(mj.mp hp).1.lt;have:=np.jl;rw[aad] at this;lia
  have ZL:(gB (l.map bU) i j).length<=300:=by
   have:=List.length_filter_le (λp=>decide (qD (l.map bU) j p/\p≠i)) (List.range j);rw[List.length_range] at this;have:=np.jl;unfold gB;lia
  generalize haa:gB (l.map bU) i j=ah at A5 al ZL RT;refine⟨D0,Z,⟨_,bH.of A5⟩,λD hD=>?_⟩;refine Ho (K:=K) (xs:=(nI ah).map V.int) (λi=>(ah[i]?).bind λp=>some (V.int (hnd (l.map bU) p))) hD (bH.of A5) (by rw[aad,RX];lia) (λi v H6 G F hi s6 kG kF=>?_) (λH6 s6 e6=>?_)
  .rw[aah] at hi
   cases ep:ah[i]? with
   | none=>
     unfold nI at hi;rw[aah,ep] at hi;cases hi
   | some p=>
     rw[ZF ep] at hi;cases hi;have pl:=al p (aaM ep);obtain⟨vs',tp,ha',ev,htp⟩:=wH (W.same (s25.trans s6)) (mO (aae pl));refine⟨_,Z,_,Z,_,_,_,_,Z,Z,bH.of ha',cL ev,_,_,_,_,Z,Z,cA.of htp,Z,kF _ _ (Same.refl _) ?_⟩;rw[ep];show some (V.int (hnd (l.map bU) p))=_;rw[jF (mO (aae pl))]
  have s16:=(s1.trans s25).trans s6;rw[aad,RX,S_,G3 ah al] at e6;refine⟨_,Z,_,Z, ?_⟩;dsimp only[lF];refine(GK (i:=2) (τ:=aside 1 H6) (g.same s16) (by lia) (by lia) (tR _ _) (by decide) na.1 (na.2.elim .inl λ⟨cl,e,q⟩=> .inr ⟨cl,e,s16 _ _ q⟩) (λ_ τ Wo H7 w7 tg7 s7=>?_) λbad=>acq good bad);have tg7:∀x u,H6 x=some u->τ x=[1]:=λx u e=>by rw[tg7 x u e];exact tU e
  refine⟨_,Z,D,Z,⟨_,bH.of (s7 _ _ e6)⟩, ?_⟩;have gb:tX (iU m ns rws):=Oz λx hx=>good.2 x hx
  refine jo (K:=K) (a:=D) (xs:=(kI (pick l ah)).map V.int) (λn σ Hc=>∃(x1:Option V) (S2:iV),σ=[some (.ref p),some (.ref o),some (.ref t),some nv,some (.ref a),some (.ref d),some (.ref D),some (.ref Wo.o),x1]/\lU aC aD 2 τ Hc Wo S2/\Run (iU m ns rws) ((pick l ah).take n) S2/\Same H6 Hc)
   ⟨none,_,Z,w7,by rw[List.take_zero];rfl,s7⟩ (λn σ Hc _ ⟨_,_,_,_,_,sc⟩=>bH.of (sc _ _ e6)) ?_ ?_
  .rintro n v σ Hc hn ⟨x1,S2,rfl,wc,R2,sc⟩
   obtain⟨h,eh,rfl⟩:=ints_get hn;unfold kI at eh;rw[aah] at eh;cases et:(pick l ah)[n]? with
   | none=>rw[et] at eh;cases eh
   | some tt=>
     rw[et] at eh;cases eh;obtain⟨at1,R3⟩:=Iz RT R2 et;have pl:(pick l ah).length<=300:=abX (List.length_filterMap_le _ _) ZL;have tl:S2.ts.length<=10000:=by rw[uL R2];show ([]++_).length<=_;simp;lia
     refine⟨_,Z,Wo.o,Wo.dx,_,Z,wc.o,Z,_,Z, ?_⟩;dsimp only[lF];exact um wc tl at1 λq Hd hq eq wd st=>⟨_,_,Z,wd,R3,λx u e=>st.keep _ _ (sc _ _ e) (by rw[tg7 x u e];simp)⟩
  .rintro σ Hc ⟨x1,S2,rfl,wc,R2,sc⟩
   rw[aad,jf,aa4] at R2;have eT:=R2.det RT;subst eT;have pl:(pick l ah).length<=300:=abX (List.length_filterMap_le _ _) ZL;have tl:S2.ts.length<=9000:=by rw[uL R2];show ([]++_).length<=_;simp;lia
   have g2:=Gd R2 gb;have m2:S2.m<=100:=by rw[(Dg R2).2];show m<=100;lia
   have s1c:=s16.trans sc;have hi:hnd (l.map bU) i=(x.k:Int):=jF (mO ex);have hj:hnd (l.map bU) j=(y.k:Int):=jF (mO ey);refine⟨_,Z,_,Z,_,Z,_,_,_,_,Z,Z,cA.of (s1c _ _ ht),Z,_,Z,_,_,_,_,Z,Z,cA.of (s1c _ _ ht),Z, ?_⟩;refine⟨τ,Wo,S2,_,_,x,y,Z,hi,hj,wc,g2,m2,tl,pr.x1,pr.y1,λf1 p1 p2 H8 ef1 ep1 ep2 s8=>?_⟩;refine⟨_,Z,_,Z,_,_,_,_,Z,Z,cA.of (s8 _ _ (s1c _ _ ht)),Z,_,Z,_,_,_,_,Z,Z,cA.of (s8 _ _ (s1c _ _ ht)),Z, ?_⟩;refine⟨τ,Wo,S2,_,_,y',x',Z,hj.trans (by rw[pr.ey]),hi.trans (by rw[pr.ex]),wc.same s8,g2,m2,tl,pr.y2,by rw[pr.ey];exact pr.x2,λf2 p3 p4 H9 ef2 ep3 ep4 s9=>?_⟩;refine⟨(by show 3<=sizeLine;decide),λq hq=>?_⟩;have sq:=aB (o:=HO.tup [V.ref D,V.ref f1,V.ref f2]) hq;have s9q:=s9.trans sq;have s8q:=s8.trans s9q;subst haa;exact k1 i j rfl np _ _ ⟨q,D,f1,f2,p1,p2,p3,p4,S2,x,y,x',y',Z,ak,s8q _ _ (sc _ _ e6),s9q _ _ ef1,s9q _ _ ep1,s9q _ _ ep2,sq _ _ ef2,sq _ _ ep3,sq _ _ ep4,RT,ex,ey,pr⟩ (s1c.trans s8q)
theorem Bh{z:Int}(q y:Int)(h0:0<=z)(h1:z<3):∃v:Int,rJ [V.int 0,V.int q,V.int y] z=some (.int v)/\(v=0\/v=q\/v=y):=by
 have:z=0\/z=1\/z=2:=by lia
 rcases this with rfl|rfl|rfl
 .exact⟨0,Z,.inl rfl⟩
 .exact⟨q,Z,.inr (.inl rfl)⟩
 .exact⟨y,Z,.inr (.inr rfl)⟩
theorem wg.same{H H':Hp}{m:Nat}{nv:V}{ns:List Int}(h:wg H m nv ns)(k:Same H H'):wg H' m nv ns:=⟨h.1,h.2.elim .inl λ⟨cl,e,q⟩=> .inr ⟨cl,e,k _ _ q⟩⟩
noncomputable def Bf(K:PySem.W.Frag):Sp:=λvs H Q _=>∃(r b:Addr) (m n:Nat) (nv:V) (ns:List Int),vs=[.ref r,.int m,nv]/\bV H r b n/\n<100000000000/\0<m/\m<=20/\Al (dr r H) nv ns m /\
 ∀(t:Addr)(PX:V)(ns':List Int)(good:Bool)(H':Hp),H' t=some (.tup [PX,.bl good])->wg (dr r H') m PX ns'->(good=true↔fY m ns')->bV H' r b (n+10)->Kp r H H'->Q (.ref t) H'
theorem Bk:(10:Int) ^ ((29:Int).toNat)=100000000000000000000000000000:=by decide
theorem Jc{f:Addr}{fd:FuncData}(F:gP K "_law_spoilt_first" "_law_spoilt_first" jB f fd)(bf:FnAt P w K mg base 2 "_law_draw" ["bag","many"] (iu K)):bN P w K mg base iY 3 f fd ["bag","size","some"] (Bf K):=by
 refine F.ok gF (λvs H Q E h=>?_) (λcdv A outer s H vs Q E hr h=>?_)
 .obtain⟨r,b,m,n,nv,ns,rfl,_⟩:=h
  rfl
 .obtain⟨r,b,m,n,nv,ns,rfl,B0,hn,m0,vC,nh,k⟩:=h
  have hcp:PK 10 29:=⟨by decide,by decide,by decide⟩
  refine⟨_,(aq (aM (i:=3) gF.nd rfl (Or.inl rfl) (aX bf (hr.mono (by decide)) (by rfl) (aj (pv 0) (aj au ao))))
   (aq (aM (i:=4) gF.nd rfl (Or.inl rfl) (aX bf (hr.mono (by decide)) (by rfl) (aj (pv 0) (aj (pv 1) ao))))
   (aq (aM (i:=5) gF.nd rfl (Or.inl rfl) (aL (aN (K:=K) rfl) (bK (aj au (aj (aX bf (hr.mono (by decide)) (by rfl) (aj (pv 0) (aj au ao))) (aj (aX bf (hr.mono (by decide)) (by rfl) (aj (pv 0) (aj (bA yD au au) ao))) ao)))) (aX bf (hr.mono (by decide)) (by rfl) (aj (pv 0) (aj au ao))) (λ_ _=>rfl)))
   (aq (bQ (PW.pt (vA (aU Dn (pv 2) j8 (aV _)) (oM (aU oZ (pv 3) au (aV _))))) (aG (aW (cO (aj (pv 2) (aj sV ao))))) bh)
   (aq (bQ (aU cH (pv 3) au (aV _)) (aG (aW (cO (aj (bA jD (bA jD (cJ (fL (K:=K) rfl) (pv 2) dj (dh (pv 4))) (bK (aj au ao))) (cJ (fL (K:=K) rfl) (pv 2) (dh (pv 4)) dj)) (aj sV ao))))) bh)
   (aq (bQ (aU cH (pv 3) au (aV _)) (aG (aW (cO (aj (bA jD (cJ (fL (K:=K) rfl) (pv 2) dj (dh (pv 4))) (cJ (fL (K:=K) rfl) (pv 2) (dh (bA cX (pv 4) au)) dj)) (aj sV ao))))) bh)
   (aG (aW (cO (aj (bA jD (bA jD (cJ (fL (K:=K) rfl) (pv 2) dj (dh (pv 4))) (bK (aj (aL (aN (K:=K) rfl) (bK (aj (bA cX au (pv 5)) (aj (bA lN (oU jW au) (pv 5)) ao))) (bA lN (pv 3) au) (λ_ _=>rfl)) ao))) (cJ (fL (K:=K) rfl) (pv 2) (dh (bA cX (pv 4) au)) dj)) (aj sV ao))))))))))), ?_⟩
  refine⟨_,Z,r,b,6,n,Z,B0,by lia,by decide,by decide,λkd H1 kd0 kd1 B1 k1=>?_⟩;refine⟨_,Z,_,Z,r,b,m,_,Z,B1,by lia,by lia,by lia,λa H2 a0 a1 B2 k2=>?_⟩;obtain⟨a,rfl⟩:=abQ a0;refine⟨_,Z,r,b,9,_,Z,B2,by lia,by decide,by decide,λq H3 q0 q1 B3 k3=>?_⟩;refine⟨_,Z,_,_,Z,Z,hcp,r,b,_,_,Z,B3,by lia,by rw[Bk];decide,by rw[Bk];decide,λy H4 y0 y1 B4 k4=>?_⟩;refine⟨(by show 3<=sizeLine;decide),λl hl=>?_⟩;have sl:=aB (o:=HO.lst [V.int 0,V.int q,V.int y]) hl;obtain⟨zR,_⟩:=B4.ne hl;refine⟨_,Z,r,b,3,_,Z,B4.keep sl,by lia,by decide,by decide,λz H5 z0 z1 B5 k5=>?_⟩;obtain⟨far,ef,hf⟩:=Bh q y z0 z1;have f0:0<=far:=by rcases hf with rfl|rfl|rfl<;>lia
  refine⟨_,_,_,_,Z,Z,bH.of (k5 _ _ ak zR),ef, ?_⟩;have K5:Kp r H H5:=(((k1.trans k2).trans (k3.trans k4)).trans (.of_same sl)).trans k5;clear k1 k2 k3 k4 k5 B1 B2 B3 B4 sl zR hl ef hf;obtain⟨good,hv⟩:=nh;have nl:ns.length=m:=by have:=good.1;lia
  refine⟨_,Z,Z,_,Z, ?_⟩;rcases hv with ⟨rfl,rfl⟩|⟨cl,rfl,hc⟩
  .refine bJ (λ_=>?_) (λz=>acq (aaN rfl) z)
   refine⟨_,Z,(by show 2<=sizeLine;decide),λt ht=>?_⟩;have st:=aB (o:=HO.tup [V.non,V.bl true]) ht;exact k t .non _ true _ ak ⟨by lia,.inl ⟨Z,Z⟩⟩ ⟨λ_=>good,λ_=>rfl⟩ ((B5.keep st).mono (by lia)) (K5.trans (.of_same st))
  have ncr:cl≠r:=zm hc;have hc5:LI H5 cl ns:=K5 _ _ (fJ _ _ hc) ncr;refine bJ (λz=>acq (aaP z) (by intro w;cases w)) (λ_=>?_);refine⟨_,Z,_,_,Z,Z,_,Z, ?_⟩;refine bJ (λ_=>?_) (λk2=>?_)
  .refine⟨_,Z,(by show 2<=sizeLine;decide),λt ht=>?_⟩
   have st:=aB (o:=HO.tup [V.ref cl,V.bl true]) ht;exact k t _ ns true _ ak ⟨by lia,.inr ⟨cl,Z,mC (st _ _ hc5) ncr⟩⟩ ⟨λ_=>good,λ_=>rfl⟩ ((B5.keep st).mono (by lia)) (K5.trans (.of_same st))
  have kd2:2<=kd:=by simp at k2;lia
  have fin:∀(D:Addr)(ns':List Int)(H6:Hp),H5 D=none->LI H6 D ns'->Same H5 H6->ns'.length<=100 -> ¬fY m ns' -> ∀(G:VK),G=Q->(2<=sizeLine /\ ∀t,H6 t=none->G (.ref t) (upd H6 t (.tup [V.ref D,V.bl false]))):=λD ns' H6 hD LD s6 l1 nb G eG=>⟨by decide,λt ht=>by
   subst eG;have st:=aB (o:=HO.tup [V.ref D,V.bl false]) ht;obtain⟨Dq,_⟩:=B5.ne hD;exact k t _ ns' false _ ak ⟨l1,.inr ⟨D,Z,mC (st _ _ LD) Dq⟩⟩ ⟨λz=>(by cases z),λz=>acq z nb⟩ (((B5.keep s6).keep st).mono (by lia)) ((K5.trans (.of_same s6)).trans (.of_same st))⟩
  refine⟨_,Z,Z,_,Z,bJ (λ_=>?_) (λ_=>?_)⟩
  .refine⟨_,Z,_,Z,_,Z,pW hc5 (by lia) λp1 H6 f1 L1 s1=>?_⟩
   refine⟨(by show 1<=sizeLine;decide),λp3 hp3=>?_⟩;have s3:=aB (o:=HO.lst [V.int 0]) hp3;refine gA (ys:=[0]) (L1.same s3) ak (by simp;lia) λp4 H7 f4 L4 s4=>?_;refine⟨_,Z,_,Z,_,Z,pX (((hc5.same s1).same s3).same s4) (by lia) λp5 H8 f5 L5 s5=>?_⟩;refine gA (L4.same s5) L5 (by simp;lia) λp6 H9 f6 L6 s6=>?_;have T:=(((s1.trans s3).trans s4).trans s5);exact fin p6 _ H9 (T.free f6) L6 (T.trans s6) (by simp;lia) (λz=>by have:=z.1;simp at this;lia) _ rfl
  refine⟨_,Z,Z,_,Z,bJ (λ_=>?_) (λ_=>?_)⟩
  .refine⟨_,Z,_,Z,_,Z,pW hc5 (by lia) λp1 H6 f1 L1 s1=>?_⟩
   refine⟨_,Z,_,Z,_,_,Z,Z,_,Z,pX (hc5.same s1) (by lia) λp5 H8 f5 L5 s5=>?_⟩;refine gA (L1.same s5) L5 (by simp;lia) λp6 H9 f6 L6 s6=>?_;exact fin p6 _ H9 ((s1.trans s5).free f6) L6 ((s1.trans s5).trans s6) (by simp;lia) (λz=>by have:=z.1;simp at this;lia) _ rfl
  .rename_i n2 n3
   have kd4:kd=4\/kd=5:=by simp at n2 n3;lia
   refine⟨_,Z,_,Z,_,Z,pW hc5 (by lia) λp1 H6 f1 L1 s1=>?_⟩;refine⟨_,Z,_,_,Z,Z,_,Z,_,Z,_,_,Z,Z,(by show 2<=sizeLine;decide),λl hl=>?_⟩;have sl:=aB (o:=HO.lst [V.int (1000+far),V.int (-1 - far)]) hl
   obtain⟨bad,eb,hb⟩:∃bad:Int,rJ [V.int (1000+far),V.int (-1 - far)] (kd - 4)=some (.int bad) /\ ¬(0<=bad/\bad<1000):=by
    rcases kd4 with rfl|rfl
    .exact⟨1000+far,Z,by lia⟩
    .exact⟨-1 - far,Z,by lia⟩
   refine⟨_,Z,_,_,Z,Z,_,_,_,_,Z,Z,bH.of ak,eb,(by show 1<=sizeLine;decide),λp3 hp3=>?_⟩;have s3:=aB (o:=HO.lst [V.int bad]) hp3;refine gA (ys:=[bad]) ((L1.same sl).same s3) ak (by simp;lia) λp4 H7 f4 L4 s4=>?_;have Uw:=((s1.trans sl).trans s3).trans s4;refine⟨_,Z,_,Z,_,_,Z,Z,_,Z,pX (hc5.same Uw) (by lia) λp5 H8 f5 L5 s5=>?_⟩;refine gA (L4.same s5) L5 (by simp;lia) λp6 H9 f6 L6 s6=>?_;exact fin p6 _ H9 ((Uw.trans s5).free f6) L6 ((Uw.trans s5).trans s6) (by simp;lia) (λz=>hb (z.2 bad (by simp))) _ rfl
noncomputable def Bb(K:PySem.W.Frag):Sp:=λvs H Q _=>∃(r b o:Addr) (hn n:Nat) (os:List Int),vs=[.ref r,.int hn,.ref o]/\bV H r b n/\n<100000000000/\1<=hn/\hn<=8/\LI H o os/\o≠r/\os.length<=100 /\
 ∀(o':Addr)(os':List Int)(H':Hp),H o'=none->LI H' o' os'->os'.length<=200->bV H' r b (n+20)->Kp r H H'->Q (.ref o') H'
theorem Jb{f:Addr}{fd:FuncData}(F:gP K "_law_spoilt_order" "_law_spoilt_order" jA f fd)(bf:FnAt P w K mg base 2 "_law_draw" ["bag","many"] (iu K))(Bt:rN mg):bN P w K mg base iY 3 f fd ["bag","hands","order"] (Bb K):=by
 refine F.ok cI (λvs H Q E h=>?_) (λcdv A outer s H vs Q E hr h=>?_)
 .obtain⟨r,b,o,hn,n,os,rfl,_⟩:=h
  rfl
 .obtain⟨r,b,o,hn,n,os,rfl,B0,hnn,m0,m8,ho,nor,ol,k⟩:=h
  have hcp:PK 10 29:=⟨by decide,by decide,by decide⟩;have ln:(List.map V.int os).length=os.length:=aad ..
  refine⟨_,(aq (aM (i:=3) cI.nd rfl (Or.inl rfl) (aX bf (hr.mono (by decide)) (by rfl) (aj (pv 0) (aj au ao))))
   (aq (aM (i:=4) cI.nd rfl (Or.inl rfl) (aX bf (hr.mono (by decide)) (by rfl) (aj (pv 0) (aj (bA cX (bM (bO (K:=K) rfl) (by rfl) Bt.lD iT (aj (pv 2) ao)) au) ao))))
   (aq (aM (i:=5) cI.nd rfl (Or.inl rfl) (aX bf (hr.mono (by decide)) (by rfl) (aj (pv 0) (aj (bA cX (bM (bO (K:=K) rfl) (by rfl) Bt.lD iT (aj (pv 2) ao)) au) ao))))
   (aq (aM (i:=6) cI.nd rfl (Or.inl rfl) (aX bf (hr.mono (by decide)) (by rfl) (aj (pv 0) (aj (pv 1) ao))))
   (aq (aM (i:=7) cI.nd rfl (Or.inl rfl) (aL (aN (K:=K) rfl) (bK (aj au (aj (aX bf (hr.mono (by decide)) (by rfl) (aj (pv 0) (aj au ao))) (aj (aX bf (hr.mono (by decide)) (by rfl) (aj (pv 0) (aj (bA yD au au) ao))) ao)))) (aX bf (hr.mono (by decide)) (by rfl) (aj (pv 0) (aj au ao))) (λ_ _=>rfl)))
   (aq (bQ (aU cH (pv 3) au (aV _)) (aG (aW (fX (cM (K:=K) rfl) (by rfl) Bt.kW iR (aj (pv 2) ao)))) bh)
   (aq (bQ (aU oZ (pv 3) au (aV _)) (aG (aW (bA jD (bA jD (cJ (fL (K:=K) rfl) (pv 2) dj (dh (pv 5))) (bK (aj (pv 6) ao))) (cJ (fL (K:=K) rfl) (pv 2) (dh (pv 5)) dj)))) bh)
   (aq (aM (i:=8) cI.nd rfl (Or.inl rfl) (bA jD (bA jD (cJ (fL (K:=K) rfl) (pv 2) dj (dh (pv 5))) (bK (aj (aL (aN (K:=K) rfl) (bK (aj (bA cX (pv 1) (pv 7)) (aj (bA lN (oU jW au) (pv 7)) ao))) (aX bf (hr.mono (by decide)) (by rfl) (aj (pv 0) (aj au ao))) (λ_ _=>rfl)) ao))) (cJ (fL (K:=K) rfl) (pv 2) (dh (pv 5)) dj)))
   (aq (bQ (aU cH (pv 3) au (aV _)) (aG (aM (i:=8) cI.nd rfl (Or.inl rfl) (bA jD (bA jD (cJ (fL (K:=K) rfl) (pv 8) dj (dh (pv 4))) (bK (aj (pv 6) (aj (pv 6) ao)))) (cJ (fL (K:=K) rfl) (pv 8) (dh (pv 4)) dj)))) bh)
   (aG (aW (pv 8)))))))))))), ?_⟩
  refine⟨_,Z,r,b,5,n,Z,B0,by lia,by decide,by decide,λkd H1 kd0 kd1 B1 k1=>?_⟩;have o1:LI H1 o os:=k1 _ _ ho nor;refine⟨_,Z,_,Z,o,_,Z,.inl (bH.of o1),_,_,Z,Z,r,b,_,_,Z,B1,by lia,by lia,by lia,λto H2 t0 t1 B2 k2=>?_⟩;have o2:LI H2 o os:=k2 _ _ o1 nor;refine⟨_,Z,_,Z,o,_,Z,.inl (bH.of o2),_,_,Z,Z,r,b,_,_,Z,B2,by lia,by lia,by lia,λa H3 a0 a1 B3 k3=>?_⟩;have o3:LI H3 o os:=k3 _ _ o2 nor;refine⟨_,Z,_,Z,r,b,hn,_,Z,B3,by lia,by lia,by lia,λhd H4 h0 h1 B4 k4=>?_⟩;have o4:LI H4 o os:=k4 _ _ o3 nor;refine⟨_,Z,r,b,9,_,Z,B4,by lia,by decide,by decide,λq H5 q0 q1 B5 k5=>?_⟩;refine⟨_,Z,_,_,Z,Z,hcp,r,b,_,_,Z,B5,by lia,by rw[Bk];decide,by rw[Bk];decide,λy H6 y0 y1 B6 k6=>?_⟩;have o6:LI H6 o os:=k6 _ _ (k5 _ _ o4 nor) nor;refine⟨(by show 3<=sizeLine;decide),λl hl=>?_⟩;have sl:=aB (o:=HO.lst [V.int 0,V.int q,V.int y]) hl;obtain⟨zR,_⟩:=B6.ne hl;refine⟨_,Z,r,b,3,_,Z,B6.keep sl,by lia,by decide,by decide,λz H7 z0 z1 B7 k7=>?_⟩;obtain⟨far,ef,hf⟩:=Bh q y z0 z1;refine⟨_,_,_,_,Z,Z,bH.of (k7 _ _ ak zR),ef, ?_⟩;have K7:Kp r H H7:=((((k1.trans k2).trans (k3.trans k4)).trans (k5.trans k6)).trans (.of_same sl)).trans k7;have o7:LI H7 o os:=k7 _ _ (sl _ _ o6) nor;have fr:∀{p:Addr},H7 p=none->H p=none:=fun {p} e=>qm K7 (B7.ne e).1 e;clear k1 k2 k3 k4 k5 k6 k7 B1 B2 B3 B4 B5 B6 o1 o2 o3 o4 o6 sl zR hl ef hf;refine⟨_,Z,Z,_,Z,bJ (λ_=>?_) (λ_=>?_)⟩
  .refine⟨_,Z,o,_,Z,.inl (bH.of o7),λp hp=>?_⟩
   have sp:=aB (o:=HO.lst (os.map V.int)) hp;exact k p os _ (fr hp) ak (by lia) ((B7.keep sp).mono (by lia)) (K7.trans (.of_same sp))
  have at0:0<=a:=a0;refine⟨_,Z,_,_,Z,Z,_,Z,bJ (λ_=>?_) (λ_=>?_)⟩
  .refine⟨_,Z,_,Z,_,Z,pW o7 at0 λp1 H8 f1 L1 s1=>?_⟩
   refine⟨_,Z,(by show 1<=sizeLine;decide),λp3 hp3=>?_⟩;have s3:=aB (o:=HO.lst [V.int hd]) hp3;refine gA (ys:=[hd]) (L1.same s3) ak (by simp;lia) λp4 H9 f4 L4 s4=>?_;have Uw:=(s1.trans s3).trans s4;refine⟨_,Z,_,Z,_,Z,pX (o7.same Uw) at0 λp5 zV f5 L5 s5=>?_⟩;refine gA (L4.same s5) L5 (by simp;lia) λp6 Qa f6 L6 s6=>?_;have T:=Uw.trans s5;exact k p6 _ Qa (fr (T.free f6)) L6 (by simp;lia) ((B7.keep (T.trans s6)).mono (by lia)) (K7.trans (.of_same (T.trans s6)))
  refine⟨_,Z,_,Z,_,Z,pW o7 at0 λp1 H8 f1 L1 s1=>?_⟩;refine⟨_,Z,_,Z,_,_,Z,Z,_,Z,_,Z,_,_,Z,Z,(by show 2<=sizeLine;decide),λl2 hl2=>?_⟩;have sl2:=aB (o:=HO.lst [V.int (hn+far),V.int (-1 - far)]) hl2;obtain⟨nl2,_⟩:=(B7.keep s1).ne hl2;have n1r:p1≠r:=(B7.ne f1).1;refine⟨_,Z,r,b,2,_,Z,(B7.keep s1).keep sl2,by lia,by decide,by decide,λu H9 u0 u1 B9 k9=>?_⟩;obtain⟨bad,eb,_⟩:=rQ (hn+far) (-1 - far) u0 u1;refine⟨_,_,_,_,Z,Z,bH.of (k9 _ _ ak nl2),eb,(by show 1<=sizeLine;decide),λp3 hp3=>?_⟩;have s3:=aB (o:=HO.lst [V.int bad]) hp3;have K9:Kp r H H9:=(K7.trans (.of_same (s1.trans sl2))).trans k9;have o9:LI H9 o os:=k9 _ _ (sl2 _ _ (s1 _ _ o7)) nor;have L19:LI H9 p1 (os.take a.toNat):=k9 _ _ (sl2 _ _ L1) n1r;have fr9:∀{p:Addr},H9 p=none->H p=none:=fun {p} e=>qm K9 (B9.ne e).1 e;refine gA (ys:=[bad]) (L19.same s3) ak (by simp;lia) λp4 zV f4 L4 s4=>?_;have Uu:=s3.trans s4;refine⟨_,Z,_,Z,_,Z,pX (o9.same Uu) at0 λp5 Qa f5 L5 s5=>?_⟩;refine gA (L4.same s5) L5 (by simp;lia) λp6 Am f6 L6 s6=>?_;have T:=Uu.trans s5;have T6:=T.trans s6;have f6':H9 p6=none:=T.free f6;generalize hos:os.take a.toNat++[bad]++os.drop a.toNat=os2 at L6;have ol2:os2.length<=150:=by rw[←hos];simp;lia
  have ol3:(os2.length:Int)=os.length+1:=by rw[←hos];simp;lia
  refine⟨_,Z,Z,_,Z,bJ (λ_=>?_) (λ_=>?_)⟩
  .refine⟨_,Z,_,Z,_,Z,pW L6 t0 λq1 H13 g1 M1 u1=>?_⟩
   refine⟨_,Z,_,Z,(by show 2<=sizeLine;decide),λq3 hq3=>?_⟩;have u3:=aB (o:=HO.lst [V.int hd,V.int hd]) hq3;refine gA (ys:=[hd,hd]) (M1.same u3) ak (by simp;lia) λq4 H14 g4 M4 u4=>?_;have u14:=(u1.trans u3).trans u4;refine⟨_,Z,_,Z,_,Z,pX (L6.same u14) t0 λq5 Xp g5 M5 u5=>?_⟩;refine gA (M4.same u5) M5 (by simp;lia) λq6 H16 g6 M6 u6=>?_;have U:=u14.trans u5;refine⟨_,Z,k q6 _ H16 (fr9 (T6.free (U.free g6))) M6 (by simp;lia) ((B9.keep (T6.trans (U.trans u6))).mono (by lia)) (K9.trans (.of_same (T6.trans (U.trans u6))))⟩
  .exact⟨_,Z,k p6 os2 Am (fr9 f6') L6 (by lia) ((B9.keep T6).mono (by lia)) (K9.trans (.of_same T6))⟩
theorem pL{K:PySem.W.Frag}{H:Hp}{a b:Addr}{xs ys:List V}{Q:VK}(ha:H a=some (.tup xs))(hb:H b=some (.tup ys))(hl:xs.length+ys.length<=1000)(k:∀p H',H' p=some (.tup (xs++ys))->Same H H'->Q (.ref p) H'):XS K (.ref a) (.ref b) H Q:=
 ⟨a,b,xs,ys,Z,Z,cA.of ha,cA.of hb,by rw[sizeLine_eq];lia,λe=>k b H (by rw[e];exact hb) (Same.refl _),λ_ e=>k a H (by rw[e,List.append_nil];exact ha) (Same.refl _),λ_ _ p hp=>k p _ ak (aB hp)⟩
theorem Gg(x:Nt)(v:Int){k:Nat}(h:k<4):∃x':Nt,(nV x).take k++[V.int v]++(nV x).drop (k+1)=nV x':=by
 obtain⟨a,b,c,d⟩:=x;have:k=0\/k=1\/k=2\/k=3:=by lia
 rcases this with rfl|rfl|rfl|rfl
 .exact⟨(v,b,c,d),Z⟩
 .exact⟨(a,v,c,d),Z⟩
 .exact⟨(a,b,v,d),Z⟩
 .exact⟨(a,b,c,v),Z⟩
theorem Xg(x:Nt){k:Nat}(h:k<4):∃v:Int,rJ (nV x) (k:Int)=some (V.int v):=by
 obtain⟨a,b,c,d⟩:=x;have:k=0\/k=1\/k=2\/k=3:=by lia
 rcases this with rfl|rfl|rfl|rfl
 .exact⟨a,Z⟩
 .exact⟨b,Z⟩
 .exact⟨c,Z⟩
 .exact⟨d,Z⟩
theorem Gn{h:Nat}(l:h<4):¬(HT.iz 4 0 none=0/\HT.iz 4 4 (some (h:Int))=4):=λz=>by
 have:=z.2;rw[HT.wL] at this;lia
theorem yC{h:Nat}(l:h<4):¬(HT.iz 4 0 (some ((h+1:Nat):Int))=0/\HT.iz 4 4 none=4):=λz=>by
 have:=z.1;rw[HT.wL] at this;lia
noncomputable def Ft(K:PySem.W.Frag):Sp:=λvs H Q _=>∃(r b T:Addr) (n:Nat) (ns:List Nt),vs=[.ref r,.ref T]/\bV H r b n/\n<100000000000/\gO (dr r H) T ns/\ns.length<=100000 /\
 ∀(t:Addr)(x:Nt)(H':Hp),H' t=some (.tup (nV x))->bV H' r b (n+20)->Kp r H H'->Q (.ref t) H'
theorem NZ{f:Addr}{fd:FuncData}(F:gP K "_law_spoilt_note" "_law_spoilt_note" j4 f fd)(bf:FnAt P w K mg base 2 "_law_draw" ["bag","many"] (iu K))(Bt:rN mg):bN P w K mg base iY 3 f fd ["bag","ties"] (Ft K):=by
 refine F.ok d9 (λvs H Q E h=>?_) (λcdv A outer s H vs Q E hr h=>?_)
 .obtain⟨r,b,T,n,ns,rfl,_⟩:=h
  rfl
 .obtain⟨r,b,T,n,ns,rfl,B0,hn,N,nl,k⟩:=h
  have iZ:=hr.units;have hcp:PK 10 29:=⟨by decide,by decide,by decide⟩
  refine⟨_,(aq (aM (i:=2) d9.nd rfl (Or.inl rfl) (aX bf (hr.mono (by decide)) (by rfl) (aj (pv 0) (aj au ao))))
   (aq (aM (i:=3) d9.nd rfl (Or.inl rfl) (aX bf (hr.mono (by decide)) (by rfl) (aj (pv 0) (aj au ao))))
   (aq (aM (i:=4) d9.nd rfl (Or.inl rfl) (aL (aN (K:=K) rfl) (bK (aj (oU jW au) (aj au ao))) (aX bf (hr.mono (by decide)) (by rfl) (aj (pv 0) (aj au ao))) (λ_ _=>rfl)))
   (aq (aM (i:=5) d9.nd rfl (Or.inl rfl) (bA oY (aL (aN (K:=K) rfl) (bK (aj au (aj au (aj au (aj (aX bf (hr.mono (by decide)) (by rfl) (aj (pv 0) (aj (bA yD au au) ao))) ao))))) (aX bf (hr.mono (by decide)) (by rfl) (aj (pv 0) (aj au ao))) (λ_ _=>rfl)) (pv 4)))
   (aq (bQ (PW.pt (vA (aU (wQ (K:=K) rfl iZ) (pv 1) (bK ao) (aV _)) (oM (aU cH (pv 2) au (aV _))))) (aG (aW (cO (aj (aX bf (hr.mono (by decide)) (by rfl) (aj (pv 0) (aj au ao))) (aj (aX bf (hr.mono (by decide)) (by rfl) (aj (pv 0) (aj au ao))) (aj (aX bf (hr.mono (by decide)) (by rfl) (aj (pv 0) (aj au ao))) (aj (aX bf (hr.mono (by decide)) (by rfl) (aj (pv 0) (aj au ao))) ao))))))) bh)
   (aq (aM (i:=6) d9.nd rfl (Or.inl rfl) (aL (aN (K:=K) rfl) (pv 1) (aX bf (hr.mono (by decide)) (by rfl) (aj (pv 0) (aj (bM (bO (K:=K) rfl) (by rfl) Bt.lD iT (aj (pv 1) ao)) ao))) (λ_ _=>rfl)))
   (aq (bQ (aU cH (pv 2) au (aV _)) (aG (aW (bA (sW (K:=K) rfl) (cJ (lq (K:=K) rfl) (pv 6) (dh au) dj) (cJ (lq (K:=K) rfl) (pv 6) dj (dh au))))) bh)
   (aq (bQ (aU cH (pv 2) au (aV _)) (aG (aW (bA (sW (K:=K) rfl) (bA (sW (K:=K) rfl) (cJ (lq (K:=K) rfl) (pv 6) dj (dh (pv 3))) (cO (aj (bA cX (aL (aR (K:=K) rfl) (pv 6) (pv 3) (λ_ _=>rfl)) (pv 4)) ao))) (cJ (lq (K:=K) rfl) (pv 6) (dh (bA cX (pv 3) au)) dj)))) bh)
   (aq (bQ (aU cH (pv 2) au (aV _)) (aG (aW (bA (sW (K:=K) rfl) (bA (sW (K:=K) rfl) (cJ (lq (K:=K) rfl) (pv 6) dj (dh (pv 3))) (cO (aj (pv 5) ao))) (cJ (lq (K:=K) rfl) (pv 6) (dh (bA cX (pv 3) au)) dj)))) bh)
   (aG (aW (pv 6)))))))))))), ?_⟩
  refine⟨_,Z,r,b,6,n,Z,B0,by lia,by decide,by decide,λkd H1 kd0 kd1 B1 k1=>?_⟩;refine⟨_,Z,r,b,4,_,Z,B1,by lia,by decide,by decide,λpt H2 p0 p1 B2 k2=>?_⟩;obtain⟨pt,rfl⟩:=abQ p0;have p4:pt<4:=by lia
  refine⟨_,Z,(by show 2<=sizeLine;decide),λl hl=>?_⟩;have sl:=aB (o:=HO.lst [V.int (-1),V.int 1]) hl;obtain⟨zR,_⟩:=B2.ne hl;refine⟨_,Z,r,b,2,_,Z,B2.keep sl,by lia,by decide,by decide,λz H3 z0 z1 B3 k3=>?_⟩;obtain⟨st,es,hst⟩:=rQ (-1) 1 z0 z1;refine⟨_,_,_,_,Z,Z,bH.of (k3 _ _ ak zR),es, ?_⟩;refine⟨_,Z,_,_,Z,Z,hcp,r,b,_,_,Z,B3,by lia,by rw[Bk];decide,by rw[Bk];decide,λy H4 y0 y1 B4 k4=>?_⟩;refine⟨(by show 4<=sizeLine;decide),λl2 hl2=>?_⟩;have sl2:=aB (o:=HO.lst [V.int 8,V.int 9,V.int 300,V.int y]) hl2;obtain⟨abW,_⟩:=B4.ne hl2;refine⟨_,Z,r,b,4,_,Z,B4.keep sl2,by lia,by decide,by decide,λu H5 u0 u1 B5 k5=>?_⟩
  obtain⟨f,ef⟩:∃f:Int,rJ [V.int 8,V.int 9,V.int 300,V.int y] u=some (.int f):=by
   have:u=0\/u=1\/u=2\/u=3:=by lia
   rcases this with rfl|rfl|rfl|rfl
   .exact⟨8,Z⟩
   .exact⟨9,Z⟩
   .exact⟨300,Z⟩
   .exact⟨y,Z⟩
  have hmul:Xw f st:=by rcases hst with rfl|rfl<;>exact .inr ⟨by decide,by decide⟩
  refine⟨_,_,_,_,Z,Z,bH.of (k5 _ _ ak abW),ef,_,Z,_,_,Z,Z,hmul, ?_⟩;have K5:Kp r H H5:=((((k1.trans k2).trans (.of_same sl)).trans (k3.trans k4)).trans (.of_same sl2)).trans k5;have N5:gO (dr r H5) T ns:=N.same (Kp.dr K5);clear k1 k2 k3 k4 k5 B1 B2 B3 B4 sl sl2 zR abW hl hl2 ef es hmul;obtain⟨vs,hT,dv⟩:=id N5;have nTr:T≠r:=zm hT;have N5':gO H5 T ns:=N5.same fJ;obtain⟨vs',hT',dv'⟩:=id N5';refine⟨_,Z,(by show 0<=sizeLine;decide),λe0 he0=>?_⟩;have se:=aB (o:=HO.lst []) he0;have N6:=N5.same (Same.dr (r:=r) se);have B6:=B5.keep se;have K6:=K5.trans (.of_same se);refine⟨_,_,jq (se _ _ hT') (aO.keep se.tups _ (cj _ jE ns) dv'),jq (ds:=[]) ak (by simp[aO]),mU ns,mU [],_,Z, ?_⟩;rw[show PyData.eqv (.list (ns.map nD)) (.list [])=decide (ns=[]) by rw[show ([]:List PyData)=([]:List Nt).map nD from rfl,za nD DP]];generalize (upd H5 e0 (.lst []))=H6 at N6 B6 K6 ⊢
  by_cases hd:ns=[]\/kd=4
  .have fin:∀(D:Ends),D.rt=Q->Vd (abf (lg (Az (iu K) [] E0 (lg (rR 0) (lg (tC (V.int 8)) lF))) (lg (Az (iu K) [] E0 (lg (rR 0) (lg (tC (V.int 9)) lF))) (lg (Az (iu K) [] E0 (lg (rR 0) (lg (tC (V.int 8)) lF))) (lg (Az (iu K) [] E0 (lg (rR 0) (lg (tC (V.int 9)) lF))) lF))))) D [some (.ref r),some (.ref T),some (.int kd),some (.int pt),some (.int st),some (.int (f*st)),none] H6:=λD eD=>by
    refine⟨_,Z,r,b,8,_,Z,B6,by lia,by decide,by decide,λa1 H7 _ _ B7 k7=>?_⟩;refine⟨_,Z,r,b,9,_,Z,B7,by lia,by decide,by decide,λa2 H8 _ _ B8 k8=>?_⟩;refine⟨_,Z,r,b,8,_,Z,B8,by lia,by decide,by decide,λa3 H9 _ _ B9 k9=>?_⟩;refine⟨_,Z,r,b,9,_,Z,B9,by lia,by decide,by decide,λa4 zV _ _ B10 k10=>?_⟩;refine⟨(by show 4<=sizeLine;decide),λt ht=>?_⟩;have s4:=aB (o:=HO.tup [V.int a1,V.int a2,V.int a3,V.int a4]) ht;show D.rt _ _;rw[eD];exact k t (a1,a2,a3,a4) _ ak ((B10.keep s4).mono (by lia)) ((((K6.trans k7).trans k8).trans (k9.trans k10)).trans (.of_same s4))
   by_cases e:ns=[]
   .rw[aaN e]
    refine(show if true=true then _ else _ from fD ?_);exact fin _ rfl
   .rw[aaO e]
    refine(show if false=true then _ else _ from fG ?_);refine⟨_,Z,Z,_,Z, ?_⟩;refine bJ (λ_=>fin _ rfl) (λz=>acq (by rw[hd.resolve_left e];exact aaN rfl) z)
  have ne:ns≠[]:=λe=>hd (.inl e);have n4:¬kd=4:=λe=>hd (.inr e);have np:0<ns.length:=List.length_pos_iff.mpr ne;rw[aaO ne];refine(show if false=true then _ else _ from fG ?_);refine⟨_,Z,Z,_,Z,bJ (λz=>acq (by injection (aaP z)) n4) (λ_=>?_)⟩;obtain⟨vs6,hT6,dv6⟩:=id (N6.same fJ);have vl:vs6.length=ns.length:=by rw[dv6.length,aad]
  refine⟨_,Z,_,Z,_,Z,T,_,Z,.inl (bH.of hT6),r,b,_,_,Z,B6,by lia,by rw[vl];lia,by rw[vl];lia,λq H7 q0 q1 B7 k7=>?_⟩;obtain⟨q,rfl⟩:=abQ q0;have ql:q<vs6.length:=by lia
  have N7:=(N6.same (Kp.dr k7)).same fJ;obtain⟨vs7,hT7,dv7⟩:=N7;have vl7:vs7.length=ns.length:=by rw[dv7.length,aad]
  obtain⟨x,t,ex,ev,ht⟩:=Ln dv7 (i:=q) (v:=vs7[q]'(by lia)) (aae _);refine⟨_,_,_,_,Z,Z,bH.of hT7,cL (aae (by lia)), ?_⟩;rw[ev];have K7:=K6.trans k7;refine⟨_,Z,Z,_,Z,bJ (λ_=>?_) (λ_=>?_)⟩
  .
   refine⟨_,Z,_,Z,t,_,Z,cA.of ht,Rk _ rfl,λp1 hp1=>?_⟩;rw[show nR (nV x) (some 2) none=[V.int x.2.2.1,V.int x.2.2.2] from Yk _ _ _ _];have s1:=aB (o:=HO.tup [V.int x.2.2.1,V.int x.2.2.2]) hp1;refine⟨_,Z,_,Z,t,_,Z,cA.of (s1 _ _ ht),Rm _ rfl,λp2 hp2=>?_⟩;rw[show nR (nV x) none (some 2)=[V.int x.1,V.int x.2.1] from Yl _ _ _ _];have s2:=aB (o:=HO.tup [V.int x.1,V.int x.2.1]) hp2;refine pL (s2 _ _ ak) ak (by simp) λp3 H8 e8 s3=>?_;have T:=(s1.trans s2).trans s3;exact k p3 (x.2.2.1,x.2.2.2,x.1,x.2.1) H8 e8 ((B7.keep T).mono (by lia)) (K7.trans (.of_same T))
  refine⟨_,Z,Z,_,Z,bJ (λ_=>?_) (λ_=>?_)⟩
  .refine⟨_,Z,_,Z,_,Z,t,_,Z,cA.of ht,Gn p4,λp1 hp1=>?_⟩
   rw[tM];have s1:=aB (o:=HO.tup ((nV x).take pt)) hp1;obtain⟨v,ev'⟩:=Xg x p4;refine⟨_,Z,_,Z,_,_,_,_,Z,Z,cA.of (s1 _ _ ht),ev',_,Z,_,_,Z,Z,(by show 1<=sizeLine;decide),λp2 hp2=>?_⟩;have s2:=aB (o:=HO.tup [V.int (v+st)]) hp2;refine pL (s2 _ _ ak) ak (by have q4:(nV x).length=4:=Z;simp;lia) λp3 H8 e8 s3=>?_;have T:=(s1.trans s2).trans s3;refine⟨_,Z,_,Z,_,_,Z,Z,_,Z,t,_,Z,cA.of (T _ _ ht),yC p4,λp5 hp5=>?_⟩;rw[show ((pt:Nat):Int)+1=((pt+1:Nat):Int) by lia,tO];have s5:=aB (o:=HO.tup ((nV x).drop (pt+1))) hp5;refine pL (s5 _ _ e8) ak (by have q4:(nV x).length=4:=Z;simp;lia) λp6 H9 e9 s6=>?_;obtain⟨x',ex'⟩:=Gg x (v+st) p4;rw[ex'] at e9;have T':=(T.trans s5).trans s6;exact k p6 x' H9 e9 ((B7.keep T').mono (by lia)) (K7.trans (.of_same T'))
  refine⟨_,Z,Z,_,Z,bJ (λ_=>?_) (λ_=>?_)⟩
  .refine⟨_,Z,_,Z,_,Z,t,_,Z,cA.of ht,Gn p4,λp1 hp1=>?_⟩
   rw[tM];have s1:=aB (o:=HO.tup ((nV x).take pt)) hp1;refine⟨_,Z,(by show 1<=sizeLine;decide),λp2 hp2=>?_⟩;have s2:=aB (o:=HO.tup [V.int (f*st)]) hp2;refine pL (s2 _ _ ak) ak (by have q4:(nV x).length=4:=Z;simp;lia) λp3 H8 e8 s3=>?_;have T:=(s1.trans s2).trans s3;refine⟨_,Z,_,Z,_,_,Z,Z,_,Z,t,_,Z,cA.of (T _ _ ht),yC p4,λp5 hp5=>?_⟩;rw[show ((pt:Nat):Int)+1=((pt+1:Nat):Int) by lia,tO];have s5:=aB (o:=HO.tup ((nV x).drop (pt+1))) hp5;refine pL (s5 _ _ e8) ak (by have q4:(nV x).length=4:=Z;simp;lia) λp6 H9 e9 s6=>?_;obtain⟨x',ex'⟩:=Gg x (f*st) p4;rw[ex'] at e9;have T':=(T.trans s5).trans s6;exact k p6 x' H9 e9 ((B7.keep T').mono (by lia)) (K7.trans (.of_same T'))
  .exact⟨_,Z,k t x H7 ht (B7.mono (by lia)) K7⟩
noncomputable def HY(good:Bool)(st:Option Bool):Str:=match good,st with
 | false,_=> "NoNumber"
 | true,none=> ""
 | true,some true=> "NoHand"
 | true,some false=> "Over"
theorem XJ{i:Nat}{v:V}{u:TS}{D:Ends}{σ:St}{H:Hp}(h:u D (σ.set i (some v)) H):Qt (Ve (tC v) (iK i)) u D σ H:=h
noncomputable def xQ(CW CH:Addr)(K:PySem.W.Frag):Sp:=λvs H Q _=>∃(τ:Tg) (W:HX) (S:iV) (h:Int),vs=[.ref W.o,.int h]/\lU CW CH 2 τ H W S/\S.ts.length<=10000 /\
 ((∃t:Tc,h=t.k/\zP S t /\ ∀H',lU CW CH 2 τ H' W (bZ S t.k)->Xj 2 τ H H'->Q (.str "") H')\/(∃(b:Bool) (rest:List Int),Ef S (some b) (h::rest)/\Q (.str (HY true (some b))) H))
theorem NK{aC aD aP bF:Addr}(cG:Xr K mg aP "NoHand")(eY:Xr K mg bF "Over")(dM:cY K bF aP false){f:Addr}{fd:FuncData}(F:gP K "_law_turn" "_law_turn" CQ f fd)(cW:jP P w K mg base 7 aC "turn" ["self","hand"] (lG aC aD aP bF K))(aQ:fV K aC):bN P w K mg base iY 8 f fd ["works","hand"] (xQ aC aD K):=by
 refine F.ok sE (λvs H Q E h=>?_) (λcdv A outer s H vs Q E hr h=>?_)
 .obtain⟨τ,W,S,h,rfl,_⟩:=h
  rfl
 .obtain⟨τ,W,S,h,rfl,w,tl,k⟩:=h
  refine⟨_,(aq (aM (i:=2) sE.nd rfl (Or.inl rfl) bw)
   (aq (Vr rfl rfl rfl rfl (λ_ _ _ _ hR=>(aG (cB (oW cW aQ.cls rfl hR (hr.mono (by decide)) (pv 0) (aj (pv 1) ao))))) (PH.cons (by rfl) cG.bd cG.hd (λ_=>(aG (aM (i:=2) sE.nd rfl (Or.inl rfl) bw))) (by decide) (PH.cons (by rfl) eY.bd eY.hd (λ_=>(aG (aM (i:=2) sE.nd rfl (Or.inl rfl) bw))) (by decide) PH.nil)))
   (aG (aW (pv 2))))), ?_⟩
  refine XJ ?_;refine lu (λσ H'=>(∃w',σ=[some (.ref W.o),some (.int h),some (.str w')]/\Q (.str w') H')) (λD' hD' rt'=>?_) (λσ H' ⟨w',e,q⟩=>?_)
  .refine⟨_,Z,W.o,W.dx,_,Z,w.o,Z,_,Z, ?_⟩
   dsimp only[lF];rcases k with ⟨t,rfl,a,k⟩|⟨b,rest,stp,k⟩
   .exact um w tl a λu Hd hu eu wd st'=>hD' _ _ ⟨"",Z,k Hd wd st'⟩
   .exact Aw w tl stp (λe=>⟨aP,Z,.inl ⟨G9 cG.ex,hD' _ _ ⟨_,Z,by rw[e] at k;exact k⟩⟩⟩) (λe=>⟨bF,Z,.inr ⟨dM.sub,.inl ⟨G9 eY.ex,hD' _ _ ⟨_,Z,by rw[e] at k;exact k⟩⟩⟩⟩)
  .subst e
   exact⟨_,Z,q⟩
noncomputable def xT(K:PySem.W.Frag):Sp:=λvs H Q _=>∃(p L:Addr) (rs:List Addr) (rws:List (List Rw)) (m:Nat) (nv:V) (ns:List Int) (o:Addr) (os:List Int) (l:List Tc) (st:Option Bool),vs=[.ref p,nv,.ref o]/\Ak H p L rs rws m/\rws.length<=8/\m<=20/\Al H nv ns m/\LI H o os/\os.length<=300/\Wk (iU m ns rws) os l st /\ ∀H',Same H H'->Q (.str (HY true st)) H'
theorem NQ{aC aD aK:Addr}{f:Addr}{fd:FuncData}(F:gP K "_law_stop" "_law_stop" CV f fd)(jO:pO P w K mg base 7 aC "Works" ["self","program","cells"] [] (λvs H Q _=>iH aC aD aK K vs H Q λ_ _ _=>False))(Xu:FnAt P w K mg base 8 "_law_turn" ["works","hand"] (xQ aC aD K))(Bt:rN mg):bN P w K mg base iY 9 f fd ["program","some","order"] (xT K):=by
 refine F.ok sG (λvs H Q E h=>?_) (λcdv A outer s H vs Q E hr h=>?_)
 .obtain⟨p,L,rs,rws,m,nv,ns,o,os,l,st,rfl,_⟩:=h
  rfl
 .obtain⟨p,L,rs,rws,m,nv,ns,o,os,l,st,rfl,g,r8,vC,nh,ho,ol,⟨Se,rest,R,eos,stp⟩,k⟩:=h
  have ll:l.length<=os.length:=by rw[eos,aaT,jf];lia
  refine⟨_,(aq (aM (i:=3) sG.nd rfl (Or.inl rfl) (oX jO (hr.mono (by decide)) (by rfl) (aj (pv 0) (aj (pv 1) ao))))
   (aq (iy PassesOwn.never rfl (dR (K:=K) rfl (pv 2)) (bD (i:=4) sG.nd rfl (Or.inl rfl))
   (aq (aM (i:=5) sG.nd rfl (Or.inl rfl) (aX Xu (hr.mono (by decide)) (by rfl) (aj (pv 3) (aj (pv 4) ao))))
   (aG (bQ (aU lZ (pv 5) bw (aV _)) (aG (aW (pv 5))) bh))))
   (aG (aW bw)))), ?_⟩
  refine⟨_,Z,_,Z, ?_⟩;dsimp only[lF];refine(Lr (i:=2) (τ:=aside 1 H) g (by lia) (by lia) (tR _ _) (by decide) nh (λτ W H1 w1 HW s1=>?_));have HW:∀x u,H x=some u->τ x=[1]:=λx u e=>by rw[HW x u e];exact tU e
  refine⟨_,Z,o,Z,⟨_,bH.of (s1 _ _ ho)⟩, ?_⟩
  refine jo (K:=K) (a:=o) (xs:=os.map V.int) (λj σ Hc=>∃(x1 x2:Option V) (S1:iV),σ=[some (.ref p),some nv,some (.ref o),some (.ref W.o),x1,x2]/\j<=l.length/\lU aC aD 2 τ Hc W S1/\Run (iU m ns rws) (l.take j) S1/\Same H Hc)
   ⟨none,none,_,Z,Nat.zero_le _,w1,by rw[List.take_zero];rfl,s1⟩ (λj σ Hc _ ⟨_,_,_,_,_,_,_,sc⟩=>bH.of (sc _ _ ho)) ?_ ?_
  .rintro j v σ Hc hj ⟨x1,x2,S1,rfl,jl,wc,R1,sc⟩
   obtain⟨h,eh,rfl⟩:=ints_get hj;have tl:S1.ts.length<=10000:=by rw[uL R1];show ([]++_).length<=_;simp;lia
   refine⟨_,Z,_,Z,τ,W,S1,h,Z,wc,tl, ?_⟩;rcases X5 eos jl eh with ⟨t,et,rfl⟩|⟨rfl,r',er⟩
   .have jl:=(aaf.mp et).1
    obtain⟨at1,R2⟩:=Iz R R1 et;refine .inl ⟨t,Z,at1,λHd wd st'=>?_⟩;refine⟨_,Z,Z,_,Z,fG ?_⟩;exact⟨_,_,_,Z,jl,wd,R2,λx u e=>st'.keep _ _ (sc _ _ e) (by rw[HW x u e];simp)⟩
   .rw[aa4] at R1
    have:=R1.det R;subst this;subst er;cases st with
    | none=>exact stp.elim
    | some b=>
      refine .inr ⟨b,r',stp, ?_⟩;have nw:(!decide (V.str (HY true (some b))=V.str ""))=true:=by cases b<;>decide
      refine⟨_,Z,Z,_,Z, ?_⟩;rw[nw];exact fD ⟨_,Z,k Hc sc⟩
  .rintro σ Hc ⟨x1,x2,S1,rfl,jl,wc,R1,sc⟩
   rw[aad] at jl;have el:os.length=l.length:=by lia
   have er:rest=[]:=by
    rw[eos,aaT,jf] at el;exact List.eq_nil_of_length_eq_zero (by lia)
   subst er
   have es:st=none:=by
    cases st with
    | none=>rfl
    | some b=>cases b<;>exact stp.elim
   subst es;exact k Hc sc
theorem Gb{m:Nat}:∀{l:List Tc}{S S':iV},Run S l S'->(∀s∈S.hs,∀r∈s.rws,uK m r) -> ∀x∈l,uK m x.r
 | [],S,S',h,ok,x,hx=>by cases hx
 | t::l,S,S',⟨a,h⟩,ok,x,hx=>by
   obtain⟨s,es,_,er,_⟩:=a;have ot:=ok s (aaM es);rcases List.mem_cons.mp hx with rfl|hx
   .exact ot _ (aaM er)
   .refine Gb h (λs' hs'=>?_) x hx
    rw[iG es er] at hs';rcases List.mem_or_eq_of_mem_set hs' with q|rfl
    .exact ok s' q
    .rw[show (kE S.ns s t.r).rws=s.rws from m9 _ _]
     exact ot
theorem YF{m n:Nat}{t:Tc}(tt:touch t.r=true)(ok:uK m t.r)(vC:m<=20)(kn:t.k<n):Uk (n:Int) (bU t):=by
 have c:gj t.r<m/\ac4 (qI t.r):=by
  revert tt ok;cases t.r with
  | load b c=>exact λ_ ok=>⟨ok.2,.inl rfl⟩
  | store c e=>exact λ_ ok=>⟨ok.1,.inr (.inl rfl)⟩
  | swap b c e=>exact λ_ ok=>⟨ok.2.1,.inr (.inr rfl)⟩
  | _=>exact λz=>by cases z
 exact⟨⟨by show (0:Int)<=(t.k:Int);lia,by show (t.k:Int)<n;lia⟩,c.2,by show (0:Int)<=(gj t.r:Int);lia,by show (gj t.r:Int)<20;lia⟩
theorem Xd{m' m:Nat}{ns:List Int}{rws:List (List Rw)}(h:∀x∈rws,∀r∈x,uK m r):∀s∈(iU m' ns rws).hs,∀r∈s.rws,uK m r:=λs hs=>by
 obtain⟨x,hx,rfl⟩:=aa3.mp hs;rw[show (lead (new x)).rws=x from m9 _ _];exact h x hx
theorem Ak.ok{H:Hp}{p L:Addr}{rs:List Addr}{rws:List (List Rw)}{m:Nat}(g:Ak H p L rs rws m):∀x∈rws,∀r∈x,uK m r:=λx hx r hr=>by
 obtain⟨k,kl,rfl⟩:=List.mem_iff_getElem.mp hx;have kl':k<rs.length:=by rw[g.len];exact kl
 obtain⟨_,_,_,h,_⟩:=g.row k rs[k] rws[k] (by simp[kl']) (by simp[kl]);exact h r hr
theorem G7{α:Type}(f:Nat->List α)(n:Nat):(List.range (n+1)).flatMap f=(List.range n).flatMap f++f n:=by
 rw[List.range_succ,List.flatMap_append];simp
theorem Z_{α:Type}(f:Nat->List α):∀(n m:Nat),n<=m->((List.range n).flatMap f).length<=((List.range m).flatMap f).length
 | n,m,h=>by
   obtain⟨d,rfl⟩:=Nat.exists_eq_add_of_le h
   induction d with
   | zero=>exact aaG _
   | succ d ih=>
     rw[←Nat.add_assoc,G7,aaT];have:=ih (by lia);lia
noncomputable def Qw(K:PySem.W.Frag):Sp:=λvs H Q _=>∃(p L:Addr) (rs:List Addr) (rws:List (List Rw)) (m:Nat) (nv:V) (ns:List Int) (o:Addr) (os:List Int) (l:List Tc) (st:Option Bool),vs=[.ref p,nv,.ref o]/\Ak H p L rs rws m/\1<=rws.length/\rws.length<=8/\m<=20/\Al H nv ns m/\LI H o os/\os.length<=300/\Wk (iU m ns rws) os l st /\
 ∀(T:Addr)(ts:List Nt)(H':Hp),H T=none->gO H' T ts->ts.length<=100000->(st=none -> ∀x,x∈ts↔x∈jN (l.map bU) l.length)->Same H H'->Q (.ref T) H'
theorem VJ{aC aD aK aP bF:Addr}{f:Addr}{fd:FuncData}(F:gP K "_law_ties" "_law_ties" CT f fd)(Ep:FnAt P w K mg base 9 "_law_stop" ["program","some","order"] (xT K))(Uo:FnAt P w K mg base 1 "_law_table" ["touches","hands"] (Fz K))(zL:FnAt P w K mg base 9 "web_of" ["program","order","cells"] (λvs H Q _=>uq aC aD aK aP bF K vs H Q λ_ _ _=>False))(Bt:rN mg):bN P w K mg base iY 10 f fd ["program","some","order"] (Qw K):=by
 refine F.ok xX (λvs H Q E h=>?_) (λcdv A outer s H vs Q E hr h=>?_)
 .obtain⟨p,L,rs,rws,m,nv,ns,o,os,l,st,rfl,_⟩:=h
  rfl
 .obtain⟨p,L,rs,rws,m,nv,ns,o,os,l,st,rfl,g,r1,r8,vC,nh,ho,ol,wk,k⟩:=h
  refine⟨_,(aq (aM (i:=3) xX.nd rfl (Or.inl rfl) (bK ao))
   (aq (bQ (aU cH (aX Ep (hr.mono (by decide)) (by rfl) (aj (pv 0) (aj (pv 1) (aj (pv 2) ao)))) bw (aV _)) (aG (iy PassesOwn.never rfl (dR (K:=K) rfl (aL (aR (K:=K) rfl) (aX Uo (hr.mono (by decide)) (by rfl) (aj (aX zL (hr.mono (by decide)) (by rfl) (aj (pv 0) (aj (pv 2) (aj (pv 1) ao)))) (aj (bM (bO (K:=K) rfl) (by rfl) Bt.lD iT (aj (aL (aR (K:=K) rfl) (pv 0) au (λ_ _=>rfl)) ao)) ao))) au (λ_ _=>rfl))) (bD (i:=4) xX.nd rfl (Or.inl rfl))
   (aG (cB (Dk (K:=K) rfl PySem.F.plainAttrs_list PySem.F.slot_list_extend PySem.F.type_list_extend Bo (pv 3) (aj (pv 4) ao)))))) bh)
   (aG (aW (pv 3))))), ?_⟩
  refine⟨(by show 0<=sizeLine;decide),λT hT=>?_⟩;have s0:=aB (o:=HO.lst []) hT;refine⟨_,Z,_,Z,_,Z,p,L,rs,rws,m,nv,ns,o,os,l,st,Z,g.same s0,r8,vC,nh.same s0,s0 _ _ ho,ol,wk,λH1 s1=>?_⟩;have s01:=s0.trans s1;have hT1:H1 T=some (.lst []):=s1 _ _ ak;refine⟨Z,_,Z, ?_⟩;cases st with
  | some b=>
    have nw:decide (V.str (HY true (some b))=V.str "")=false:=by cases b<;>decide
    rw[nw];refine fG ?_;exact⟨_,Z,k T [] H1 hT ⟨[],hT1,by simp[aO]⟩ (by simp) (λz=>by cases z) s01⟩
  | none=>
    refine fD ?_;obtain⟨S1,R,eo⟩:=Qh wk;have ll:l.length<=300:=by rw[eo,jf] at ol;exact ol
    have wl:(l.map bU).length<=300:=by rw[aad];exact ll
    have tin:∀x∈l.map bU,Uk (rws.length:Int) x:=λx hx=>by
     obtain⟨t,ht,rfl⟩:=aa3.mp hx;exact YF (Df R (wX _ _ _) t ht) (Gb R (Xd g.ok) t ht) vC (by rw[←Ms m ns rws];exact QM R t ht)
    refine⟨_,Z,_,Z,_,Z,p,L,rs,rws,m,nv,ns,o,os,Z,g.same s01,r8,vC,⟨by have:=nh.1.1;lia,(nh.same s01).2⟩,s01 _ _ ho,by lia,λbad=>acq nh.1 bad,λ_=>⟨l,none,wk,λ_ a H2 _ W s2=>?_,λz=>(by cases z),λz=>(by cases z)⟩⟩;have QK:=s01.trans s2;refine⟨_,Z,_,_,_,_,Z,Z,cA.of (QK _ _ g.ep),Z,L,_,Z,.inl (bH.of (QK _ _ g.eL)),a,_,l.map bU,by rw[aad,g.len];rfl,W,tin,by lia,by lia,wl,λq t1 t2 H3 hq L1 L2 f1 f2 s3=>?_⟩;have hT3:H3 T=some (.lst []):=s3 _ _ (s2 _ _ hT1);have s03:=QK.trans s3;obtain⟨xs,hx2,xl,xq⟩:=L2;rw[aad] at xl;have al:=zJ (l.map bU) l.length;have sq:l.length*l.length<=300*300:=Nat.mul_le_mul ll ll;have nT2:t2≠T:=(aA (s2 _ _ hT1) f2).symm;refine⟨_,_,_,_,Z,Z,cA.of hq,Z,t2,Z,⟨_,bH.of hx2⟩, ?_⟩
    refine jo (K:=K) (a:=t2) (xs:=xs.map V.ref) (λi σ Hc=>∃(x1:Option V) (ms:List Nt),σ=[some (.ref p),some nv,some (.ref o),some (.ref T),x1]/\Kp T H3 Hc/\gO Hc T ms/\ms.Perm (jN (l.map bU) i))
     ⟨none,[],Z,Kp.refl _ _,⟨[],hT3,by simp[aO]⟩,.refl _⟩ (λi σ Hc _ ⟨_,_,_,kc,_⟩=>bH.of (kc _ _ hx2 nT2)) ?_ ?_
    .rintro i v σ Hc hi ⟨x1,ms,rfl,kc,N,pp⟩
     rw[aah] at hi;cases ei:xs[i]? with
     | none=>rw[ei] at hi;cases hi
     | some q=>
       rw[ei] at hi;cases hi;have il:=(aaf.mp ei).1;obtain⟨_,ks,⟨us,hu,du⟩,kp,fq⟩:=xq i q ei;have nqT:q≠T:=(aA (s2 _ _ hT1) fq).symm;have tc:∀a xs,H3 a=some (HO.tup xs)->Hc a=some (HO.tup xs):=kc.tups hT3;obtain⟨vs,hts,Et⟩:=id N;have l1:vs.length=ms.length:=by rw[Et.length,aad]
       have l2:us.length=ks.length:=by rw[du.length,aad]
       have l3:=pp.length_eq;have l4:=kp.length_eq;have l5:=Z_ (λj=>cP (l.map bU) j (fu (l.map bU) j j)) (i+1) l.length (by lia);rw[G7,aaT] at l5;have l5:(jN (l.map bU) i).length+(cP (l.map bU) i (fu (l.map bU) i i)).length<=(jN (l.map bU) l.length).length:=l5;refine⟨_,Z,.inl ⟨Z,_,bH.of hts⟩,_,Z,T,q,_,_,Z,Z,hts,kc _ _ hu nqT,by rw[sizeLine_eq];lia, ?_⟩;have k3:Kp T Hc (upd Hc T (.lst (vs++us))):=Kp.set;have t3:=k3.tups hts;refine⟨_,ms++ks,Z,kc.trans k3,⟨vs++us,ak, ?_⟩, ?_⟩
       .rw[aaY]
        exact aO.append (aO.keep t3 _ (cj _ jE _) Et) (aO.keep (λa xs h=>t3 _ _ (tc _ _ h)) _ (cj _ jE _) du)
       .rw[vf]
        exact pp.append kp
    .rintro σ Hc ⟨x1,ms,rfl,kc,N,pp⟩
     rw[aad,xl] at pp;have l3:=pp.length_eq;exact⟨_,Z,k T ms Hc hT N (by lia) (λ_ x=>pp.mem_iff) λx u e=>kc _ _ (s03 _ _ e) (aA e hT)⟩
noncomputable def JQ:Option Nat->List Bool
 | none=>[]
 | some k=>[k==0,k==1,k==2,k==3,true]
noncomputable def MF(m:Nat)(rws:List (List Rw))(ns os:List Int)(x:Nt)(du:Option Nat):Prop:=(¬fY m ns->du=some 0)/\(fY m ns -> ∃l st,Wk (iU m ns rws) os l st/\(st=some true->du=some 1)/\(st=some false->du=some 2)/\(st=none->(x∈jN (l.map bU) l.length->du=none)/\(x∉jN (l.map bU) l.length->du=some 3)))
noncomputable def KR(K:PySem.W.Frag):Sp:=λvs H Q _=>∃(p L:Addr) (rs:List Addr) (rws:List (List Rw)) (m:Nat) (nv:V) (ns:List Int) (o:Addr) (os:List Int) (t:Addr) (x:Nt) (du:Option Nat),vs=[.ref p,.ref o,.ref t,nv]/\Ak H p L rs rws m/\rws.length<=8/\m<=20/\wg H m nv ns/\LI H o os/\os.length<=300/\H t=some (.tup (nV x))/\MF m rws ns os x du /\
 ∀(q:Addr)(H':Hp),H' q=some (.lst ((JQ du).map V.bl))->Same H H'->Q (.ref q) H'
theorem RK{f:Addr}{fd:FuncData}(F:gP K "_law_classes" "_law_classes" qY f fd){aK aP bF bI dN:Addr}(bW:Xr K mg aK "NoNumber")(cG:Xr K mg aP "NoHand")(eY:Xr K mg bF "Over")(dF:Xr K mg bI "NoNote")(ju:Xo K mg aK dN "NoteError" true)(eU:cY K aK aP false)(fP:cY K aK bF false)(eO:cY K aK bI false)(eX:cY K aP aK false)(g8:cY K aP bF false)(fU:cY K aP bI false)(dY:cY K aP dN true)(fO:cY K bF aK false)(dM:cY K bF aP false)(gY:cY K bF bI false)(fB:cY K bF dN true)(eV:cY K bI aK false)(fQ:cY K bI aP false)(gZ:cY K bI bF false)(dX:cY K bI dN true)(HF:qN P w K mg base 11 "both_ways" ["program","order","note","cells"] (rY aK aP bF bI K))(Bt:rN mg):bN P w K mg base iY 12 f fd ["program","order","tie","some"] (KR K):=by
 refine F.ok jk (λvs H Q E h=>?_) (λcdv A outer s H vs Q E hr h=>?_)
 .obtain⟨p,L,rs,rws,m,nv,ns,o,os,t,x,du,rfl,_⟩:=h
  rfl
 .obtain⟨p,L,rs,rws,m,nv,ns,o,os,t,x,du,rfl,g,r8,vC,na,ho,ol,ht,due,k⟩:=h
  refine⟨_,(aq (aM (i:=4) jk.nd rfl (Or.inl rfl) (bK ao))
   (aq (Zb (i:=5) rfl rfl rfl rfl jk.nd rfl rfl (by rfl) ju.bd ju.hd (λ_ _ _ _ hR=>(aG (cB (Dj HF rfl hR (hr.mono (by decide)) (by rfl) (aj (pv 0) (aj (pv 1) (aj (pv 2) (aj (pv 3) ao)))))))) (λ_=>(aq (aM (i:=4) jk.nd rfl (Or.inl rfl) (bK (aj (bM (pN (K:=K) (c:= .ref aK) (cv:= .ref aK) rfl (λ_ h=>h)) (by rfl) Bt.dH cV (aj (pv 5) (aj (iI (v:= .ref aK) (by rfl) bW.bd rfl) ao))) (aj (bM (pN (K:=K) (c:= .ref aP) (cv:= .ref aP) rfl (λ_ h=>h)) (by rfl) Bt.dH cV (aj (pv 5) (aj (iI (v:= .ref aP) (by rfl) cG.bd rfl) ao))) (aj (bM (pN (K:=K) (c:= .ref bF) (cv:= .ref bF) rfl (λ_ h=>h)) (by rfl) Bt.dH cV (aj (pv 5) (aj (iI (v:= .ref bF) (by rfl) eY.bd rfl) ao))) (aj (bM (pN (K:=K) (c:= .ref bI) (cv:= .ref bI) rfl (λ_ h=>h)) (by rfl) Bt.dH cV (aj (pv 5) (aj (iI (v:= .ref bI) (by rfl) dF.bd rfl) ao))) ao))))))
   (aG (aM (i:=4) jk.nd rfl (Or.inl rfl) (bA jD (pv 4) (bK (aj (bM (pN (K:=K) (c:= .type "ValueError") (cv:= .ty "ValueError") rfl (λ_ h=>h)) (by rfl) Bt.dH cV (aj (pv 5) (aj (sU (v:= .ty "ValueError") (by rfl) Bt.Eb Af rfl) ao))) ao))))))))
   (aG (aW (pv 4))))), ?_⟩
  refine⟨(by show 0<=sizeLine;decide),λf hf=>?_⟩;have sf:=aB (o:=HO.lst []) hf;refine⟨_,Z,_,Z,_,Z,_,Z,p,L,rs,rws,m,nv,ns,o,os,t,x,Z,g.same sf,r8,vC,na.same sf,sf _ _ ho,ol,sf _ _ ht,λbad H1 s1=>?_,λgood=>?_⟩
  .have ed:=due.1 bad
   subst ed;refine⟨_,Z,ju.pr.sub,λe he=>?_⟩;have se:=aB (o:=XO aK none e) he;refine⟨_,Z,e,_,true,Z,ak,bW.xc,sY, ?_⟩;refine⟨_,Z,e,_,false,Z,ak,bW.xc,ig cG.hd eU, ?_⟩;refine⟨_,Z,e,_,false,Z,ak,bW.xc,ig eY.hd fP, ?_⟩;refine⟨_,Z,e,_,false,Z,ak,bW.xc,ig dF.hd eO, ?_⟩;refine⟨(by show 4<=sizeLine;decide),λq1 hq1=>?_⟩;have s2:=aB (o:=HO.lst [V.bl true,V.bl false,V.bl false,V.bl false]) hq1;refine⟨_,Z,_,Z,e,_,true,Z,s2 _ _ ak,bW.xc,qp bW.ve,(by show 1<=sizeLine;decide),λq2 hq2=>?_⟩;have s3:=aB (o:=HO.lst [V.bl true]) hq2;refine⟨q1,q2,_,_,Z,Z,s3 _ _ ak,ak,(by show 5<=sizeLine;decide),λq hq=>?_⟩;exact⟨_,Z,k q _ ak ((((sf.trans s1).trans se).trans s2).trans (s3.trans (aB hq)))⟩
  obtain⟨l,st,wk,d1,d2,d3⟩:=due.2 good;refine⟨l,st,wk,λes H1 s1=>?_,λes H1 s1=>?_,λes=>⟨λi j ex np v H1 _ s1=>?_,λnx H1 s1=>?_⟩⟩
  .have ed:=d1 es
   subst ed;refine⟨_,Z,dY.sub,λe he=>?_⟩;have se:=aB (o:=XO aP none e) he;refine⟨_,Z,e,_,false,Z,ak,cG.xc,ig bW.hd eX, ?_⟩;refine⟨_,Z,e,_,true,Z,ak,cG.xc,sY, ?_⟩;refine⟨_,Z,e,_,false,Z,ak,cG.xc,ig eY.hd g8, ?_⟩;refine⟨_,Z,e,_,false,Z,ak,cG.xc,ig dF.hd fU, ?_⟩;refine⟨(by show 4<=sizeLine;decide),λq1 hq1=>?_⟩;have s2:=aB (o:=HO.lst [V.bl false,V.bl true,V.bl false,V.bl false]) hq1;refine⟨_,Z,_,Z,e,_,true,Z,s2 _ _ ak,cG.xc,qp cG.ve,(by show 1<=sizeLine;decide),λq2 hq2=>?_⟩;have s3:=aB (o:=HO.lst [V.bl true]) hq2;refine⟨q1,q2,_,_,Z,Z,s3 _ _ ak,ak,(by show 5<=sizeLine;decide),λq hq=>?_⟩;exact⟨_,Z,k q _ ak ((((sf.trans s1).trans se).trans s2).trans (s3.trans (aB hq)))⟩
  .have ed:=d2 es
   subst ed;refine⟨_,Z,fB.sub,λe he=>?_⟩;have se:=aB (o:=XO bF none e) he;refine⟨_,Z,e,_,false,Z,ak,eY.xc,ig bW.hd fO, ?_⟩;refine⟨_,Z,e,_,false,Z,ak,eY.xc,ig cG.hd dM, ?_⟩;refine⟨_,Z,e,_,true,Z,ak,eY.xc,sY, ?_⟩;refine⟨_,Z,e,_,false,Z,ak,eY.xc,ig dF.hd gY, ?_⟩;refine⟨(by show 4<=sizeLine;decide),λq1 hq1=>?_⟩;have s2:=aB (o:=HO.lst [V.bl false,V.bl false,V.bl true,V.bl false]) hq1;refine⟨_,Z,_,Z,e,_,true,Z,s2 _ _ ak,eY.xc,qp eY.ve,(by show 1<=sizeLine;decide),λq2 hq2=>?_⟩;have s3:=aB (o:=HO.lst [V.bl true]) hq2;refine⟨q1,q2,_,_,Z,Z,s3 _ _ ak,ak,(by show 5<=sizeLine;decide),λq hq=>?_⟩;exact⟨_,Z,k q _ ak ((((sf.trans s1).trans se).trans s2).trans (s3.trans (aB hq)))⟩
  .have ed:=(d3 es).1 (by rw[ex];have:=Wn np;rwa [aad] at this)
   subst ed;exact⟨_,Z,k f _ (s1 _ _ ak) (sf.trans s1)⟩
  .have ed:=(d3 es).2 nx
   subst ed;refine⟨_,Z,dX.sub,λe he=>?_⟩;have se:=aB (o:=XO bI none e) he;refine⟨_,Z,e,_,false,Z,ak,dF.xc,ig bW.hd eV, ?_⟩;refine⟨_,Z,e,_,false,Z,ak,dF.xc,ig cG.hd fQ, ?_⟩;refine⟨_,Z,e,_,false,Z,ak,dF.xc,ig eY.hd gZ, ?_⟩;refine⟨_,Z,e,_,true,Z,ak,dF.xc,sY, ?_⟩;refine⟨(by show 4<=sizeLine;decide),λq1 hq1=>?_⟩;have s2:=aB (o:=HO.lst [V.bl false,V.bl false,V.bl false,V.bl true]) hq1;refine⟨_,Z,_,Z,e,_,true,Z,s2 _ _ ak,dF.xc,qp dF.ve,(by show 1<=sizeLine;decide),λq2 hq2=>?_⟩;have s3:=aB (o:=HO.lst [V.bl true]) hq2;refine⟨q1,q2,_,_,Z,Z,s3 _ _ ak,ak,(by show 5<=sizeLine;decide),λq hq=>?_⟩;exact⟨_,Z,k q _ ak ((((sf.trans s1).trans se).trans s2).trans (s3.trans (aB hq)))⟩
noncomputable def Ze(m:Nat)(rws:List (List Rw)):PyData:= .tuple [.int m,.list (rws.map sO)]
theorem Ak.dat{H:Hp}{p L:Addr}{rs:List Addr}{rws:List (List Rw)}{m:Nat}(g:Ak H p L rs rws m):Dat H (.ref p) (Ze m rws):=by
 have go:∀(rs:List Addr)(rws:List (List Rw)),rs.length=rws.length->(∀(k:Nat)(r:Addr)(x:List Rw),rs[k]? = some r->rws[k]? = some x->dW H r m x)->aO H (rs.map V.ref) (rws.map sO):=by
  intro rs
  induction rs with
  | nil=>
    intro rws hl _;cases rws with
    | nil=>simp[aO]
    | cons x l=>cases hl
  | cons r rs ih=>
    intro rws hl h;cases rws with
    | nil=>cases hl
    | cons x l=>
      simp only[List.map_cons,aO];refine⟨?_,ih l (Nat.succ.inj hl) λk r' x' h1 h2=>h (k+1) r' x' h1 h2⟩;obtain⟨ts,e,d,_⟩:=h 0 r x rfl rfl;exact jq e d
 unfold Ze;simp only[Dat];refine⟨p,_,Z,g.ep, ?_⟩;simp only[aO,Dat,and_true,true_and];exact⟨L,_,Z,g.eL,go rs rws g.len g.row⟩
noncomputable def tW(H:Hp)(nv:V)(ns:List Int)(nd:PyData):Prop:=(nv = .non/\nd = .none) \/ ∃cl,nv = .ref cl/\H cl=some (.lst (ns.map V.int))/\nd=yR ns
theorem tW.same{H H':Hp}{nv:V}{ns:List Int}{nd:PyData}(h:tW H nv ns nd)(k:Same H H'):tW H' nv ns nd:=h.elim .inl λ⟨cl,e,q,d⟩=> .inr ⟨cl,e,k _ _ q,d⟩
theorem tW.dat{H:Hp}{nv:V}{ns:List Int}{nd:PyData}(h:tW H nv ns nd):Dat H nv nd:=by
 rcases h with ⟨rfl,rfl⟩|⟨cl,rfl,e,rfl⟩
 .simp only[Dat]
 .exact tK e
theorem tW.can{H:Hp}{nv:V}{ns:List Int}{nd:PyData}(h:tW H nv ns nd):nd.canLay0=true/\nd.depth<=1:=by
 rcases h with ⟨rfl,rfl⟩|⟨cl,rfl,e,rfl⟩
 .exact⟨Z,by decide⟩
 .exact Hu ns
structure Cpy(H:Hp)(D:Addr)(as:List Addr)(rws:List (List Rw))(m:Nat):Prop where
 d:H D=some (.lst (as.map V.ref))
 r:∀(k:Nat)(q:Addr)(x:List Rw),as[k]? = some q->rws[k]? = some x->q≠D/\dW H q m x
noncomputable def R0(m:Nat)(rws:List (List Rw))(os:List Int)(nd:PyData):PyData:= .list [yR os,nd,Ze m rws]
theorem Ik{m:Nat}{rws:List (List Rw)}{os:List Int}{nd:PyData}(h:∀x∈rws,∀r∈x,uK m r)(hn:nd.canLay0=true/\nd.depth<=1):SeqAt.shaped (R0 m rws os nd)=true:=by
 obtain⟨a1,b1⟩:=Hu os;obtain⟨a2,b2⟩:=hn;have a4:PyData.canLay0 (.list (rws.map sO))=true:=kO sO rws λx hx=>(Ht (h x hx)).1;have b4:=iQ sO 4 rws λx hx=>(Ht (h x hx)).2
 have e1:PyData.canLay0 (R0 m rws os nd)=true:=by
  show (PyData.canLay0 (yR os)&&(nd.canLay0&&((true&&(PyData.canLay0 (.list (rws.map sO))&&true))&&true)))=true;rw[a1,a2,a4];rfl
 have e2:PyData.depth (R0 m rws os nd)<=64:=by
  show max (yR os).depth (max nd.depth (max (max 0 (max (PyData.depthAll (rws.map sO)+1) 0)+1) 0))+1<=64;lia
 unfold SeqAt.shaped;rw[e1,aaN e2];rfl
theorem Mj{H:Hp}{t p L o:Addr}{rs:List Addr}{rws:List (List Rw)}{m:Nat}{nv:V}{ns os:List Int}{nd:PyData}(e:H t=some (.lst [.ref o,nv,.ref p]))(g:Ak H p L rs rws m)(eo:LI H o os)(b:tW H nv ns nd):Dat H (.ref t) (R0 m rws os nd):=by
 unfold R0;refine jq e ?_;simp only[aO,and_true];exact⟨tK eo,b.dat,g.dat⟩
theorem abT{H:Hp}{m:Nat}{nv:V}{ns:List Int}(h:wg H m nv ns):∃nd,tW H nv ns nd:=by
 rcases h.2 with ⟨e,_⟩|⟨cl,e,q⟩
 .exact⟨.none,.inl ⟨e,Z⟩⟩
 .exact⟨yR ns,.inr ⟨cl,e,q,Z⟩⟩
theorem RN{σ:St}{H:Hp}{Q:VK}{nv:V}{ns:List Int}{nd:PyData}(h:σ[4]? = some (some nv))(b:tW H nv ns nd)(k:∀v2 H5,tW H5 v2 ns nd->Same H H5->Q v2 H5):tIf (Kv (Ig (λx y H Q=>y=V.non/\Q (V.bl (decide (x=V.non))) H) (rR 4) (tC V.non))) (tC V.non) (tCB (K1 K) (lg (rR 4) lF)) σ H Q:=by
 refine⟨nv,h,Z,_,Z, ?_⟩;rcases b with ⟨rfl,rfl⟩|⟨cl,rfl,e,rfl⟩
 .refine bJ (λ_=>?_) (λz=>acq (aaN rfl) z)
  exact k _ _ (.inl ⟨Z,Z⟩) (Same.refl _)
 .refine bJ (λz=>acq (aaP z) (by intro w;cases w)) (λ_=>?_)
  exact⟨_,h,cl,_,Z,.inl (bH.of e),λc hc=>k _ _ (.inr ⟨c,Z,ak,Z⟩) (aB hc)⟩
theorem BL{H:Hp}{a:Addr}{bs:List Bool}(h:H a=some (.lst (bs.map V.bl))):Dat H (.ref a) (.list (bs.map PyData.bool)):=by
 refine jq h ?_;clear h
 induction bs with
 | nil=>simp[aO]
 | cons x bs ih=>simp only[List.map_cons,aO,Dat,true_and];exact ih
theorem mV(bs:List Bool):SeqAt.shaped (.list (bs.map PyData.bool))=true:=oA PyData.bool 0 (by decide) (λ_ _=>rfl) (λ_ _=>by show 0<=0;decide)
theorem Zx{H H':Hp}{m:Nat}{nv v2:V}{ns:List Int}{nd:PyData}(a:wg H m nv ns)(b:tW H nv ns nd)(b2:tW H' v2 ns nd):wg H' m v2 ns:=by
 refine⟨a.1, ?_⟩;rcases b2 with ⟨rfl,rfl⟩|⟨cl,rfl,e,rfl⟩
 .rcases b with ⟨e1,_⟩|⟨_,_,_,e⟩
  .rcases a.2 with ⟨_,q⟩|⟨cl,e,_⟩
   .exact .inl ⟨Z,q⟩
   .rw[e1] at e;cases e
  .cases e
 .exact .inr ⟨cl,Z,e⟩
structure F61(r b p L:Addr)(rs:List Addr)(rws:List (List Rw))(m:Nat)(nv:V)(ns:List Int)(n:Nat)(H:Hp):Prop where
 B:bV H r b n
 g:Ak (dr r H) p L rs rws m
 nh:Al (dr r H) nv ns m
theorem F61.draw{r b p L:Addr}{rs:List Addr}{rws:List (List Rw)}{m:Nat}{nv:V}{ns:List Int}{n n':Nat}{H H':Hp}(h:F61 r b p L rs rws m nv ns n H)(k:Kp r H H')(B:bV H' r b n'):F61 r b p L rs rws m nv ns n' H':=⟨B,h.g.same (Kp.dr k),h.nh.same (Kp.dr k)⟩
theorem F61.same{r b p L:Addr}{rs:List Addr}{rws:List (List Rw)}{m:Nat}{nv:V}{ns:List Int}{n:Nat}{H H':Hp}(h:F61 r b p L rs rws m nv ns n H)(k:Same H H'):F61 r b p L rs rws m nv ns n H':=h.draw (.of_same k) (h.B.keep k)
noncomputable def aal:Option Nat->Str
 | none=> ""
 | some 0=> "NoNumber"
 | some 1=> "NoHand"
 | some 2=> "Over"
 | some _=> "NoNote"
theorem aak{m:Nat}{rws:List (List Rw)}{ns os:List Int}{x:Nt}{l:List Tc}{b:Bool}(good:fY m ns)(wk:Wk (iU m ns rws) os l (some b)):∃du,MF m rws ns os x du/\HY true (some b)=aal du /\ ∀k,du=some k->k<4:=by
 cases b with
 | true=>exact⟨some 1,⟨λz=>acq good z,λ_=>⟨l,some true,wk,λ_=>rfl,λz=>(by cases z),λz=>(by cases z)⟩⟩,Z,λk e=>by cases e;decide⟩
 | false=>exact⟨some 2,⟨λz=>acq good z,λ_=>⟨l,some false,wk,λz=>(by cases z),λ_=>rfl,λz=>(by cases z)⟩⟩,Z,λk e=>by cases e;decide⟩
noncomputable def KJ(K:PySem.W.Frag):Sp:=λvs H Q _=>∃(a:Addr) (xs:List Int),vs=[.ref a]/\bH K H a (xs.map V.int)/\xs.length<=63 /\ ∀H',Q (.bl true) H'
theorem Zt{f:Addr}{fd:FuncData}(F:gP K "law" "law" QJ f fd)(aaE:FnAt P w K mg base 1 "_law_bag" ["script"] (XF K))(J3:FnAt P w K mg base 7 "_law_program" ["bag"] (Kz K))(Uq:FnAt P w K mg base 3 "_law_first" ["bag","size"] (Fy K))(wD:FnAt P w K mg base 3 "_law_spoilt_first" ["bag","size","some"] (Bf K))(aaC:FnAt P w K mg base 9 "_law_run" ["bag","program","first"] (Qy K))(wC:FnAt P w K mg base 3 "_law_spoilt_order" ["bag","hands","order"] (Bb K))(Eo:FnAt P w K mg base 10 "_law_ties" ["program","some","order"] (Qw K))(zO:FnAt P w K mg base 3 "_law_spoilt_note" ["bag","ties"] (Ft K))(Ep:FnAt P w K mg base 9 "_law_stop" ["program","some","order"] (xT K))(J5:FnAt P w K mg base 12 "_law_classes" ["program","order","tie","some"] (KR K))(Bt:rN mg):bN P w K mg base iY 13 f fd ["script"] (KJ K):=by
 refine F.ok gR (λvs H Q E h=>?_) (λcdv A outer s H vs Q E hr h=>?_)
 .obtain⟨a,xs,rfl,_⟩:=h
  rfl
 .obtain⟨a,xs,rfl,hs,hl,k⟩:=h
  have iZ:=hr.units
  refine⟨_,(aq (aM (i:=1) gR.nd rfl (Or.inl rfl) (aX aaE (hr.mono (by decide)) (by rfl) (aj (pv 0) ao)))
   (aq (aM (i:=2) gR.nd rfl (Or.inl rfl) (aX J3 (hr.mono (by decide)) (by rfl) (aj (pv 1) ao)))
   (aq (aM (i:=3) gR.nd rfl (Or.inl rfl) (aX Uq (hr.mono (by decide)) (by rfl) (aj (pv 1) (aj (aL (aR (K:=K) rfl) (pv 2) au (λ_ _=>rfl)) ao))))
   (aq (lM (aX wD (hr.mono (by decide)) (by rfl) (aj (pv 1) (aj (aL (aR (K:=K) rfl) (pv 2) au (λ_ _=>rfl)) (aj (pv 3) ao)))) (p8 (K:=K) (n:=2) rfl rfl (eF (bD (i:=4) gR.nd rfl (Or.inl rfl)) (eF (bD (i:=5) gR.nd rfl (Or.inl rfl)) p7))))
   (aq (aM (i:=6) gR.nd rfl (Or.inl rfl) (aX aaC (hr.mono (by decide)) (by rfl) (aj (pv 1) (aj (pv 2) (aj (pv 3) ao)))))
   (aq (aM (i:=7) gR.nd rfl (Or.inl rfl) (aX wC (hr.mono (by decide)) (by rfl) (aj (pv 1) (aj (bM (bO (K:=K) rfl) (by rfl) Bt.lD iT (aj (aL (aR (K:=K) rfl) (pv 2) au (λ_ _=>rfl)) ao)) (aj (pv 6) ao)))))
   (aq (aM (i:=8) gR.nd rfl (Or.inl rfl) (aX Eo (hr.mono (by decide)) (by rfl) (aj (pv 2) (aj (pv 3) (aj (pv 7) ao)))))
   (aq (bQ (aU (wQ (K:=K) rfl iZ) (pv 8) (bK ao) (aV _)) (aG (aM (i:=8) gR.nd rfl (Or.inl rfl) (aX Eo (hr.mono (by decide)) (by rfl) (aj (pv 2) (aj (pv 3) (aj (pv 6) ao)))))) bh)
   (aq (aM (i:=9) gR.nd rfl (Or.inl rfl) (aX zO (hr.mono (by decide)) (by rfl) (aj (pv 1) (aj (pv 8) ao))))
   (aq (aM (i:=10) gR.nd rfl (Or.inl rfl) bw)
   (aq (bQ (jC (pv 5)) (aG (aM (i:=10) gR.nd rfl (Or.inl rfl) (aX Ep (hr.mono (by decide)) (by rfl) (aj (pv 2) (aj (pv 4) (aj (pv 7) ao)))))) bh)
   (aq (bQ (PW.pt (uM (aU cH (pv 10) bw (aV _)) (pZ (aU (yE (K:=K) rfl hr.Qk) (pv 9) (aX Eo (hr.mono (by decide)) (by rfl) (aj (pv 2) (aj (pv 4) (aj (pv 7) ao)))) (by with_unfolding_all rfl))))) (aG (aM (i:=10) gR.nd rfl (Or.inl rfl) bw)) bh)
   (aq (aM (i:=11) gR.nd rfl (Or.inl rfl) (bK (aj (fX (cM (K:=K) rfl) (by rfl) Bt.kW iR (aj (pv 7) ao)) (aj (j9 (aU Dn (pv 4) j8 (aV _)) j8 (fX (cM (K:=K) rfl) (by rfl) Bt.kW iR (aj (pv 4) ao))) (aj (cO (aj (aL (aR (K:=K) rfl) (pv 2) au (λ_ _=>rfl)) (aj (h_ rfl (N:=["rows"]) (own:=["rows"]) (caps:=[]) (bC.of (by kernel_rfl)) (dR (K:=K) rfl (aL (aR (K:=K) rfl) (pv 2) au (λ_ _=>rfl))) (λ_ _ _ _=>(bD (i:=0) (show List.Nodup (["rows"]:List Str) by decide +kernel) rfl (Or.inl rfl))) (λ_ _ _ _=>gH) (λ_ _ _ _=>(fX (cM (K:=K) rfl) (by rfl) Bt.kW iR (aj (pv 0) ao)))) ao))) ao)))))
   (aq (aM (i:=12) gR.nd rfl (Or.inl rfl) (aX J5 (hr.mono (by decide)) (by rfl) (aj (aL (aN (K:=K) rfl) (pv 11) au (λ_ _=>rfl)) (aj (aL (aN (K:=K) rfl) (pv 11) au (λ_ _=>rfl)) (aj (pv 9) (aj (aL (aN (K:=K) rfl) (pv 11) au (λ_ _=>rfl)) ao))))))
   (aq (bQ (aU (Lh (K:=K) rfl iZ) (pv 11) (bK (aj (pv 7) (aj (pv 4) (aj (pv 2) ao)))) (aV _)) (aG (aW sV)) bh)
   (aq (bQ (aU cH (pv 10) bw (aV _)) (aG (aW (eN (wQ (K:=K) rfl iZ) (pv 12) (bK ao) (aV _)))) bh)
   (aG (aW (eN (wQ (K:=K) rfl iZ) (pv 12) (bK (aj (eN cH (pv 10) bw (aV _)) (aj (eN cH (pv 10) bw (aV _)) (aj (eN cH (pv 10) bw (aV _)) (aj (eN cH (pv 10) bw (aV _)) (aj sV ao)))))) (aV _)))))))))))))))))))), ?_⟩
  refine⟨_,Z,a,xs,Z,hs,hl,λr b H1 _ _ B1 _=>?_⟩;refine⟨_,Z,r,b,0,Z,B1,by decide,λp L rs rws m H2 g2 r1 r8 m0 vC B2 _=>?_⟩;refine⟨_,Z,_,Z,_,_,_,_,Z,Z,cA.of (fJ _ _ g2.ep),Z,r,b,m,_,Z,B2,by lia,vC,λnv ns H3 nh3 B3 k3=>?_⟩;have f3:F61 r b p L rs rws m nv ns _ H3:=⟨B3,g2.same (Kp.dr k3),nh3⟩;clear B1 B2 g2 nh3 B3 k3;refine⟨_,Z,_,Z,_,_,_,_,Z,Z,cA.of (fJ _ _ f3.g.ep),Z,_,Z,r,b,m,_,nv,ns,Z,f3.B,by lia,m0,vC,f3.nh,λt PX ns' good H4 ht na4 gd B4 k4=>?_⟩;refine⟨t,_,Z,cA.of ht,Z,_,_,Z,_,_,Z,Z, ?_⟩;have f4:=f3.draw k4 B4;clear f3 ht k4 B4;refine⟨_,Z,_,Z,_,Z,r,b,p,L,rs,rws,m,_,nv,ns,Z,f4.B,by lia,f4.g,r8,vC,f4.nh,λo l S1 H5 ho R l60 eo5 B5 k5=>?_⟩;have f5:=f4.draw k5 B5;have na5:=na4.same (Kp.dr k5);have nor:o≠r:=(f4.B.ne ho).1;clear f4 na4 k5 B5;refine⟨_,Z,_,Z,_,_,_,_,Z,Z,cA.of (fJ _ _ f5.g.ep),Z,L,_,Z,.inl (bH.of (fJ _ _ f5.g.eL)),_,Z,r,b,o,rws.length,_,kI l,by rw[aad,f5.g.len];rfl,f5.B,by lia,r1,r8,eo5,nor,by rw[jf];lia,λo' os H6 ho' aai ol B6 k6=>?_⟩;have f6:=f5.draw k6 B6;have na6:=na5.same (Kp.dr k6);have afz:o'≠r:=(f5.B.ne ho').1;have eo6:LI H6 o (kI l):=k6 _ _ eo5 nor;clear f5 na5 k6 B6 eo5;obtain⟨l1,st1,wk1⟩:=Qi os (iU m ns rws) (wX _ _ _);have wk0:Wk (iU m ns rws) (kI l) l none:=⟨S1,[],R,by rw[List.append_nil],trivial⟩;refine⟨_,Z,_,Z,_,Z,p,L,rs,rws,m,nv,ns,o',os,l1,st1,Z,f6.g.same fJ,r1,r8,vC,f6.nh.same fJ,aai,by lia,wk1,λT ts H7 hT N7 tl _ s7=>?_⟩;have nT:T≠r:=(f6.B.ne hT).1;have f7:=f6.same s7;have na7:=na6.same (Same.dr (r:=r) s7);have eo7:=eo6.same s7;have Tn:LI H7 o' os:=s7 _ _ aai;clear f6 na6 eo6 aai s7;dsimp only;refine lu (λσ Hc=>∃(T:Addr) (ts:List Nt) (n:Nat),σ=[some (.ref a),some (.ref r),some (.ref p),some nv,some PX,some (.bl good),some (.ref o),some (.ref o'),some (.ref T),none,none,none,none]/\n<1000000/\gO (dr r Hc) T ts/\ts.length<=100000/\F61 r b p L rs rws m nv ns n Hc/\wg (dr r Hc) m PX ns'/\LI Hc o' os) (λD' hD' _=>?_) ?_
  .obtain⟨vs7,hT7,dv7⟩:=id N7
   obtain⟨ys,hy⟩:=f7.B.lst
   have Nd:∀{H':Hp}{T:Addr}{ts:List Nt},gO H' T ts->bV H' r b 26000->T≠r->gO (dr r H') T ts:=fun {H' T ts} ⟨vs,e,d⟩ B n=>by
    obtain⟨ys,hy⟩:=B.lst;exact⟨vs,mC e n,aO.keep (Tr hy) _ (cj _ jE ts) d⟩
   refine⟨_,Z,(by show 0<=sizeLine;decide),λe0 he0=>?_⟩;have se:=aB (o:=HO.lst []) he0;refine⟨_,_,jq (se _ _ hT7) (aO.keep se.tups _ (cj _ jE ts) dv7),jq (ds:=[]) ak (by simp[aO]),mU ts,mU [],_,Z, ?_⟩;rw[show PyData.eqv (.list (ts.map nD)) (.list [])=decide (ts=[]) by rw[show ([]:List PyData)=([]:List Nt).map nD from rfl,za nD DP]];have f8:=f7.same se;have na8:=na7.same (Same.dr (r:=r) se);have acE:=Tn.same se;have WR:=eo7.same se;refine bJ (λ_=>?_) (λ_=>?_)
   .refine⟨_,Z,_,Z,_,Z,p,L,rs,rws,m,nv,ns,o,kI l,l,none,Z,f8.g.same fJ,r1,r8,vC,f8.nh.same fJ,WR,by rw[jf];lia,wk0,λT' ts' H9 hT' N9 tl' _ s9=>?_⟩
    have nT':T'≠r:=(f8.B.ne hT').1;have f9:=f8.same s9;exact hD' _ _ ⟨T',ts',_,Z,by lia,Nd N9 (f9.B.mono (by lia)) nT',tl',f9,na8.same (Same.dr s9),acE.same s9⟩
   .exact hD' _ _ ⟨T,ts,_,Z,by lia,Nd (N7.same se) (f8.B.mono (by lia)) nT,tl,f8,na8,acE⟩
  clear f7 na7 eo7 Tn N7 tl nT hT wk0 wk1;rintro σ H7 ⟨T,ts,n,rfl,n6,N7,tl,f7,na7,Tn⟩;refine⟨_,Z,_,Z,r,b,T,n,ts,Z,f7.B,by lia,N7,tl,λt x H8 ht8 B8 k8=>?_⟩;have f8:=f7.draw k8 B8;have na8:=na7.same (Kp.dr k8);have WR:LI H8 o' os:=k8 _ _ Tn afz;clear f7 na7 Tn N7 k8 B8;dsimp only;refine XJ ?_;refine lu (λσ Hc=>∃(dw:Str),σ=[some (.ref a),some (.ref r),some (.ref p),some nv,some PX,some (.bl good),some (.ref o),some (.ref o'),some (.ref T),some (.ref t),some (.str dw),none,none]/\(good=false->dw = "NoNumber")/\(good=true -> ∃l2 st2,Wk (iU m ns' rws) os l2 st2/\dw=HY true st2)/\Same H8 Hc) (λD' hD' _=>?_) ?_
  .refine⟨_,Z,_,Z, ?_⟩
   cases good with
   | false=>exact fG (hD' _ _ ⟨_,Z,λ_=>rfl,λz=>(by cases z),Same.refl _⟩)
   | true=>
     refine fD ?_;have gn:=gd.mp rfl;obtain⟨l2,st2,wk2⟩:=Qi os (iU m ns' rws) (wX _ _ _);refine⟨_,Z,_,Z,_,Z,p,L,rs,rws,m,PX,ns',o',os,l2,st2,Z,f8.g.same fJ,r8,vC,⟨gn,(na8.same fJ).2⟩,WR,by lia,wk2,λH9 s9=>?_⟩;exact hD' _ _ ⟨_,Z,λz=>(by cases z),λ_=>⟨l2,st2,wk2,Z⟩,s9⟩
  rintro σ H9 ⟨dw,rfl,dw0,dw1,s9⟩;have f9:=f8.same s9;have na9:=na8.same (Same.dr (r:=r) s9);have eo9:=WR.same s9;have ht9:=s9 _ _ ht8;clear f8 na8 WR ht8 s9;refine lu (λσ Hc=>∃(du:Option Nat),σ=[some (.ref a),some (.ref r),some (.ref p),some nv,some PX,some (.bl good),some (.ref o),some (.ref o'),some (.ref T),some (.ref t),some (.str (aal du)),none,none]/\MF m rws ns' os x du/\(∀k,du=some k->k<4)/\Same H9 Hc) (λD' hD' _=>?_) ?_
  .refine⟨_,Z,Z,_,Z, ?_⟩
   cases good with
   | false=>
     have e:=dw0 rfl;subst e;refine fG ?_;exact hD' _ _ ⟨some 0,Z,⟨λ_=>rfl,λg=>acq (gd.mpr g) (by simp)⟩,λk e=>(by cases e;decide),Same.refl _⟩
   | true=>
     have gn:=gd.mp rfl;obtain⟨l2,st2,wk2,e⟩:=dw1 rfl;subst e;cases st2 with
     | some c=>
       obtain⟨du,d1,d2,d3⟩:=aak (x:=x) gn wk2;have nw:decide (V.str (HY true (some c))=V.str "")=false:=by cases c<;>decide
       rw[nw];refine fG ?_;exact hD' _ _ ⟨du,by rw[←d2],d1,d3,Same.refl _⟩
     | none=>
       refine fD ?_;refine⟨_,Z,_,Z,_,Z,_,Z,p,L,rs,rws,m,PX,ns',o',os,l2,none,Z,f9.g.same fJ,r1,r8,vC,⟨gn,(na9.same fJ).2⟩,eo9,by lia,wk2,λT2 ts2 zV _ N10 _ mem Vl=>?_⟩;obtain⟨vs,hv,dv⟩:=id N10;refine⟨T2,vs,nD x,ts2.map nD,Z,bH.of hv,dv,DQ (Vl _ _ ht9),Z,λe he=>?_,_,Z, ?_⟩
       .obtain⟨y,_,rfl⟩:=aa3.mp he
        rfl
       rw[ab9 rfl,Ui];have mm:=mem rfl x;have D0:∀du,(x∈jN (l2.map bU) l2.length->du=none)->(x∉jN (l2.map bU) l2.length->du=some 3)->MF m rws ns' os x du:=λdu q1 q2=>⟨λz=>acq gn z,λ_=>⟨l2,none,wk2,λz=>(by cases z),λz=>(by cases z),λ_=>⟨q1,q2⟩⟩⟩
       by_cases z:x∈ts2
       .rw[aaN z]
        refine(show if false=true then _ else _ from fG ?_);exact hD' _ _ ⟨none,Z,D0 none (λ_=>rfl) (λq=>acq (mm.mp z) q),λk e=>(by cases e),Vl⟩
       .rw[aaO z]
        refine(show if true=true then _ else _ from fD ?_);exact hD' _ _ ⟨some 3,Z,D0 (some 3) (λq=>acq (mm.mpr q) z) (λ_=>rfl),λk e=>(by cases e;decide),Vl⟩
  rintro σ zV ⟨du,rfl,due,du4,Vl⟩;have g10:=(f9.g.same fJ).same Vl;have ab1:=(na9.same fJ).same Vl;have acG:LI zV o' os:=eo9.same Vl;have Ws:=Vl _ _ ht9;clear f9 na9 eo9 ht9 Vl dw0 dw1;obtain⟨nd,Wa⟩:=abT ab1;refine lu (λσ Hc=>∃(h c1 p2 D:Addr) (v2:V) (as2:List Addr),σ=[some (.ref a),some (.ref r),some (.ref p),some nv,some PX,some (.bl good),some (.ref o),some (.ref o'),some (.ref T),some (.ref t),some (.str (aal du)),some (.ref h),none]/\Hc h=some (.lst [.ref c1,v2,.ref p2])/\LI Hc c1 os/\tW Hc v2 ns' nd/\Ak Hc p2 D as2 rws m/\Same zV Hc) (λD' hD' _=>?_) ?_
  .refine⟨_,Z,o',_,Z,.inl (bH.of acG),λc1 hc1=>?_⟩
   have sc1:=aB (o:=HO.lst (os.map V.int)) hc1;refine RN rfl (Wa.same sc1) λv2 Am afH s12=>?_;have Ux:=sc1.trans s12;have Z8:=g10.same Ux;refine⟨_,Z,_,_,_,_,Z,Z,cA.of Z8.ep,Z,_,Z,_,_,_,_,Z,Z,cA.of Z8.ep,Z,L,Z,⟨_,bH.of Z8.eL⟩,λD hD=>?_⟩
   refine jU (K:=K) (a:=L) (xs:=rs.map V.ref) (λi σ Hd=>∃(v:Option V) (as:List Addr),σ=[v]/\Cpy Hd D as rws m/\as.length=i/\Same Am Hd)
    ⟨none,[],Z,⟨ak,λk q x e=>by simp at e⟩,Z,aB hD⟩ (λi σ Hd _ ⟨_,_,_,_,_,sm⟩=>bH.of (sm _ _ Z8.eL)) ?_ ?_
   .rintro i y σ Hd hi ⟨v,as,rfl,cp,la,sm⟩
    dsimp only[iK,Fp];rw[ab9 rfl];have il:i<rs.length:=by have:=(aaf.mp hi).1;rwa [aad] at this
    have iw:i<rws.length:=by rw[←Z8.len];exact il
    have ex:y=V.ref rs[i]:=by rw[aah,aae il] at hi;exact(aaS hi).symm
    subst ex;obtain⟨ts,et,dt,ok',ab7⟩:=(Z8.same sm).row i rs[i] rws[i] (by simp[il]) (by simp[iw]);refine⟨_,Z,rs[i],_,Z,.inl (bH.of et),λq hq=>?_⟩;have sq:=aB (o:=HO.lst ts) hq;have nq:q≠D:=λe=>by rw[e,cp.d] at hq;cases hq
    have tu:∀x ys,(upd Hd q (.lst ts)) x=some (.tup ys)->(upd (upd Hd q (.lst ts)) D (.lst (as.map V.ref++[.ref q]))) x=some (.tup ys):=λx ys e=>by rw[aF (cD e (sq _ _ cp.d) (by intro z;cases z))];exact e
    refine⟨as.map V.ref,sq _ _ cp.d,(by rw[aad,la,sizeLine_eq];lia),_,as++[q],Z,⟨by rw[ak,aaY];rfl,λkk q' x' h1 h2=>?_⟩,by simp[la],λx u e=>by rw[aF (aA e hD)];exact sq _ _ (sm _ _ e)⟩;rcases mz h1 with h1|⟨e1,e2⟩
    .obtain⟨n1,R1⟩:=cp.r kk q' x' h1 h2
     exact⟨n1,(R1.same sq).keep (λo e=>by rw[aF n1];exact e) tu⟩
    .subst e2
     rw[e1,la,aae iw] at h2;cases h2;exact⟨nq,ts,by rw[aF nq,ak],(dt.same sq _).keep tu _ (cj lR yS _),ok',ab7⟩
   rintro σ H13 ⟨v,as2,rfl,cp,la2,s13⟩;rw[aad] at la2;refine⟨(by show 2<=sizeLine;decide),λp2 hp2=>?_⟩;have Uw:=aB (o:=HO.tup [V.int m,V.ref D]) hp2;have g14:Ak (upd H13 p2 (.tup [V.int m,V.ref D])) p2 D as2 rws m:=⟨ak,Uw _ _ cp.d,by rw[la2,Z8.len],λkk q x h1 h2=>(cp.r kk q x h1 h2).2.same Uw⟩;refine⟨(by show 3<=sizeLine;decide),λh hh=>?_⟩;have Uv:=aB (o:=HO.lst [V.ref c1,v2,V.ref p2]) hh;have s35:=(s13.trans Uw).trans Uv;exact hD' _ _ ⟨h,c1,p2,D,v2,as2,Z,ak,s35 _ _ (s12 _ _ ak),afH.same s35,g14.same Uv,Ux.trans s35⟩
  rintro σ Qa ⟨h,c1,p2,D,v2,as2,rfl,eh,ec,abZ,gp,Ux⟩;have aft:wg Qa m v2 ns':=Zx ab1 Wa abZ;refine⟨_,Z,_,_,_,_,Z,Z,bH.of eh,Z,_,Z,_,_,_,_,Z,Z,bH.of eh,Z,_,Z,_,Z,_,_,_,_,Z,Z,bH.of eh,Z, ?_⟩;refine⟨p2,D,as2,rws,m,v2,ns',c1,os,t,x,du,Z,gp,r8,vC,aft,ec,by lia,Ux _ _ Ws,due,λq Am hq s12=>?_⟩;have S:=Ux.trans s12;refine⟨_,Z,_,Z,_,Z,_,Z,(by show 3<=sizeLine;decide),λz hz=>?_⟩;have sz:=aB (o:=HO.lst [V.ref o',PX,V.ref p]) hz;have sh:=Ik (os:=os) g10.ok Wa.can;have S12:=s12.trans sz;refine⟨_,_,Mj (S12 _ _ eh) (gp.same S12) (S12 _ _ ec) (abZ.same S12),Mj ak (g10.same (S.trans sz)) ((S.trans sz) _ _ acG) (Wa.same (S.trans sz)),sh,sh,_,Z, ?_⟩;rw[Ti sh];refine fG ?_;generalize (upd Am z (.lst [V.ref o',PX,V.ref p]))=H14 at sz ⊢;have Sh:=sz _ _ hq;have eqb:∀(bs:List Bool),PyData.eqv (.list (bs.map PyData.bool)) (.list (bs.map PyData.bool))=true:=λbs=>Ti (mV bs);refine⟨_,Z,Z,_,Z, ?_⟩
  have fin:∀(bs:List Bool),JQ du=bs -> ∀Xp,Xp q=some (.lst ((JQ du).map V.bl)) -> ∀z2,Xp z2=some (.lst (bs.map V.bl)) -> ∀(G:VK),G=Q->QZ false (.ref q) (.ref z2) Xp G:=λbs eb Xp h1 z2 h2 G eG=>by
   subst eG;rw[eb] at h1;refine⟨_,_,BL h1,BL h2,mV bs,mV bs, ?_⟩;rw[eqb];exact k _
  cases du with
  | none=>
    refine bJ (λ_=>?_) (λz=>acq (aaN rfl) z);refine⟨_,Z,(by show 0<=sizeLine;decide),λz2 hz2=>?_⟩;exact fin [] rfl _ (aB hz2 _ _ Sh) z2 ak _ rfl
  | some kk=>
    have k4:=du4 kk rfl;have:kk=0\/kk=1\/kk=2\/kk=3:=by lia
    rcases this with rfl|rfl|rfl|rfl
    .refine bJ (λz=>acq (aaP z) (by decide)) (λ_=>?_)
     refine⟨_,Z,_,Z,Z,_,Z,Z,_,Z,Z,_,Z,Z,(by show 5<=sizeLine;decide),λz2 hz2=>?_⟩;exact fin [true,false,false,false,true] rfl _ (aB hz2 _ _ Sh) z2 ak _ rfl
    .refine bJ (λz=>acq (aaP z) (by decide)) (λ_=>?_)
     refine⟨_,Z,_,Z,Z,_,Z,Z,_,Z,Z,_,Z,Z,(by show 5<=sizeLine;decide),λz2 hz2=>?_⟩;exact fin [false,true,false,false,true] rfl _ (aB hz2 _ _ Sh) z2 ak _ rfl
    .refine bJ (λz=>acq (aaP z) (by decide)) (λ_=>?_)
     refine⟨_,Z,_,Z,Z,_,Z,Z,_,Z,Z,_,Z,Z,(by show 5<=sizeLine;decide),λz2 hz2=>?_⟩;exact fin [false,false,true,false,true] rfl _ (aB hz2 _ _ Sh) z2 ak _ rfl
    .refine bJ (λz=>acq (aaP z) (by decide)) (λ_=>?_)
     refine⟨_,Z,_,Z,Z,_,Z,Z,_,Z,Z,_,Z,Z,(by show 5<=sizeLine;decide),λz2 hz2=>?_⟩;exact fin [false,false,false,true,true] rfl _ (aB hz2 _ _ Sh) z2 ak _ rfl
end
theorem len0{us:List Value}(h:us.length=0):us=[]:=List.eq_nil_of_length_eq_zero h
theorem jL{us:List Value}{n:Nat}(h:us.length=n+1):∃a vs,us=a::vs/\vs.length=n:=by
 cases us with
 | nil=>cases h
 | cons a t=>exact⟨a,t,Z,Nat.succ.inj h⟩
theorem zE{K:PySem.W.Frag}{T:Addr}{tc:Value}{td:Option Addr}{tn:Nat}{Ax:Array (Option Value)}(d:K.lookup T=some ⟨tc,td,.seq #[.none] tn,Ax⟩){kV doc pm:Value}{an:Option Addr}{cdv ct:Value}:Binds K (PySem.W.fnOf "__init__" "Works.__init__" (cC bR) (cT bR) (aH bR) (.ref T) kV doc pm an cdv ct) ["self","program","cells"] []:=by
 intro s us KX hl;have hl:us.length=3:=by simpa using hl
 obtain⟨_,_,rfl,h1⟩:=jL hl;obtain⟨_,_,rfl,h2⟩:=jL h1;obtain⟨_,_,rfl,h3⟩:=jL h2;cases len0 h3;exact PySem.W.binds_K KX rfl d rfl rfl rfl
theorem zB{K:PySem.W.Frag}{T:Addr}{tc:Value}{td:Option Addr}{tn:Nat}{Ax:Array (Option Value)}(d:K.lookup T=some ⟨tc,td,.seq #[.none] tn,Ax⟩){kV doc pm:Value}{an:Option Addr}{cdv ct:Value}:Binds K (PySem.W.fnOf "__init__" "Works.__init__" (cC bR) (cT bR) (aH bR) (.ref T) kV doc pm an cdv ct) ["self","program","cells"] [.none]:=by
 intro s us KX hl;have hl:us.length=2:=by simpa using hl
 obtain⟨_,_,rfl,h1⟩:=jL hl;obtain⟨_,_,rfl,h2⟩:=jL h1;cases len0 h2;exact PySem.W.binds_K KX rfl d rfl rfl rfl
theorem zA{K:PySem.W.Frag}{T:Addr}{tc:Value}{td:Option Addr}{tn:Nat}{Ax:Array (Option Value)}(d:K.lookup T=some ⟨tc,td,.seq #[.none] tn,Ax⟩){kV doc pm:Value}{an:Option Addr}{cdv ct:Value}(s:Shared)(us:List Value)(z:Value)(KX:K.In s.heap)(hl:(us++[z]).length=(["self","program","cells"]:List Str).length):BindsTo s (PySem.W.fnOf "__init__" "Works.__init__" (cC bR) (cT bR) (aH bR) (.ref T) kV doc pm an cdv ct) ⟨us,[("cells",z)]⟩ ((["self","program","cells"]:List Str).zip (us++[z])):=by
 have hl:us.length=2:=by simpa using hl
 obtain⟨_,_,rfl,h1⟩:=jL hl;obtain⟨_,_,rfl,h2⟩:=jL h1;cases len0 h2;exact PySem.W.binds_K KX rfl d rfl rfl rfl
theorem JV{K:PySem.W.Frag}{T:Addr}{tc:Value}{td:Option Addr}{tn:Nat}{Ax:Array (Option Value)}(d:K.lookup T=some ⟨tc,td,.seq #[.none] tn,Ax⟩){kV doc pm:Value}{an:Option Addr}{cdv ct:Value}:Binds K (PySem.W.fnOf "web_of" "web_of" (cC dO) (cT dO) (aH dO) (.ref T) kV doc pm an cdv ct) ["program","order","cells"] []:=by
 intro s us KX hl;have hl:us.length=3:=by simpa using hl
 obtain⟨_,_,rfl,h1⟩:=jL hl;obtain⟨_,_,rfl,h2⟩:=jL h1;obtain⟨_,_,rfl,h3⟩:=jL h2;cases len0 h3;exact PySem.W.binds_K KX rfl d rfl rfl rfl
theorem JT{K:PySem.W.Frag}{T:Addr}{tc:Value}{td:Option Addr}{tn:Nat}{Ax:Array (Option Value)}(d:K.lookup T=some ⟨tc,td,.seq #[.none] tn,Ax⟩){kV doc pm:Value}{an:Option Addr}{cdv ct:Value}:Binds K (PySem.W.fnOf "web_of" "web_of" (cC dO) (cT dO) (aH dO) (.ref T) kV doc pm an cdv ct) ["program","order","cells"] [.none]:=by
 intro s us KX hl;have hl:us.length=2:=by simpa using hl
 obtain⟨_,_,rfl,h1⟩:=jL hl;obtain⟨_,_,rfl,h2⟩:=jL h1;cases len0 h2;exact PySem.W.binds_K KX rfl d rfl rfl rfl
theorem JR{K:PySem.W.Frag}{T:Addr}{tc:Value}{td:Option Addr}{tn:Nat}{Ax:Array (Option Value)}(d:K.lookup T=some ⟨tc,td,.seq #[.none] tn,Ax⟩){kV doc pm:Value}{an:Option Addr}{cdv ct:Value}(s:Shared)(us:List Value)(z:Value)(KX:K.In s.heap)(hl:(us++[z]).length=(["program","order","cells"]:List Str).length):BindsTo s (PySem.W.fnOf "web_of" "web_of" (cC dO) (cT dO) (aH dO) (.ref T) kV doc pm an cdv ct) ⟨us,[("cells",z)]⟩ ((["program","order","cells"]:List Str).zip (us++[z])):=by
 have hl:us.length=2:=by simpa using hl
 obtain⟨_,_,rfl,h1⟩:=jL hl;obtain⟨_,_,rfl,h2⟩:=jL h1;cases len0 h2;exact PySem.W.binds_K KX rfl d rfl rfl rfl
theorem Ai{K:PySem.W.Frag}{T:Addr}{tc:Value}{td:Option Addr}{tn:Nat}{Ax:Array (Option Value)}(d:K.lookup T=some ⟨tc,td,.seq #[.none] tn,Ax⟩){kV doc pm:Value}{an:Option Addr}{cdv ct:Value}:Binds K (PySem.W.fnOf "both_ways" "both_ways" (cC b_) (cT b_) (aH b_) (.ref T) kV doc pm an cdv ct) ["program","order","note","cells"] []:=by
 intro s us KX hl;have hl:us.length=4:=by simpa using hl
 obtain⟨_,_,rfl,h1⟩:=jL hl;obtain⟨_,_,rfl,h2⟩:=jL h1;obtain⟨_,_,rfl,h3⟩:=jL h2;obtain⟨_,_,rfl,h4⟩:=jL h3;cases len0 h4;exact PySem.W.binds_K KX rfl d rfl rfl rfl
theorem Ah{K:PySem.W.Frag}{T:Addr}{tc:Value}{td:Option Addr}{tn:Nat}{Ax:Array (Option Value)}(d:K.lookup T=some ⟨tc,td,.seq #[.none] tn,Ax⟩){kV doc pm:Value}{an:Option Addr}{cdv ct:Value}:Binds K (PySem.W.fnOf "both_ways" "both_ways" (cC b_) (cT b_) (aH b_) (.ref T) kV doc pm an cdv ct) ["program","order","note","cells"] [.none]:=by
 intro s us KX hl;have hl:us.length=3:=by simpa using hl
 obtain⟨_,_,rfl,h1⟩:=jL hl;obtain⟨_,_,rfl,h2⟩:=jL h1;obtain⟨_,_,rfl,h3⟩:=jL h2;cases len0 h3;exact PySem.W.binds_K KX rfl d rfl rfl rfl
theorem Ag{K:PySem.W.Frag}{T:Addr}{tc:Value}{td:Option Addr}{tn:Nat}{Ax:Array (Option Value)}(d:K.lookup T=some ⟨tc,td,.seq #[.none] tn,Ax⟩){kV doc pm:Value}{an:Option Addr}{cdv ct:Value}(s:Shared)(us:List Value)(z:Value)(KX:K.In s.heap)(hl:(us++[z]).length=(["program","order","note","cells"]:List Str).length):BindsTo s (PySem.W.fnOf "both_ways" "both_ways" (cC b_) (cT b_) (aH b_) (.ref T) kV doc pm an cdv ct) ⟨us,[("cells",z)]⟩ ((["program","order","note","cells"]:List Str).zip (us++[z])):=by
 have hl:us.length=3:=by simpa using hl
 obtain⟨_,_,rfl,h1⟩:=jL hl;obtain⟨_,_,rfl,h2⟩:=jL h1;obtain⟨_,_,rfl,h3⟩:=jL h2;cases len0 h3;exact PySem.W.binds_K KX rfl d rfl rfl rfl
theorem all_mk{l:PySem.W.OpenLaw}{w:World}{K:PySem.W.Frag}{h:Heap}{mg:Str->Option Value}{fa Yi T16 f33 T33 f35 T35 aD aC aK aP bF bI dN:Addr}(X:K.In h)(G:h.Ns mainGlobals mg)(hfa:mg "law" = some (.ref fa))(Ek:Ur K "Hand" aD)(gJ:Ur K "Works" aC)(Cd:aaz K aD ["rows","at","in_boxes","sayings","state"])(w6:aaz K aC ["program","numbers","hands","turns"])(ycg:XcI K)(uc:PySem.W.findIn K (.ref aC) "__class__" = some (some (.builtin "object.__class__")))(t_:PySem.W.mroIn K aC (.type "object")=some true)(n_:Xi K "NoNumber" aK)(uh:Xi K "NoHand" aP)(Cg:Xi K "Over" bF)(ug:Xi K "NoNote" bI)(mK:Xi K "NoteError" dN)(eX:cY K aP aK false)(fO:cY K bF aK false)(eV:cY K bI aK false)(eU:cY K aK aP false)(dM:cY K bF aP false)(fQ:cY K bI aP false)(fP:cY K aK bF false)(g8:cY K aP bF false)(gZ:cY K bI bF false)(eO:cY K aK bI false)(fU:cY K aP bI false)(gY:cY K bF bI false)(gC:cY K aK dN true)(dY:cY K aP dN true)(fB:cY K bF dN true)(dX:cY K bI dN true)(xcc:XcI K)(nZ:XrI K aK)(uf:XrI K aP)(Ce:XrI K bF)(ud:XrI K bI){Sy:Tok}(DN:PySem.W.nsIn K mainGlobals "BOXES" = some (some (.str "abcdefgh" Sy))){Sx:Tok}(DK:PySem.W.nsIn K mainGlobals "ROUND" = some (some (.int 1000 Sx))){rC:Tok}(iJ:PySem.W.nsIn K mainGlobals "MOST_UNTOUCHING" = some (some (.int 60 rC)))(q0:fH K "_law_bag" Iv)(q1:fH K "_law_stir" CZ)(q2:fH K "_law_draw" Dd)(q3:fH K "is_whole" qT)(q4:fH K "is_below" qW)(q5:qH K aD "__init__" "Hand.__init__" oK)(q6:fH K "cell_of" uI)(q7:qH K aD "value_of" "Hand.value_of" g_)(q8:qH K aD "holds" "Hand.holds" m5)(q9:qH K aD "take" "Hand.take" oJ)(Q0:qH K aD "do" "Hand.do" uJ)(q11:qH K aD "lead_on" "Hand.lead_on" j5)(X3:fH K "check_numbers" jx)(q13:qH K aC "touch_by" "Works.touch_by" jd)(q14:qH K aC "hand_of" "Works.hand_of" jz)(q15:qH K aC "turn" "Works.turn" mZ){afp agO:Option Addr}{aew:Array (Option Value)}{afs afV agB afl acM agG:Value}{aee:Value}{aeb:Option Addr}{ad8:Nat}{aa':Array (Option Value)}(a16:PySem.W.findIn K (.ref aC) "__init__" = some (some (.ref Yi)))(l16:K.lookup Yi=some ⟨afs,afp,.func (PySem.W.fnOf "__init__" "Works.__init__" (cC bR) (cT bR) (aH bR) (.ref T16) afV agB afl agO acM agG),aew⟩)(c16:PySem.W.codeIn K acM "Works.__init__" = true)(k16:PySem.W.keepIn K (.ref Yi)=true)(n16:PySem.W.isFn K (.ref Yi)=true)(d16:K.lookup T16=some ⟨aee,aeb,.seq #[.none] ad8,aa'⟩)(q17:qH K aC "how" "Works.how" oH)(q18:qH K aD "another" "Hand.another" j6)(q19:qH K aC "twin" "Works.twin" mY)(q20:fH K "names" CK)(q21:fH K "touches_meet" jY)(q22:fH K "is_step" uG)(q23:fH K "is_known" qU)(q24:fH K "learn" CP)(q25:fH K "bare_steps" mX)(q26:fH K "notes_to" qR)(q27:fH K "notes" CJ)(q28:fH K "is_note" uH)(q29:fH K "check_fewest" jZ)(q30:fH K "places_of" oG)(q31:fH K "steps_left" mW)(q32:fH K "ahead_of_both" jy){afo agN:Option Addr}{aev:Array (Option Value)}{afr afU agA afk acL agF:Value}{aed:Value}{aea:Option Addr}{ad6:Nat}{aa_:Array (Option Value)}(a33:PySem.W.nsIn K mainGlobals "web_of" = some (some (.ref f33)))(l33:K.lookup f33=some ⟨afr,afo,.func (PySem.W.fnOf "web_of" "web_of" (cC dO) (cT dO) (aH dO) (.ref T33) afU agA afk agN acL agF),aev⟩)(c33:PySem.W.codeIn K acL "web_of" = true)(k33:PySem.W.keepIn K (.ref f33)=true)(d33:K.lookup T33=some ⟨aed,aea,.seq #[.none] ad6,aa_⟩)(q34:fH K "told_by" uF){afn agM:Option Addr}{aeu:Array (Option Value)}{afq afT agz afj acK agE:Value}{aec:Value}{ad':Option Addr}{ad5:Nat}{aa9:Array (Option Value)}(a35:PySem.W.nsIn K mainGlobals "both_ways" = some (some (.ref f35)))(l35:K.lookup f35=some ⟨afq,afn,.func (PySem.W.fnOf "both_ways" "both_ways" (cC b_) (cT b_) (aH b_) (.ref T35) afT agz afj agM acK agE),aeu⟩)(c35:PySem.W.codeIn K acK "both_ways" = true)(k35:PySem.W.keepIn K (.ref f35)=true)(d35:K.lookup T35=some ⟨aec,ad',.seq #[.none] ad5,aa9⟩)(q36:fH K "_law_plain" yh)(q37:fH K "_law_worth" yd)(q38:fH K "_law_row" Iu)(q39:fH K "_law_hand" C_)(q40:fH K "_law_program" qX)(q41:fH K "_law_first" yj)(q42:fH K "_law_run" Ir)(q43:fH K "_law_table" yg)(q44:fH K "_law_spoilt_first" jB)(q45:fH K "_law_spoilt_order" jA)(q46:fH K "_law_spoilt_note" j4)(q47:fH K "_law_turn" CQ)(q48:fH K "_law_stop" CV)(q49:fH K "_law_ties" CT)(q50:fH K "_law_classes" qY)(q51:fH K "law" QJ)(zb:Ul K ["ValueError","all","any","bool","enumerate","int","isinstance","len","list","max","min","range","sorted","tuple","zip"]):
 ∃fd:FuncData,(∀(s:Shared)(v:Value),BindsTo s fd ⟨[v],[]⟩ [("script",v)]) /\ ∀base:Heap,K.In base->base.Ns mainGlobals mg->bN l.prog w K mg base iY 13 fa fd ["script"] (KJ K):=by
 obtain⟨fl,fdl,al,Fl⟩:=q51;cases hfa.symm.trans (PySem.W.mg_of X G al);obtain⟨z0,z1,z2,z3,z4,z5,z6,z7,z8,z9,z10,z11,z12,z13,z14,_⟩:=zb.mg X G;have Bt:rN mg:=⟨z0,z1,z2,z3,z4,z5,z6,z7,z8,z9,z10,z11,z12,z13,z14⟩;obtain⟨n0,n1,n2,n3,n4,_⟩:=Cd;have aJ:gM K aD:=⟨Ek.cls,n0,n1,n2,n3,n4⟩;obtain⟨n0,n1,n2,n3,_⟩:=w6;have aQ:fV K aC:=⟨gJ.cls,n0,n1,n2,n3⟩;have adP:IsO K mg aC "Works" :=⟨PySem.W.mg_of X G gJ.a,uc,ycg.cg,ycg.ct,t_⟩;have gK:Gv mg "BOXES" (.str "abcdefgh"):=⟨_,PySem.W.mg_of X G DN,⟨_,Z⟩⟩;have iW:Gv mg "ROUND" (.int 1000):=⟨_,PySem.W.mg_of X G DK,⟨_,Z⟩⟩;have gq:Gv mg "MOST_UNTOUCHING" (.int 60):=⟨_,PySem.W.mg_of X G iJ,⟨_,Z⟩⟩;have bW:=n_.r X G nZ xcc;have cG:=uh.r X G uf xcc;have eY:=Cg.r X G Ce xcc;have dF:=ug.r X G ud xcc;have ju:=mK.o X G gC;have F16:HB K "__init__" "Works.__init__" bR [.none] Yi _:=⟨⟨_,_,_,_,_,_,_,_,_,_,_,_,_,_,Z,l16,c16,d16⟩,k16⟩;have F33:HB K "web_of" "web_of" dO [.none] f33 _:=⟨⟨_,_,_,_,_,_,_,_,_,_,_,_,_,_,Z,l33,c33,d33⟩,k33⟩;have F35:HB K "both_ways" "both_ways" b_ [.none] f35 _:=⟨⟨_,_,_,_,_,_,_,_,_,_,_,_,_,_,Z,l35,c35,d35⟩,k35⟩;refine⟨fdl,Fl.bind1 (by kernel_rfl),λbase _ _=>?_⟩;have Y:At8 l.prog w K mg base:=⟨_,X,G⟩;have A0:=Y.fn q0 λF=>Zw F Bt;have A1:=Y.fn q1 λF=>VN F;have A2:=Y.fn q2 λF=>V2 F A1 Bt;have A3:=Y.fn q3 λF=>Gp F Bt;have A4:=Y.fn q4 λF=>Gq F A3;have A5:=Y.ma Ek q5 (sp:=wJ aD K) λF=>RG F aJ gK;have A6:=Y.fn q6 λF=>Oc F;have agX:=Y.me q7 (sp:=xP aD 0 K) λF=>VF F;have agW:=Y.me q7 λF=>Lk (n:=0) F agX aJ gK iW;have A7:=Y.me q7 λF=>Lk (n:=1) F agW aJ gK iW;have A8:=Y.me q8 (sp:=Cu aD K) λF=>RD F A7 aJ;have A9:=Y.me q9 (sp:=Cp aD K) λF=>VL F aJ gK;have A10:=Y.me Q0 (sp:=YZ aD K) λF=>abR F A7 A9 A8 aJ;have A11:=Y.me q11 (sp:=Cr aD K) λF=>V1 F A6 A10 aJ gq Bt;have A12:=Y.fnX X3 (sp:=qO aK K) λF=>Gr F A4 iW Bt bW;have A13:=Y.me q13 (sp:=ur aC aD K) λF=>Ja F A6 A7 A9 aQ aJ;have A14:=Y.meX q14 (sp:=rW aC aD aP K) λF=>Oa F A4 aQ Bt cG;have A15:=Y.meX q15 (sp:=lG aC aD aP bF K) λF=>VH F A14 A13 A11 aQ aJ eY;have G16:=Rt F16 aQ aJ A12 A5 A11 Bt;have A16:nA l.prog w K mg base 7 aC "Works" ["self","program","cells"] [] (iH aC aD aK K):=⟨Yi,_,_,G16,⟨gJ.ms,a16,n16,gJ.kp⟩,PySem.W.mg_of X G gJ.a,zE d16,.nil⟩;have aiC:nA l.prog w K mg base 7 aC "Works" ["self","program","cells"] [.non] (iH aC aD aK K):=⟨Yi,_,_,G16,⟨gJ.ms,a16,n16,gJ.kp⟩,PySem.W.mg_of X G gJ.a,zB d16,.cons rfl .nil⟩;have aiB:Xm l.prog w K mg base 7 aC "Works" ["self","program","cells"] "cells" (iH aC aD aK K):=⟨Yi,_,G16,⟨gJ.ms,a16,n16,gJ.kp⟩,PySem.W.mg_of X G gJ.a,zA d16⟩;have A17:=Y.meX q17 (sp:=QC aC aD aP K) λF=>Zu F A14 aQ aJ;have A18:=Y.me q18 (sp:=uw aD K) λF=>Jg F aJ A5 Bt;have A19:=Y.me q19 (sp:=Ih aC aD K) λF=>VG F aQ aJ A16.calm A18 Bt;have A20:=Y.fn q20 λF=>Rx F;have A21:=Y.fn q21 λF=>vV F;have A22:=Y.fn q22 λF=>Je F A21;have A23:=Y.fn q23 λF=>RB F;have A24:=Y.fn q24 λF=>Ry F Bt;have A25:=Y.fn q25 λF=>V3 F A22 A23 A24 Bt;have A26:=Y.fn q26 λF=>Jd F;have A27:=Y.fn q27 λF=>Rv F A20 A25 A26 Bt;have A28:=Y.fn q28 λF=>Jf F A3 Bt;have A29:=Y.fnX q29 (sp:=QD bI K) λF=>Zv F dF A28 A27 Bt;have A30:=Y.fn q30 λF=>N_ F A20 Bt;have A31:=Y.fn q31 λF=>V0 F A22 Bt;have A32:=Y.fn q32 λF=>RM F A31 Bt;have G33:=VD F33 A16 A15 aQ;have A33:qN l.prog w K mg base 9 "web_of" ["program","order","cells"] (uq aC aD aK aP bF K):=⟨f33,_,G33,PySem.W.mg_of X G a33,k33,JV d33⟩;have aiA:Yw l.prog w K mg base 9 "web_of" ["program","order","cells"] [.non] (uq aC aD aK aP bF K):=⟨f33,_,_,G33,PySem.W.mg_of X G a33,k33,JT d33,.cons rfl .nil⟩;have aiz:Yv l.prog w K mg base 9 "web_of" ["program","order","cells"] "cells" (uq aC aD aK aP bF K):=⟨f33,_,G33,PySem.W.mg_of X G a33,k33,JR d33⟩;have A34:=Y.fn q34 (sp:=xR aC aD K) λF=>NP F A19 A15.calm aQ;have G35:=RL F35 A33 A29 A30 A32 A34 A16 A15 aQ Bt;have A35:qN l.prog w K mg base 11 "both_ways" ["program","order","note","cells"] (rY aK aP bF bI K):=⟨f35,_,G35,PySem.W.mg_of X G a35,k35,Ai d35⟩;have aiy:Yw l.prog w K mg base 11 "both_ways" ["program","order","note","cells"] [.non] (rY aK aP bF bI K):=⟨f35,_,_,G35,PySem.W.mg_of X G a35,k35,Ah d35,.cons rfl .nil⟩;have aix:Yv l.prog w K mg base 11 "both_ways" ["program","order","note","cells"] "cells" (rY aK aP bF bI K):=⟨f35,_,G35,PySem.W.mg_of X G a35,k35,Ag d35⟩;have A36:=Y.fn q36 λF=>N8 F A2;have A37:=Y.fn q37 λF=>Nz F A2 A36;have A38:=Y.fn q38 λF=>VR F A2 A37;have A39:=Y.fn q39 λF=>RJ F A2 A38 Bt;have A40:=Y.fn q40 λF=>Ru F A2 A39 Bt;have A41:=Y.fn q41 λF=>Ob F A2 Bt;have A42:=Y.fn q42 λF=>VP F A2 A16.calm A17.calm A15.calm aQ Bt;have A43:=Y.fn q43 λF=>Od F Bt;have A44:=Y.fn q44 λF=>Jc F A2;have A45:=Y.fn q45 λF=>Jb F A2 Bt;have A46:=Y.fn q46 λF=>NZ F A2 Bt;have A47:=Y.fn q47 (sp:=xQ aC aD K) λF=>NK cG eY dM F A15 aQ;have A48:=Y.fn q48 λF=>NQ F A16.calm A47 Bt;have A49:=Y.fn q49 λF=>VJ F A48 A43 A33.calm Bt;have A50:=Y.fn q50 λF=>RK F bW cG eY dF ju eU fP eO eX g8 fU dY fO dM gY fB eV fQ gZ dX A35 Bt;exact Zt Fl A0 A40 A41 A44 A42 A45 A49 A46 A48 A50 Bt
theorem walk{l:PySem.W.OpenLaw}{q:Program}{loose:List Str}{XP:(Str->Option Value)->Heap->Prop}{YP:World->Heap->Prop}{d:DefRec}{K:Params->PySem.W.Frag}(hn:l.most=some 63)(hdf:d.params.defaults=[])(hY:∀(w:World)(h:Heap),YP w h->(K w.params).In h)(F:∀(w:World)(mg:Str->Option Value)(fa:Addr)(h:Heap),(K w.params).In h->h.Ns mainGlobals mg->mg d.name=some (.ref fa) ->
   ∃fd:FuncData,(∀(s:Shared)(u:Value),BindsTo s fd ⟨[u],[]⟩ [("script",u)]) /\ ∀base:Heap,(K w.params).In base->base.Ns mainGlobals mg->bN l.prog w (K w.params) mg base iY 13 fa fd ["script"] (KJ (K w.params))):
 PySem.W.WalkO q loose XP YP l.row.toRowW d [] (λf vs=>PySem.call f vs):=
 L2.U9 (n:=63) (k:=13) (x:= "script") (CX:=λ_=>iY) (sp:=λw=>KJ (K w.params)) hn (by decide) hdf ⟨Z,by decide,by decide⟩ hY F (λ_ _ a ns hl _ hS=>⟨a,ns,Z,hS,hl,λ_=>rfl⟩) λ_ _ _ _ _ z=>z
end Prf
namespace PySem.W.Fast
noncomputable def tw4783530876833885084:=()
noncomputable def tw16613104798452557280:=()
noncomputable def tw4814183136679008761:=()
noncomputable def tw14816062368805617384:=()
noncomputable def tw12896100096731000937:=()
noncomputable def tw15919232961992066244:=()
noncomputable def tw5198600771156854923:=()
noncomputable def tw1997008235467404349:=()
noncomputable def tw1710543494703409785:=()
noncomputable def tw18223211375241684921:=()
noncomputable def tw3894211721664249084:=()
noncomputable def tw6221458745188163432:=()
noncomputable def tw313383279356658422:=()
noncomputable def tw18387406873902715030:=()
noncomputable def tw2326521745376076079:=()
noncomputable def tw12639863944979038104:=()
noncomputable def tw9243980982339476162:=()
noncomputable def tw1756401393538333239:=()
noncomputable def tw15280401177699497130:=()
noncomputable def tw6869829349599668754:=()
noncomputable def tw13699819042781983985:=()
noncomputable def tw9908307003027289029:=()
noncomputable def tw18321416223267905048:=()
noncomputable def tw10548183030671872577:=()
noncomputable def tw5992618228314381725:=()
noncomputable def tw1367854600484130435:=()
noncomputable def tw16508863743910867947:=()
noncomputable def tw4817673552574870711:=()
noncomputable def tw15982975818636052127:=()
noncomputable def tw17854875840545643440:=()
noncomputable def tw14566944913240080671:=()
noncomputable def tw15616850144604906082:=()
noncomputable def tw18187478709119479616:=()
noncomputable def tw344745828517152796:=()
noncomputable def tw127356125709609661:=()
noncomputable def tw11084013523394547028:=()
noncomputable def tw892054596802512469:=()
noncomputable def tw2834911664417465257:=()
noncomputable def tw1062689561910597010:=()
noncomputable def tw4702609310552750190:=()
noncomputable def tw12907354149361221022:=()
noncomputable def tw12922304446716712403:=()
noncomputable def tw5824033768964600992:=()
noncomputable def tw3772418669876656295:=()
noncomputable def tw57507737263362665:=()
noncomputable def tw490408745883197504:=()
noncomputable def tw18071090878187102831:=()
noncomputable def tw12458458459102130875:=()
noncomputable def tw13582934557123845121:=()
noncomputable def tw5559573548443641140:=()
noncomputable def tw8649312099222356120:=()
noncomputable def tw14931635907761504226:=()
noncomputable def tw1996869386432538866:=()
noncomputable def tw2845905551847633512:=()
noncomputable def tw1701135386518604148:=()
noncomputable def tw1657816374238447446:=()
noncomputable def tw11221985918278844701:=()
noncomputable def tw7676860978766414517:=()
noncomputable def tw5750496809209360674:=()
noncomputable def tw18288150150789127365:=()
noncomputable def tw18250959185086116536:=()
noncomputable def tw3850010359351029212:=()
noncomputable def tw4022756722122708560:=()
noncomputable def tw16870473823657180769:=()
noncomputable def tw11690362231914856335:=()
noncomputable def tw15084201757793003617:=()
noncomputable def tw8733998399019400025:=()
noncomputable def tw9502379759459132841:=()
noncomputable def tw17165743982013562775:=()
noncomputable def tw10232467801944158530:=()
noncomputable def tw11887666793659928124:=()
noncomputable def tw6676774065039434615:=()
noncomputable def tw3312965147644571939:=()
noncomputable def tw9693528329458883509:=()
noncomputable def tw1833791133205871563:=()
noncomputable def tw17812010171827157543:=()
noncomputable def tw10621565249604972235:=()
noncomputable def tw6248836491544344745:=()
noncomputable def tw1497217730737554345:=()
noncomputable def tw17708777239963815833:=()
noncomputable def tw16268082358811921295:=()
noncomputable def tw1002864656671017875:=()
noncomputable def tw10018956813789050549:=()
noncomputable def tw12787068576061609279:=()
noncomputable def tw6085843628932028838:=()
noncomputable def tw15503956903463278059:=()
noncomputable def tw7069538606268270356:=()
noncomputable def tw8403349230635032149:=()
noncomputable def tw8142444298152090800:=()
noncomputable def tw15532875511806704997:=()
noncomputable def tw4198194549571845091:=()
noncomputable def tw3835690525181136384:=()
noncomputable def tw9077202950216231770:=()
noncomputable def tw16122612300720953975:=()
noncomputable def tw1647299343217796368:=()
noncomputable def tw4033415999375966261:=()
noncomputable def tw14561732493813683273:=()
noncomputable def tw10286793960622059407:=()
noncomputable def tw8652813156608404662:=()
noncomputable def tw6823859856858520308:=()
noncomputable def tw16227329774541949388:=()
noncomputable def tw13361760561554854212:=()
noncomputable def tw4986933401047579862:=()
noncomputable def tw17344887013482200132:=()
noncomputable def tw9527869476501390561:=()
noncomputable def tw4069176215169870298:=()
noncomputable def tw1083826003412503558:=()
noncomputable def tw10975418902008034215:=()
noncomputable def tw3788870591353455619:=()
noncomputable def tw9254424048983145296:=()
noncomputable def tw8245017354361442790:=()
noncomputable def tw10968105018659114209:=()
noncomputable def tw84300975753555570:=()
noncomputable def tw10470767683439655850:=()
noncomputable def tw13644960887823520829:=()
noncomputable def tw2001630766591711072:=()
noncomputable def tw13743366853676888374:=()
noncomputable def tw3271364847991786552:=()
noncomputable def tw3608170132578910015:=()
noncomputable def tw6173259446072812103:=()
noncomputable def tw8558065268196325253:=()
noncomputable def tw12338270509142671643:=()
noncomputable def tw12389620676367781010:=()
noncomputable def tw6847784476661200021:=()
noncomputable def tw11985913448119391916:=()
noncomputable def tw13676190207465412422:=()
noncomputable def tw16882423690155168315:=()
noncomputable def tw8322857902863800156:=()
noncomputable def tw6833652890443408108:=()
noncomputable def tw1404691287137390937:=()
noncomputable def tw10138629382596815205:=()
noncomputable def tw12894937679082184822:=()
noncomputable def tw14522354404542867861:=()
noncomputable def tw1186931480395623127:=()
noncomputable def tw5399324867791698398:=()
noncomputable def tw13793813061108715052:=()
noncomputable def tw9061722074696605717:=()
noncomputable def tw2547847315332770243:=()
noncomputable def tw102663080831230755:=()
noncomputable def tw16567011592068665292:=()
noncomputable def tw3615929116261706849:=()
noncomputable def tw9107559060568992758:=()
noncomputable def tw3748343402760054339:=()
noncomputable def tw2930149446422426237:=()
noncomputable def tw1208484744086462961:=()
noncomputable def tw5491134277319451082:=()
noncomputable def tw13007536999118078293:=()
noncomputable def tw2568515909520648226:=()
noncomputable def tw9792583892639282493:=()
noncomputable def tw16251494762581685762:=()
noncomputable def tw5137893396439036538:=()
noncomputable def tw17137260730708571719:=()
noncomputable def tw7039080684531294010:=()
noncomputable def tw10461589106385603339:=()
noncomputable def tw10602405115422802564:=()
noncomputable def tw4062594365026623462:=()
noncomputable def tw10305233291983354459:=()
noncomputable def tw1368116266151923523:=()
noncomputable def tw9450789497474669007:=()
noncomputable def tw7263554193710345255:=()
noncomputable def tw16495233015215011484:=()
noncomputable def tw14985923786295998132:=()
noncomputable def tw10805719691202445485:=()
noncomputable def tw15484429717135758555:=()
noncomputable def tw10580372662967856485:=()
noncomputable def tw17789718347602172845:=()
noncomputable def tw2645817268518990389:=()
noncomputable def tw4076671473271986957:=()
noncomputable def tw17839130477087805344:=()
noncomputable def tw9180228763913153820:=()
noncomputable def tw13184776413357986771:=()
noncomputable def tw9929257944395700342:=()
noncomputable def tw2985729121208845400:=()
noncomputable def tw5781502488722245969:=()
noncomputable def tw13381365061598120175:=()
noncomputable def tw57962833819003322:=()
noncomputable def tw13238972523508007242:=()
noncomputable def tw17884289699928305310:=()
noncomputable def tw10346395137624157325:=()
noncomputable def tw7735070012775916349:=()
noncomputable def tw15502886965654209161:=()
noncomputable def tw9309868167064708500:=()
noncomputable def tw15009529340519745324:=()
noncomputable def tw1863269919574530336:=()
noncomputable def tw2483717885603910551:=()
noncomputable def tw2746344319532073453:=()
noncomputable def tw3319801812404106914:=()
noncomputable def tw263208639936721847:=()
noncomputable def tw12228796440360214789:=()
noncomputable def tw7927959939640609536:=()
noncomputable def tw13665925625206823565:=()
noncomputable def tw17413435284277701532:=()
noncomputable def tw5133070897266823949:=()
noncomputable def tw9022032718131267140:=()
noncomputable def tw13390050096557959183:=()
noncomputable def tw12995631816639576970:=()
noncomputable def tw14784052728797497867:=()
noncomputable def tw12324365118129746835:=()
noncomputable def tw14594580745591048680:=()
noncomputable def tw13075513175983205071:=()
noncomputable def tw12161589025128464323:=()
noncomputable def tw3290310856345218446:=()
noncomputable def tw14413962331004862535:=()
noncomputable def tw16738745971712362283:=()
noncomputable def tw10814332504558675063:=()
noncomputable def tw16198595050939519118:=()
noncomputable def tw14666605908966652328:=()
noncomputable def tw10871383084674598149:=()
noncomputable def tw13262315958909182366:=()
noncomputable def tw16199458306607547220:=()
noncomputable def tw16995416892656420509:=()
noncomputable def tw8575426797092038688:=()
noncomputable def tw8829919465067188216:=()
noncomputable def tw16021566710070462998:=()
noncomputable def tw2759599001736661840:=()
noncomputable def tw542773612545971629:=()
noncomputable def tw2614602462247753587:=()
noncomputable def tw9930328858313963952:=()
noncomputable def tw14168474849931657536:=()
noncomputable def tw15059888916731457294:=()
noncomputable def tw12108075845006268782:=()
noncomputable def tw4933983255382358729:=()
noncomputable def tw6486756175183216110:=()
noncomputable def tw1253725821560638271:=()
noncomputable def tw1434419286704661242:=()
noncomputable def tw12154140207534875831:=()
noncomputable def tw9376751656123723505:=()
noncomputable def tw16383573781935493974:=()
noncomputable def tw17162403697415155733:=()
noncomputable def tw7791469263615823282:=()
noncomputable def tw13646278649923031332:=()
noncomputable def tw14063622964135168696:=()
noncomputable def tw2885026951975331679:=()
noncomputable def tw11419500857604730347:=()
noncomputable def tw311082847187597631:=()
noncomputable def tw8589657531391878964:=()
noncomputable def tw6294615510551702232:=()
noncomputable def tw13951286510488227497:=()
noncomputable def tw5992213851735953777:=()
noncomputable def tw13051805747976496656:=()
noncomputable def tw11687691584180953617:=()
noncomputable def tw16826544893938013515:=()
noncomputable def tw1986433921719012585:=()
noncomputable def tw2485339165288221019:=()
noncomputable def tw13169959981998796608:=()
noncomputable def tw17639213026353140862:=()
noncomputable def tw184897224440880693:=()
noncomputable def tw4464334211041966582:=()
noncomputable def tw8827509575693339376:=()
noncomputable def tw3223104815741469794:=()
noncomputable def tw928900371597878763:=()
noncomputable def tw17579032605589472814:=()
noncomputable def tw5246055146532502754:=()
noncomputable def tw12073929566602886050:=()
noncomputable def tw15283381544805376018:=()
noncomputable def tw426902895288047603:=()
noncomputable def tw7917139790029609327:=()
noncomputable def tw6162085199546173423:=()
noncomputable def tw11737216217277051825:=()
noncomputable def tw17663067760143734918:=()
noncomputable def tw6389159991291633178:=()
noncomputable def tw14654447311280214129:=()
noncomputable def tw18349465898663431646:=()
noncomputable def tw13532468174230417583:=()
noncomputable def tw5905990654806956372:=()
noncomputable def tw11012221305440685029:=()
noncomputable def tw12150795290160959035:=()
noncomputable def tw8161765094677498888:=()
noncomputable def tw12954940439376581294:=()
noncomputable def tw13846959067575267375:=()
noncomputable def tw11166996855710472422:=()
noncomputable def tw1549051098409529202:=()
noncomputable def tw13830644145757806225:=()
noncomputable def tw9413864239433733188:=()
noncomputable def tw822372427080877778:=()
noncomputable def tw14669793183705880074:=()
noncomputable def tw6603466106821497153:=()
noncomputable def tw2151342353295586017:=()
noncomputable def tw15542097299177862521:=()
noncomputable def tw916005150027072558:=()
noncomputable def tw1934991087850471121:=()
noncomputable def tw16042667766199650569:=()
noncomputable def tw4185515515143120877:=()
noncomputable def tw8733916478656688482:=()
noncomputable def tw7632514203997557857:=()
noncomputable def tw7411500114634629104:=()
noncomputable def tw14833189645312551966:=()
noncomputable def tw14344423835891018769:=()
noncomputable def tw15470438658754565868:=()
noncomputable def tw15376567312537050498:=()
noncomputable def tw2028286505768000995:=()
noncomputable def tw11774791532039471150:=()
noncomputable def tw16557978228970650910:=()
noncomputable def tw2849413625761463097:=()
noncomputable def tw14048296778655763421:=()
noncomputable def tw17812213728365306793:=()
noncomputable def tw1591528419066079955:=()
noncomputable def tw16401393342519328547:=()
noncomputable def tw9260228082525644960:=()
noncomputable def tw6528931885013371744:=()
noncomputable def tw1989989873139813801:=()
noncomputable def tw9145014766951935274:=()
noncomputable def tw8521516838874808178:=()
noncomputable def tw16633291845239477257:=()
noncomputable def tw14143636694147227575:=()
noncomputable def tw7352673541965178707:=()
noncomputable def tw5894960397094328224:=()
noncomputable def tw15891841977577553844:=()
noncomputable def tw5439069115130342572:=()
noncomputable def tw2908770602721691219:=()
noncomputable def tw5636254754990665603:=()
noncomputable def tw2866879835014118584:=()
noncomputable def tw5882323941427434186:=()
noncomputable def tw12775684845036111927:=()
noncomputable def tw16418111228981367091:=()
noncomputable def tw13039516189900331445:=()
noncomputable def tw3147331118677993378:=()
noncomputable def tw17485007257149837171:=()
noncomputable def tw10261770368028809945:=()
noncomputable def tw10954575526543680372:=()
noncomputable def tw4360237984211737560:=()
noncomputable def tw2454185243798107498:=()
noncomputable def tw14277249931668862982:=()
noncomputable def tw18314436301288980501:=()
noncomputable def tw5038207714893706563:=()
noncomputable def tw10594716374396686402:=()
noncomputable def tw3835609941714001731:=()
noncomputable def tw5376879765925049384:=()
noncomputable def tw10726340859918957492:=()
noncomputable def tw10160448904621109027:=()
noncomputable def tw11400333173570471919:=()
noncomputable def tw8043932032729692211:=()
noncomputable def tw9464765688766779207:=()
noncomputable def tw1928528371485130600:=()
noncomputable def tw15137826450747808025:=()
noncomputable def tw17960292097026669766:=()
noncomputable def tw16833994541929420455:=()
noncomputable def tw17606445690366714101:=()
noncomputable def tw13893327350521018381:=()
noncomputable def tw18099210419725855096:=()
noncomputable def tw5351734428736504372:=()
noncomputable def tw16891704135217299043:=()
noncomputable def tw13796992732466285483:=()
noncomputable def tw15015009645550464884:=()
noncomputable def tw13406636744284239783:=()
noncomputable def tw2919972014009082634:=()
noncomputable def tw5917762852124643832:=()
noncomputable def tw16914285993554568648:=()
noncomputable def tw15149224113807992486:=()
noncomputable def tw18242222492352806984:=()
noncomputable def tw5791727640845494533:=()
noncomputable def tw10025143948946478792:=()
noncomputable def tw7720811262716752311:=()
noncomputable def tw17356615522305205550:=()
noncomputable def tw17799412134324143936:=()
noncomputable def tw2010703590570852477:=()
noncomputable def tw7670848254507288169:=()
noncomputable def tw8993326136270471539:=()
noncomputable def tw2841986691606408177:=()
noncomputable def tw5724406758776792499:=()
noncomputable def tw9822271305964203672:=()
noncomputable def tw14671852444376547221:=()
noncomputable def tw1708437906457998504:=()
noncomputable def tw9020185734046495416:=()
noncomputable def tw6672221178544193999:=()
noncomputable def tw13354615014186965546:=()
noncomputable def tw10620448860316504824:=()
noncomputable def tw1332017747170509032:=()
noncomputable def tw8878279465425483343:=()
noncomputable def tw11894339759555701029:=()
noncomputable def tw3865116803318028390:=()
noncomputable def tw17040232938880633983:=()
noncomputable def tw6271008697664913288:=()
noncomputable def tw11799077816060297097:=()
noncomputable def tw5957447148396410686:=()
noncomputable def tw17874920979752987913:=()
noncomputable def tw8047551351865186592:=()
noncomputable def tw6402382210707244719:=()
noncomputable def tw1347393166183891813:=()
noncomputable def tw10181596629510346036:=()
noncomputable def tw12828571162867717805:=()
noncomputable def tw1183669572395781040:=()
noncomputable def tw16527681136757907481:=()
noncomputable def tw16776608806956721737:=()
noncomputable def tw15733322757722125214:=()
noncomputable def tw138019843495671839:=()
noncomputable def tw6365036464751175577:=()
noncomputable def tw12729304738602927515:=()
noncomputable def tw2391489175767730345:=()
noncomputable def tw17816134427238806216:=()
noncomputable def tw1098057374336946481:=()
noncomputable def tw13615095439092720167:=()
noncomputable def tw6301286979666969918:=()
noncomputable def tw7508850766948211437:=()
noncomputable def tw18305114759831424761:=()
noncomputable def tw12001753835365469264:=()
noncomputable def tw14027995513004723169:=()
noncomputable def tw18019325307378224579:=()
noncomputable def tw3874555353568097321:=()
noncomputable def tw11560949200258620290:=()
noncomputable def tw3522957659018810407:=()
noncomputable def tw14079675081069601929:=()
noncomputable def tw8323413436006621523:=()
noncomputable def tw16741368669785233881:=()
noncomputable def tw3083659104529334509:=()
noncomputable def tw2649236566683097622:=()
noncomputable def tw15794966274374197315:=()
noncomputable def tw13056676015819652806:=()
noncomputable def tw477989202928474525:=()
noncomputable def tw2822706776071498856:=()
noncomputable def tw4170802843020597003:=()
noncomputable def tw13662409360715335616:=()
noncomputable def tw8515724827522985828:=()
noncomputable def tw1481047536994356669:=()
noncomputable def tw4061253074873461920:=()
noncomputable def tw15186564535198729825:=()
noncomputable def tw12370539615899233792:=()
noncomputable def tw10010769624063690942:=()
noncomputable def tw14822726227711052084:=()
noncomputable def tw14236846110034264484:=()
noncomputable def tw6067652255540692488:=()
noncomputable def tw6364804987977476832:=()
noncomputable def tw12905207106326713875:=()
noncomputable def tw13539006134363578462:=()
noncomputable def tw4981896093273392123:=()
noncomputable def tw11871544175262145174:=()
noncomputable def tw7252510904035320974:=()
noncomputable def tw11055451894559895134:=()
noncomputable def tw6028566677750621482:=()
noncomputable def tw756878245387191692:=()
noncomputable def tw9064978746921346707:=()
noncomputable def tw1301427222336161163:=()
noncomputable def tw10023216283448448641:=()
noncomputable def tw11259396040886225109:=()
noncomputable def tw9387923120468701189:=()
noncomputable def tw17118183971424293226:=()
noncomputable def tw10728421217005334174:=()
noncomputable def tw3272335691389436065:=()
noncomputable def tw12864121655016076439:=()
noncomputable def tw16544034467792752413:=()
noncomputable def tw16889225139459553084:=()
noncomputable def tw18060106448351095331:=()
noncomputable def tw14540406246239638804:=()
noncomputable def tw2522805764719388656:=()
noncomputable def tw9574755771619753082:=()
noncomputable def tw13818223269289674143:=()
noncomputable def tw6150066436465086165:=()
noncomputable def tw331042077687143924:=()
noncomputable def tw13109591875405875565:=()
noncomputable def tw1499598010214348526:=()
noncomputable def tw4667076022752061503:=()
noncomputable def tw13246658987610266325:=()
noncomputable def tw3786891102940414108:=()
noncomputable def tw13400321597918776933:=()
noncomputable def tw2790898452397473456:=()
noncomputable def tw8566664885442571780:=()
noncomputable def tw15058259873694927873:=()
noncomputable def tw14907012150656455036:=()
noncomputable def tw13517916911421566965:=()
noncomputable def tw7785521817603704912:=()
noncomputable def tw5954366318557899616:=()
noncomputable def tw5592967549016452019:=()
noncomputable def tw16958163536003076657:=()
noncomputable def tw14240925617296492340:=()
noncomputable def tw1074911431434055229:=()
noncomputable def tw10267267369066641913:=()
noncomputable def tw5179657886052229762:=()
noncomputable def tw7128181088026963975:=()
noncomputable def tw7075353549976682364:=()
noncomputable def tw17823717764792825472:=()
noncomputable def tw18389752106678660780:=()
noncomputable def tw5689060035075214416:=()
noncomputable def tw4915324886833501062:=()
noncomputable def tw12242081494485942636:=()
noncomputable def tw3702227398600375604:=()
noncomputable def tw18267440587797720632:=()
noncomputable def tw11725000119121760238:=()
noncomputable def tw339740830811897717:=()
noncomputable def tw4871207830150583595:=()
noncomputable def tw16189446567188680162:=()
noncomputable def tw2753966363067186713:=()
noncomputable def tw2714523050914864466:=()
noncomputable def tw18006357459192010995:=()
noncomputable def tw13753496322901308054:=()
noncomputable def tw8033421948185589234:=()
noncomputable def tw11961374637921745109:=()
noncomputable def tw11100587247482679817:=()
noncomputable def tw9395344913365234949:=()
noncomputable def tw4774200613375713454:=()
noncomputable def tw12754240799916747700:=()
noncomputable def tw9415883690837708407:=()
noncomputable def tw12694975784397504904:=()
noncomputable def tw15534617966295175479:=()
noncomputable def tw3033101290960514241:=()
noncomputable def tw3659921899564583273:=()
noncomputable def tw1543936922510301373:=()
noncomputable def tw8054165380464356458:=()
noncomputable def tw3322817761660866582:=()
noncomputable def tw3026407283642329256:=()
noncomputable def tw6059406144235070511:=()
noncomputable def tw17423374766879458959:=()
noncomputable def tw5137439868598717438:=()
noncomputable def tw10630436455049552455:=()
noncomputable def tw1543175981205766899:=()
noncomputable def tw12653043280881367522:=()
noncomputable def tw16723245817011521277:=()
noncomputable def tw2713671793501792549:=()
noncomputable def tw9023327274848709502:=()
noncomputable def tw15929914298116846190:=()
noncomputable def tw11766954717801024629:=()
noncomputable def tw1377774991063885163:=()
noncomputable def tw14728192775270576092:=()
noncomputable def tw4674824227716130292:=()
noncomputable def tw10933118883098899798:=()
noncomputable def tw15777449544854233529:=()
noncomputable def tw2302921103974374208:=()
noncomputable def tw11652276414536571976:=()
noncomputable def tw184320464142738101:=()
noncomputable def tw2030465798330844921:=()
noncomputable def tw16085783396972546106:=()
noncomputable def tw11435676635972960174:=()
noncomputable def tw4233623799535480921:=()
noncomputable def tw8283003294981689179:=()
noncomputable def tw14909738645521884930:=()
noncomputable def tw15215407869024392886:=()
noncomputable def tw16243659628805576236:=()
noncomputable def tw17733330682547596732:=()
noncomputable def tw5754749697223493356:=()
noncomputable def tw9155962889836831984:=()
end PySem.W.Fast
open PySem PySem.W PyProof.Rows
set_option maxRecDepth 100000 in
set_option maxHeartbeats 0 in
theorem PySem.Challenge.cw_fewnotes_k61_no_such_way_holds : PySem.Challenge.rw_fewnotes_k61_no_such_way.Holds := by
 w_on;o_law;k_head;(case hw=>w_witness2)
 k_fill
 refine Prf.walk (l:=PySem.Challenge.rw_fewnotes_k61_no_such_way) rfl rfl (fun w h Y=>PySem.W.kIn_of Y) ?F
 case F=>
  intro w mg fa h KX G hmg
  replace hmg:mg (Str.ofString "law")=some (.ref fa):=hmg
  refine' Prf.all_mk KX G hmg ?Ek ?gJ ?Cd ?w6 ?ycg ?uc ?t_ ?n_ ?uh ?Cg ?ug ?mK ?eX ?fO ?eV ?eU ?dM ?fQ ?fP ?g8 ?gZ ?eO ?fU ?gY ?gC ?dY ?fB ?dX ?xcc ?nZ ?uf ?Ce ?ud ?DN ?DK ?iJ ?q0 ?q1 ?q2 ?q3 ?q4 ?q5 ?q6 ?q7 ?q8 ?q9 ?Q0 ?q11 ?X3 ?q13 ?q14 ?q15 ?a16 ?l16 ?c16 ?k16 ?n16 ?d16 ?q17 ?q18 ?q19 ?q20 ?q21 ?q22 ?q23 ?q24 ?q25 ?q26 ?q27 ?q28 ?q29 ?q30 ?q31 ?q32 ?a33 ?l33 ?c33 ?k33 ?d33 ?q34 ?a35 ?l35 ?c35 ?k35 ?d35 ?q36 ?q37 ?q38 ?q39 ?q40 ?q41 ?q42 ?q43 ?q44 ?q45 ?q46 ?q47 ?q48 ?q49 ?q50 ?q51 ?zb
  (case Ek|gJ=>constructor<;>k_is)
  (case Cd=>refine' ⟨?_, ?_, ?_, ?_, ?_,trivial⟩<;>k_is)
  (case w6=>refine' ⟨?_, ?_, ?_, ?_,trivial⟩<;>k_is)
  (case ycg=>constructor<;>k_is)
  (case uc|t_=>k_is)
  (case n_|uh|Cg|ug|mK=>constructor;k_is;rfl;k_is;k_is)
  (case eX|fO|eV|eU|dM|fQ|fP|g8|gZ|eO|fU|gY|gC|dY|fB|dX=>constructor;rfl;k_is)
  (case xcc=>constructor<;>k_is)
  (case nZ|uf|Ce|ud=>constructor;k_is;k_is;k_is;k_is;k_is;k_is;k_exc)
  (case DN|DK|iJ=>k_is)
  (case q0|q1|q2|q3|q4=>apply L2.O5<;>k_is)
  (case q5=>apply L2.WW<;>k_is)
  (case q6=>apply L2.O5<;>k_is)
  (case q7|q8|q9|Q0|q11=>apply L2.WW<;>k_is)
  (case X3=>apply L2.O5<;>k_is)
  (case q13|q14|q15=>apply L2.WW<;>k_is)
  (case a16|l16|c16|k16|n16|d16=>k_is)
  (case q17|q18|q19=>apply L2.WW<;>k_is)
  (case q20|q21|q22|q23|q24|q25|q26|q27|q28|q29|q30|q31|q32=>apply L2.O5<;>k_is)
  (case a33|l33|c33|k33|d33=>k_is)
  (case q34=>apply L2.O5<;>k_is)
  (case a35|l35|c35|k35|d35=>k_is)
  (case q36|q37|q38|q39|q40|q41|q42|q43|q44|q45|q46|q47|q48|q49|q50|q51=>apply L2.O5<;>k_is)
  (case zb=>refine' ⟨?_, ?_, ?_, ?_, ?_, ?_, ?_, ?_, ?_, ?_, ?_, ?_, ?_, ?_, ?_,trivial⟩<;>k_is)
#print axioms PySem.Challenge.cw_fewnotes_k61_no_such_way_holds
