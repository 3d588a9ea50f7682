import PyProof.Rows.All
import Wide.All
import OpenK.AllK
import Wide.FinOn
import Lean
import PyProof.EqAt
import PyProof.EqKinds
import PyProof.TupleCall
import PyProof.EqLayable
import PyProof.ExcArgsOwn
import PyProof.ExcAttrAll.Exception
import PyProof.RulesAs
import PyProof.ExcBaseAll.ValueError
import PyProof.NsDelKeeps
import KE.KRevSl
import OpenK.KOps
import OpenK.KWalk
import PyProof.InstNe
import PyProof.FactsAll.object_2
import PyProof.DictUpdate
import PyProof.DictTruth
import PyProof.DictDisplay
import KE.KLam
import KE.KNestM
import KE.KMinKey
import KE.KEqDict
import KE.KSortedM
import PyProof.NeKinds
import PySem.Challenge.RW_fewnotes_k86_whole_played
set_option Elab.async false
set_option linter.all false
set_option maxRecDepth 100000
noncomputable section
section
open PySem PySem.Spec PyProof.Rows
theorem Z {α:Sort _} {a:α}:a=a:=rfl
def aac:=@List.length_map
def aad:=@List.getElem?_eq_getElem
def aae:=@List.getElem?_eq_some_iff
def aah:=@List.getElem?_map
def aai:=@Heap.get?_push_of_some
def aaj:=@Heap.get?_push_size
def aaq:=@Heap.lt_size
def aar:=@Nat.le_refl
def aas:=@wpAny_bind
def aaE:=@wpAny_pure
def aaG:=@wpS_bind
def aaH:=@wpS_pure
def aaI:=@Array.length_toList
def aaK:=@List.mem_of_getElem?
def aaL:=@decide_eq_true
def aaN:=@decide_eq_false
def aaO:=@of_decide_eq_true
def aaY:=@Bool.false_ne_true
def aa5:=@List.size_toArray
def aa6:=@Option.some.inj
def aa_:=@List.length_append
def aa':=@List.getElem?_append_right
def abb:=@List.getElem?_append_left
def abe:=@Nat.ne_of_lt
def abg:=@Nat.lt_of_lt_of_le
def abo:=@List.map_append
def abt:=@Int.toNat_natCast
def abw:=@Bool.and_eq_true
def aby:=@List.mem_cons_of_mem
def abF:=@List.mem_append
def abG:=@List.mem_map
def abP:=@List.mem_singleton
def abQ:=@List.take_length
def abS:=@List.length_replicate
def abT:=@List.length_singleton
def abU:=@List.take_add_one
def abZ:=@List.map_map
def ab5:=@List.length_set
def ab_:=@List.length_take
def ace:=@List.mem_filter
def acr:=@List.mem_range
def acv:=@List.filter_cons
def acw:=@List.length_cons
def acB:=@List.getElem?_replicate
def acC:=@List.getElem_of_mem
def acF:=@Int.eq_ofNat_of_zero_le
def acG:=@Nat.lt_irrefl
def acH:=@Nat.le_trans
def acJ:=@Option.bind_some
def acK:=@if_neg
def acM:=@if_pos
def acP:=@absurd
end
namespace L2
open PySem PySem.Spec PyProof.Rows
noncomputable abbrev Key:=Sum Int Str
noncomputable def zF:Key->Value->Bool
 | .inl k,v=>Value.isInt k v
 | .inr x,v=>Value.isStrOf x v
noncomputable def af9(w:World):Key->Int
 | .inl k=>hashInt k
 | .inr x=>hashStr w x
theorem dI:∀{k:Key}{v:Value},zF k v=true->(∃i t,k=Sum.inl i/\v=Value.int i t)\/(∃x t,k=Sum.inr x/\v=Value.str x t)
 | .inl i,v,h=>by
   obtain⟨t,e⟩:=Value.isInt_shape (k:=i) (v:=v) h;exact .inl ⟨i,t,Z,e⟩
 | .inr x,v,h=>by
   obtain⟨t,e⟩:=Value.isStrOf_shape (x:=x) (v:=v) h;exact .inr ⟨x,t,Z,e⟩
theorem Ld(i:Int)(t:Tok):zF (.inl i) (.int i t)=true:=by simp[zF,Value.isInt]
theorem Lb(x:Str)(t:Tok):zF (.inr x) (.str x t)=true:=by simp[zF,Value.isStrOf]
theorem YF(a b:Int):decide ((Sum.inl a:Key)=Sum.inl b)=(a==b):=by
 by_cases e:a=b
 .subst e;simp
 .have h:¬(Sum.inl a:Key)=Sum.inl b:=λq=>e (Sum.inl.inj q)
  rw[aaN h];exact(beq_eq_false_iff_ne.mpr e).symm
theorem YB(a b:Str):decide ((Sum.inr a:Key)=Sum.inr b)=decide (a=b):=by
 by_cases e:a=b
 .subst e;simp
 .have h:¬(Sum.inr a:Key)=Sum.inr b:=λq=>e (Sum.inr.inj q)
  rw[aaN h,aaN e]
theorem YD(a:Int)(b:Str):decide ((Sum.inl a:Key)=Sum.inr b)=false:=aaN (λq=>nomatch q)
theorem YC(a:Str)(b:Int):decide ((Sum.inr a:Key)=Sum.inl b)=false:=aaN (λq=>nomatch q)
noncomputable def eN(prog:Program)(w:World):PySem.KeyKind prog w Key where
 is:=zF
 hash:=af9 w
 inj:=λv a b ha hb=>by
  rcases dI ha with ⟨i,t,rfl,rfl⟩|⟨x,t,rfl,rfl⟩
  .rcases dI hb with ⟨j,u,rfl,e⟩|⟨y,u,rfl,e⟩
   .injection e with e1 _;rw[e1]
   .exact nomatch e
  .rcases dI hb with ⟨j,u,rfl,e⟩|⟨y,u,rfl,e⟩
   .exact nomatch e
   .injection e with e1 _;rw[e1]
 byValue:=λk v h=>by
  rcases dI h with ⟨i,t,rfl,rfl⟩|⟨x,t,rfl,rfl⟩<;>rfl
 pyHash:=λhv h=>by
  rcases dI hv with ⟨i,t,rfl,rfl⟩|⟨x,t,rfl,rfl⟩
  .exact wpAny_pyHash_int h
  .exact wpAny_pyHash_str h
 eqBool:=λhu hv h=>by
  rcases dI hu with ⟨i,t,rfl,rfl⟩|⟨x,t,rfl,rfl⟩
  .rcases dI hv with ⟨j,u,rfl,rfl⟩|⟨y,u,rfl,rfl⟩
   .rw[YF] at h;exact wpAny_eqBool_int h
   .rw[YD] at h;exact SeqAt.EqAt.int_str i t y u _ _ _ _ h
  .rcases dI hv with ⟨j,u,rfl,rfl⟩|⟨y,u,rfl,rfl⟩
   .rw[YC] at h;exact SeqAt.EqAt.str_int x t j u _ _ _ _ h
   .rw[YB] at h;exact wpAny_eqBool_str h
 «strs» :=λk x t v h=>by
  rcases dI h with ⟨i,u,rfl,e⟩|⟨y,u,rfl,e⟩
  .exact nomatch e
  .injection e with e1 _
   subst e1;cases v<;>rfl
theorem Ei(prog:Program)(w:World)(i:Int)(t:Tok):(eN prog w).is (.inl i) (.int i t)=true:=Ld i t
theorem Eh(prog:Program)(w:World)(x:Str)(t:Tok):(eN prog w).is (.inr x) (.str x t)=true:=Lb x t
inductive V where
 | non|bl (b:Bool)|int (i:Int)|str (x:Str)|Ig (b:Array UInt8)|flt (b:UInt64)|ref (a:Addr)|ty (n:String)
 deriving DecidableEq
noncomputable def RelV:V->Value->Prop
 | .non,u=>u=Value.none
 | .bl b,u=>u=Value.bool b
 | .int i,u=>∃t,u=Value.int i t
 | .str x,u=>∃t,u=Value.str x t
 | .Ig b,u=>∃t,u=Value.bytes b t
 | .flt b,u=>∃t,u=Value.float b t
 | .ref a,u=>u=Value.ref a
 | .ty n,u=>u=Value.type n
noncomputable abbrev Vals:List V->List Value->Prop:=Paired RelV
theorem Vals.length{xs:List V}{us:List Value}(r:Vals xs us):xs.length=us.length:=Paired.length r
theorem Vals.get:∀{xs:List V}{us:List Value}{i:Nat}{x:V},Vals xs us->xs[i]? = some x -> ∃u,us[i]? = some u/\RelV x u
 | _,_,_,_,.nil,e=>by simp at e
 | _,_,0,_,.cons r _,e=>by simp at e;subst e;exact⟨_,Z,r⟩
 | _,_,i+1,x,.cons _ t,e=>by
   obtain⟨u,h1,h2⟩:=Vals.get (i:=i) (x:=x) t (by simpa using e);exact⟨u,by simpa using h1,h2⟩
theorem Vals.set{x:V}{u:Value}(r:RelV x u):∀{xs:List V}{us:List Value}(i:Nat),Vals xs us->Vals (xs.set i x) (us.set i u)
 | _,_,_,.nil=> .nil
 | _,_,0,.cons _ t=> .cons r t
 | _,_,i+1,.cons q t=> .cons q (Vals.set r i t)
theorem Vals.append{xs ys:List V}{us ws:List Value}(h:Vals xs us)(s:Vals ys ws):Vals (xs++ys) (us++ws):=by
 induction h with
 | nil=>exact s
 | cons r t ih=>exact .cons r ih
theorem Vals.take:∀{xs:List V}{us:List Value}(n:Nat),Vals xs us->Vals (xs.take n) (us.take n)
 | _,_,0,_=> .nil
 | _,_,_+1,.nil=> .nil
 | _,_,n+1,.cons r t=> .cons r (Vals.take n t)
theorem Vals.drop:∀{xs:List V}{us:List Value}(n:Nat),Vals xs us->Vals (xs.drop n) (us.drop n)
 | _,_,0,r=>r
 | _,_,_+1,.nil=> .nil
 | _,_,n+1,.cons _ t=>Vals.drop n t
noncomputable def nA:Option V->Option Value->Prop
 | some v,some u=>RelV v u
 | none,none=>True
 | _,_=>False
noncomputable def KV{κ:Type}:List (κ×V)->List (κ×Value)->Prop:=Paired λ(p:κ×V) (q:κ×Value)=>p.1=q.1/\RelV p.2 q.2
noncomputable def kV:Key->V
 | .inl i=> .int i
 | .inr x=> .str x
inductive HO where
 | lst (xs:List V)
 | tup (xs:List V)
 | dK (kvs:List (Key×V))|dT (kvs:List (List Key×V))
 | set (S:Int->Bool) (n:Nat)
 | ins (C dx:Addr) (fs:List (Str×V))
 | own (x:Addr)
 | xd (fs:List (Str×V))
 | met (f x:Addr)
 | rng (lo hi:Int)
 | zM (o:Obj) (u:HO)
 | pU (ps:Array Value)
 | ext (φ:Heap->Prop)
noncomputable abbrev Hp:=Addr->Option HO
noncomputable def upd(H:Hp)(a:Addr)(o:HO):Hp:=λb=>if b=a then some o else H b
theorem ak{H:Hp}{a:Addr}{o:HO}:upd H a o a=some o:=by unfold upd;rw[acM rfl]
theorem aC{H:Hp}{a b:Addr}{o:HO}(h:b≠a):upd H a o b=H b:=by unfold upd;rw[acK h]
theorem cY{H:Hp}{a b:Addr}{o u:HO}(h:H a=some o)(h':H b=some u)(d:o≠u):a≠b:=by
 intro e;subst e;rw[h] at h';exact d (aa6 h')
theorem ao{H:Hp}{a b:Addr}{o:HO}(h:H a=some o)(h':H b=none):a≠b:=by
 intro e;subst e;rw[h] at h';cases h'
section
variable(P:Program)(w:World)
noncomputable def cP(H:Hp)(h:Heap)(a:Addr):HO->Prop
 | .lst xs=>xs.length<=sizeLine /\ ∃(its:List Value) (n:Nat),Vals xs its/\h.get? a=some {cls:= .type "list",data:= .seq its.toArray n}
 | .tup xs=>xs.length<=sizeLine /\ ∃its:List Value,Vals xs its/\IsTup h a its.toArray
 | .dK kvs=>kvs.length<=sizeLine/\(a==sysModules)=false /\ ∃vs,KV kvs vs/\h.DictOf (eN P w) a vs
 | .dT kvs=>kvs.length<=sizeLine/\(a==sysModules)=false /\ ∃xs:List (List Key×Addr×Value),
    Paired (λ(p:List Key×V) (q:List Key×Addr×Value)=>p.1=q.1/\H q.2.1=some (.tup (p.1.map kV))/\RelV p.2 q.2.2) kvs xs /\
    ∃o es ep,h.get? a=some o/\o.ExactDict/\o.data = .dict es ep/\es.toList=xs.map (entryOfKey (tupleKind (eN P w)))/\(xs.map (·.1)).Nodup
 | .set S n=>h.SetOf (intKind P w) a S n
 | .ins C dx fs=>H dx=some (.own a)/\fs.length<=1000/\dx≠a/\h.get? a=some (PySem.W.instObj C dx) /\
    ∃mA,h.Ns1 dx mA/\(∀f,nA (fs.lookup f) (mA f))/\PySem.Within mA (fs.map (·.1))
 | .own _=>∃o,h.get? a=some o
 | .xd fs=>∃mA,h.Ns1 a mA /\ ∀f,nA (fs.lookup f) (mA f)
 | .rng lo hi=>∃t u v,h.get? a=some {cls:= .type "range",data:= .fields #[.int lo t,.int hi u,.int 1 v]}
 | .zM o u=>h.get? a=some o/\cP H h a u
 | .pU ps=>h.get? a=some {cls:= .none,data:= .fields ps}
 | .met f x=>h.get? a=some (PySem.W.methodObj (.ref f) (.ref x))
 | .ext φ=>φ h/\(∃o,h.get? a=some o) /\ ∀h1 h2:Heap,φ h1->(∀o,h1.get? a=some o->h2.get? a=some o)->φ h2
noncomputable def jU(H:Hp)(h:Heap):Prop:=∀a o,H a=some o->cP P w H h a o
end
section
variable{P:Program}{w:World}{H H':Hp}{h h':Heap}{a:Addr}{o:HO}
theorem cP.lt(x:cP P w H h a o):a<h.objs.size:=by
 cases o with
 | lst xs=>obtain⟨_,_,_,_,e⟩:=x;exact aaq e
 | tup xs=>obtain⟨_,_,_,p⟩:=x;exact p.lt
 | dK kvs=>obtain⟨_,_,_,_,o,_,_,e,_⟩:=x;exact aaq e
 | dT kvs=>obtain⟨_,_,_,_,o,_,_,e,_⟩:=x;exact aaq e
 | set S n=>obtain⟨o,_,_,_,e,_⟩:=x;exact aaq e
 | ins C dx fs=>obtain⟨_,_,_,e,_⟩:=x;exact aaq e
 | own y=>obtain⟨_,e⟩:=x;exact aaq e
 | xd fs=>obtain⟨_,⟨_,_,_,e,_⟩,_⟩:=x;exact aaq e
 | rng lo hi=>obtain⟨_,_,_,e⟩:=x;exact aaq e
 | zM ob u=>obtain⟨e,_⟩:=x;exact aaq e
 | pU ps=>exact aaq (show h.get? a=some _ from x)
 | met f y=>exact aaq (show h.get? a=some _ from x)
 | ext φ=>obtain⟨_,⟨_,e⟩,_⟩:=x;exact aaq e
theorem Paired.abh{α β:Type}{F G:α->β->Prop}:∀{l₁:List α}{l₂:List β},Paired F l₁ l₂->(∀a b,F a b->G a b)->Paired G l₁ l₂
 :=by
 intro l₁ l₂ h f
 induction h with
 | nil=>exact .nil
 | cons r t ih=>exact .cons (f _ _ r) ih
theorem cP.stay(x:cP P w H h a o)(k:∀b u,(b=a\/H b=some (.own a))->h.get? b=some u->h'.get? b=some u)(ho:∀b,H b=some (.own a)->H' b=some (.own a))(ht:∀b xs,H b=some (.tup xs)->H' b=some (.tup xs)):cP P w H' h' a o:=by
 induction o with
 | lst xs=>obtain⟨z,its,n,r,e⟩:=x;exact⟨z,its,n,r,k _ _ (.inl rfl) e⟩
 | tup xs=>obtain⟨z,its,r,ob,e,c⟩:=x;exact⟨z,its,r,ob,k _ _ (.inl rfl) e,c⟩
 | dK kvs=>obtain⟨z,y,vs,r,ob,es,ep,e,c⟩:=x;exact⟨z,y,vs,r,ob,es,ep,k _ _ (.inl rfl) e,c⟩
 | dT kvs=>
   obtain⟨z,y,xs,r,ob,es,ep,e,c⟩:=x;exact⟨z,y,xs,Paired.abh r λp q z=>⟨z.1,ht _ _ z.2.1,z.2.2⟩,ob,es,ep,k _ _ (.inl rfl) e,c⟩
 | set S n=>obtain⟨ob,es,ep,t,e,c⟩:=x;exact⟨ob,es,ep,t,k _ _ (.inl rfl) e,c⟩
 | ins C dx fs=>
   obtain⟨d,z,ne,e,mA,⟨od,es,ep,e2,c⟩,r⟩:=x;exact⟨ho _ d,z,ne,k _ _ (.inl rfl) e,mA,⟨od,es,ep,k _ _ (.inr d) e2,c⟩,r⟩
 | own y=>obtain⟨ob,e⟩:=x;exact⟨ob,k _ _ (.inl rfl) e⟩
 | xd fs=>obtain⟨mA,⟨od,es,ep,e,c⟩,r⟩:=x;exact⟨mA,⟨od,es,ep,k _ _ (.inl rfl) e,c⟩,r⟩
 | rng lo hi=>obtain⟨t,u,v,e⟩:=x;exact⟨t,u,v,k _ _ (.inl rfl) e⟩
 | zM ob u ih=>obtain⟨e,q⟩:=x;exact⟨k _ _ (.inl rfl) e,ih q⟩
 | pU ps=>
   have e:h.get? a=some {cls:= .none,data:= .fields ps}:=x;show h'.get? a=some {cls:= .none,data:= .fields ps};exact k a _ (.inl rfl) e
 | met f y=>
   have e:h.get? a=some (PySem.W.methodObj (.ref f) (.ref y)):=x;show h'.get? a=some (PySem.W.methodObj (.ref f) (.ref y));exact k a _ (.inl rfl) e
 | ext φ=>obtain⟨p,⟨o,e⟩,st⟩:=x;exact⟨st _ _ p λo q=>k _ _ (.inl rfl) q,⟨o,k _ _ (.inl rfl) e⟩,st⟩
theorem jU.lt(x:jU P w H h)(e:H a=some o):a<h.objs.size:=(x a o e).lt
theorem jU.fresh(x:jU P w H h)(e:h.objs.size<=a):H a=none:=by
 cases q:H a with
 | none=>rfl
 | some u=>exact acP (abg (x.lt q) e) (acG _)
theorem jU.kept(x:jU P w H h)(k:∀b u,h.get? b=some u->h'.get? b=some u):jU P w H h':=λa o e=>
 (x a o e).stay (λb u _ q=>k b u q) (λ_ q=>q) λ_ _ q=>q
theorem jU.laid(x:jU P w H h)(k:∀b u,h.get? b=some u->h'.get? b=some u)(hp:h.objs.size<=a)(new:cP P w (upd H a o) h' a o):jU P w (upd H a o) h':=λb u e=>by
 have hn:=x.fresh hp
 by_cases hb:b=a
 .subst hb;rw[ak] at e;cases e;exact new
 .rw[aC hb] at e
  exact(x b u e).stay (λc v _ q=>k c v q) (λc q=>by rw[aC (ao q hn)];exact q) λc xs q=>by rw[aC (ao q hn)];exact q
end
noncomputable def Rd(H:Hp)(a:Addr)(u:HO):Prop:=H a=some u \/ ∃o,H a=some (.zM o u)
theorem Rd.ok{P:Program}{w:World}{H:Hp}{h:Heap}{a:Addr}{u:HO}(r:Rd H a u)(x:jU P w H h):cP P w H h a u:=by
 rcases r with r|⟨o,r⟩
 .exact x a u r
 .obtain⟨_,q⟩:=x a _ r
  exact q
noncomputable def Mut:Option HO->Prop
 | some (.lst _)=>True
 | some (.dK _)=>True
 | some (.dT _)=>True
 | some (.set _ _)=>True
 | some (.ins _ _ _)=>True
 | some (.ext _)=>True
 | _=>False
section
variable{P:Program}{w:World}{H:Hp}{h h':Heap}{x e:Addr}{o':HO}
theorem jU.write(ok:jU P w H h)(mu:Mut (H x))(he:e=x\/H e=some (.own x))(k:∀b u,b≠e->h.get? b=some u->h'.get? b=some u)(heo:∃u,h'.get? e=some u)(new:cP P w (upd H x o') h' x o'):jU P w (upd H x o') h':=λb u q=>by
 have aa8:∀c y,H c=some (.own y)->c≠x:=λc y r z=>by subst z;rw[r] at mu;exact mu
 have afJ:∀c xs,H c=some (.tup xs)->c≠x:=λc xs r z=>by subst z;rw[r] at mu;exact mu
 by_cases hb:b=x
 .subst hb;rw[ak] at q;cases q;exact new
 .rw[aC hb] at q
  by_cases hbe:b=e
  .have q':H b=some (.own x):=by
    rcases he with z|z
    .exact acP (hbe.trans z) hb
    .rw[hbe];exact z
   rw[q] at q';cases q';obtain⟨v,hv⟩:=heo;exact⟨v,by rw[hbe];exact hv⟩
  .refine(ok b u q).stay (λc v hc r=>k c v ?_ r) (λc r=>by rw[aC (aa8 c b r)];exact r) λc xs r=>by rw[aC (afJ c xs r)];exact r
   rcases hc with rfl|hc
   .exact hbe
   .rintro rfl
    rcases he with z|z
    .exact aa8 c b hc z
    .rw[hc] at z;cases z;exact hb rfl
end
structure Un(fs ex:List Addr)(H H':Hp)(h h':Heap):Prop where
 keep:∀b o,h.get? b=some o->H b=none->b∉fs->b∉ex->h'.get? b=some o
 slot:∀b o,h.get? b=some o->H b=none->b∈fs->b∉ex -> ∃sl,h'.get? b=some {o with slots:=sl}
 free:∀b o,h.get? b=some o->H b=none->b∉ex->H' b=none
 there:∀b o,h.get? b=some o->b∉ex -> ∃o',h'.get? b=some o'
 tups:∀b xs,H b=some (.tup xs)->H' b=some (.tup xs)
 mU:∀b o u,H b=some (.zM o u)->H' b=some (.zM o u)
 qd:∀b ps,H b=some (.pU ps) -> ∃more,H' b=some (.pU (ps++more))
section
variable{fs fs' ex ex':List Addr}{H H1 H2:Hp}{h h1 h2 h':Heap}{a x e:Addr}{o:HO}
theorem Un.any(u:Un fs ex H H1 h h1){b:Addr}{ob:Obj}(q:h.get? b=some ob)(n:H b=none)(hx:b∉ex):∃sl,h1.get? b=some {ob with slots:=sl}:=by
 by_cases hb:b∈fs
 .exact u.slot b ob q n hb hx
 .exact⟨ob.slots,u.keep b ob q n hb hx⟩
theorem Un.kept(k:∀b u,h.get? b=some u->h'.get? b=some u):Un fs ex H H h h':=
 ⟨λb ob q _ _ _=>k b ob q,λb ob q _ _ _=>⟨ob.slots,k b ob q⟩,λ_ _ _ n _=>n,λb ob q _=>⟨ob,k b ob q⟩,λ_ _ q=>q,λ_ _ _ q=>q,λ_ ps q=>⟨#[],by rw[q];simp⟩⟩
theorem Un.refl:Un fs ex H H h h:=Un.kept λ_ _ q=>q
theorem Un.laid(k:∀b u,h.get? b=some u->h'.get? b=some u)(hp:h.objs.size<=a)(hn:H a=none):Un fs ex H (upd H a o) h h' where
 keep:=λb u q _ _ _=>k b u q
 slot:=λb u q _ _ _=>⟨u.slots,k b u q⟩
 free:=λb u q n _=>by rw[aC (abe (abg (aaq q) hp))];exact n
 there:=λb u q _=>⟨u,k b u q⟩
 tups:=λb xs q=>by rw[aC (ao q hn)];exact q
 mU:=λb u xs q=>by rw[aC (ao q hn)];exact q
 qd:=λb ps q=>⟨#[],by rw[aC (ao q hn),q];simp⟩
theorem Un.write(mu:Mut (H x))(he:e=x\/H e=some (.own x))(k:∀b u,b≠e->h.get? b=some u->h'.get? b=some u)(heo:∃u,h'.get? e=some u):Un fs ex H (upd H x o) h h':=by
 have hx:∀b,H b=none->b≠x:=λb n z=>by subst z;rw[n] at mu;exact mu
 have hb:∀b,H b=none->b≠e:=λb n z=>by
  subst z;rcases he with r|r
  .exact hx b n r
  .rw[n] at r;cases r
 have hm:∀b u,H b=some u -> ¬Mut (some u)->b≠x:=λb u q nm z=>by subst z;rw[q] at mu;exact nm mu
 refine⟨λb u q n _ _=>k b u (hb b n) q,λb u q n _ _=>⟨u.slots,k b u (hb b n) q⟩,λb u q n _=>by rw[aC (hx b n)];exact n,λb u q _=>?_,
  λb xs q=>by rw[aC (hm b _ q λz=>z)];exact q,λb u xs q=>by rw[aC (hm b _ q λz=>z)];exact q,λb ps q=>⟨#[],by rw[aC (hm b _ q λz=>z),q];simp⟩⟩
 by_cases hbe:b=e
 .subst hbe;exact heo
 .exact⟨u,k b u hbe q⟩
end
noncomputable def RB(h:Heap)(H:Hp):List Addr:=(List.range h.objs.size).filter λa=>(H a).isSome
noncomputable def qx(h:Heap)(H:Hp):Heap:=PySem.W.hideAll h (RB h H)
theorem zK(h:Heap)(H:Hp):(qx h H).objs.size=h.objs.size:=PySem.W.hideAll_size _ _
theorem Eu{h:Heap}{H:Hp}{b:Addr}{o:Obj}(e:h.get? b=some o)(n:H b=none):(qx h H).get? b=some o:=
 PySem.W.hideAll_get _ e λhm=>by
  have q:(H b).isSome=true:=(ace.mp hm).2;rw[n] at q;simp at q
theorem Jw{h:Heap}{H:Hp}{b:Addr}{o:Obj}(e:(qx h H).get? b=some o):h.get? b=some o/\H b=none:=by
 have e':h.get? b=some o:=PySem.W.of_hideAll (RB h H) e;refine⟨e', ?_⟩;cases q:H b with
 | none=>rfl
 | some x=>
   have hm:b∈RB h H:=ace.mpr ⟨acr.mpr (aaq e'),by simp[q]⟩;have z:(qx h H).get? b=none:=PySem.W.hideAll_none (RB h H) hm;rw[z] at e;cases e
noncomputable def Vn(g h:Heap)(L:Addr):List (Addr×Obj):=(List.range h.objs.size).filterMap λa=>if a=L\/(g.get? a).isSome=true then none else (h.get? a).map λo=>(a,o)
noncomputable def rest(g h:Heap)(L d:Addr):List (Addr×Obj):=(Vn g h L).filter λp=>decide (p.1≠d)
structure Mod(K:PySem.W.Frag)(mg:Str->Option Value)(base:Heap):Prop where
 Hq:K.In base
 glob:base.Ns mainGlobals mg
 blt:∃mb,base.Ns builtinsNs mb /\ ∀x:Str,x ≠ "__name__" -> mb x=bootBuiltins x
 nolimit:base.NoLimit
structure Cx where
 prog:Program
 w:World
 K:PySem.W.Frag
 mg:Str->Option Value
 base:Heap
 A:Around
 N:List Str
 s₀:Shared
 H₀:Hp
 env:Env
 outer:List Env
 stack:List Env
 ex:List Addr
 fn:Str->Bool
 calm:Bool
 pn:List (Addr×Obj)
 xe:Value->Shared->Prop
noncomputable def frs(l:List Env):List Addr:=l.filterMap (·.frame)
noncomputable abbrev Cx.fs(X:Cx):List Addr:=frs X.outer
noncomputable def Vis(sc:Scope)(x:Str):Prop:=sc.names.lookup x=some .local\/sc.names.lookup x=some .cell\/sc.names.lookup x=some .free
noncomputable def Loc(sc:Scope)(x:Str):Prop:=sc.names.lookup x=some .local\/sc.names.lookup x=some .cell
noncomputable def Look(env:Env)(h:Heap)(m:Str->Option Value)(x:Str)(u:Value):Prop:=
 (env.kindOf x=some .local/\m x=some u)\/((env.kindOf x=some .cell\/env.kindOf x=some .free) /\ ∃c,env.cells.lookup x=some c/\h.IsCell c (some u))
structure Cx.Ok(X:Cx):Prop where
 mod:Mod X.K X.mg X.base
 kind:X.env.scope.kind = .function
 glob:X.env.globals=mainGlobals
 blt:X.env.builtins=builtinsNs
 above:X.s₀.heap.objs.size<=X.env.locals
 inj:∀x y c,X.env.cells.lookup x=some c->X.env.cells.lookup y=some c->x=y
 has:∀x,(X.env.kindOf x=some .cell\/X.env.kindOf x=some .free) -> ∃c,X.env.cells.lookup x=some c
 cab:∀x c,X.fn x=true->X.env.cells.lookup x=some c->X.s₀.heap.objs.size<=c
 hd:X.calm=true->X.A.handled=none
 frames:X.A.frames=some X.stack
 stk:X.stack=X.outer\/(X.stack=X.env::X.outer/\X.env.frame=some X.env.locals)
 Z1:∀b∈X.ex,b≠X.env.locals /\ ∀x c,X.env.cells.lookup x=some c->c≠b
 bs:∀b o,X.base.get? b=some o->X.s₀.heap.get? b=some o/\X.H₀ b=none
 Dd:X.base.objs.size<=X.s₀.heap.objs.size
 Bx:∀b o,X.base.get? b=some o->b∉X.ex
 E_:∀b∈X.ex,b∉X.fs
 lG:X.s₀.heap.FunFrames X.base X.outer
 HD:∀b∈X.fs,X.H₀ b=none
structure Inv(X:Cx)(pins:List (Addr×Obj))(σ:List (Option V))(H:Hp)(s:Shared):Prop where
 ok:X.Ok
 os:s.os=X.s₀.os
 bare:AllBare s.gens
 base:Un X.fs X.ex X.H₀ H X.s₀.heap s.heap
 loc:∃m,s.heap.Ns X.env.locals m /\ ∀(i:Nat)(x:Str)(v:V),X.N[i]? = some x->σ[i]? = some (some v)->Vis X.env.scope x -> ∃u,RelV v u/\Look X.env s.heap m x u
 cell:∀x c,X.env.cells.lookup x=some c -> ∃v,s.heap.IsCell c v
 free:H X.env.locals=none
 iB:∀x c,X.env.cells.lookup x=some c->H c=none
 pin:∀p∈X.pn++pins,s.heap.get? p.1=some p.2/\H p.1=none/\p.1≠X.env.locals/\p.1∉X.fs /\ ∀v,p.2.data ≠ .cell v
 hok:jU X.prog X.w H s.heap
 len:σ.length=X.N.length
section
variable{X:Cx}{pins:List (Addr×Obj)}{σ:List (Option V)}{H H':Hp}{s:Shared}{h':Heap}
theorem Cx.Ok.afP(ok:X.Ok){b:Addr}{o:Obj}(e:X.base.get? b=some o):b∉X.fs:=λhb=>by
 have:=(ok.lG.mem hb).1;rw[e] at this;cases this
theorem Inv.bs(I:Inv X pins σ H s):∀b o,X.base.get? b=some o->s.heap.get? b=some o/\H b=none:=λb o e=>
 ⟨I.base.keep b o (I.ok.bs b o e).1 (I.ok.bs b o e).2 (I.ok.afP e) (I.ok.Bx b o e),I.base.free b o (I.ok.bs b o e).1 (I.ok.bs b o e).2 (I.ok.Bx b o e)⟩
theorem Inv.bk(I:Inv X pins σ H s):∀b o,X.base.get? b=some o->s.heap.get? b=some o:=λb o e=>(I.bs b o e).1
theorem Inv.mod(I:Inv X pins σ H s):Mod X.K X.mg X.base:=I.ok.mod
theorem Inv.mO(I:Inv X pins σ H s):X.K.In s.heap:=I.ok.mod.Hq.keeps I.bk
theorem Inv.fr(I:Inv X pins σ H s):∃m,Fr X.base X.env.locals s.heap m:=
 let ⟨m,hn,_⟩:=I.loc
 ⟨m,hn,I.bk,acH I.ok.Dd I.ok.above⟩
theorem Inv.lt(I:Inv X pins σ H s):X.env.locals<s.heap.objs.size:=let ⟨_,hn,_⟩:=I.loc;hn.lt
theorem Inv.sz(I:Inv X pins σ H s):X.s₀.heap.objs.size<=s.heap.objs.size:=acH I.ok.above (Nat.le_of_lt I.lt)
theorem Inv.afO(I:Inv X pins σ H s){a:Addr}(h:s.heap.objs.size<=a):a∉X.fs:=λhb=>by
 obtain⟨_,o,ho,_⟩:=I.ok.lG.mem hb;exact acP (abg (aaq ho) (acH I.sz h)) (acG _)
theorem Inv.Vf(I:Inv X pins σ H s):∀x c,X.env.cells.lookup x=some c->c≠X.env.locals:=λx c e z=>by
 obtain⟨v,o,ho,hd⟩:=I.cell x c e;obtain⟨m,⟨o',es,ep,ho',hd',_⟩,_⟩:=I.loc;rw[z,ho'] at ho;cases ho;rw[hd'] at hd;cases hd
theorem Inv.lG(I:Inv X pins σ H s):s.heap.FunFrames X.base X.outer:=by
 have all:∀(l:List Env),(∀b∈frs l,b∈X.fs)->X.s₀.heap.FunFrames X.base l->s.heap.FunFrames X.base l:=by
  intro l
  induction l with
  | nil=>intro _ _;trivial
  | cons env r ih=>
    intro hs hl;obtain⟨hk,⟨L,o,hf,hn,ho,hd⟩,hr⟩:=hl;have hL:L∈X.fs:=hs L (by unfold frs;rw[List.filterMap_cons,hf];exact List.mem_cons_self);obtain⟨sl,e⟩:=I.base.slot L o ho (I.ok.HD L hL) hL λz=>I.ok.E_ L z hL;exact⟨hk,⟨L,_,hf,hn,e,hd⟩,ih (λb hb=>hs b (by unfold frs;rw[List.filterMap_cons,hf];exact aby _ hb)) hr⟩
 exact all X.outer (λ_ hb=>hb) I.ok.lG
theorem Inv.stack(I:Inv X pins σ H s):s.heap.FunFrames X.base X.stack:=by
 rcases I.ok.stk with e|⟨e,hf⟩
 .rw[e];exact I.lG
 .rw[e]
  obtain⟨m,hn,_⟩:=I.loc;refine .cons (by rw[I.ok.kind];decide) hf hn ?_ I.lG;exact Heap.get?_none_of_le (acH I.ok.Dd I.ok.above)
theorem Inv.sY(I:Inv X pins σ H s):∀b∈frs X.stack,b∈X.env.locals::X.fs:=λb hb=>by
 rcases I.ok.stk with e|⟨e,hf⟩
 .rw[e] at hb;exact aby _ hb
 .rw[e] at hb
  unfold frs at hb;rw[List.filterMap_cons,hf] at hb;exact hb
theorem Inv.Ag(I:Inv X pins σ H s):∀b∈frs X.stack,H b=none:=λb hb=>by
 rcases List.mem_cons.mp (I.sY b hb) with e|hb
 .rw[e];exact I.free
 .obtain⟨_,o,ho,_⟩:=I.ok.lG.mem hb
  exact I.base.free b o ho (I.ok.HD b hb) λz=>I.ok.E_ b z hb
theorem Inv.step{g':Array GenState}{t':Nat}{d':Drawn}{ch:List Addr}(I:Inv X pins σ H s)(hch:∀b∈ch,(b∈X.ex\/X.s₀.heap.objs.size<=b)/\b≠X.env.locals/\(∀x c,X.env.cells.lookup x=some c->c≠b) /\ ∀p∈X.pn++pins,p.1≠b)(keep:∀b o,b≠X.env.locals->b∉X.fs->b∉ch->s.heap.get? b=some o->H b=none->h'.get? b=some o)(slot:∀b o,b≠X.env.locals->b∈X.fs->b∉ch->s.heap.get? b=some o->H b=none -> ∃sl,h'.get? b=some {o with slots:=sl})(free:∀b o,b∉ch->s.heap.get? b=some o->H b=none->H' b=none)(there:∀b o,b∉ch->s.heap.get? b=some o -> ∃o',h'.get? b=some o')(tups:∀b xs,H b=some (.tup xs)->H' b=some (.tup xs))(mU:∀b o u,H b=some (.zM o u)->H' b=some (.zM o u))(qd:∀b ps,H b=some (.pU ps) -> ∃more,H' b=some (.pU (ps++more)))(ns:∀m,s.heap.Ns X.env.locals m->h'.Ns X.env.locals m)(hok:jU X.prog X.w H' h')(hg:AllBare g'):
 Inv X pins σ H' {s with heap:=h',gens:=g',drawn:=d',toks:=t'}:=by
 have V9:∀b o,X.s₀.heap.get? b=some o->b≠X.env.locals:=λb o e=>abe (abg (aaq e) I.ok.above)
 have neC:∀b o,X.s₀.heap.get? b=some o->b∉X.ex->b∉ch:=λb o e hx hb=>by
  rcases(hch b hb).1 with z|z
  .exact hx z
  .exact acP (abg (aaq e) z) (acG _)
 have cellK:∀x c,X.env.cells.lookup x=some c -> ∀v,s.heap.IsCell c v->h'.IsCell c v:=λx c e v ⟨o,ho,hd⟩=>by
  have nch:c∉ch:=λz=>(hch c z).2.2.1 x c e rfl
  by_cases hc:c∈X.fs
  .obtain⟨sl,q⟩:=slot c o (I.Vf x c e) hc nch ho (I.iB x c e)
   exact⟨_,q,hd⟩
  .exact⟨o,keep c o (I.Vf x c e) hc nch ho (I.iB x c e),hd⟩
 refine⟨I.ok,I.os,hg,⟨λb o e n hb hx=>?_,λb o e n hb hx=>?_,λb o e n hx=>?_,λb o e hx=>?_,λb xs e=>tups b xs (I.base.tups b xs e),λb o xs e=>mU b o xs (I.base.mU b o xs e),λb ps e=>?_⟩, ?_,λx c e=>?_, ?_,λx c e=>?_,λp hp=>?_,hok,I.len⟩
 .exact keep b o (V9 b o e) hb (neC b o e hx) (I.base.keep b o e n hb hx) (I.base.free b o e n hx)
 .obtain⟨sl,e1⟩:=I.base.slot b o e n hb hx
  obtain⟨sl',e2⟩:=slot b _ (V9 b o e) hb (neC b o e hx) e1 (I.base.free b o e n hx);exact⟨sl',e2⟩
 .obtain⟨o',e1⟩:=I.base.there b o e hx
  exact free b o' (neC b o e hx) e1 (I.base.free b o e n hx)
 .obtain⟨o',e1⟩:=I.base.there b o e hx
  exact there b o' (neC b o e hx) e1
 .obtain⟨m1,e1⟩:=I.base.qd b ps e
  obtain⟨m2,e2⟩:=qd b _ e1;exact⟨m1++m2,by rw[e2,Array.append_assoc]⟩
 .obtain⟨m,hn,hl⟩:=I.loc
  refine⟨m,ns m hn,λi x v e1 e2 e3=>?_⟩;obtain⟨u,r,l⟩:=hl i x v e1 e2 e3;refine⟨u,r, ?_⟩;rcases l with l|⟨k,c,e,z⟩
  .exact .inl l
  .exact .inr ⟨k,c,e,cellK x c e _ z⟩
 .obtain⟨v,z⟩:=I.cell x c e
  exact⟨v,cellK x c e v z⟩
 .obtain⟨m,⟨o,_,_,ho,_⟩,_⟩:=I.loc
  exact free _ o (λz=>(hch _ z).2.1 rfl) ho I.free
 .obtain⟨v,o,ho,hd⟩:=I.cell x c e
  exact free c o (λz=>(hch c z).2.2.1 x c e rfl) ho (I.iB x c e)
 .obtain⟨e,n,ne,nf,d⟩:=I.pin p hp
  have nch:p.1∉ch:=λz=>(hch p.1 z).2.2.2 p hp rfl;exact⟨keep p.1 p.2 ne nf nch e n,free p.1 p.2 nch e n,ne,nf,d⟩
theorem Inv.un{t':Nat}(I:Inv X pins σ H s)(u:Un X.fs [] H H' s.heap h')(hok:jU X.prog X.w H' h'):Inv X pins σ H' {s with heap:=h',toks:=t'}:=by
 obtain⟨m,⟨o,es,ep,ho,r⟩,_⟩:=id I.loc;obtain⟨sl,hL⟩:=u.any ho I.free (by simp)
 exact I.step (g':=s.gens) (d':=s.drawn) (ch:=[]) (λ_ z=>nomatch z) (λb o _ hb _ e n=>u.keep b o e n hb (by simp)) (λb o _ hb _ e n=>u.slot b o e n hb (by simp)) (λb o _ e n=>u.free b o e n (by simp)) (λb o _ e=>u.there b o e (by simp)) u.tups u.mU u.qd (λm' hm=>by
  obtain⟨o',es',ep',ho',r'⟩:=hm;rw[ho] at ho';cases ho';exact⟨_,es',ep',hL,r'⟩) hok I.bare
theorem Inv.call{g':Array GenState}{t':Nat}{d':Drawn}{ch:List Addr}(I:Inv X pins σ H s)(u:Un (frs X.stack) ch H H' s.heap h')(hok:jU X.prog X.w H' h')(hg:AllBare g')(hch:∀b∈ch,(b∈X.ex\/X.s₀.heap.objs.size<=b)/\b≠X.env.locals/\(∀x c,X.env.cells.lookup x=some c->c≠b) /\ ∀p∈X.pn++pins,p.1≠b):
 Inv X pins σ H' {s with heap:=h',gens:=g',drawn:=d',toks:=t'}:=by
 obtain⟨m,⟨o,es,ep,ho,r⟩,_⟩:=id I.loc;obtain⟨sl,hL⟩:=u.any ho I.free λz=>(hch _ z).2.1 rfl
 exact I.step (ch:=ch) hch (λb o hL hb hc e n=>u.keep b o e n (λz=>(List.mem_cons.mp (I.sY b z)).elim hL hb) hc) (λb o _ _ hc e n=>u.any e n hc) (λb o hc e n=>u.free b o e n hc) (λb o hc e=>u.there b o e hc) u.tups u.mU u.qd (λm' hm=>by
  obtain⟨o',es',ep',ho',r'⟩:=hm;rw[ho] at ho';cases ho';exact⟨_,es',ep',hL,r'⟩) hok hg
theorem Inv.turned{t':Nat}{it:Addr}(I:Inv X pins σ H s)(k:∀b o,b≠it->s.heap.get? b=some o->h'.get? b=some o)(hn:H it=none)(hL:it≠X.env.locals)(h1:it∈X.ex\/X.s₀.heap.objs.size<=it)(h2:∀x c,X.env.cells.lookup x=some c->c≠it)(h3:∀p∈X.pn++pins,p.1≠it):Inv X pins σ H {s with heap:=h',toks:=t'}:=by
 have nit:∀b u,H b=some u->b≠it:=λb u e z=>by rw[z,hn] at e;cases e
 refine I.step (g':=s.gens) (d':=s.drawn) (ch:=[it]) (λb hb=>?_) (λb o _ _ hc e _=>k b o (λz=>hc (by simp[z])) e) (λb o _ _ hc e _=>⟨o.slots,k b o (λz=>hc (by simp[z])) e⟩) (λ_ _ _ _ n=>n)
  (λb o hc e=>⟨o,k b o (λz=>hc (by simp[z])) e⟩) (λ_ _ e=>e) (λ_ _ _ e=>e) (λb ps e=>⟨#[],by rw[e];simp⟩) (λm hm=>?_) (λb u e=>?_) I.bare
 .have e:b=it:=by simpa using hb
  subst e;exact⟨h1,hL,h2,h3⟩
 .obtain⟨o,es,ep,ho,r⟩:=hm
  exact⟨o,es,ep,k _ o (Ne.symm hL) ho,r⟩
 .refine(I.hok b u e).stay (λc v hc q=>k c v ?_ q) (λ_ q=>q) λ_ _ q=>q
  rcases hc with z|z
  .rw[z];exact nit b u e
  .exact nit c _ z
theorem Inv.tok(I:Inv X pins σ H s)(t:Nat):Inv X pins σ H {s with toks:=t}:=I.un (h':=s.heap) (t':=t) Un.refl I.hok
theorem Inv.kept{t':Nat}(I:Inv X pins σ H s)(k:∀b u,s.heap.get? b=some u->h'.get? b=some u):Inv X pins σ H {s with heap:=h',toks:=t'}:=I.un (Un.kept k) (I.hok.kept k)
theorem Inv.laid{a:Addr}{o:HO}{t':Nat}(I:Inv X pins σ H s)(k:∀b u,s.heap.get? b=some u->h'.get? b=some u)(hp:s.heap.objs.size<=a)(new:cP X.prog X.w (upd H a o) h' a o):
 Inv X pins σ (upd H a o) {s with heap:=h',toks:=t'}:=I.un (Un.laid k hp (I.hok.fresh hp)) (I.hok.laid k hp new)
theorem Inv.write{x e:Addr}{o:HO}{t':Nat}(I:Inv X pins σ H s)(mu:Mut (H x))(he:e=x\/H e=some (.own x))(k:∀b u,b≠e->s.heap.get? b=some u->h'.get? b=some u)(heo:∃u,h'.get? e=some u)(new:cP X.prog X.w (upd H x o) h' x o):Inv X pins σ (upd H x o) {s with heap:=h',toks:=t'}:=I.un (Un.write mu he k heo) (I.hok.write mu he k heo new)
theorem Inv.Jr{m8:List (Addr×Obj)}(I:Inv X pins σ H s)(h:∀p∈m8,s.heap.get? p.1=some p.2/\H p.1=none/\p.1≠X.env.locals/\p.1∉X.fs /\ ∀v,p.2.data ≠ .cell v):Inv X m8 σ H s:=
 ⟨I.ok,I.os,I.bare,I.base,I.loc,I.cell,I.free,I.iB,λp hp=>(abF.mp hp).elim (λz=>I.pin p (List.mem_append_left _ z)) (h p),I.hok,I.len⟩
theorem wK{N:List Str}(hN:N.Nodup){i j:Nat}{x:Str}(a:N[i]? = some x)(b:N[j]? = some x):i=j:=by
 obtain⟨h1,e1⟩:=aae.mp a;obtain⟨h2,e2⟩:=aae.mp b;exact(List.getElem_inj hN).mp (e1.trans e2.symm)
theorem zf{M:Model}{A:Around}{E:Value->Shared->Prop}{i:Nat}{x:Str}{v:V}{u:Value}{Q:Unit->Shared->Prop}(I:Inv X pins σ H s)(hN:X.N.Nodup)(hi:X.N[i]? = some x)(hx:Loc X.env.scope x)(r:RelV v u)(h:∀s',Inv X pins (σ.set i (some v)) H s'->(∃a,Heap.SameBut a s.heap s'.heap/\(a=X.env.locals\/X.env.cells.lookup x=some a))->Q () s')(hf:X.fn x=true\/X.env.scope.names.lookup x=some .local:=by first |exact .inl rfl|exact .inr rfl|assumption):wpAny M A (storeName X.env x u) Q E s:=by
 obtain⟨m,hn,hl⟩:=id I.loc;have hcls:(X.env.scope.kind == .class||(X.env.scope.kind == .module&&X.env.locals != X.env.globals))=false:=by rw[I.ok.kind];rfl
 have aiZ:i<σ.length:=by rw[I.len];exact(aae.mp hi).1
 have Vf:=I.Vf
 have tracked:∀{a:Addr}{h':Heap},(∃o,s.heap.get? a=some o/\H a=none)->Heap.SameBut a s.heap h'->jU X.prog X.w H h':=fun {a h'} ha hs b ob e=>by
  obtain⟨_,_,hfree⟩:=ha;refine(I.hok b ob e).stay (λc w' hc q=>(hs.2 c ?_).trans q) (λ_ q=>q) λ_ _ q=>q;rintro rfl;rcases hc with rfl|hc
  .rw[hfree] at e;cases e
  .rw[hfree] at hc;cases hc
 rcases hx with hk|hk
 .refine wpAny_storeName_local hk hn (λh' hn' hs=>?_) hcls
  obtain⟨oL,_,_,hoL,_⟩:=id hn;refine h _ ⟨I.ok,I.os,I.bare,⟨λb o e n hb hx=>?_,λb o e n hb hx=>?_,I.base.free,λb o e hx=>?_,I.base.tups,I.base.mU,I.base.qd⟩,⟨_,hn',λj y v' e1 e2 e3=>?_⟩,λy c e=>?_,I.free,I.iB,λp hp=>?_,tracked ⟨oL,hoL,I.free⟩ hs,by simpa using I.len⟩ ⟨_,hs,.inl rfl⟩
  .exact(hs.2 b (abe (abg (aaq e) I.ok.above))).trans (I.base.keep b o e n hb hx)
  .obtain⟨sl,e1⟩:=I.base.slot b o e n hb hx
   exact⟨sl,(hs.2 b (abe (abg (aaq e) I.ok.above))).trans e1⟩
  .obtain⟨o',e1⟩:=I.base.there b o e hx
   exact⟨o',(hs.2 b (abe (abg (aaq e) I.ok.above))).trans e1⟩
  .by_cases hj:j=i
   .subst hj
    rw[hi] at e1;cases e1;rw[List.getElem?_set_self aiZ] at e2;cases e2;exact⟨u,r,.inl ⟨hk,by simp⟩⟩
   .rw[List.getElem?_set_ne (Ne.symm hj)] at e2
    obtain⟨u',r',q⟩:=hl j y v' e1 e2 e3;refine⟨u',r', ?_⟩;rcases q with ⟨k,e⟩|⟨k,c,e,z⟩
    .refine .inl ⟨k, ?_⟩
     have:y≠x:=λe=>hj (wK hN e1 (e▸hi));simp[this,e]
    .exact .inr ⟨k,c,e,z.sameBut hs (Vf y c e)⟩
  .obtain⟨w',z⟩:=I.cell y c e
   exact⟨w',z.sameBut hs (Vf y c e)⟩
  .obtain⟨e,n,ne,nf,d⟩:=I.pin p hp
   exact⟨(hs.2 p.1 ne).trans e,n,ne,nf,d⟩
 .have hfn:X.fn x=true:=by
   rcases hf with z|z
   .exact z
   .rw[z] at hk;cases hk
  obtain⟨c,hc⟩:=I.ok.has x (.inl hk);obtain⟨w',z⟩:=I.cell x c hc;refine wpAny_storeName_cell I.ok.kind hk hc z (λh' hc' hs=>?_);obtain⟨oc,hoc,agj⟩:=id z;refine h {s with heap:=h'} ⟨I.ok,I.os,I.bare,⟨λb o e n hb hx=>?_,λb o e n hb hx=>?_,I.base.free,λb o e hx=>?_,I.base.tups,I.base.mU,I.base.qd⟩,⟨m,hn.sameBut hs (Ne.symm (Vf x c hc)),λj y v' e1 e2 e3=>?_⟩,λy c' e=>?_,I.free,I.iB,λp hp=>?_,tracked ⟨oc,hoc,I.iB x c hc⟩ hs,by simpa using I.len⟩ ⟨c,hs,.inr hc⟩
  .exact(hs.2 b (abe (abg (aaq e) (I.ok.cab x c hfn hc)))).trans (I.base.keep b o e n hb hx)
  .obtain⟨sl,e1⟩:=I.base.slot b o e n hb hx
   exact⟨sl,(hs.2 b (abe (abg (aaq e) (I.ok.cab x c hfn hc)))).trans e1⟩
  .obtain⟨o',e1⟩:=I.base.there b o e hx
   exact⟨o',(hs.2 b (abe (abg (aaq e) (I.ok.cab x c hfn hc)))).trans e1⟩
  .by_cases hj:j=i
   .subst hj
    rw[hi] at e1;cases e1;rw[List.getElem?_set_self aiZ] at e2;cases e2;exact⟨u,r,.inr ⟨.inl hk,c,hc,hc'⟩⟩
   .rw[List.getElem?_set_ne (Ne.symm hj)] at e2
    obtain⟨u',r',q⟩:=hl j y v' e1 e2 e3;refine⟨u',r', ?_⟩;rcases q with q|⟨k,c',e,z'⟩
    .exact .inl q
    .refine .inr ⟨k,c',e,z'.sameBut hs ?_⟩
     rintro rfl;exact hj (wK hN e1 (I.ok.inj _ _ _ e hc▸hi))
  .by_cases hcc:c'=c
   .subst hcc;exact⟨_,hc'⟩
   .obtain⟨w2,z2⟩:=I.cell y c' e
    exact⟨w2,z2.sameBut hs hcc⟩
  .obtain⟨e,n,ne,nf,d⟩:=I.pin p hp
   refine⟨(hs.2 p.1 ?_).trans e,n,ne,nf,d⟩;intro q;rw[q,hoc] at e;have q':oc=p.2:=aa6 e;exact d w' (by rw[←q'];exact agj)
theorem qQ{M:Model}{A:Around}{E:Value->Shared->Prop}{i:Nat}{x:Str}{v:V}{u:Value}{Q:Unit->Shared->Prop}(I:Inv X pins σ H s)(hN:X.N.Nodup)(hi:X.N[i]? = some x)(hx:Loc X.env.scope x)(r:RelV v u)(h:∀s',Inv X pins (σ.set i (some v)) H s'->Q () s')(hf:X.fn x=true\/X.env.scope.names.lookup x=some .local:=by first |exact .inl rfl|exact .inr rfl|assumption):wpAny M A (storeName X.env x u) Q E s:=
 zf I hN hi hx r (λs' I' _=>h s' I') hf
theorem Inv.call'{s':Shared}{ch:List Addr}(I:Inv X pins σ H s)(ho:s'.os=s.os)(u:Un (frs X.stack) ch H H' s.heap s'.heap)(hok:jU X.prog X.w H' s'.heap)(hg:AllBare s'.gens)(hch:∀b∈ch,(b∈X.ex\/X.s₀.heap.objs.size<=b)/\b≠X.env.locals/\(∀x c,X.env.cells.lookup x=some c->c≠b) /\ ∀p∈X.pn++pins,p.1≠b):Inv X pins σ H' s':=by
 obtain⟨h',g',d',t',o'⟩:=s';have e:o'=s.os:=ho;subst e;exact I.call (g':=g') (t':=t') (d':=d') u hok hg hch
end
noncomputable abbrev XK:=Value->Option Addr->Hp->Prop
noncomputable abbrev St:=List (Option V)
noncomputable abbrev VK:=V->Hp->Prop
noncomputable abbrev TE:=St->Hp->VK->Prop
noncomputable abbrev TT:=St->Hp->(Bool->Hp->Prop)->Prop
noncomputable abbrev TA:=St->Hp->(List V->Hp->Prop)->Prop
structure Ends where
 nx:St->Hp->Prop
 rt:VK
 bk:St->Hp->Prop:=λ_ _=>False
 ct:St->Hp->Prop:=λ_ _=>False
noncomputable abbrev TS:=Ends->St->Hp->Prop
noncomputable def EP(X:Cx)(pins:List (Addr×Obj))(σ:St)(Q:VK)(u:Value)(s':Shared):Prop:=∃v H',Inv X pins σ H' s'/\RelV v u/\Q v H'
noncomputable def TP(X:Cx)(pins:List (Addr×Obj))(σ:St)(Q:Bool->Hp->Prop)(b:Bool)(s':Shared):Prop:=∃H',Inv X pins σ H' s'/\Q b H'
noncomputable def AP(X:Cx)(pins:List (Addr×Obj))(σ:St)(Q:List V->Hp->Prop)(us:List Value)(s':Shared):Prop:=∃vs H',Inv X pins σ H' s'/\Vals vs us/\Q vs H'
noncomputable def SP(X:Cx)(pins:List (Addr×Obj))(D:Ends)(f:Flow)(s':Shared):Prop:=
 match f with
 | .next=>∃σ' H',Inv X pins σ' H' s'/\D.nx σ' H'
 | .brk=>∃σ' H',Inv X pins σ' H' s'/\D.bk σ' H'
 | .cont=>∃σ' H',Inv X pins σ' H' s'/\D.ct σ' H'
 | .ret u=>∃v σ' H',Inv X pins σ' H' s'/\RelV v u/\D.rt v H'
noncomputable def PE(X:Cx)(e:Expr)(t:TE):Prop:=
 ∀(pins:List (Addr×Obj))(s:Shared)(σ:St)(H:Hp)(Q:VK),Inv X pins σ H s->t σ H Q->wpAny (model X.prog X.w) X.A (eval e X.env) (EP X pins σ Q) X.xe s
noncomputable def PT(X:Cx)(e:Expr)(t:TT):Prop:=
 ∀(pins:List (Addr×Obj))(s:Shared)(σ:St)(H:Hp)(Q:Bool->Hp->Prop),Inv X pins σ H s->t σ H Q->wpAny (model X.prog X.w) X.A (isTrue e X.env (eval e X.env)) (TP X pins σ Q) X.xe s
noncomputable def PW(X:Cx)(e:Expr)(t:TT):Prop:=
 ∀(whole:Sem Value)(pins:List (Addr×Obj))(s:Shared)(σ:St)(H:Hp)(Q:Bool->Hp->Prop),Inv X pins σ H s->t σ H Q->wpAny (model X.prog X.w) X.A (isTrue e X.env whole) (TP X pins σ Q) X.xe s
theorem PW.pt{X:Cx}{e:Expr}{t:TT}(h:PW X e t):PT X e t:=h _
noncomputable def PA(X:Cx)(es:List Expr)(t:TA):Prop:=
 ∀(pos:Pos)(pins:List (Addr×Obj))(s:Shared)(σ:St)(H:Hp)(Q:List V->Hp->Prop),Inv X pins σ H s->t σ H Q->wpAny (model X.prog X.w) X.A (spliced (backTo pos (starEach es X.env))) (AP X pins σ Q) X.xe s
noncomputable def PS(X:Cx)(st:Stmt)(t:TS):Prop:=
 ∀(pins:List (Addr×Obj))(s:Shared)(σ:St)(H:Hp)(D:Ends),Inv X pins σ H s->t D σ H->wpAny (model X.prog X.w) X.A (exec st X.env) (SP X pins D) X.xe s
noncomputable def Df(X:Cx)(st:List Stmt)(t:TS):Prop:=
 ∀(pins:List (Addr×Obj))(s:Shared)(σ:St)(H:Hp)(D:Ends),Inv X pins σ H s->t D σ H->wpAny (model X.prog X.w) X.A (execs st X.env) (SP X pins D) X.xe s
theorem cX{α:Type}{t:Sem α}{Q Q':α->Shared->Prop}{M:Model}{A:Around}{E:Value->Shared->Prop}{s:Shared}(h:wpAny M A t Q E s)(hQ:∀a s,Q a s->Q' a s):wpAny M A t Q' E s:=wpAny_mono h hQ λ_ _ x=>x
section
variable{X:Cx}
noncomputable def Nb(i:Nat):TE:=λσ H Q=>∃v,σ[i]? = some (some v)/\Q v H
noncomputable def tC(v:V):TE:=λ_ H Q=>Q v H
theorem XS{i:Nat}{x:Str}{pos:Pos}(hN:X.N[i]? = some x)(hv:Vis X.env.scope x)(hd:(x==("__debug__" :Str))=false:=by decide)(hcd:(x==("__classdict__" :Str))=false:=by decide):PE X (.Name x pos) (Nb i):=by
 intro pins s σ H Q I h;obtain⟨v,e,h⟩:=h;obtain⟨m,hn,hl⟩:=I.loc;obtain⟨u,r,l⟩:=hl i x v hN e hv;have fin:EP X pins σ Q u s:=⟨v,H,I,r,h⟩;rcases l with ⟨hk,hm⟩|⟨hk,c,hc,hcell⟩
 .exact wpAny_Name (wpAny_loadName_local I.ok.kind hk hn hm fin) hd
 .rcases hk with hk|hk
  .exact wpAny_Name (wpAny_loadName_cell I.ok.kind hk hc hcell fin) hd
  .exact wpAny_Name (wpAny_loadName_free I.ok.kind hk hc hcell fin hcd) hd
theorem aD{i j pos}:PE X (.Constant (.int i) j pos) (tC (.int i)):=λ_ _ _ H _ I h=>wpAny_Constant_int ⟨.int i,H,I.tok _,⟨_,Z⟩,h⟩
theorem oA{b j pos}:PE X (.Constant (.bool b) j pos) (tC (.bl b)):=λ_ _ _ H _ I h=>Constant_bool ⟨.bl b,H,I,Z,h⟩
theorem gK{j pos}:PE X (.Constant .none j pos) (tC .non):=λ_ _ _ H _ I h=>Constant_none ⟨.non,H,I,Z,h⟩
theorem cB{x j pos}:PE X (.Constant (.str x) j pos) (tC (.str x)):=λ_ _ _ H _ I h=>Calls.Constant_str ⟨.str x,H,I.tok _,⟨_,Z⟩,h⟩
noncomputable def Gl(X:Cx)(x:Str):Prop:=X.env.kindOf x=some .globalImplicit
theorem jZ{E:Value->Shared->Prop}{pins:List (Addr×Obj)}{s:Shared}{σ:St}{H:Hp}{x:Str}{u:Value}{pos:Pos}{Q:Value->Shared->Prop}(I:Inv X pins σ H s)(hg:Gl X x)(hm:X.mg x=some u)(h:Q u s)(hd:(x==("__debug__" :Str))=false:=by decide):wpAny (model X.prog X.w) X.A (eval (.Name x pos) X.env) Q E s:=
 Calls.Name_function_global I.ok.kind hg (Calls.loadGlobal_global (by rw[I.ok.glob];exact I.mod.glob.keeps I.bk) hm h) hd
theorem wY{E:Value->Shared->Prop}{pins:List (Addr×Obj)}{s:Shared}{σ:St}{H:Hp}{x:Str}{u:Value}{pos:Pos}{Q:Value->Shared->Prop}(I:Inv X pins σ H s)(hg:Gl X x)(hm:X.mg x=none)(hv:bootBuiltins x=some u)(h:Q u s)(hn:x ≠ "__name__" :=by decide)(hd:(x==("__debug__" :Str))=false:=by decide):wpAny (model X.prog X.w) X.A (eval (.Name x pos) X.env) Q E s:=by
 obtain⟨mb,h1,h2⟩:=I.mod.blt;exact Calls.Name_function_global I.ok.kind hg (Calls.loadGlobal_builtin (by rw[I.ok.glob];exact I.mod.glob.keeps I.bk) hm (by rw[I.ok.blt];exact h1.keeps I.bk) ((h2 x hn).trans hv) h) hd
theorem g_{x:Str}{v:V}{u:Value}{pos:Pos}(hg:Gl X x)(hm:X.mg x=some u)(r:RelV v u)(hd:(x==("__debug__" :Str))=false:=by decide):PE X (.Name x pos) (tC v):=
 λ_ _ _ H _ I h=>jZ I hg hm ⟨v,H,I,r,h⟩ hd
theorem dH{x:Str}{v:V}{u:Value}{pos:Pos}(hg:Gl X x)(hm:X.mg x=none)(hv:bootBuiltins x=some u)(r:RelV v u)(hn:x ≠ "__name__" :=by decide)(hd:(x==("__debug__" :Str))=false:=by decide):PE X (.Name x pos) (tC v):=
 λ_ _ _ H _ I h=>wY I hg hm hv ⟨v,H,I,r,h⟩ hn hd
variable{a b:Expr}{ta tb:TE}{pos:Pos}
noncomputable def tB(t:TE):TT:=λσ H Q=>t σ H λx H1=>∃c,x = .bl c/\Q c H1
theorem dR{e:Expr}{t:TE}(h:PE X e t)(he:∀whole,isTrue e X.env whole=(do let v ←whole;standAt e.pos;holding [v] (truthy v)):=by intro _;rfl):PT X e (tB t):=by
 intro pins s σ H Q I hw;refine isTrue_plain (cX (h pins s σ H _ I hw) λv s1 ⟨x,H1,I1,r1,q1⟩=>?_) (he _);obtain⟨d,rfl,q⟩:=q1;cases r1;exact wpAny_truthy_bool ⟨H1,I1,q⟩
variable{tA tB':TT}{rest:List Expr}
noncomputable def aeK(t u:TT):TT:=λσ H Q=>t σ H λc H1=>if c=true then u σ H1 Q else Q false H1
noncomputable def tOr(t u:TT):TT:=λσ H Q=>t σ H λc H1=>if c=true then Q true H1 else u σ H1 Q
noncomputable def aeD(t:TT):TT:=λσ H Q=>t σ H λc H1=>Q (!c) H1
theorem rF(ha:PT X a tA):PW X (.BoolOp .And [a] pos) tA:=by
 intro wh pins s σ H Q I h;refine isTrue_and (cX (ha pins s σ H Q I h) λc s1 e=>?_);cases c with
 | true=>exact isTrue_and_nil e
 | false=>exact e
theorem oh(ha:PT X a tA):PW X (.BoolOp .Or [a] pos) tA:=by
 intro wh pins s σ H Q I h;refine isTrue_or (cX (ha pins s σ H Q I h) λc s1 e=>?_);cases c with
 | false=>exact isTrue_or_nil e
 | true=>exact e
theorem v8(ha:PT X a tA)(hb:PW X (.BoolOp .And (b::rest) pos) tB'):PW X (.BoolOp .And (a::b::rest) pos) (aeK tA tB'):=by
 intro wh pins s σ H Q I h;refine isTrue_and (cX (ha pins s σ H _ I h) λc s1 ⟨H1,I1,q1⟩=>?_);cases c with
 | true=>exact hb wh pins s1 σ H1 Q I1 q1
 | false=>exact⟨H1,I1,q1⟩
theorem rE(ha:PT X a tA)(hb:PW X (.BoolOp .Or (b::rest) pos) tB'):PW X (.BoolOp .Or (a::b::rest) pos) (tOr tA tB'):=by
 intro wh pins s σ H Q I h;refine isTrue_or (cX (ha pins s σ H _ I h) λc s1 ⟨H1,I1,q1⟩=>?_);cases c with
 | true=>exact⟨H1,I1,q1⟩
 | false=>exact hb wh pins s1 σ H1 Q I1 q1
theorem gq(ha:PT X a tA):PT X (.UnaryOp .Not a pos) (aeD tA):=by
 intro pins s σ H Q I h;exact isTrue_not (ha pins s σ H (λc H1=>Q (!c) H1) I h)
noncomputable def aaD(ta tb:TE):TE:=λσ H Q=>ta σ H λx H1=>∃c,x = .bl c/\if c=true then tb σ H1 Q else Q (.bl false) H1
noncomputable def aeC(ta tb:TE):TE:=λσ H Q=>ta σ H λx H1=>∃c,x = .bl c/\if c=true then Q (.bl true) H1 else tb σ H1 Q
noncomputable def aax(ta:TE):TE:=λσ H Q=>ta σ H λx H1=>∃c,x = .bl c/\Q (.bl (!c)) H1
theorem jr{op}{t:TE}(h:PE X a t):PE X (.BoolOp op [a] pos) t:=λpins s σ H Q I hw=>BoolOp_one (h pins s σ H Q I hw)
theorem jt(ha:PE X a ta)(hb:PE X (.BoolOp .And (b::rest) pos) tb):PE X (.BoolOp .And (a::b::rest) pos) (aaD ta tb):=by
 intro pins s σ H Q I h;refine BoolOp_and (cX (ha pins s σ H _ I h) λv s1 gw=>?_);obtain⟨x,H1,I1,r1,q1⟩:=gw;obtain⟨c,rfl,q1⟩:=q1;cases r1;refine wpAny_truthy_bool ?_;cases c with
 | true=>exact hb pins s1 σ H1 Q I1 q1
 | false=>exact⟨.bl false,H1,I1,Z,q1⟩
theorem aaZ(ha:PE X a ta)(hb:PE X (.BoolOp .Or (b::rest) pos) tb):PE X (.BoolOp .Or (a::b::rest) pos) (aeC ta tb):=by
 intro pins s σ H Q I h;refine BoolOp_or (cX (ha pins s σ H _ I h) λv s1 gw=>?_);obtain⟨x,H1,I1,r1,q1⟩:=gw;obtain⟨c,rfl,q1⟩:=q1;cases r1;refine wpAny_truthy_bool ?_;cases c with
 | false=>exact hb pins s1 σ H1 Q I1 q1
 | true=>exact⟨.bl true,H1,I1,Z,q1⟩
theorem GK(ha:PE X a ta):PE X (.UnaryOp .Not a pos) (aax ta):=by
 intro pins s σ H Q I h;refine UnaryOp_ (cX (ha pins s σ H _ I h) λv s1 gw=>?_);obtain⟨x,H1,I1,r1,q1⟩:=gw;obtain⟨c,rfl,q1⟩:=q1;cases r1;exact not_of (wpAny_truthy_bool ⟨.bl (!c),H1,I1,Z,q1⟩)
noncomputable def tIf(t:TT)(ta tb:TE):TE:=λσ H Q=>t σ H λc H1=>if c=true then ta σ H1 Q else tb σ H1 Q
theorem jN{c:Expr}(hc:PT X c tA)(ha:PE X a ta)(hb:PE X b tb):PE X (.IfExp c a b pos) (tIf tA ta tb):=by
 intro pins s σ H Q I h;refine wpAny_IfExp (cX (hc pins s σ H _ I h) λd s1 ⟨H1,I1,q1⟩=>?_);cases d with
 | true=>exact ha pins s1 σ H1 Q I1 q1
 | false=>exact hb pins s1 σ H1 Q I1 q1
end
noncomputable def bH(K:PySem.W.Frag)(H:Hp)(a:Addr)(xs:List V):Prop:=
 Rd H a (.lst xs) \/
  ∃(o:Obj) (its:Array Value) (n:Nat),K.lookup a=some o/\o.cls = .type "list" /\ o.dict=none/\o.data = .seq its n/\its.size<=sizeLine/\Vals xs its.toList
noncomputable def cH(K:PySem.W.Frag)(H:Hp)(a:Addr)(xs:List V):Prop:=
 Rd H a (.tup xs) \/
  ∃(o:Obj) (its:Array Value) (n:Nat),K.lookup a=some o/\o.cls = .type "tuple" /\ o.data = .seq its n/\its.size<=sizeLine/\Vals xs its.toList
noncomputable def ahi:Value->Option V
 | .none=>some .non
 | .bool b=>some (.bl b)
 | .int i _=>some (.int i)
 | .str x _=>some (.str x)
 | .bytes b _=>some (.Ig b)
 | .float b _=>some (.flt b)
 | .ref a=>some (.ref a)
 | .type n=>some (.ty n)
 | _=>none
theorem RelV.abs{x:V}{u:Value}(r:RelV x u):ahi u=some x:=by
 cases x with
 | non=>cases r;rfl
 | bl _=>cases r;rfl
 | int _=>obtain⟨t,rfl⟩:=r;rfl
 | str _=>obtain⟨t,rfl⟩:=r;rfl
 | Ig _=>obtain⟨t,rfl⟩:=r;rfl
 | flt _=>obtain⟨t,rfl⟩:=r;rfl
 | ref _=>cases r;rfl
 | ty _=>cases r;rfl
theorem RelV.inj{x y:V}{u:Value}(r:RelV x u)(q:RelV y u):x=y:=aa6 (r.abs.symm.trans q.abs)
theorem Vals.inj{xs ys:List V}{us:List Value}(h:Vals xs us)(h':Vals ys us):xs=ys:=by
 induction h generalizing ys with
 | nil=>cases h';rfl
 | cons r t ih=>cases h' with
   | cons r' t'=>rw[r.inj r',ih t']
section
variable{X:Cx}{pins:List (Addr×Obj)}{σ:St}{H:Hp}{s:Shared}{a:Addr}{xs ys:List V}
theorem bH.of{K:PySem.W.Frag}(h:H a=some (.lst xs)):bH K H a xs:= .inl (.inl h)
theorem cH.of{K:PySem.W.Frag}(h:H a=some (.tup xs)):cH K H a xs:= .inl (.inl h)
theorem Inv.list(I:Inv X pins σ H s)(h:bH X.K H a xs):∃its:List Value,Vals xs its/\PlainL s.heap a its.toArray/\xs.length<=sizeLine:=by
 rcases h with h|⟨o,its,n,hk,hc,hd,hs,hz,r⟩
 .obtain⟨z,its,n,r,e⟩:=h.ok I.hok
  exact⟨its,r,⟨_,n,e,Z,Z,Z⟩,z⟩
 .refine⟨its.toList,r,⟨o,n,I.mO a o hk,hc,hd,by simpa using hs⟩, ?_⟩
  have e:=r.length;simp only[aaI] at e;lia
theorem Inv.tuple(I:Inv X pins σ H s)(h:cH X.K H a xs):∃its:List Value,Vals xs its/\IsTup s.heap a its.toArray/\xs.length<=sizeLine:=by
 rcases h with h|⟨o,its,n,hk,hc,hs,hz,r⟩
 .obtain⟨z,its,r,p⟩:=h.ok I.hok
  exact⟨its,r,p,z⟩
 .refine⟨its.toList,r,⟨o,I.mO a o hk,hc,n,by simpa using hs⟩, ?_⟩
  have e:=r.length;simp only[aaI] at e;lia
theorem Inv.wW(I:Inv X pins σ H s)(h:bH X.K H a xs)(h':bH X.K H a ys):xs=ys:=by
 obtain⟨its,r,⟨o,n,e,_,_,d⟩,_⟩:=I.list h;obtain⟨its',r',⟨o',n',e',_,_,d'⟩,_⟩:=I.list h';rw[e] at e';cases e';rw[d] at d';injection d' with d1 _
 have:its=its':=by simpa using congrArg Array.toList d1
 subst this;exact r.inj r'
theorem Inv.Ke(I:Inv X pins σ H s)(h:cH X.K H a xs)(h':cH X.K H a ys):xs=ys:=by
 obtain⟨its,r,⟨o,e,_,n,d⟩,_⟩:=I.tuple h;obtain⟨its',r',⟨o',e',_,n',d'⟩,_⟩:=I.tuple h';rw[e] at e';cases e';rw[d] at d';injection d' with d1 _
 have:its=its':=by simpa using congrArg Array.toList d1
 subst this;exact r.inj r'
end
noncomputable abbrev Cx.wish(X:Cx)(E:Value->Shared->Prop):Cx:={X with xe:=E}
noncomputable abbrev Cx.V5(X:Cx):Cx:=X.wish λ_ _=>False
theorem Cx.Ok.wish{X:Cx}(ok:X.Ok)(E:Value->Shared->Prop):(X.wish E).Ok:=
 ⟨ok.mod,ok.kind,ok.glob,ok.blt,ok.above,ok.inj,ok.has,ok.cab,ok.hd,ok.frames,ok.stk,ok.Z1,ok.bs,ok.Dd,ok.Bx,ok.E_,ok.lG,ok.HD⟩
theorem Cx.Ok.nP{X:Cx}{E:Value->Shared->Prop}(ok:(X.wish E).Ok):X.Ok:=
 ⟨ok.mod,ok.kind,ok.glob,ok.blt,ok.above,ok.inj,ok.has,ok.cab,ok.hd,ok.frames,ok.stk,ok.Z1,ok.bs,ok.Dd,ok.Bx,ok.E_,ok.lG,ok.HD⟩
section
variable{X:Cx}{pins:List (Addr×Obj)}{σ:St}{H:Hp}{s:Shared}{E:Value->Shared->Prop}
theorem Inv.wish(I:Inv X pins σ H s)(E:Value->Shared->Prop):Inv (X.wish E) pins σ H s:=⟨I.ok.wish E,I.os,I.bare,I.base,I.loc,I.cell,I.free,I.iB,I.pin,I.hok,I.len⟩
theorem Inv.nP(I:Inv (X.wish E) pins σ H s):Inv X pins σ H s:=⟨I.ok.nP,I.os,I.bare,I.base,I.loc,I.cell,I.free,I.iB,I.pin,I.hok,I.len⟩
theorem SP.nP{D:Ends}{f:Flow}{s':Shared}(h:SP (X.wish E) pins D f s'):SP X pins D f s':=by
 cases f with
 | next=>obtain⟨σ',H',I,q⟩:=h;exact⟨σ',H',I.nP,q⟩
 | brk=>obtain⟨σ',H',I,q⟩:=h;exact⟨σ',H',I.nP,q⟩
 | cont=>obtain⟨σ',H',I,q⟩:=h;exact⟨σ',H',I.nP,q⟩
 | ret u=>obtain⟨v,σ',H',I,r,q⟩:=h;exact⟨v,σ',H',I.nP,r,q⟩
theorem Df.V5{st:List Stmt}{t:TS}(h:Df X.V5 st t):Df X st t:=λpins s σ H D I hw=>
 wpAny_mono (h pins s σ H D (I.wish _) hw) (λ_ _ q=>q.nP) λ_ _ z=>False.elim z
end
section
variable{X:Cx}{st:Stmt}{rest:List Stmt}{t u:TS}{e:Expr}{te:TE}{pos:Pos}
noncomputable def VD:TS:=λD σ H=>D.nx σ H
noncomputable def W3(t u:TS):TS:=λD σ H=>t {D with nx:=u D} σ H
theorem bL:Df X [] VD:=λ_ _ σ H _ I h=>wpAny_execs_nil ⟨σ,H,I,h⟩
theorem aB(h1:PS X st t)(h2:Df X rest u):Df X (st::rest) (W3 t u):=by
 intro pins s σ H D I h;refine wpAny_execs_cons (cX (h1 pins s σ H {D with nx:=u D} I h) λf s1 q=>?_);cases f with
 | next=>
   obtain⟨σ',H',I',q⟩:=q;exact h2 pins s1 σ' H' D I' q
 | ret v=>exact q
 | brk=>exact q
 | cont=>exact q
theorem aH(h1:PS X st t):Df X [st] t:=by
 intro pins s σ H D I h;refine wpAny_execs_cons (cX (h1 pins s σ H D I h) λf s1 q=>?_);cases f with
 | next=>exact wpAny_execs_nil q
 | ret v=>exact q
 | brk=>exact q
 | cont=>exact q
theorem Inv.quiet{pins:List (Addr×Obj)}{σ:St}{H:Hp}{s:Shared}(I:Inv X pins σ H s):interactive X.env=false:=by simp[interactive,I.ok.kind]
noncomputable def VH(te:TE):TS:=λD σ H=>te σ H λ_ H1=>D.nx σ H1
theorem cF(he:PE X e te)(hs:swapsWith e none pos.line X.env=pure false:=by rfl):PS X (.Expr e pos) (VH te):=by
 intro pins s σ H D I h;exact wpAny_Expr_any (cX (he pins s σ H _ I h) λv s1 ⟨x,H1,I1,r1,q1⟩=>⟨σ,H1,I1,q1⟩) I.quiet hs
noncomputable def aeB(te:TE):TS:=λD σ H=>te σ H D.rt
theorem bG(he:PE X e te):PS X (.Return (some e) pos) (aeB te):=by
 intro pins s σ H D I h;exact wpAny_Return_some (cX (he pins s σ H _ I h) λv s1 ⟨x,H1,I1,r1,q1⟩=>⟨x,σ,H1,I1,r1,q1⟩)
noncomputable def aav:TS:=λD _ H=>D.rt .non H
theorem Tr:PS X (.Return none pos) aav:=λ_ _ σ H _ I h=>wpAny_Return_none ⟨.non,σ,H,I,Z,h⟩
noncomputable def aeG(c:TT)(t u:TS):TS:=λD σ H=>c σ H λb H1=>if b=true then t D σ H1 else u D σ H1
theorem cA{c:Expr}{a b:List Stmt}{tc:TT}(hc:PT X c tc)(ha:Df X a t)(hb:Df X b u):PS X (.If c a b pos) (aeG tc t u):=by
 intro pins s σ H D I h;refine wpAny_If (cX (hc pins s σ H _ I h) λd s1 ⟨H1,I1,q1⟩=>?_);cases d with
 | true=>exact ha pins s1 σ H1 D I1 q1
 | false=>exact hb pins s1 σ H1 D I1 q1
noncomputable def W6:TS:=λ_ _ _=>False
theorem DX:PS X st W6:=λ_ _ _ _ _ _ h=>h.elim
end
noncomputable abbrev TG:=V->St->Hp->(St->Hp->Prop)->Prop
noncomputable abbrev Wz:=List V->St->Hp->(St->Hp->Prop)->Prop
noncomputable def PG(X:Cx)(target:Expr)(t:TG):Prop:=
 ∀(pins:List (Addr×Obj))(s:Shared)(σ:St)(H:Hp)(v:V)(u:Value)(Q:St->Hp->Prop),Inv X pins σ H s->RelV v u->t v σ H Q ->
  wpAny (model X.prog X.w) X.A (assign target X.env u) (λ_ s'=>∃σ' H',Inv X pins σ' H' s'/\Q σ' H') X.xe s
noncomputable def PGs(X:Cx)(ts:List Expr)(t:Wz):Prop:=
 ∀(pins:List (Addr×Obj))(s:Shared)(σ:St)(H:Hp)(vs:List V)(us:List Value)(Q:St->Hp->Prop),Inv X pins σ H s->Vals vs us->t vs σ H Q ->
  wpAny (model X.prog X.w) X.A (assignInOrder ((assignEach ts X.env).map (·.2)) us) (λ_ s'=>∃σ' H',Inv X pins σ' H' s'/\Q σ' H') X.xe s
noncomputable abbrev Q_:=V->V->V->Hp->(Hp->Prop)->Prop
noncomputable def Zv(X:Cx)(t:Q_):Prop:=
 ∀(pins:List (Addr×Obj))(s:Shared)(σ:St)(H:Hp)(o i v:V)(ov iv u:Value)(Q:Hp->Prop),Inv X pins σ H s->RelV o ov->RelV i iv->RelV v u->t o i v H Q ->
  wpAny (model X.prog X.w) X.A (setItem ov iv u) (λ_ s'=>∃H',Inv X pins σ H' s'/\Q H') X.xe s
noncomputable abbrev Z9:=V->V->Hp->VK->Prop
noncomputable def PIp(X:Cx)(op:Operator)(t:Z9):Prop:=
 ∀(pins:List (Addr×Obj))(s:Shared)(σ:St)(H:Hp)(x y:V)(v u:Value)(Q:VK),Inv X pins σ H s->RelV x v->RelV y u->t x y H Q ->
  wpAny (model X.prog X.w) X.A (inplaceOp op v u) (EP X pins σ Q) X.xe s
section
variable{X:Cx}{pos:Pos}
noncomputable def cG(i:Nat):TG:=λv σ H Q=>Q (σ.set i (some v)) H
theorem bJ{i:Nat}{x:Str}(hN:X.N.Nodup)(hi:X.N[i]? = some x)(hx:Loc X.env.scope x)(hf:X.fn x=true\/X.env.scope.names.lookup x=some .local:=by first |exact .inl rfl|exact .inr rfl|assumption):PG X (.Name x pos) (cG i):=by
 intro pins s σ H v u Q I r h;exact wpAny_assign_Name (qQ I hN hi hx r (λs' I'=>⟨_,H,I',h⟩) hf)
noncomputable def U0:Wz:=λvs σ H Q=>vs=[]/\Q σ H
noncomputable def xH(t:TG)(u:Wz):Wz:=λvs σ H Q=>∃v r,vs=v::r/\t v σ H λσ' H'=>u r σ' H' Q
theorem rG:PGs X [] U0:=by
 intro pins s σ H vs us Q I r h;obtain⟨e,h⟩:=h;subst e;cases r;exact assignInOrder_nil ⟨σ,H,I,h⟩
theorem d8{e:Expr}{es:List Expr}{t:TG}{u:Wz}(h1:PG X e t)(h2:PGs X es u)(hs:(assignEach (e::es) X.env).map (·.2)=assign e X.env::(assignEach es X.env).map (·.2):=by rfl):PGs X (e::es) (xH t u):=by
 intro pins s σ H vs us Q I r h;obtain⟨v,vr,e1,h⟩:=h;subst e1;cases r with
 | cons r rr=>
   rw[hs];refine assignInOrder_cons (cX (h1 pins s σ H _ _ _ I r h) λ_ s1 gw=>?_);obtain⟨σ1,H1,I1,q1⟩:=gw;exact h2 pins s1 σ1 H1 _ _ Q I1 rr q1
noncomputable def Qm(K:PySem.W.Frag)(n:Nat)(t:Wz):TG:=λv σ H Q=>∃a xs,v = .ref a/\cH K H a xs/\xs.length=n/\t xs σ H Q
theorem XR{es:List Expr}{k:Nat}{t:Wz}{n:Nat}(hc:X.calm=true)(h:PGs X es t)(hn:(assignEach es X.env).length=n:=by rfl)(hst:(assignEach es X.env).findIdx? (·.1)=none:=by rfl):PG X (.Tuple es k pos) (Qm X.K n t):=by
 intro pins s σ H v u Q I r hw;obtain⟨a,xs,e1,hq,hl,hw⟩:=hw;subst e1;cases r;obtain⟨its,rv,ht,hz⟩:=I.tuple hq;refine assign_Tuple_tuple (I.ok.hd hc) ht (by simp[hn,←hl,rv.length]) hst λh' hx=>?_;have I1:Inv X pins σ H {s with heap:=h'}:=I.kept (t':=s.toks) λb o e=>hx b o (abe (aaq e)) e;exact h pins _ σ H xs _ Q I1 (by simpa using rv) hw
noncomputable def agx(to ti:TE)(t:Q_):TG:=λv σ H Q=>to σ H λo H1=>ti σ H1 λi H2=>t o i v H2 λH3=>Q σ H3
theorem t_{o i:Expr}{to ti:TE}{t:Q_}(ho:PE X o to)(hi:PE X i ti)(hs:Zv X t)(ha:∀v,assign (.Subscript o i pos) X.env v=(do
   let ov ←holding [v] (eval o X.env)
   let iv ←holding [v,ov] (eval i X.env)
   standAt pos
   holding [v,ov,iv] (setItem ov iv v)
   release [v,ov,iv] []):=by intro _;rfl):PG X (.Subscript o i pos) (agx to ti t):=by
 intro pins s σ H v u Q I r h;rw[ha];refine aas (wpAny_holding (cX (ho pins s σ H _ I h) λov s1 gw=>?_));obtain⟨x,H1,I1,r1,q1⟩:=gw;refine aas (wpAny_holding (cX (hi pins s1 σ H1 _ I1 q1) λiv s2 gw=>?_));obtain⟨y,H2,I2,r2,q2⟩:=gw;refine aas (wpAny_standAt (aas (wpAny_holding (cX (hs pins s2 σ H2 x y v ov iv u _ I2 r1 r2 r q2) λ_ s3 ⟨H3,I3,q3⟩=>?_))));exact wpAny_release ⟨σ,H3,I3,q3⟩
noncomputable def Xe(te:TE)(g:TG):TS:=λD σ H=>te σ H λx H1=>g x σ H1 D.nx
theorem qu{tg e:Expr}{te:TE}{g:TG}(he:PE X e te)(hg:PG X tg g)(hs:swapsWithSole [tg] e pos.line X.env=pure false:=by rfl)(hw:swappedStores [tg] e X.env=pure none:=by rfl)(h1:(assignEach [tg] X.env).map (·.2)=[assign tg X.env]:=by rfl):PS X (.Assign [tg] e pos) (Xe te g):=by
 intro pins s σ H D I h;refine wpAny_Assign_stores (cX (he pins s σ H _ I h) λv s1 ⟨x,H1,I1,r1,q1⟩=>?_) hs hw;rw[h1];exact cX (hg pins s1 σ H1 x v _ I1 r1 q1) λ_ s2 q=>q
theorem bA{i:Nat}{x:Str}{e:Expr}{te:TE}{pos':Pos}(hN:X.N.Nodup)(hi:X.N[i]? = some x)(hx:Loc X.env.scope x)(he:PE X e te)(hs:swapsWith e (some (.Name x pos')) pos.line X.env=pure false:=by rfl)(hf:X.fn x=true\/X.env.scope.names.lookup x=some .local:=by first |exact .inl rfl|exact .inr rfl|assumption):
 PS X (.Assign [.Name x pos'] e pos) (Xe te (cG i)):=by
 intro pins s σ H D I h;refine wpAny_Assign_Name (cX (he pins s σ H _ I h) λv s1 ⟨y,H1,I1,r1,q1⟩=>?_) hs;exact qQ I1 hN hi hx r1 (λs2 I2=>⟨_,H1,I2,q1⟩) hf
noncomputable def aeJ(i:Nat)(te:TE)(ti:Z9):TS:=λD σ H=>∃x,σ[i]? = some (some x)/\te σ H λy H1=>ti x y H1 λz H2=>D.nx (σ.set i (some z)) H2
theorem XJ{i:Nat}{x:Str}{e:Expr}{te:TE}{op:Operator}{ti:Z9}{pos':Pos}(hN:X.N.Nodup)(hi:X.N[i]? = some x)(hx:Loc X.env.scope x)(he:PE X e te)(ho:PIp X op ti)(hf:X.fn x=true\/X.env.scope.names.lookup x=some .local:=by first |exact .inl rfl|exact .inr rfl|assumption):
 PS X (.AugAssign (.Name x pos') op e pos) (aeJ i te ti):=by
 intro pins s σ H D I h;obtain⟨v,e1,h⟩:=h;obtain⟨m,hn,hl⟩:=I.loc;have vis:Vis X.env.scope x:=by rcases hx with k|k;exact .inl k;exact .inr (.inl k)
 obtain⟨u,r,l⟩:=hl i x v hi e1 vis;refine wpAny_AugAssign_Name ?_
 have go:wpAny (model X.prog X.w) X.A (eval e X.env) (λw s₂=>wpAny (model X.prog X.w) X.A (inplaceOp op u w) (λr s₃=>wpAny (model X.prog X.w) X.A (storeName X.env x r) (λ_=>SP X pins D .next) X.xe s₃) X.xe s₂) X.xe s:=by
  refine cX (he pins s σ H _ I h) λw s1 gw=>?_;obtain⟨y,H1,I1,r1,q1⟩:=gw;refine cX (ho pins s1 σ H1 v y u w _ I1 r r1 q1) λz s2 gw=>?_;obtain⟨zv,H2,I2,r2,q2⟩:=gw;exact qQ I2 hN hi hx r2 (λs3 I3=>⟨_,H2,I3,q2⟩) hf
 rcases l with ⟨hk,hm⟩|⟨hk,c,hc,hcell⟩
 .exact wpAny_loadName_local I.ok.kind hk hn hm go
 .rcases hk with hk|hk
  .exact wpAny_loadName_cell I.ok.kind hk hc hcell go
  .rcases hx with k|k
   .have:X.env.scope.names.lookup x=some .free:=hk
    rw[k] at this;cases this
   .have:X.env.scope.names.lookup x=some .free:=hk
    rw[k] at this;cases this
noncomputable def aaC(to ti te:TE)(R_:V->V->Hp->VK->Prop)(tip:Z9)(RX:Q_):TS:=λD σ H=>to σ H λo H1=>ti σ H1 λi H2=>R_ o i H2 λx H3=>te σ H3 λy H4=>tip x y H4 λz H5=>RX o i z H5 λH6=>D.nx σ H6
noncomputable def acD(X:Cx)(t:V->V->Hp->VK->Prop):Prop:=
 ∀(pins:List (Addr×Obj))(s:Shared)(σ:St)(H:Hp)(o i:V)(ov iv:Value)(Q:VK),Inv X pins σ H s->RelV o ov->RelV i iv->t o i H Q ->
  wpAny (model X.prog X.w) X.A (getItem ov iv) (EP X pins σ Q) X.xe s
theorem Tt{o i e:Expr}{to ti te:TE}{R_:V->V->Hp->VK->Prop}{tip:Z9}{RX:Q_}{op:Operator}{tpos:Pos}(ho:PE X o to)(hi:PE X i ti)(hg:acD X R_)(he:PE X e te)(hp:PIp X op tip)(hs:Zv X RX)(ha:∀ov iv new,augStore i ov iv new=(do holding [new,ov,iv] (setItem ov iv new);release [new,ov,iv] [];pure .next):=by intros;rfl):PS X (.AugAssign (.Subscript o i tpos) op e pos) (aaC to ti te R_ tip RX):=by
 intro pins s σ H D I h;refine wpAny_AugAssign_SubscriptAny (cX (ho pins s σ H _ I h) λov s1 ⟨x1,H1,I1,r1,q1⟩=>?_) ha;refine cX (hi pins s1 σ H1 _ I1 q1) λiv s2 gw=>?_;obtain⟨x2,H2,I2,r2,q2⟩:=gw;refine cX (hg pins s2 σ H2 x1 x2 ov iv _ I2 r1 r2 q2) λold s3 gw=>?_;obtain⟨x3,H3,I3,r3,q3⟩:=gw;refine cX (he pins s3 σ H3 _ I3 q3) λv s4 gw=>?_;obtain⟨x4,H4,I4,r4,q4⟩:=gw;refine cX (hp pins s4 σ H4 x3 x4 old v _ I4 r3 r4 q4) λnew s5 gw=>?_;obtain⟨x5,H5,I5,r5,q5⟩:=gw;exact cX (hs pins s5 σ H5 x1 x2 x5 ov iv new _ I5 r1 r2 r5 q5) λ_ s6 ⟨H6,I6,q6⟩=>⟨σ,H6,I6,q6⟩
noncomputable def ipI(f:Int->Int->Int):Z9:=λx y H Q=>∃i j,x = .int i/\y = .int j/\Q (.int (f i j)) H
theorem BW:PIp X .Add (ipI λi j=>i+j):=by
 intro pins s σ H x y v u Q I r1 r2 h;obtain⟨i,j,e1,e2,q⟩:=h;subst e1;subst e2;obtain⟨t,rfl⟩:=r1;obtain⟨t',rfl⟩:=r2;exact iadd_int ⟨.int _,H,I.tok _,⟨_,Z⟩,q⟩
end
section
variable{X:Cx}{pos:Pos}
noncomputable def W2(c:TT)(tb:TS):TS:=λD σ H=>∃W:Nat->St->Hp->Prop,(∃m,W m σ H) /\ ∀m σ H,W m σ H ->
 c σ H λb H1=>if b=true then ∃N:St->Hp->Prop,(∀σ' H',N σ' H' -> ∃m',m'<m/\W m' σ' H')/\tb {D with nx:=N,ct:=N,bk:=D.nx} σ H1 else D.nx σ H1
theorem wu{c:Expr}{body:List Stmt}{tc:TT}{tb:TS}(hp:PassesOwn (model X.prog X.w) X.A X.env X.xe)(hc:PT X c tc)(hb:Df X body tb):PS X (.While c body [] pos) (W2 tc tb):=by
 intro pins s σ H D I h;obtain⟨W,⟨m0,w0⟩,turn⟩:=h;refine wpAny_While (codeAny_whileLoop (λn s'=>∃σ' H',Inv X pins σ' H' s'/\W n σ' H') ?_ m0 ⟨σ,H,I,w0⟩);rintro n s1 ⟨σ1,H1,I1,w1⟩;refine wpAny_passesOwn hp (cX (hc pins s1 σ1 H1 _ I1 (turn n σ1 H1 w1)) λb s2 ⟨H2,I2,q2⟩=>?_);cases b with
 | true=>
   obtain⟨N,hN,q2⟩:=q2;rw[acM rfl];refine wpAny_passesOwn hp (cX (hb pins s2 σ1 H2 _ I2 q2) λf s3 q3=>?_);cases f with
   | next=>
     obtain⟨σ3,H3,I3,n3⟩:=q3;obtain⟨m',hm,w3⟩:=hN σ3 H3 n3;exact⟨m',hm,σ3,H3,I3,w3⟩
   | cont=>
     obtain⟨σ3,H3,I3,n3⟩:=q3;obtain⟨m',hm,w3⟩:=hN σ3 H3 n3;exact⟨m',hm,σ3,H3,I3,w3⟩
   | brk=>exact q3
   | ret v=>exact q3
 | false=>
   rw[acK aaY];exact wpAny_execs_nil ⟨σ1,H2,I2,q2⟩
end
structure It where
 go:Nat->Hp->Prop
 yld:Nat->Hp->V->Hp->Prop
 stop:Nat->Hp->Prop
noncomputable def qI(X:Cx)(pins:List (Addr×Obj))(H:Hp)(b:Addr):Prop:=
 H b=none/\b≠X.env.locals/\b∉X.fs/\(b∈X.ex\/X.s₀.heap.objs.size<=b)/\(∀x c,X.env.cells.lookup x=some c->c≠b) /\ ∀p∈X.pn++pins,p.1≠b
theorem Inv.HJ{X:Cx}{pins:List (Addr×Obj)}{σ:St}{H H':Hp}{s:Shared}{b:Addr}(I:Inv X pins σ H s)(hb:s.heap.objs.size<=b)(hn:H' b=none):qI X pins H' b:=by
 refine⟨hn,Nat.ne_of_gt (abg I.lt hb),I.afO hb,.inr (acH I.sz hb),λx c e z=>?_,λp hp z=>?_⟩
 .obtain⟨v,q⟩:=I.cell x c e
  exact acP (abg q.lt (by rw[z];exact hb)) (acG _)
 .exact acP (abg (aaq (I.pin p hp).1) (by rw[z];exact hb)) (acG _)
structure Turn(P:Program)(w:World)(K:PySem.W.Frag)(tg:Expr)(J:It)(fp:List Addr)(it:Addr)(tn:Nat->Heap->Prop):Prop where
 mem:it∈fp
 obj:∀i h,tn i h -> ∀b∈fp,∃o,h.get? b=some o /\ ∀v,o.data ≠ .cell v
 keep:∀i h h',tn i h->(∀b∈fp,∀o,h.get? b=some o->h'.get? b=some o)->tn i h'
 item:∀(X:Cx),X.prog=P->X.w=w->X.K=K->X.calm=true -> ∀(i:Nat)(pins:List (Addr×Obj))(s:Shared)(σ:St)(H:Hp)(E:Value->Shared->Prop),Inv X pins σ H s->(∀b∈fp,qI X pins H b)->tn i s.heap->J.go i H ->
  wpAny (model P w) X.A (pyNext (.ref it)) (λr s1=>∃u,r=some u /\
   wpAny (model P w) X.A (letOwnedTupleGo tg (.ref it) u) (λ_ s2=>∃x H',Inv X pins σ H' s2/\RelV x u/\J.yld i H x H'/\tn (i+1) s2.heap /\ ∀b∈fp,H' b=none) E s1) E s
 done:∀(X:Cx),X.prog=P->X.w=w->X.K=K->X.calm=true -> ∀(i:Nat)(pins:List (Addr×Obj))(s:Shared)(σ:St)(H:Hp)(E:Value->Shared->Prop),Inv X pins σ H s->(∀b∈fp,qI X pins H b)->tn i s.heap->J.stop i H ->
  wpAny (model P w) X.A (pyNext (.ref it)) (λr s1=>r=none/\Inv X pins σ H s1) E s
 self:∀(A:Around)(i:Nat)(s:Shared)(Q:Value->Shared->Prop)(E:Value->Shared->Prop),tn i s.heap->Q (.ref it) s->wpAny (model P w) A (pyIter (.ref it)) Q E s
noncomputable abbrev TI:=St->Hp->(It->Hp->Prop)->Prop
noncomputable def PIE(X:Cx)(pins:List (Addr×Obj))(σ:St)(tg:Expr)(R:It->Hp->Prop)(itv:Value)(s2:Shared):Prop:=
 ∃(it:Addr) (fp:List Addr) (tn:Nat->Heap->Prop) (J:It) (H':Hp),itv = .ref it/\Inv X pins σ H' s2/\Turn X.prog X.w X.K tg J fp it tn/\tn 0 s2.heap/\(∀b∈fp,qI X pins H' b)/\R J H'
noncomputable def PI(X:Cx)(tg iter:Expr)(wi:TI):Prop:=
 ∀(pins:List (Addr×Obj))(s:Shared)(σ:St)(H:Hp)(R:It->Hp->Prop),Inv X pins σ H s->wi σ H R ->
  wpAny (model X.prog X.w) X.A (eval iter X.env) (λv s1=>wpAny (model X.prog X.w) X.A (pyIter v) (PIE X pins σ tg R) X.xe s1) X.xe s
theorem Ey{M:Model}{A:Around}{E:Value->Shared->Prop}{s:Shared}{tg:Expr}{it:Addr}{u:Value}{o:Obj}{n:String}{vs:Array Value}{Q:Unit->Shared->Prop}(ho:s.heap.get? it=some o)(hc:o.cls = .type n)(hd:o.data = .fields vs)(hn:["enumerate","zip","dict_itemiterator","dict_reverseitemiterator","odict_iterator","itertools.zip_longest","itertools.pairwise"].contains n=false)(hQ:Q () s):wpAny M A (letOwnedTupleGo tg (.ref it) u) Q E s:=by
 unfold letOwnedTupleGo
 cases tg<;>first
  | exact aaE hQ
  | (cases u<;>first
      | exact aaE hQ
      | (refine aas (wpAny_load ho ?_)
         rw[hc,hd];show wpAny M A (if (["enumerate","zip","dict_itemiterator","dict_reverseitemiterator","odict_iterator","itertools.zip_longest","itertools.pairwise"].contains n&&vs[0]? == some (rawInt _))=true then _ else _) Q E s;rw[acK (by intro h;rw[hn,Bool.false_and] at h;cases h)];exact aaE hQ))
noncomputable def Mt(K:PySem.W.Frag)(a:Addr):It:=
 ⟨λi H=>∃xs x,bH K H a xs/\xs[i]? = some x,λi H x H'=>H'=H /\ ∀xs,bH K H a xs->xs[i]? = some x,λi H=>∃xs,bH K H a xs/\xs.length<=i⟩
noncomputable def Itt(K:PySem.W.Frag)(a:Addr):It:=
 ⟨λi H=>∃xs x,cH K H a xs/\xs[i]? = some x,λi H x H'=>H'=H /\ ∀xs,cH K H a xs->xs[i]? = some x,λi H=>∃xs,cH K H a xs/\xs.length<=i⟩
noncomputable def Vu(lo:Int)(n:Nat):It:=⟨λi _=>i<n,λi H x H'=>H'=H/\x = .int (lo+i),λi _=>n<=i⟩
theorem Kd{P:Program}{w:World}{K:PySem.W.Frag}{tg:Expr}(a it:Addr):Turn P w K tg (Mt K a) [it] it (λi h=>h.IsListIter it a i) where
 mem:=by simp
 obj:=λi h st b hb=>by
  have e:b=it:=by simpa using hb
  subst e;obtain⟨o,e,c,d⟩:=st;exact⟨o,e,λv z=>by rw[d] at z;cases z⟩
 keep:=λi h h' st k=>st.at λo e=>k it (by simp) o e
 item:=by
  intro X hP hw hK hc i pins s σ H E I hf st hg;subst hP hw hK;obtain⟨xs,x,hq,hx⟩:=hg;obtain⟨its,rv,p,hz⟩:=I.list hq;obtain⟨u,hu,ru⟩:=rv.get hx;obtain⟨f0,f1,f2,f3,f4,f5⟩:=hf it (by simp);refine wpAny_pyNext_list_item st p.isList (x:=u) (by simpa using hu) λh' st' sb=>?_;have I1:Inv X pins σ H {s with heap:=h'}:=I.turned (t':=s.toks) (λb o hb e=>(sb.2 b hb).trans e) f0 f1 f3 f4 f5;obtain⟨o,e,c,d⟩:=id st';exact⟨u,Z,Ey (s:={s with heap:=h'}) e c d (by decide) ⟨x,H,I1,ru,⟨Z,λys hy=>by rw[I.wW hy hq];exact hx⟩,st',λb hb=>(hf b hb).1⟩⟩
 done:=by
  intro X hP hw hK hc i pins s σ H E I hf st hg;subst hP hw hK;obtain⟨xs,hq,hx⟩:=hg;obtain⟨its,rv,p,hz⟩:=I.list hq;obtain⟨f0,f1,f2,f3,f4,f5⟩:=hf it (by simp);have hl:=rv.length;exact wpAny_pyNext_list_end (I.ok.hd hc) st p.isList (by simp;lia) λh' eb=>⟨Z,I.turned (t':=s.toks) (λb o hb e=>eb b o hb e) f0 f1 f3 f4 f5⟩
 self:=λ_ _ _ _ _ st h=>wpAny_pyIter_listiter st h
theorem Gj{P:Program}{w:World}{K:PySem.W.Frag}{tg:Expr}(a it:Addr):Turn P w K tg (Itt K a) [it] it (λi h=>h.IsTupleIter it a i) where
 mem:=by simp
 obj:=λi h st b hb=>by
  have e:b=it:=by simpa using hb
  subst e;obtain⟨o,e,c,d⟩:=st;exact⟨o,e,λv z=>by rw[d] at z;cases z⟩
 keep:=λi h h' st k=>st.at λo e=>k it (by simp) o e
 item:=by
  intro X hP hw hK hc i pins s σ H E I hf st hg;subst hP hw hK;obtain⟨xs,x,hq,hx⟩:=hg;obtain⟨its,rv,p,hz⟩:=I.tuple hq;obtain⟨u,hu,ru⟩:=rv.get hx;obtain⟨f0,f1,f2,f3,f4,f5⟩:=hf it (by simp);refine wpAny_pyNext_tuple_item st (show s.heap.IsTuple a its.toArray from p) (x:=u) (by simpa using hu) λh' st' sb=>?_;have I1:Inv X pins σ H {s with heap:=h'}:=I.turned (t':=s.toks) (λb o hb e=>(sb.2 b hb).trans e) f0 f1 f3 f4 f5;obtain⟨o,e,c,d⟩:=id st';exact⟨u,Z,Ey (s:={s with heap:=h'}) e c d (by decide) ⟨x,H,I1,ru,⟨Z,λys hy=>by rw[I.Ke hy hq];exact hx⟩,st',λb hb=>(hf b hb).1⟩⟩
 done:=by
  intro X hP hw hK hc i pins s σ H E I hf st hg;subst hP hw hK;obtain⟨xs,hq,hx⟩:=hg;obtain⟨its,rv,p,hz⟩:=I.tuple hq;obtain⟨f0,f1,f2,f3,f4,f5⟩:=hf it (by simp);have hl:=rv.length;exact wpAny_pyNext_tuple_end (I.ok.hd hc) st (show s.heap.IsTuple a its.toArray from p) (by simp;lia) λh' eb=>⟨Z,I.turned (t':=s.toks) (λb o hb e=>eb b o hb e) f0 f1 f3 f4 f5⟩
 self:=λ_ _ _ _ _ st h=>wpAny_pyIter_tupleiter st h
theorem Gk{P:Program}{w:World}{K:PySem.W.Frag}{tg:Expr}(it:Addr)(lo:Int)(n:Nat):Turn P w K tg (Vu lo n) [it] it (λi h=>IsRangeIter h it (lo+(i:Nat)*1) ((n:Int) - (i:Nat)) 1) where
 mem:=by simp
 obj:=λi h st b hb=>by
  have e:b=it:=by simpa using hb
  subst e
  exact⟨_,st,λv z=>by
   have z':Data.fields _=Data.cell v:=z;cases z'⟩
 keep:=λi h h' st k=>k it (by simp) _ st
 item:=by
  intro X hP hw hK hc i pins s σ H E I hf st hg;subst hP hw hK;obtain⟨f0,f1,f2,f3,f4,f5⟩:=hf it (by simp);have W:=Walks.range (prog:=X.prog) (w:=X.w) (I.ok.hd hc) it lo 1 n;refine W.item i s _ _ hg st λv h' tk hv st' kk=>?_;obtain⟨t,rfl⟩:=hv;have I1:Inv X pins σ H {s with heap:=h',toks:=tk}:=I.turned (λb o hb e=>kk b o (by simpa using hb) e) f0 f1 f3 f4 f5;refine⟨_,Z,Ey (s:={s with heap:=h',toks:=tk}) (n:= "range_iterator") st' rfl rfl (by decide) ⟨.int (lo+i),H,I1,⟨t, ?_⟩,⟨Z,Z⟩,st',λb hb=>(hf b hb).1⟩⟩;rw[Int.mul_one]
 done:=by
  intro X hP hw hK hc i pins s σ H E I hf st hg;subst hP hw hK;obtain⟨f0,f1,f2,f3,f4,f5⟩:=hf it (by simp);exact wpAny_pyNext_range_end (I.ok.hd hc) st (by have:n<=i:=hg;lia) λh' eb=>⟨Z,I.turned (t':=s.toks) (λb o hb e=>eb b o hb e) f0 f1 f3 f4 f5⟩
 self:=λ_ _ _ _ _ st h=>wpAny_pyIter_rangeiter st h
section
variable{X:Cx}{tg:Expr}
noncomputable def Wc(K:PySem.W.Frag)(tl:TE):TI:=λσ H R=>tl σ H λx H1=>∃a,x = .ref a/\(∃xs,bH K H1 a xs)/\R (Mt K a) H1
noncomputable def abu(K:PySem.W.Frag)(tl:TE):TI:=λσ H R=>tl σ H λx H1=>∃a,x = .ref a/\(∃xs,cH K H1 a xs)/\R (Itt K a) H1
theorem TJ{l:Expr}{tl:TE}(hl:PE X l tl):PI X tg l (Wc X.K tl):=by
 intro pins s σ H R I h;refine cX (hl pins s σ H _ I h) λv s1 gw=>?_;obtain⟨x,H1,I1,r1,q1⟩:=gw;obtain⟨a,e,⟨xs,hq⟩,q⟩:=q1;subst e;cases r1;obtain⟨its,rv,p,hz⟩:=I1.list hq;refine wpAny_pyIter_list p.isList ?_;refine⟨s1.heap.objs.size,[s1.heap.objs.size],_,_,H1,Z,I1.kept (t':=s1.toks) λb o e=>aai _ e,Kd a _,⟨_,aaj _ rfl,Z,Z⟩,λb hb=>?_,q⟩;have e:b=s1.heap.objs.size:=by simpa using hb
 subst e;exact I1.HJ (aar _) (I1.hok.fresh (aar _))
theorem XM{l:Expr}{tl:TE}(hl:PE X l tl):PI X tg l (abu X.K tl):=by
 intro pins s σ H R I h;refine cX (hl pins s σ H _ I h) λv s1 gw=>?_;obtain⟨x,H1,I1,r1,q1⟩:=gw;obtain⟨a,e,⟨xs,hq⟩,q⟩:=q1;subst e;cases r1;obtain⟨its,rv,p,hz⟩:=I1.tuple hq;refine wpAny_pyIter_tuple (show s1.heap.IsTuple a its.toArray from p) ?_;refine⟨s1.heap.objs.size,[s1.heap.objs.size],_,_,H1,Z,I1.kept (t':=s1.toks) λb o e=>aai _ e,Gj a _,⟨_,aaj _ rfl,Z,Z⟩,λb hb=>?_,q⟩;have e:b=s1.heap.objs.size:=by simpa using hb
 subst e;exact I1.HJ (aar _) (I1.hok.fresh (aar _))
theorem NK{pins:List (Addr×Obj)}{σ:St}{H:Hp}{s:Shared}{R:It->Hp->Prop}{E:Value->Shared->Prop}{lo hi:Int}{t u v:Tok}{tk:Nat}(I:Inv X pins σ H s)(h1: -(2 ^ 62)<=lo)(h2:lo<2 ^ 62)(h3: -(2 ^ 62)<=hi)(h4:hi<2 ^ 62)(q:R (Vu lo (hi - lo).toNat) H):wpAny (model X.prog X.w) X.A (pyIter (.ref s.heap.objs.size)) (PIE X pins σ tg R) E {s with heap:=s.heap.push {cls:= .type "range",data:= .fields #[.int lo t,.int hi u,.int 1 v]},toks:=tk}:=by
 refine wpAny_pyIter_range (IsRange.new ..) (small_one h1 h2 h3 h4) ?_;have I1:Inv X pins σ H {s with heap:=s.heap.push {cls:= .type "range",data:= .fields #[.int lo t,.int hi u,.int 1 v]},toks:=tk}:=I.kept λb o e=>aai _ e
 refine⟨(s.heap.push {cls:= .type "range",data:= .fields #[.int lo t,.int hi u,.int 1 v]}).objs.size,[(s.heap.push {cls:= .type "range",data:= .fields #[.int lo t,.int hi u,.int 1 v]}).objs.size],_,_,H,Z,
  I1.kept (t':=tk) λb o e=>aai _ e,Gk _ lo (hi - lo).toNat, ?_,λb hb=>?_,q⟩
 .have e1:lo+((0:Nat):Int)*1=lo:=by simp
  have e2:(((hi - lo).toNat:Nat):Int) - ((0:Nat):Int)=Builtin.Range.rangeSize lo hi 1:=by rw[rangeSize_one];split<;>lia
  show IsRangeIter _ _ (lo+((0:Nat):Int)*1) ((((hi - lo).toNat:Nat):Int) - ((0:Nat):Int)) 1;rw[e1,e2];exact aaj _ rfl
 .have e:b=(s.heap.push {cls:= .type "range",data:= .fields #[.int lo t,.int hi u,.int 1 v]}).objs.size:=by simpa using hb
  subst e;exact I1.HJ (aar _) (I1.hok.fresh (aar _))
noncomputable def abv(ta:TA):TI:=λσ H R=>ta σ H λvs H1=>∃j:Int,vs=[.int j] /\ -(2 ^ 62)<=j/\j<2 ^ 62/\R (Vu 0 j.toNat) H1
theorem eZ{a:Expr}{ta:TA}{p pos:Pos}(hg:Gl X "range")(hm:X.mg "range" = none)(ha:PA X [a] ta)(hs:starEach [a] X.env=[(false,eval a X.env)]:=by rfl):PI X tg (.Call (.Name "range" p) [a] [] pos) (abv ta):=by
 intro pins s σ H R I h;refine Call_ (wY I hg hm boot_range (PyProof.Rows.callWith_type1 (cX (ha pos pins s σ H _ I h) λus s1 ⟨vs,H1,I1,r1,q1⟩=>?_) hs rfl));obtain⟨j,e,q1,q2,q⟩:=q1;subst e;cases r1 with
 | cons r rr=>
   cases rr;obtain⟨t,rfl⟩:=r;exact call_range_1 (NK I1 (by lia) (by lia) q1 q2 (by simpa using q))
noncomputable def aeH(wi:TI)(g:TG)(tb:TS):TS:=λD σ H=>wi σ H λJ H1=>∃W:Nat->Nat->St->Hp->Prop,(∃m,W 0 m σ H1) /\ ∀i m σ H,W i m σ H ->
 (J.stop i H/\D.nx σ H)\/(J.go i H /\ ∃N:St->Hp->Prop,(∀σ' H',N σ' H' -> ∃m',m'<m/\W (i+1) m' σ' H') /\ ∀x H',J.yld i H x H'->g x σ H' λσ2 H2=>tb {D with nx:=N,ct:=N,bk:=D.nx} σ2 H2)
noncomputable def wC(fp:List Addr)(h:Heap):List (Addr×Obj):=fp.filterMap λb=>(h.get? b).map λo=>(b,o)
theorem mL{fp:List Addr}{h:Heap}{b:Addr}{o:Obj}(hb:b∈fp)(e:h.get? b=some o):(b,o)∈wC fp h:=List.mem_filterMap.mpr ⟨b,hb,by rw[e];rfl⟩
theorem KZ{fp:List Addr}{h:Heap}{p:Addr×Obj}(hp:p∈wC fp h):p.1∈fp/\h.get? p.1=some p.2:=by
 obtain⟨b,hb,e⟩:=List.mem_filterMap.mp hp;cases q:h.get? b with
 | none=>rw[q] at e;cases e
 | some o=>
   rw[q] at e;have e':(b,o)=p:=aa6 e;subst e';exact⟨hb,q⟩
theorem Inv.pinned{pins:List (Addr×Obj)}{σ:St}{H:Hp}{s:Shared}{fp:List Addr}(I:Inv X pins σ H s)(hf:∀b∈fp,qI X pins H b)(ho:∀b∈fp,∃o,s.heap.get? b=some o /\ ∀v,o.data ≠ .cell v):Inv X (pins++wC fp s.heap) σ H s:=
 I.Jr λp hp=>(abF.mp hp).elim (λz=>I.pin p (List.mem_append_right _ z)) λz=>by
  obtain⟨hb,e⟩:=KZ z;obtain⟨f0,f1,f2,_⟩:=hf p.1 hb;obtain⟨o,e',d⟩:=ho p.1 hb;rw[e] at e';cases e';exact⟨e,f0,f1,f2,d⟩
theorem Inv.qN{pins pl:List (Addr×Obj)}{σ:St}{H:Hp}{s:Shared}(I:Inv X (pins++pl) σ H s):Inv X pins σ H s:=I.Jr λp hp=>I.pin p (List.mem_append_right _ (List.mem_append_left _ hp))
theorem mJ{iter:Expr}{body:List Stmt}{wi:TI}{g:TG}{tb:TS}{pos:Pos}(hp:PassesOwn (model X.prog X.w) X.A X.env X.xe)(hc:X.calm=true)(hi:PI X tg iter wi)(hg:PG X tg g)(hb:Df X body tb)(hs:∀x,foldedSetIterable iter X.env x=pure x:=by intro _;rfl):PS X (.For tg iter body [] pos) (aeH wi g tb):=by
 intro pins s σ H D I h;refine wpAny_For (cX (hi pins s σ H _ I h) λv s1 h1=>cX h1 λitv s2 h2=>?_) hs;obtain⟨it,fp,tn,J,H2,e,I2,T,st2,f2,W,⟨m0,w0⟩,turn⟩:=h2;subst e;have stat:∀{H':Hp},(∀b∈fp,H' b=none) -> ∀b∈fp,qI X pins H' b:=λhn b hb=>⟨hn b hb,(f2 b hb).2⟩;refine codeAny_forLoop_any (λn s'=>∃i σ' H',Inv X pins σ' H' s'/\tn i s'.heap/\(∀b∈fp,H' b=none)/\W i n σ' H') ?_ m0 ⟨0,σ,H2,I2,st2,λb hb=>(f2 b hb).1,w0⟩;rintro n s3 ⟨i,σ3,H3,I3,st3,fr3,w3⟩;rcases turn i n σ3 H3 w3 with ⟨stop,qn⟩|⟨go,N,hN,step⟩
 .refine wpAny_passesOwn hp (cX (T.done X rfl rfl rfl hc i pins s3 σ3 H3 X.xe I3 (stat fr3) st3 stop) λr s4 ⟨hr,I4⟩=>?_)
  subst hr;exact wpAny_execs_nil ⟨σ3,H3,I4,qn⟩
 .refine wpAny_passesOwn hp (cX (T.item X rfl rfl rfl hc i pins s3 σ3 H3 X.xe I3 (stat fr3) st3 go) λr s4 ⟨u,hr,h4⟩=>?_)
  subst hr;refine wpAny_passesOwn hp (cX h4 λ_ s5 gw=>?_);obtain⟨x,H5,I5,r5,y5,SX,fr5⟩:=gw;have I5':=I5.pinned (stat fr5) (T.obj _ _ SX);refine wpAny_passesOwn hp (cX (hg _ s5 σ3 H5 x u _ I5' r5 (step x H5 y5)) λ_ s6 gw=>?_);obtain⟨σ6,H6,I6,q6⟩:=gw;refine wpAny_passesOwn hp (cX (hb _ s6 σ6 H6 _ I6 q6) λf s7 q7=>?_)
  have again:∀{σ7:St}{H7:Hp},Inv X (pins++wC fp s5.heap) σ7 H7 s7->N σ7 H7 -> ∃m,m<n /\ ∃i σ' H',Inv X pins σ' H' s7/\tn i s7.heap/\(∀b∈fp,H' b=none)/\W i m σ' H':=fun {σ7 H7} I7 n7=>by
   obtain⟨m',hm,w7⟩:=hN σ7 H7 n7;refine⟨m',hm,i+1,σ7,H7,I7.qN,T.keep _ _ _ SX λb hb o e=>(I7.pin (b,o) (List.mem_append_right _ (List.mem_append_right _ (mL hb e)))).1,λb hb=>?_,w7⟩;obtain⟨o,e,d⟩:=T.obj _ _ SX b hb;exact(I7.pin (b,o) (List.mem_append_right _ (List.mem_append_right _ (mL hb e)))).2.1
  cases f with
  | next=>obtain⟨σ7,H7,I7,n7⟩:=q7;exact again I7 n7
  | cont=>obtain⟨σ7,H7,I7,n7⟩:=q7;exact again I7 n7
  | brk=>obtain⟨σ7,H7,I7,q7⟩:=q7;exact⟨σ7,H7,I7.qN,q7⟩
  | ret v=>obtain⟨x7,σ7,H7,I7,r7,q7⟩:=q7;exact⟨x7,σ7,H7,I7.qN,r7,q7⟩
end
theorem oK{K:PySem.W.Frag}{a:Addr}{xs:List V}{g:TG}{tb:TS}{D:Ends}{σ:St}{H:Hp}(Pv:Nat->St->Hp->Prop)(h0:Pv 0 σ H)(hl:∀i σ H,i<=xs.length->Pv i σ H->bH K H a xs)(hs:∀i x σ H,xs[i]? = some x->Pv i σ H->g x σ H λσ2 H2=>tb {D with nx:=Pv (i+1),ct:=Pv (i+1),bk:=D.nx} σ2 H2)(hd:∀σ H,Pv xs.length σ H->D.nx σ H):
 ∃W:Nat->Nat->St->Hp->Prop,(∃m,W 0 m σ H) /\ ∀i m σ H,W i m σ H ->
  ((Mt K a).stop i H/\D.nx σ H)\/((Mt K a).go i H /\ ∃N:St->Hp->Prop,(∀σ' H',N σ' H' -> ∃m',m'<m/\W (i+1) m' σ' H') /\ ∀x H',(Mt K a).yld i H x H'->g x σ H' λσ2 H2=>tb {D with nx:=N,ct:=N,bk:=D.nx} σ2 H2):=by
 refine⟨λi m σ H=>m=xs.length - i/\i<=xs.length/\Pv i σ H,⟨xs.length,by simp,Nat.zero_le _,h0⟩, ?_⟩;rintro i m σ H ⟨rfl,hi,p⟩;have q:=hl i σ H hi p
 by_cases hlt:i<xs.length
 .refine .inr ⟨⟨xs,xs[i],q,by simp[hlt]⟩,Pv (i+1),λσ' H' p'=>⟨xs.length - (i+1),by lia,Z,hlt,p'⟩,λx H' y=>?_⟩
  obtain⟨e,y⟩:=y;subst e;exact hs i x σ _ (y xs q) p
 .have e:i=xs.length:=by lia
  subst e;exact .inl ⟨⟨xs,q,aar _⟩,hd σ H p⟩
theorem pN{lo:Int}{n:Nat}{g:TG}{tb:TS}{D:Ends}{σ:St}{H:Hp}(Pv:Nat->St->Hp->Prop)(h0:Pv 0 σ H)(hs:∀i σ H,i<n->Pv i σ H->g (.int (lo+i)) σ H λσ2 H2=>tb {D with nx:=Pv (i+1),ct:=Pv (i+1),bk:=D.nx} σ2 H2)(hd:∀σ H,Pv n σ H->D.nx σ H):
 ∃W:Nat->Nat->St->Hp->Prop,(∃m,W 0 m σ H) /\ ∀i m σ H,W i m σ H ->
  ((Vu lo n).stop i H/\D.nx σ H)\/((Vu lo n).go i H /\ ∃N:St->Hp->Prop,(∀σ' H',N σ' H' -> ∃m',m'<m/\W (i+1) m' σ' H') /\ ∀x H',(Vu lo n).yld i H x H'->g x σ H' λσ2 H2=>tb {D with nx:=N,ct:=N,bk:=D.nx} σ2 H2):=by
 refine⟨λi m σ H=>m=n - i/\i<=n/\Pv i σ H,⟨n,by simp,Nat.zero_le _,h0⟩, ?_⟩;rintro i m σ H ⟨rfl,hi,p⟩
 by_cases hlt:i<n
 .refine .inr ⟨hlt,Pv (i+1),λσ' H' p'=>⟨n - (i+1),by lia,Z,hlt,p'⟩,λx H' y=>?_⟩
  obtain⟨e,y⟩:=y;subst e y;exact hs i σ _ hlt p
 .have e:i=n:=by lia
  subst e;exact .inl ⟨aar _,hd σ H p⟩
noncomputable abbrev R2:=V->V->Hp->VK->Prop
noncomputable def nF(X:Cx)(f:Value->Value->Sem Value)(r:R2):Prop:=
 ∀(pins:List (Addr×Obj))(s:Shared)(σ:St)(H:Hp)(x y:V)(v u:Value)(Q:VK),Inv X pins σ H s->RelV x v->RelV y u->r x y H Q ->
  wpAny (model X.prog X.w) X.A (f v u) (EP X pins σ Q) X.xe s
noncomputable def UnR(X:Cx)(f:Value->Sem Value)(r:V->Hp->VK->Prop):Prop:=
 ∀(pins:List (Addr×Obj))(s:Shared)(σ:St)(H:Hp)(x:V)(v:Value)(Q:VK),Inv X pins σ H s->RelV x v->r x H Q ->
  wpAny (model X.prog X.w) X.A (f v) (EP X pins σ Q) X.xe s
noncomputable def jy(X:Cx)(f:Value)(r:List V->Hp->VK->Prop):Prop:=
 ∀(pins:List (Addr×Obj))(s:Shared)(σ:St)(H:Hp)(xs:List V)(us:List Value)(Q:VK),Inv X pins σ H s->Vals xs us->r xs H Q ->
  wpAny (model X.prog X.w) X.A (call f us) (EP X pins σ Q) X.xe s
noncomputable def ahl(X:Cx)(r:V->Hp->(Bool->Hp->Prop)->Prop):Prop:=
 ∀(pins:List (Addr×Obj))(s:Shared)(σ:St)(H:Hp)(x:V)(v:Value)(Q:Bool->Hp->Prop),Inv X pins σ H s->RelV x v->r x H Q ->
  wpAny (model X.prog X.w) X.A (truthy v) (TP X pins σ Q) X.xe s
noncomputable def tOp(r:R2)(ta tb:TE):TE:=λσ H Q=>ta σ H λx H1=>tb σ H1 λy H2=>r x y H2 Q
noncomputable def tUn(r:V->Hp->VK->Prop)(ta:TE):TE:=λσ H Q=>ta σ H λx H1=>r x H1 Q
noncomputable def rI(C:Int->Int->Prop)(g:Int->Int->V):R2:=λx y H Q=>∃i j,x = .int i/\y = .int j/\C i j/\Q (g i j) H
noncomputable def VP(g:Int->Int->V):R2:=λx y H Q=>∃i j,x = .int i/\y = .int j/\Q (g i j) H
noncomputable def rU(g:Int->V):V->Hp->VK->Prop:=λx H Q=>∃i,x = .int i/\Q (g i) H
section
variable{X:Cx}{a b c:Expr}{ta tb tc:TE}{pos:Pos}
theorem Zm(ha:PE X a ta)(hb:PE X b tb){pins:List (Addr×Obj)}{s:Shared}{σ:St}{H:Hp}{R:V->V->Hp->Prop}(I:Inv X pins σ H s)(h:ta σ H λx H1=>tb σ H1 λy H2=>R x y H2){Q:Value->Shared->Prop}{f:Value->Value->Sem Value}(hf:∀v u s2 x y H2,Inv X pins σ H2 s2->RelV x v->RelV y u->R x y H2->wpAny (model X.prog X.w) X.A (f v u) Q X.xe s2):
 wpAny (model X.prog X.w) X.A (eval a X.env) (λv s₁=>wpAny (model X.prog X.w) X.A (eval b X.env) (λu s₂=>wpAny (model X.prog X.w) X.A (f v u) Q X.xe s₂) X.xe s₁) X.xe s:=by
 refine cX (ha pins s σ H _ I h) λv s1 gw=>?_;obtain⟨x,H1,I1,r1,q1⟩:=gw;refine cX (hb pins s1 σ H1 _ I1 q1) λu s2 gw=>?_;obtain⟨y,H2,I2,r2,q2⟩:=gw;exact hf v u s2 x y H2 I2 r1 r2 q2
theorem bM{op:Operator}{r:R2}(ho:nF X (binaryOp op) r)(ha:PE X a ta)(hb:PE X b tb):PE X (.BinOp a op b pos) (tOp r ta tb):=by
 intro pins s σ H Q I h;exact wpAny_BinOp (Zm ha hb I h λv u s2 x y H2 I2 rx ry q=>ho pins s2 σ H2 x y v u Q I2 rx ry q)
theorem Ob{op:UnaryOp}{r:V->Hp->VK->Prop}(ho:UnR X (unaryOp op) r)(ha:PE X a ta):PE X (.UnaryOp op a pos) (tUn r ta):=by
 intro pins s σ H Q I h;exact UnaryOp_ (cX (ha pins s σ H _ I h) λv s1 ⟨x,H1,I1,r1,q1⟩=>ho pins s1 σ H1 x v Q I1 r1 q1)
theorem ZJ{f:Value->Value->Sem Value}{C:Int->Int->Prop}{g:Int->Int->Int}(rule:∀(i j:Int)(t u:Tok)(s:Shared)(Q:Value->Shared->Prop)(E:Value->Shared->Prop),C i j->Q (.int (g i j) s.toks) {s with toks:=s.toks+1}->wpAny (model X.prog X.w) X.A (f (.int i t) (.int j u)) Q E s):
 nF X f (rI C λi j=> .int (g i j)):=by
 intro pins s σ H x y v u Q I rx ry h;obtain⟨i,j,rfl,rfl,hc,q⟩:=h;obtain⟨t,rfl⟩:=rx;obtain⟨t',rfl⟩:=ry;exact rule i j t t' s _ _ hc ⟨.int (g i j),H,I.tok _,⟨_,Z⟩,q⟩
theorem aa0{f:Value->Value->Sem Value}{g:Int->Int->Int}(rule:∀(i j:Int)(t u:Tok)(s:Shared)(Q:Value->Shared->Prop)(E:Value->Shared->Prop),Q (.int (g i j) s.toks) {s with toks:=s.toks+1}->wpAny (model X.prog X.w) X.A (f (.int i t) (.int j u)) Q E s):
 nF X f (VP λi j=> .int (g i j)):=by
 intro pins s σ H x y v u Q I rx ry h;obtain⟨i,j,rfl,rfl,q⟩:=h;obtain⟨t,rfl⟩:=rx;obtain⟨t',rfl⟩:=ry;exact rule i j t t' s _ _ ⟨.int (g i j),H,I.tok _,⟨_,Z⟩,q⟩
theorem Ub{f:Value->Value->Sem Value}{g:Int->Int->Bool}(rule:∀(i j:Int)(t u:Tok)(s:Shared)(Q:Value->Shared->Prop)(E:Value->Shared->Prop),Q (.bool (g i j)) s->wpAny (model X.prog X.w) X.A (f (.int i t) (.int j u)) Q E s):
 nF X f (VP λi j=> .bl (g i j)):=by
 intro pins s σ H x y v u Q I rx ry h;obtain⟨i,j,rfl,rfl,q⟩:=h;obtain⟨t,rfl⟩:=rx;obtain⟨t',rfl⟩:=ry;exact rule i j t t' s _ _ ⟨.bl (g i j),H,I,Z,q⟩
noncomputable def ahB(i j:Int):Prop:=0<j/\j<1073741824
noncomputable def CZ(i j:Int):Prop:=0<=j/\j<=1000000/\i.natAbs<2 ^ 64
noncomputable def Zz(i j:Int):Prop:=(-(2 ^ 64)<i/\i<2 ^ 64)\/(-(2 ^ 64)<j/\j<2 ^ 64)
theorem Zz.ok{i j:Int}(h:Zz i j):IntMulOk i j:=by
 rcases h with ⟨h1,h2⟩|⟨h1,h2⟩
 .exact .of_left (intBits_le_64 h1 h2)
 .exact .of_right (intBits_le_64 h1 h2)
theorem iI:nF X (binaryOp .Add) (VP λi j=> .int (i+j)):=aa0 λ_ _ _ _ _ _ _ q=>add_int q
theorem oE:nF X (binaryOp .Sub) (VP λi j=> .int (i - j)):=aa0 λ_ _ _ _ _ _ _ q=>sub_int q
theorem Bu:nF X (binaryOp .Mult) (rI Zz λi j=> .int (i*j)):=ZJ λ_ _ _ _ _ _ _ hc q=>mul_int q hc.ok
theorem T_:nF X (binaryOp .FloorDiv) (rI ahB λi j=> .int (i / j)):=ZJ λi j _ _ _ _ _ hc q=>by
 have h1:(0:Int)<j:=hc.1;have h2:j<1073741824:=hc.2;exact floordiv_int (by lia) (by rw[Int.fdiv_eq_ediv_of_nonneg i (by lia)];exact q) (.inl (PyProof.noPylong_small (by lia)))
theorem lD:nF X (binaryOp .Mod) (rI (λ_ j=>0<j) λi j=> .int (i % j)):=ZJ λi j _ _ _ _ _ hc q=>by
 have h1:(0:Int)<j:=hc;exact mod_int' (by lia) (by rw[Int.fmod_eq_emod_of_nonneg i (by lia)];exact q)
theorem lB:nF X (binaryOp .Pow) (rI CZ λi j=> .int (i ^ j.toNat)):=ZJ λ_ _ _ _ _ _ _ hc q=>pow_int_small hc.1 hc.2.1 hc.2.2 q
theorem unI{f:Value->Sem Value}{g:Int->Int}(rule:∀(i:Int)(t:Tok)(s:Shared)(Q:Value->Shared->Prop)(E:Value->Shared->Prop),Q (.int (g i) s.toks) {s with toks:=s.toks+1}->wpAny (model X.prog X.w) X.A (f (.int i t)) Q E s):
 UnR X f (rU λi=> .int (g i)):=by
 intro pins s σ H x v Q I rx h;obtain⟨i,rfl,q⟩:=h;obtain⟨t,rfl⟩:=rx;exact rule i t s _ _ ⟨.int (g i),H,I.tok _,⟨_,Z⟩,q⟩
theorem Gi:UnR X (unaryOp .USub) (rU λi=> .int (-i)):=unI λ_ _ _ _ _ q=>neg_int q
end
noncomputable def aaJ:V->V->Bool
 | .non,.non=>true | .non,.int _=>true | .int _,.non=>true | .non,.bl _=>true | .bl _,.non=>true | .non,.str _=>true | .str _,.non=>true
 | .int _,.int _=>true | .bl _,.bl _=>true | .str _,.str _=>true | .Ig _,.Ig _=>true
 | .int _,.str _=>true | .str _,.int _=>true | .bl _,.str _=>true | .str _,.bl _=>true
 | _,_=>false
noncomputable def rEq:R2:=λx y H Q=>aaJ x y=true/\Q (.bl (decide (x=y))) H
noncomputable def rNe:R2:=λx y H Q=>aaJ x y=true/\Q (.bl (!decide (x=y))) H
theorem JT{i j:Int}:decide (V.int i=V.int j)=(i==j):=by
 rw[Bool.eq_iff_iff];simp
theorem QC{i j:Bool}:decide (V.bl i=V.bl j)=(i==j):=by
 rw[Bool.eq_iff_iff];simp
theorem JR{i j:Str}:decide (V.str i=V.str j)=(i==j):=by
 rw[Bool.eq_iff_iff];simp
theorem JV{i j:Array UInt8}:decide (V.Ig i=V.Ig j)=(i.toList==j.toList):=by
 rw[Bool.eq_iff_iff];cases i;cases j;simp
section
variable{X:Cx}{a b c:Expr}{ta tb tc:TE}{pos:Pos}
theorem b_{pins:List (Addr×Obj)}{σ:St}{H:Hp}{s:Shared}{Q:VK}{k k':Bool}(I:Inv X pins σ H s)(q:Q (.bl k) H)(e:k=k'):EP X pins σ Q (.bool k') s:=by
 subst e;exact⟨.bl k,H,I,Z,q⟩
theorem eF:nF X (compareOp .Eq) rEq:=by
 intro pins s σ H x y v u Q I rx ry h;obtain⟨hs,q⟩:=h;cases x with
 | non=>
   cases rx;cases y with
   | non=>cases ry;exact PySem.EqNone.eq_none_none (b_ I q (by simp))
   | bl j=>cases ry;exact PySem.EqNone.eq_none_bool (b_ I q (by simp))
   | int j=>obtain⟨t',rfl⟩:=ry;exact PySem.EqNone.eq_none_int (b_ I q (by simp))
   | str j=>obtain⟨t',rfl⟩:=ry;exact PySem.EqNone.eq_none_str (b_ I q (by simp))
   | _=>exact acP (show false=true from hs) aaY
 | bl i=>
   cases rx;cases y with
   | non=>cases ry;exact PySem.EqNone.eq_bool_none (b_ I q (by simp))
   | bl j=>cases ry;exact eq_bool (b_ I q QC)
   | str j=>obtain⟨t',rfl⟩:=ry;exact PySem.EqMixed.eq_bool_str (b_ I q (by simp))
   | _=>exact acP (show false=true from hs) aaY
 | int i=>
   obtain⟨t,rfl⟩:=rx;cases y with
   | non=>cases ry;exact PySem.EqNone.eq_int_none (b_ I q (by simp))
   | int j=>obtain⟨t',rfl⟩:=ry;exact eq_int (b_ I q JT)
   | str j=>obtain⟨t',rfl⟩:=ry;exact PySem.EqMixed.eq_int_str (b_ I q (by simp))
   | _=>exact acP (show false=true from hs) aaY
 | str i=>
   obtain⟨t,rfl⟩:=rx;cases y with
   | non=>cases ry;exact PySem.EqNone.eq_str_none (b_ I q (by simp))
   | bl j=>cases ry;exact PySem.EqMixed.eq_str_bool (b_ I q (by simp))
   | int j=>obtain⟨t',rfl⟩:=ry;exact PySem.EqMixed.eq_str_int (b_ I q (by simp))
   | str j=>obtain⟨t',rfl⟩:=ry;exact eq_str (b_ I q JR)
   | _=>exact acP (show false=true from hs) aaY
 | Ig i=>
   obtain⟨t,rfl⟩:=rx;cases y with
   | Ig j=>obtain⟨t',rfl⟩:=ry;exact PySem.W.eq_bytes (b_ I q JV)
   | _=>exact acP (show false=true from hs) aaY
 | _=>cases y<;>exact acP (show false=true from hs) aaY
theorem rM:nF X (compareOp .NotEq) rNe:=by
 intro pins s σ H x y v u Q I rx ry h;obtain⟨hs,q⟩:=h;cases x with
 | non=>
   cases rx;cases y with
   | non=>cases ry;exact PySem.EqNone.ne_none_none (b_ I q (by simp))
   | bl j=>cases ry;exact PySem.EqNone.ne_none_bool (b_ I q (by simp))
   | int j=>obtain⟨t',rfl⟩:=ry;exact PySem.EqNone.ne_none_int (b_ I q (by simp))
   | str j=>obtain⟨t',rfl⟩:=ry;exact PySem.EqNone.ne_none_str (b_ I q (by simp))
   | _=>exact acP (show false=true from hs) aaY
 | bl i=>
   cases rx;cases y with
   | non=>cases ry;exact PySem.EqNone.ne_bool_none (b_ I q (by simp))
   | bl j=>cases ry;exact ne_bool (b_ I q (congrArg not QC))
   | str j=>obtain⟨t',rfl⟩:=ry;exact PySem.EqMixed.ne_bool_str (b_ I q (by simp))
   | _=>exact acP (show false=true from hs) aaY
 | int i=>
   obtain⟨t,rfl⟩:=rx;cases y with
   | non=>cases ry;exact PySem.EqNone.ne_int_none (b_ I q (by simp))
   | int j=>obtain⟨t',rfl⟩:=ry;exact ne_int (b_ I q (congrArg not JT))
   | str j=>obtain⟨t',rfl⟩:=ry;exact PySem.EqMixed.ne_int_str (b_ I q (by simp))
   | _=>exact acP (show false=true from hs) aaY
 | str i=>
   obtain⟨t,rfl⟩:=rx;cases y with
   | non=>cases ry;exact PySem.EqNone.ne_str_none (b_ I q (by simp))
   | bl j=>cases ry;exact PySem.EqMixed.ne_str_bool (b_ I q (by simp))
   | int j=>obtain⟨t',rfl⟩:=ry;exact PySem.EqMixed.ne_str_int (b_ I q (by simp))
   | str j=>obtain⟨t',rfl⟩:=ry;exact ne_str (b_ I q (congrArg not JR))
   | _=>exact acP (show false=true from hs) aaY
 | Ig i=>
   obtain⟨t,rfl⟩:=rx;cases y with
   | Ig j=>obtain⟨t',rfl⟩:=ry;exact PySem.W.ne_bytes (b_ I q (congrArg not JV))
   | _=>exact acP (show false=true from hs) aaY
 | _=>cases y<;>exact acP (show false=true from hs) aaY
theorem uI:nF X (compareOp .Lt) (VP λi j=> .bl (decide (i<j))):=Ub λ_ _ _ _ _ _ _ q=>lt_int q
theorem V1:nF X (compareOp .LtE) (VP λi j=> .bl (decide (i<=j))):=Ub λ_ _ _ _ _ _ _ q=>le_int q
theorem V2:nF X (compareOp .Gt) (VP λi j=> .bl (decide (j<i))):=Ub λ_ _ _ _ _ _ _ q=>gt_int q
theorem V3:nF X (compareOp .GtE) (VP λi j=> .bl (decide (j<=i))):=Ub λ_ _ _ _ _ _ _ q=>ge_int q
theorem wI:nF X (compareOp .Is) (λx y H Q=>y = .non/\Q (.bl (decide (x = .non))) H):=by
 intro pins s σ H x y v u Q I rx ry h;obtain⟨rfl,q⟩:=h;cases ry;refine is_none_gen (b_ I q ?_)
 cases x<;>first
  | (cases rx;rfl)
  | (obtain⟨t,rfl⟩:=rx;rfl)
theorem Bq:nF X (compareOp .IsNot) (λx y H Q=>y = .non/\Q (.bl (!decide (x = .non))) H):=by
 intro pins s σ H x y v u Q I rx ry h;obtain⟨rfl,q⟩:=h;cases ry;refine isnot_none_gen (b_ I q ?_)
 cases x<;>first
  | (cases rx;rfl)
  | (obtain⟨t,rfl⟩:=rx;rfl)
noncomputable def isObj:HO->Bool
 | .lst _=>true
 | .ins _ _ _=>true
 | _=>false
theorem bC(b:Expr){op:CmpOp}(h:op ≠ .In:=by decide)(h2:op ≠ .NotIn:=by decide):behindInMarks op b=false:=by
 have e1:(op==CmpOp.In)=false:=by cases op<;>first |rfl|exact acP rfl h
 have e2:(op==CmpOp.NotIn)=false:=by cases op<;>first |rfl|exact acP rfl h2
 cases b<;>simp[behindInMarks,e1,e2]
theorem dZ{op:CmpOp}{r:R2}(ho:nF X (compareOp op) r)(ha:PE X a ta)(hb:PE X b tb)(hm:behindInMarks op b=false):PE X (.Compare a [op] [b] pos) (tOp r ta tb):=by
 intro pins s σ H Q I h;exact wpAny_Compare1 (Zm ha hb I h λv u s2 x y H2 I2 rx ry q=>ho pins s2 σ H2 x y v u Q I2 rx ry q) hm
noncomputable def aau(t:TE):TT:=λσ H Q=>t σ H λx H'=>∃k,x = .bl k/\Q k H'
theorem bB{op:CmpOp}{r:R2}(ho:nF X (compareOp op) r)(ha:PE X a ta)(hb:PE X b tb)(hm:behindInMarks op b=false):PT X (.Compare a [op] [b] pos) (aau (tOp r ta tb)):=by
 intro pins s σ H Q I h
 refine wpAny_isTrue_Compare1 (cX (ha pins s σ H _ I h) λv s1 ⟨x,H1,I1,r1,q1⟩=>cX (hb pins s1 σ H1 _ I1 q1) λu s2 ⟨y,H2,I2,r2,q2⟩=>
  cX (ho pins s2 σ H2 x y v u _ I2 r1 r2 q2) λc s3 ⟨z,H3,I3,r3,k,e,q3⟩=>?_) hm
 subst e;cases r3;exact wpAny_truthy_bool ⟨H3,I3,q3⟩
noncomputable def Xb(r r':R2)(ta tb tc:TE):TE:=λσ H Q=>ta σ H λx H1=>tb σ H1 λy H2=>r x y H2 λz H3=>∃k,z = .bl k /\
 (if k=true then tc σ H3 λw' H4=>r' y w' H4 Q else Q (.bl false) H3)
theorem Ol{op op':CmpOp}{r r':R2}(ho:nF X (compareOp op) r)(ho':nF X (compareOp op') r')(ha:PE X a ta)(hb:PE X b tb)(hc:PE X c tc)(hm:lastMarks [op,op'] [b,c]=false:=by with_unfolding_all rfl):PE X (.Compare a [op,op'] [b,c] pos) (Xb r r' ta tb tc):=by
 intro pins s σ H Q I h
 refine Compare_chain (cX (ha pins s σ H _ I h) λv s1 ⟨x,H1,I1,r1,q1⟩=>chain_link (cX (hb pins s1 σ H1 _ I1 q1) λu s2 ⟨y,H2,I2,r2,q2⟩=>
  cX (ho pins s2 σ H2 x y v u _ I2 r1 r2 q2) λd s3 ⟨z,H3,I3,r3,k,e,q3⟩=>?_)) hm
 subst e;cases r3;refine wpAny_truthy_bool ?_;cases k with
 | false=>exact ite_ff ⟨.bl false,H3,I3,Z,q3⟩
 | true=>exact ite_tt (chain_last (cX (hc pins s3 σ H3 _ I3 q3) λw' s4 ⟨z',H4,I4,r4,q4⟩=>ho' pins s4 σ H4 y z' u w' Q I4 r2 r4 q4))
noncomputable def Zq(K:PySem.W.Frag)(x:V)(H:Hp)(k:Bool):Prop:=
 match x with
 | .non=>k=false
 | .bl b=>k=b
 | .int i=>k=(i != 0)
 | .str y=>y.length<=sizeLine/\k=((y.length:Int) != 0)
 | .Ig y=>y.size<=sizeLine/\k=((y.size:Int) != 0)
 | .ref p=>(∃xs,bH K H p xs/\k = !xs.isEmpty)\/(∃xs,cH K H p xs/\k = !xs.isEmpty) \/ ∃kvs,H p=some (.dK kvs)/\k = !kvs.isEmpty
 | _=>False
theorem Ht{κ:Type}{kvs:List (κ×V)}{vs:List (κ×Value)}(r:KV kvs vs):(!vs.isEmpty) = !kvs.isEmpty:=by
 cases r<;>rfl
theorem xg{xs:List V}{its:List Value}(r:Vals xs its):(!its.toArray.isEmpty) = !xs.isEmpty:=by
 cases r<;>simp
theorem ug:(sizeLine:Nat)<2 ^ 63:=by rw[sizeLine_eq];decide
theorem WM:ahl X (λx H Q=>∃k,Zq X.K x H k/\Q k H):=by
 intro pins s σ H x v Q I rx h;obtain⟨k,e,q⟩:=h;have hl:=ug;have hs:sizeLine=16777216:=sizeLine_eq;cases x with
 | non=>
   cases rx;have e':k=false:=e;subst e';exact truthy_none ⟨H,I,q⟩
 | bl b=>
   cases rx;have e':k=b:=e;subst e';exact wpAny_truthy_bool ⟨H,I,q⟩
 | int i=>
   obtain⟨t,rfl⟩:=rx;have e':k=(i != 0):=e;subst e';exact PySem.P.truthy_int ⟨H,I,q⟩
 | str y=>
   obtain⟨t,rfl⟩:=rx;obtain⟨hy,e'⟩:y.length<=sizeLine/\k=((y.length:Int) != 0):=e;subst e';exact PySem.P.truthy_str (by lia) ⟨H,I.tok _,q⟩
 | Ig y=>
   obtain⟨t,rfl⟩:=rx;obtain⟨hy,e'⟩:y.size<=sizeLine/\k=((y.size:Int) != 0):=e;subst e';exact PySem.W.truthy_bytes (by lia) ⟨H,I.tok _,q⟩
 | ref p=>
   cases rx;have e':(∃xs,bH X.K H p xs/\k = !xs.isEmpty)\/(∃xs,cH X.K H p xs/\k = !xs.isEmpty) \/ ∃kvs,H p=some (.dK kvs)/\k = !kvs.isEmpty:=e;rcases e' with ⟨xs,hx,e'⟩|⟨xs,hx,e'⟩|⟨kvs,hx,e'⟩
   .subst e'
    obtain⟨its,r,pl,hz⟩:=I.list hx;have hlen:=r.length;exact wpAny_truthy_list pl.isList (by simp only[aa5];lia) ⟨H,I.tok _,by rw[xg r];exact q⟩
   .subst e'
    obtain⟨its,r,pl,hz⟩:=I.tuple hx;have hlen:=r.length;exact truthy_tuple pl (by simp only[aa5];lia) ⟨H,I.tok _,by rw[xg r];exact q⟩
   .subst e'
    obtain⟨hz,hS,vs,r,m⟩:kvs.length<=sizeLine/\(p==sysModules)=false /\ ∃vs,KV kvs vs/\s.heap.DictOf (eN X.prog X.w) p vs:=I.hok p _ hx;have hlen:kvs.length=vs.length:=Paired.length r;exact wpAny_truthy_dict hS m (by lia) ⟨H,I.tok _,by rw[Ht r];exact q⟩
 | _=>exact(show False from e).elim
theorem N6(ha:PE X a ta)(he:∀whole,isTrue a X.env whole=(do let v ←whole;standAt a.pos;holding [v] (truthy v))):
 PT X a (λσ H Q=>ta σ H λx H'=>∃k,Zq X.K x H' k/\Q k H'):=by
 intro pins s σ H Q I h;exact isTrue_plain (cX (ha pins s σ H _ I h) λv s1 ⟨x,H1,I1,r1,q1⟩=>WM pins s1 σ H1 x v Q I1 r1 q1) (he _)
theorem vals1{x:V}{us:List Value}(r:Vals [x] us):∃u,us=[u]/\RelV x u:=by
 cases r with
 | cons r1 r2=>cases r2;exact⟨_,Z,r1⟩
theorem vals2{x y:V}{us:List Value}(r:Vals [x,y] us):∃u w',us=[u,w']/\RelV x u/\RelV y w':=by
 cases r with
 | cons r1 r2=>
   cases r2 with
   | cons r3 r4=>cases r4;exact⟨_,_,Z,r1,r3⟩
theorem zT(hc:X.calm=true):jy X (.builtin "min") (λxs H Q=>∃i j,xs=[.int i,.int j]/\Q (.int (if j<i then j else i)) H):=by
 intro pins s σ H xs us Q I r h;obtain⟨i,j,rfl,q⟩:=h;obtain⟨u,w',rfl,⟨t,rfl⟩,⟨t',rfl⟩⟩:=vals2 r;refine min_two_ints (I.ok.hd hc) λh' tk k=>⟨_,H,I.kept k, ?_,q⟩
 by_cases hj:j<i
 .rw[acM hj,acM hj];exact⟨_,Z⟩
 .rw[acK hj,acK hj];exact⟨_,Z⟩
theorem uw:jy X (.type "int") (λxs H Q=>(∃i,xs=[.int i]/\Q (.int i) H) \/ ∃k,xs=[.bl k]/\Q (.int (if k then 1 else 0)) H):=by
 intro pins s σ H xs us Q I r h;rcases h with ⟨i,rfl,q⟩|⟨k,rfl,q⟩
 .obtain⟨u,rfl,t,rfl⟩:=vals1 r
  exact call_int_int ⟨.int i,H,I,⟨_,Z⟩,q⟩
 .obtain⟨u,rfl,r1⟩:=vals1 r
  cases r1;exact call_int_bool ⟨.int (if k then 1 else 0),H,I.tok _,⟨_,Z⟩,q⟩
end
structure Il(h:Heap)(x dx C:Addr)(mA:Str->Option Value):Prop where
 obj:h.get? x=some (PySem.W.instObj C dx)
 ns:h.Ns1 dx mA
 ne:dx≠x
theorem K7{h:Heap}{dx:Addr}{mA:Str->Option Value}(n:h.Ns1 dx mA):∃od,h.get? dx=some od /\ ∀name,PySem.W.lookIn name od=some (mA name):=by
 obtain⟨o,es,ep,ho,hd,hk,_,hm⟩:=n;refine⟨o,ho,λname=>?_⟩;have e:=hm name;unfold nsFind findBy at e;rw[←Array.find?_toList] at e;unfold PySem.W.lookIn;rw[hd];dsimp only;split
 .rename_i y q
  rw[q] at e;exact congrArg some e
 .rename_i q
  rw[q] at e
  have a:es.toList.any (·.refKey)=false:=by
   rw[List.any_eq_false];intro y hy;obtain⟨z,t,hkey⟩:=hk y (Array.mem_toList_iff.mp hy);simp[DictEntry.refKey,hkey]
  have a':¬es.toList.any (·.refKey)=true:=by rw[a];exact aaY
  rw[acK a'];exact congrArg some e
theorem Il.look{h:Heap}{x dx C:Addr}{mA:Str->Option Value}(I:Il h x dx C mA):∃od,PySem.W.InstAt h x (PySem.W.instObj C dx) C (some od) /\ ∀name,PySem.W.lookIn name od=some (mA name):=
 let ⟨od,ho,hl⟩:=K7 I.ns
 ⟨od,⟨I.obj,Z,Z,ho⟩,hl⟩
section
variable{prog:Program}{w:World}{A:Around}{E:Value->Shared->Prop}{s:Shared}{K:PySem.W.Frag}{x dx C f:Addr}{mA:Str->Option Value}{name:Str}{v:Value}
theorem get_map{expr:Bool}{Q:Value->Shared->Prop}(X:K.In s.heap)(I:Il s.heap x dx C mA)(hg:PySem.W.plainGet K C name=true)(hh:PySem.W.hasDictIn K C=true)(ha:PySem.W.findIn K (.ref C) name=some none)(hv:mA name=some v)(hv':PySem.W.handedIn v=true)(h:Q v {s with toks:=s.toks+1}):
 wpAny (model prog w) A (getAttr (.ref x) name expr) Q E s:=by
 obtain⟨od,J,hl⟩:=I.look;exact PySem.W.get_value X J (PySem.W.plainGet_of hg).1 (PySem.W.findObj_own hh ha rfl (by rw[hl,hv])) hv' h
theorem Qk{pl:Sem Bool}{Q:Value×List Value->Shared->Prop}(X:K.In s.heap)(I:Il s.heap x dx C mA)(hg:PySem.W.plainGet K C name=true)(hf:PySem.W.findIn K (.ref C) name=some (some (.ref f)))(ht:PySem.W.isFn K (.ref f)=true)(hv:mA name=none)(h:Q (.ref f,[.ref x]) s):
 wpAny (model prog w) A (getMethod (.ref x) name pl) Q E s:=by
 obtain⟨od,J,hl⟩:=I.look;exact PySem.W.method_fn X J (PySem.W.plainGet_of hg).1 (PySem.W.plainGet_of hg).2 hf (beq_iff_eq.mp ht) (by show (PySem.W.lookIn name od).map (·.isSome)=some false;rw[hl,hv];rfl) h
theorem S6{ns:List Str}{Q:Unit->Shared->Prop}(X:K.In s.heap)(I:Il s.heap x dx C mA)(hs:PySem.W.findIn K (.ref C) "__setattr__" = some (some (.builtin "object.__setattr__")))(hp:PySem.W.plainOver K C=true)(ht:PySem.W.takerIn K C name=some none)(hh:PySem.W.hasDictIn K C=true)(hw:PySem.Within mA ns)(hsz:ns.length<=sizeLine)(h:∀h',Il h' x dx C (λy=>if y=name then some v else mA y)->Heap.SameBut dx s.heap h'->Q () {s with heap:=h',toks:=s.toks+2}):
 wpAny (model prog w) A (setAttr (.ref x) name v) Q E s:=by
 obtain⟨od,J,hl⟩:=I.look;refine PySem.W.set_plain X J hs (PySem.W.osa_open (s:={s with toks:=s.toks+1}) (r:=none) X J hp ht λb=>?_);obtain⟨cd,hc,hd'⟩:=PySem.W.any_some hh;have hx:s.heap.get? x=some ⟨.ref C,some dx,.plain, #[]⟩:=I.obj;refine aas (aaE (aas (aas (wpAny_loadPart hx (aas (PySem.W.Looks.here (s:={s with toks:=s.toks+1}) (PySem.W.looks_clsIn X hc) ?_))))));rw[hd'];refine aaE (a:=some dx) (aas (aaE (aas ?_)));refine wpAny_nsSet1 (s:={s with toks:=s.toks+1}) I.ns λh' hn2 hs2=>?_;obtain⟨oD,esD,epD,hoD,hdD,hcD⟩:=hn2.count (PySem.Within.cons name v hw);refine aas (wpAny_lookBehind hoD (by rw[hdD];exact pastItsLine_dict (acH hcD (by rw[acw];lia))) ?_);exact aaE (h _ ⟨(hs2.2 _ (Ne.symm I.ne)).trans I.obj,hn2,I.ne⟩ hs2)
theorem En{R:Result->Shared->Prop}{vs:List Value}{kw:List (Str×Value)}(X:K.In s.heap)(hm:PySem.W.makesIn K C=true)(hi:PySem.W.findIn K (.ref C) "__init__" = some (some (.ref f)))(hf:PySem.W.typeIn K (.ref f)=some (.type "function"))(h:codeAny (model prog w) (A.under (.builtin "type.__call__" ⟨.ref C::vs,kw⟩)) (.call (.ref f) ⟨.ref (s.heap.objs.size+1)::vs,kw⟩) (PySem.W.InitBack (s.heap.objs.size+1) R)
   {s with heap:=(s.heap.push PySem.W.emptyDict).push (PySem.W.instObj C s.heap.objs.size)}):
 codeAny (model prog w) A (.call (.ref C) ⟨vs,kw⟩) R s:=by
 obtain⟨hh,g,d,t,os⟩:=s;exact PySem.W.make_core (PySem.W.makes_of X hm) (PySem.W.looks_findIn X hi) (λself=>PySem.W.bind_fn X self hf) (.inl rfl) h
end
noncomputable def bZ(f:Str)(v:V):List (Str×V)->List (Str×V)
 | []=>[(f,v)]
 | (g,x)::r=>if g=f then (g,v)::r else (g,x)::bZ f v r
theorem uJ(f g:Str)(v:V):∀fs:List (Str×V),(bZ f v fs).lookup g=if g=f then some v else fs.lookup g
 | []=>by
   show List.lookup g [(f,v)]=_
   by_cases h:g=f
   .have hb:(g==f)=true:=beq_iff_eq.mpr h
    simp only[List.lookup,hb,acM h]
   .have hb:(g==f)=false:=beq_eq_false_iff_ne.mpr h
    simp only[List.lookup,hb,acK h]
 | (k,x)::r=>by
   have ih:=uJ f g v r;rw[show bZ f v ((k,x)::r)=(if k=f then (k,v)::r else (k,x)::bZ f v r) from rfl]
   by_cases hk:k=f
   .rw[acM hk]
    by_cases h:g=k
    .have hb:(g==k)=true:=beq_iff_eq.mpr h
     simp only[List.lookup,hb,acM (h.trans hk)]
    .have hb:(g==k)=false:=beq_eq_false_iff_ne.mpr h
     simp only[List.lookup,hb,acK (λe:g=f=>h (e.trans hk.symm))]
   .rw[acK hk]
    by_cases h:g=k
    .have hb:(g==k)=true:=beq_iff_eq.mpr h
     simp only[List.lookup,hb,acK (λe:g=f=>hk (h.symm.trans e))]
    .have hb:(g==k)=false:=beq_eq_false_iff_ne.mpr h
     simp only[List.lookup,hb];exact ih
theorem uh(f:Str)(v:V):∀fs:List (Str×V),f∈(bZ f v fs).map (·.1) /\ ∀g,g∈fs.map (·.1)->g∈(bZ f v fs).map (·.1)
 | []=>⟨by simp[bZ],λg h=>by simp at h⟩
 | (k,x)::r=>by
   obtain⟨i1,i2⟩:=uh f v r;rw[show bZ f v ((k,x)::r)=(if k=f then (k,v)::r else (k,x)::bZ f v r) from rfl]
   by_cases hk:k=f
   .rw[acM hk]
    subst hk;exact⟨by simp,λg h=>by simpa using h⟩
   .rw[acK hk]
    refine⟨?_,λg h=>?_⟩
    .rw[List.map_cons]
     exact aby _ i1
    .rw[List.map_cons] at h ⊢
     rcases List.mem_cons.mp h with e|e
     .exact List.mem_cons.mpr (.inl e)
     .exact aby _ (i2 g e)
theorem uL(f:Str)(v:V):∀fs:List (Str×V),(bZ f v fs).length<=fs.length+1
 | []=>by simp[bZ]
 | (k,x)::r=>by
   have ih:=uL f v r;rw[show bZ f v ((k,x)::r)=(if k=f then (k,v)::r else (k,x)::bZ f v r) from rfl]
   by_cases hk:k=f
   .rw[acM hk,acw,acw];lia
   .rw[acK hk,acw,acw];lia
theorem nA.some_of{v:V}{o:Option Value}(r:nA (some v) o):∃u,o=some u/\RelV v u:=by
 cases o with
 | none=>exact(show False from r).elim
 | some u=>exact⟨u,Z,r⟩
theorem nA.none_of{o:Option Value}(r:nA none o):o=none:=by
 cases o with
 | none=>rfl
 | some u=>exact(show False from r).elim
theorem Li{v:V}{u:Value}(r:RelV v u):PySem.W.handedIn u=true:=by
 cases v with
 | non=>cases (show u=Value.none from r);rfl
 | bl b=>cases (show u=Value.bool b from r);rfl
 | int i=>obtain⟨t,e⟩:=(show ∃t,u=Value.int i t from r);cases e;rfl
 | str x=>obtain⟨t,e⟩:=(show ∃t,u=Value.str x t from r);cases e;rfl
 | Ig b=>obtain⟨t,e⟩:=(show ∃t,u=Value.bytes b t from r);cases e;rfl
 | flt b=>obtain⟨t,e⟩:=(show ∃t,u=Value.float b t from r);cases e;rfl
 | ref a=>cases (show u=Value.ref a from r);rfl
 | ty n=>cases (show u=Value.type n from r);rfl
section
variable{P:Program}{w:World}{H H':Hp}{h h':Heap}{a C dx:Addr}{fs fs':List (Str×V)}
theorem pL(hok:jU P w H h)(e:H a=some (.ins C dx fs)):∃mA,Il h a dx C mA/\(∀f,nA (fs.lookup f) (mA f))/\PySem.Within mA (fs.map (·.1))/\fs.length<=1000/\H dx=some (.own a):=by
 obtain⟨d,z,ne,ob,mA,n,r,q⟩:=(show cP P w H h a (.ins C dx fs) from hok a _ e);exact⟨mA,⟨ob,n,ne⟩,r,q,z,d⟩
end
structure Cls(K:PySem.W.Frag)(C:Addr):Prop where
 pg:PySem.W.plainGet K C Str.empty=true
 hd:PySem.W.hasDictIn K C=true
 po:PySem.W.plainOver K C=true
 sa:PySem.W.findIn K (.ref C) "__setattr__" = some (some (.builtin "object.__setattr__"))
theorem Cls.get{K:PySem.W.Frag}{C:Addr}(c:Cls K C)(f:Str):PySem.W.plainGet K C f=true:=c.pg
noncomputable def eE(K:PySem.W.Frag)(C:Addr)(f:Str):Prop:=PySem.W.findIn K (.ref C) f=some none
theorem eE.taker{K:PySem.W.Frag}{C:Addr}{f:Str}(n:eE K C f):PySem.W.takerIn K C f=some none:=by
 unfold PySem.W.takerIn;rw[show PySem.W.findIn K (.ref C) f=some none from n];rfl
structure Meth(K:PySem.W.Frag)(C:Addr)(m:Str)(f:Addr):Prop where
 at_:PySem.W.findIn K (.ref C) m=some (some (.ref f))
 fn:PySem.W.isFn K (.ref f)=true
 kp:PySem.W.keepIn K (.ref f)=true
section
variable{X:Cx}{pins:List (Addr×Obj)}{σ:St}{H:Hp}{s:Shared}{a C dx:Addr}{fs:List (Str×V)}{f:Str}{v:V}{A:Around}{E:Value->Shared->Prop}
theorem xG{b:Bool}{Q:Value->Shared->Prop}(I:Inv X pins σ H s)(e:H a=some (.ins C dx fs))(c:Cls X.K C)(n:eE X.K C f)(l:fs.lookup f=some v)(h:∀u s',Inv X pins σ H s'->RelV v u->Q u s'):wpAny (model X.prog X.w) A (getAttr (.ref a) f b) Q E s:=by
 obtain⟨mA,O,r,_,_,_⟩:=pL I.hok e;obtain⟨u,hu,ru⟩:=nA.some_of (v:=v) (o:=mA f) (by rw[←l];exact r f);exact get_map I.mO O (c.get f) c.hd n hu (Li ru) (h u _ (I.tok _) ru)
theorem qz{m:Str}{g:Addr}{pl:Sem Bool}{Q:Value×List Value->Shared->Prop}(I:Inv X pins σ H s)(e:H a=some (.ins C dx fs))(c:Cls X.K C)(k:Meth X.K C m g)(l:fs.lookup m=none)(h:Q (.ref g,[.ref a]) s):wpAny (model X.prog X.w) A (getMethod (.ref a) m pl) Q E s:=by
 obtain⟨mA,O,r,_,_,_⟩:=pL I.hok e;have hn:mA m=none:=nA.none_of (by rw[←l];exact r m);exact Qk I.mO O (c.get m) k.at_ k.fn hn h
theorem vQ{y:V}{u:Value}{Q:Unit->Shared->Prop}(I:Inv X pins σ H s)(e:H a=some (.ins C dx fs))(c:Cls X.K C)(n:eE X.K C f)(hl:fs.length<1000)(ry:RelV y u)(h:∀s',Inv X pins σ (upd H a (.ins C dx (bZ f y fs))) s'->Q () s'):wpAny (model X.prog X.w) A (setAttr (.ref a) f u) Q E s:=by
 obtain⟨mA,O,r,wi,_,ho⟩:=pL I.hok e;have hz:(fs.map (·.1)).length<=sizeLine:=by rw[aac,sizeLine_eq];lia
 refine S6 I.mO O c.sa c.po n.taker c.hd wi hz λh' O' sb=>h _ ?_;have hd:∃o,h'.get? dx=some o:=let ⟨o,_,_,e',_⟩:=O'.ns;⟨o,e'⟩
 refine I.write (x:=a) (e:=dx) (by rw[e];exact True.intro) (.inr ho) (λb q hb z=>(sb.2 b hb).trans z) hd ?_;refine⟨by rw[aC O.ne];exact ho, ?_,O.ne,O'.obj,_,O'.ns,λg=>?_,λg hg=>?_⟩
 .have:=uL f y fs;lia
 .show nA ((bZ f y fs).lookup g) (if g=f then some u else mA g)
  rw[uJ]
  by_cases q:g=f
  .rw[acM q,acM q];exact ry
  .rw[acK q,acK q];exact r g
 .by_cases q:g=f
  .rw[q];exact(uh f y fs).1
  .refine(uh f y fs).2 g (wi g λz=>hg ?_)
   show (if g=f then some u else mA g)=none;rw[acK q];exact z
theorem Inv.made(I:Inv X pins σ H s):Inv X pins σ (upd (upd H s.heap.objs.size (.own (s.heap.objs.size+1))) (s.heap.objs.size+1) (.ins C s.heap.objs.size []))
 {s with heap:=(s.heap.push PySem.W.emptyDict).push (PySem.W.instObj C s.heap.objs.size)}:=by
 have e1:(s.heap.push PySem.W.emptyDict).get? s.heap.objs.size=some PySem.W.emptyDict:=aaj s.heap rfl
 have e2:((s.heap.push PySem.W.emptyDict).push (PySem.W.instObj C s.heap.objs.size)).get? (s.heap.objs.size+1)=some (PySem.W.instObj C s.heap.objs.size):=by
  have:=aaj (s.heap.push PySem.W.emptyDict) (o:=PySem.W.instObj C s.heap.objs.size) rfl;rwa [Heap.size_push] at this
 have e3:(s.heap.push PySem.W.emptyDict).Ns s.heap.objs.size (λ_=>none):=⟨PySem.W.emptyDict, #[],_,e1,Z,(λe he=>acP he (by simp)),λ_=>rfl⟩;have I1:=I.laid (a:=s.heap.objs.size) (o:= .own (s.heap.objs.size+1)) (h':=s.heap.push PySem.W.emptyDict) (t':=s.toks) (λb u q=>aai _ q) (aar _) ⟨_,e1⟩;refine I1.laid (a:=s.heap.objs.size+1) (o:= .ins C s.heap.objs.size []) (t':=s.toks) (λb u q=>aai _ q) (Nat.le_of_eq (Heap.size_push _ _)) ?_;have ne:s.heap.objs.size≠s.heap.objs.size+1:=abe (Nat.lt_succ_self _);refine⟨by rw[aC ne,ak],Nat.zero_le _,ne,e2,λ_=>none,(Heap.Ns1.of_empty e3).at λo q=>aai _ q,λ_=>True.intro,λy hy=>acP rfl hy⟩
theorem Vm{prog:Program}{w:World}{env:Env}{e:Expr}{f:Str}{pos:Pos}{s:Shared}{Q:Value->Shared->Prop}(hb:attributeBase e f env (eval e env)=eval e env)(h:wpAny (model prog w) A (eval e env) (λo s₁=>wpAny (model prog w) A (getAttr o f true) Q E s₁) E s):wpAny (model prog w) A (eval (.Attribute e f pos) env) Q E s:=
 Attribute_any_ h (by rw[arm_eval_Attribute,hb])
end
noncomputable def aaz(K:PySem.W.Frag)(ta:TE)(f:Str):TE:=λσ H Q=>ta σ H λx H1=>∃a C dx fs v,x = .ref a/\H1 a=some (.ins C dx fs)/\Cls K C/\eE K C f/\fs.lookup f=some v/\Q v H1
noncomputable def aaM(K:PySem.W.Frag)(ta tv:TE)(f:Str):TS:=λD σ H=>tv σ H λy H1=>ta σ H1 λx H2=>∃a C dx fs,x = .ref a/\H2 a=some (.ins C dx fs)/\Cls K C/\eE K C f/\fs.length<1000 /\
 D.nx σ (upd H2 a (.ins C dx (bZ f y fs)))
noncomputable def acI(X:Cx)(op:Operator)(rd:V->V->Hp->VK->Prop):Prop:=
 ∀(pins:List (Addr×Obj))(s:Shared)(σ:St)(H:Hp)(x y:V)(u v:Value)(Q:VK),Inv X pins σ H s->RelV x u->RelV y v->rd x y H Q->wpAny (model X.prog X.w) X.A (inplaceOp op u v) (EP X pins σ Q) X.xe s
noncomputable def Jo(K:PySem.W.Frag)(ta tv:TE)(rd:V->V->Hp->VK->Prop)(f:Str):TS:=λD σ H=>ta σ H λx H1=>∃a C dx fs v,x = .ref a/\H1 a=some (.ins C dx fs)/\Cls K C/\eE K C f/\fs.lookup f=some v /\
 tv σ H1 λy H2=>rd v y H2 λz H3=>∃Zd fs',H3 a=some (.ins C Zd fs')/\fs'.length<1000/\D.nx σ (upd H3 a (.ins C Zd (bZ f z fs')))
section
variable{X:Cx}{o e value:Expr}{f:Str}{pos pos' tpos:Pos}{ta tv:TE}
theorem X4(he:PE X e ta)(hb:attributeBase e f X.env (eval e X.env)=eval e X.env):PE X (.Attribute e f pos) (aaz X.K ta f):=by
 intro pins s σ H Q I h;refine Vm hb (cX (he pins s σ H _ I h) λu s1 gw=>?_);obtain⟨x,H1,I1,rx,a,C,dx,fs,v,ex,ea,c,n,l,q⟩:=gw;subst ex;obtain rfl:u=Value.ref a:=rx;exact xG I1 ea c n l λu' s2 I2 ru=>⟨v,H1,I2,ru,q⟩
theorem XH(ha:PE X o ta)(hv:PE X value tv)(hs:swapsWith value (some (.Attribute o f pos')) pos.line X.env=pure false):PS X (.Assign [.Attribute o f pos'] value pos) (aaM X.K ta tv f):=by
 intro pins s σ H D I h;refine plainObj_wpAny_Assign_Attribute (cX (hv pins s σ H _ I h) λu s1 ⟨y,H1,I1,ry,q⟩=>cX (ha pins s1 σ H1 _ I1 q) λov s2 ⟨x,H2,I2,rx,a,C,dx,fs,ex,ea,c,n,l,q2⟩=>?_) hs;subst ex;obtain rfl:ov=Value.ref a:=rx;exact vQ I2 ea c n l ry λs3 I3=>⟨σ,_,I3,q2⟩
theorem Kr{op:Operator}{rd:V->V->Hp->VK->Prop}(ha:PE X o ta)(hv:PE X value tv)(hop:acI X op rd):PS X (.AugAssign (.Attribute o f tpos) op value pos) (Jo X.K ta tv rd f):=by
 intro pins s σ H D I h;refine wpAny_AugAssign_AttributeAny (cX (ha pins s σ H _ I h) λov s1 gw=>?_);obtain⟨x,H1,I1,rx,a,C,dx,fs,v,ex,ea,c,n,l,q⟩:=gw;subst ex;obtain rfl:ov=Value.ref a:=rx;refine xG I1 ea c n l λu s2 I2 ru=>cX (hv pins s2 σ H1 _ I2 q) λw3 s3 ⟨y,H2,I3,ry,q3⟩=>cX (hop pins s3 σ H2 v y u w3 _ I3 ru ry q3) λw4 s4 gw=>?_;obtain⟨z,H3,I4,rz,Zd,fs',ea',l',q4⟩:=gw;exact vQ I4 ea' c n l' rz λs5 I5=>⟨σ,_,I5,q4⟩
end
section
variable{X:Cx}{pins:List (Addr×Obj)}{σ:St}{H:Hp}{s:Shared}{A:Around}{E:Value->Shared->Prop}{Q:Value->Shared->Prop}{c:Value}{b:Bool}
inductive qG(K:PySem.W.Frag)(H:Hp):V->Value->Prop where
 | non:qG K H .non (.type "NoneType")
 | bl (x:Bool):qG K H (.bl x) (.type "bool")
 | int (i:Int):qG K H (.int i) (.type "int")
 | str (x:Str):qG K H (.str x) (.type "str")
 | flt (x:UInt64):qG K H (.flt x) (.type "float")
 | lst {a:Addr} {xs:List V} (e:H a=some (.lst xs)):qG K H (.ref a) (.type "list")
 | zM {a:Addr} {o:Obj} {xs:List V} (e:H a=some (.zM o (.lst xs))):qG K H (.ref a) (.type "list")
 | tup {a:Addr} {xs:List V} (e:H a=some (.tup xs)):qG K H (.ref a) (.type "tuple")
 | dK {a:Addr} {kvs:List (Key×V)} (e:H a=some (.dK kvs)):qG K H (.ref a) (.type "dict")
 | dT {a:Addr} {kvs:List (List Key×V)} (e:H a=some (.dT kvs)):qG K H (.ref a) (.type "dict")
 | ins {a C dx:Addr} {fs:List (Str×V)} (e:H a=some (.ins C dx fs)) (cl:Cls K C) (ha:PySem.W.findIn K (.ref C) "__class__" = some (some (.builtin "object.__class__")))
    (hn:PySem.W.specialIn K (.builtin "object.__class__") "__get__" = some (some (.builtin "getset_descriptor.__get__"))) (htk:PySem.W.takesIn K (.builtin "object.__class__")=some true)
    (hm:PySem.W.mroIn K C (.type "object")=some true):qG K H (.ref a) (.ref C)
theorem Le{x:V}{u t:Value}(I:Inv X pins σ H s)(rx:RelV x u)(ty:qG X.K H x t)(e:PySem.W.kitOne X.K t c=some b)(h:∀tk,Q (.bool b) {s with toks:=tk}):
 wpAny (model X.prog X.w) A (call (.builtin "isinstance") [u,c]) Q E s:=by
 cases ty with
 | non=>cases (show u=Value.none from rx);exact PySem.W.kia_one PySem.W.kitx_none I.mO True.intro e (λz=>nomatch z) h
 | bl y=>cases (show u=Value.bool y from rx);exact PySem.W.kia_one PySem.W.kitx_bool I.mO True.intro e (λz=>nomatch z) h
 | int i=>obtain⟨t,q⟩:=(show ∃t,u=Value.int i t from rx);cases q;exact PySem.W.kia_one PySem.W.kitx_int I.mO True.intro e (λz=>nomatch z) h
 | str y=>obtain⟨t,q⟩:=(show ∃t,u=Value.str y t from rx);cases q;exact PySem.W.kia_one PySem.W.kitx_str I.mO True.intro e (λz=>nomatch z) h
 | flt y=>obtain⟨t,q⟩:=(show ∃t,u=Value.float y t from rx);cases q;exact PySem.W.kia_one PySem.W.kitx_float I.mO True.intro e (λz=>nomatch z) h
 | @lst a xs ea=>
   cases (show u=Value.ref a from rx);obtain⟨_,_,n,_,h1⟩:=(show cP X.prog X.w H s.heap a (.lst xs) from I.hok a _ ea);exact PySem.W.kia_one PySem.W.kitx_list I.mO ⟨_,h1,Z⟩ e (λz=>nomatch z) h
 | @zM a ob xs ea=>
   cases (show u=Value.ref a from rx);obtain⟨_,_,_,n,_,h1⟩:=(show cP X.prog X.w H s.heap a (.zM ob (.lst xs)) from I.hok a _ ea);exact PySem.W.kia_one PySem.W.kitx_list I.mO ⟨_,h1,Z⟩ e (λz=>nomatch z) h
 | @tup a xs ea=>
   cases (show u=Value.ref a from rx);obtain⟨_,_,_,p⟩:=(show cP X.prog X.w H s.heap a (.tup xs) from I.hok a _ ea);obtain⟨o,h1,h2,_⟩:=p;exact PySem.W.kia_one PySem.W.kitx_tuple I.mO ⟨o,h1,h2⟩ e (λz=>nomatch z) h
 | @dK a kvs ea=>
   cases (show u=Value.ref a from rx);obtain⟨_,_,vs,_,p⟩:=(show cP X.prog X.w H s.heap a (.dK kvs) from I.hok a _ ea);obtain⟨o,es,ep,h1,h2,_⟩:=p;exact PySem.W.kia_one PySem.W.kitx_dict I.mO ⟨o,h1,h2.1⟩ e (λz=>nomatch z) h
 | @dT a kvs ea=>
   cases (show u=Value.ref a from rx);obtain⟨_,_,xs,_,o,es,ep,h1,h2,_⟩:=(show cP X.prog X.w H s.heap a (.dT kvs) from I.hok a _ ea);exact PySem.W.kia_one PySem.W.kitx_dict I.mO ⟨o,h1,h2.1⟩ e (λz=>nomatch z) h
 | @ins a C dx fs ea cl ha hn htk hm=>
   cases (show u=Value.ref a from rx);obtain⟨mA,O,_⟩:=pL I.hok ea;obtain⟨od,J,_⟩:=O.look;exact PySem.W.kia_one (PySem.W.kitx_own (cl.get _) cl.hd ha hn htk hm) I.mO J e (λz=>nomatch z) h
end
structure dg(k:Nat)(A:Around):Prop where
 hd:A.handled=none
 dp:A.depth+3*k+5<recursionLimit
 un:A.units+16*k+200<cLine
theorem dg.mono{j k:Nat}{A:Around}(r:dg k A)(h:j<=k):dg j A:=⟨r.hd,by have:=r.dp;lia,by have:=r.un;lia⟩
theorem dg.deeper{k:Nat}{A:Around}(r:dg (k+1) A)(env:Env):dg k (A.deeper env):=
 ⟨r.hd,by have:=r.dp;show A.depth+1+3*k+5<_;lia,by have:=r.un;show A.units+3+16*k+200<_;lia⟩
theorem dg.in1{k:Nat}{A:Around}(r:dg (k+1) A):dg k A.in1:=
 ⟨r.hd,by have:=r.dp;show A.depth+3*k+5<_;lia,by have:=r.un;show A.units+1+16*k+200<_;lia⟩
theorem G_{A:Around}{C:Addr}{us:List Value}{kw:List (Str×Value)}:(A.under (.builtin "type.__call__" ⟨.ref C::us,kw⟩)).depth=A.depth+1:=by
 first |rfl|simp[Around.under,Code.weight,Code.isCreation,Code.isGuard,Code.isCaller,Code.frames,Code.isFrame,guardIds]
theorem G9{A:Around}{C:Addr}{us:List Value}{kw:List (Str×Value)}:(A.under (.builtin "type.__call__" ⟨.ref C::us,kw⟩)).units=A.units+1:=by
 first |rfl|simp[Around.under,Code.cUnits,Code.frames,Code.isFrame]
theorem dg.make{k:Nat}{A:Around}(r:dg (k+1) A)(C:Addr)(us:List Value)(kw:List (Str×Value)):dg k (A.under (.builtin "type.__call__" ⟨.ref C::us,kw⟩)):=
 ⟨r.hd,by have:=r.dp;rw[G_];lia,by have:=r.un;rw[G9];lia⟩
theorem dg.depth{k:Nat}{A:Around}(r:dg k A):A.depth<recursionLimit:=by have:=r.dp;lia
theorem dg.units{k:Nat}{A:Around}(r:dg k A):A.units+64<cLine:=by have:=r.un;lia
noncomputable def Sx:TA:=λ_ H Q=>Q [] H
noncomputable def aaA(ta:TE)(tr:TA):TA:=λσ H Q=>ta σ H λx H1=>tr σ H1 λxs H2=>Q (x::xs) H2
section
variable{X:Cx}{e:Expr}{es:List Expr}{te:TE}{t:TA}{pos:Pos}
theorem aA:PA X [] Sx:=λ_ _ _ _ H Q I h=>Calls.spliced_nil ⟨[],H,I,.nil,h⟩
theorem aj(ha:PE X e te)(hr:PA X es t)(hs:starEach (e::es) X.env=(false,eval e X.env)::starEach es X.env:=by rfl):PA X (e::es) (aaA te t):=by
 intro pos pins s σ H Q I h;rw[hs];show wpAny _ _ (spliced ((false,eval e X.env)::backTo pos (starEach es X.env))) _ _ s;refine Calls.spliced_cons (cX (ha pins s σ H _ I h) λu s1 gw=>?_);obtain⟨x,H1,I1,r1,q1⟩:=gw;exact cX (hr pos pins s1 σ H1 _ I1 q1) λus s2 ⟨xs,H2,I2,r2,q2⟩=>⟨x::xs,H2,I2,.cons r1 r2,q2⟩
noncomputable def aey(t:TA):TE:=λσ H Q=>t σ H λxs H1=>xs.length<=sizeLine /\ ∀p,H1 p=none->Q (.ref p) (upd H1 p (.tup xs))
noncomputable def aeE(t:TA):TE:=λσ H Q=>t σ H λxs H1=>xs.length<=sizeLine /\ ∀p,H1 p=none->Q (.ref p) (upd H1 p (.lst xs))
theorem fj{x1}(h:PA X es t):PE X (.Tuple es x1 pos) (aey t):=by
 intro pins s σ H Q I hq;refine wpAny_Tuple_spliced (cX (h pos pins s σ H _ I hq) λus s1 ⟨xs,H1,I1,r,z,q⟩=>⟨by rw[←r.length];exact z, ?_⟩);have hf:H1 s1.heap.objs.size=none:=I1.hok.fresh (aar _);refine⟨.ref s1.heap.objs.size,upd H1 s1.heap.objs.size (.tup xs),I1.laid (t':=s1.toks) (λb u e=>aai _ e) (aar _) ?_,Z,q _ hf⟩;exact⟨z,us,r,⟨_,aaj _ rfl,Z,_,Z⟩⟩
theorem cR(h:PA X es t):PE X (.List es pos) (aeE t):=by
 intro pins s σ H Q I hq;refine wpAny_List_spliced (cX (h pos pins s σ H _ I hq) λus s1 ⟨xs,H1,I1,r,z,q⟩=>⟨by rw[←r.length];exact z, ?_⟩);have hf:H1 s1.heap.objs.size=none:=I1.hok.fresh (aar _);refine⟨.ref s1.heap.objs.size,upd H1 s1.heap.objs.size (.lst xs),I1.laid (t':=s1.toks) (λb u e=>aai _ e) (aar _) ?_,Z,q _ hf⟩;exact⟨z,us,0,r,aaj _ rfl⟩
end
noncomputable abbrev Sp:=List V->Hp->VK->XK->Prop
noncomputable abbrev J9:=List Env->Hp->Shared->XK->Value->Shared->Prop
structure sI(P:Program)(w:World)(K:PySem.W.Frag)(mg:Str->Option Value)(base:Heap)(A:Around)(outer:List Env)(s:Shared)(H:Hp):Prop where
 frames:A.frames=some outer
 mod:Mod K mg base
 bs:∀b o,base.get? b=some o->s.heap.get? b=some o/\H b=none
 Dd:base.objs.size<=s.heap.objs.size
 lG:s.heap.FunFrames base outer
 HD:∀b∈frs outer,H b=none
 hok:jU P w H s.heap
 bare:AllBare s.gens
noncomputable def CE(outer:List Env)(P:Program)(w:World)(H:Hp)(s:Shared)(Q:VK)(u:Value)(s':Shared):Prop:=
 ∃v H',s'.os=s.os/\AllBare s'.gens/\Un (frs outer) [] H H' s.heap s'.heap/\jU P w H' s'.heap/\RelV v u/\Q v H'
noncomputable def CR(CX:J9)(outer:List Env)(P:Program)(w:World)(H:Hp)(s:Shared)(Q:VK)(E:XK)(r:Result)(s':Shared):Prop:=
 match r with
 | .ok (.ret u)=>CE outer P w H s Q u s'
 | .ok _=>False
 | .error e=>CX outer H s E e s'
structure bO(P:Program)(w:World)(K:PySem.W.Frag)(mg:Str->Option Value)(base:Heap)(CX:J9)(k:Nat)(f:Addr)(fd:FuncData)(ps:List Str)(sp:Sp):Prop where
 len:∀vs H Q E,sp vs H Q E->vs.length=ps.length
 run:∀(A:Around)(outer:List Env)(s:Shared)(H:Hp)(args:Args)(us:List Value)(vs:List V)(Q:VK)(E:XK),dg k A->sI P w K mg base A outer s H->BindsTo s fd args (ps.zip us)->Vals vs us->sp vs H Q E ->
  codeAny (model P w) A (.call (.ref f) args) (CR CX outer P w H s Q E) s
theorem sI.make{P:Program}{w:World}{K:PySem.W.Frag}{mg:Str->Option Value}{base:Heap}{A:Around}{outer:List Env}{s:Shared}{H:Hp}(e:sI P w K mg base A outer s H)(C:Addr)(us:List Value)(kw:List (Str×Value)):
 sI P w K mg base (A.under (.builtin "type.__call__" ⟨.ref C::us,kw⟩)) outer s H:=⟨by first |exact e.frames|(simpa [Around.under,Code.envs,Code.isFrame,pushEnvs] using e.frames),e.mod,e.bs,e.Dd,e.lG,e.HD,e.hok,e.bare⟩
theorem sI.in1{P:Program}{w:World}{K:PySem.W.Frag}{mg:Str->Option Value}{base:Heap}{A:Around}{outer:List Env}{s:Shared}{H:Hp}(e:sI P w K mg base A outer s H):
 sI P w K mg base A.in1 outer s H:=⟨e.frames,e.mod,e.bs,e.Dd,e.lG,e.HD,e.hok,e.bare⟩
section
variable{X:Cx}{pins:List (Addr×Obj)}{σ:St}{H:Hp}{s s':Shared}
theorem Inv.env0(I:Inv X pins σ H s):sI X.prog X.w X.K X.mg X.base X.A X.stack s H:=
 ⟨I.ok.frames,I.ok.mod,I.bs,acH I.ok.Dd I.sz,I.stack,I.Ag,I.hok,I.bare⟩
theorem Inv.after{Q:VK}{u:Value}(I:Inv X pins σ H s)(h:CE X.stack X.prog X.w H s Q u s'):EP X pins σ Q u s':=by
 obtain⟨v,H',os,bare,un,hok,r,q⟩:=h;obtain⟨hh,g,d,t,os'⟩:=s';obtain rfl:os'=s.os:=os;exact⟨v,H',I.call (h':=hh) (g':=g) (d':=d) (t':=t) (ch:=[]) un hok bare (λb z=>acP z (by simp)),r,q⟩
end
noncomputable def VJ(sp:Sp)(nH:List V)(E:XK)(t:TA):TE:=λσ H Q=>t σ H λvs H1=>sp (vs++nH) H1 Q E
noncomputable def Jh(C:Addr)(m:Str)(sp:Sp)(nH:List V)(E:XK)(ta:TE)(t:TA):TE:=λσ H Q=>ta σ H λx H1=>∃a dx fs,x = .ref a/\H1 a=some (.ins C dx fs)/\fs.lookup m=none /\
 t σ H1 λvs H2=>sp (x::(vs++nH)) H2 Q E
noncomputable def VF(C:Addr)(sp:Sp)(nH:List V)(E:XK)(t:TA):TE:=λσ H Q=>t σ H λvs H1=>∀x dx,H1 x=none->H1 dx=none->dx≠x ->
 sp (.ref x::(vs++nH)) (upd (upd H1 dx (.own x)) x (.ins C dx [])) (λv H2=>v = .non/\Q (.ref x) H2) E
noncomputable def Binds(K:PySem.W.Frag)(fd:FuncData)(ps:List Str)(ds:List Value):Prop:=
 ∀(s:Shared)(us:List Value),K.In s.heap->(us++ds).length=ps.length->BindsTo s fd ⟨us,[]⟩ (ps.zip (us++ds))
theorem Binds.all{K:PySem.W.Frag}{fd:FuncData}{ps:List Str}(h:∀us:List Value,us.length=ps.length->bindArgs fd ⟨us,[]⟩=pure (ps.zip us)):Binds K fd ps []:=λs us _ hl=>by
 rw[List.append_nil] at hl ⊢;exact .of_eq (h us hl)
noncomputable def Passes(CX:J9)(X:Cx)(E:XK):Prop:=∀(pins:List (Addr×Obj))(σ:St)(H:Hp)(s:Shared)(e:Value)(s':Shared),Inv X pins σ H s->CX X.stack H s E e s'->X.xe e s'
section
variable{X:Cx}{CX:J9}{k:Nat}{f C:Addr}{fd:FuncData}{ps:List Str}{sp:Sp}{nH:List V}{ds:List Value}{E:XK}{x m:Str}{p pos apos:Pos}{e o:Expr}{es:List Expr}{ta:TE}{t:TA}
theorem Gz{pins:List (Addr×Obj)}{σ:St}{H:Hp}{s:Shared}{Q:VK}{us:List Value}{vs:List V}(F:bO X.prog X.w X.K X.mg X.base CX k f fd ps sp)(hr:dg k X.A)(hb:Binds X.K fd ps ds)(hd:Vals nH ds)(hx:Passes CX X E)(I:Inv X pins σ H s)(r:Vals vs us)(h:sp (vs++nH) H Q E):wpAny (model X.prog X.w) X.A (call (.ref f) us) (EP X pins σ Q) X.xe s:=by
 have r2:Vals (vs++nH) (us++ds):=r.append hd;have hl:(us++ds).length=ps.length:=by rw[←r2.length];exact F.len _ _ _ _ h
 refine wpAny_call (codeAny_mono (F.run X.A X.stack s H ⟨us,[]⟩ (us++ds) (vs++nH) Q E hr I.env0 (hb s us I.mO hl) r2 h) λr s' hq=>?_);cases r with
 | error e=>exact hx pins σ H s e s' I hq
 | ok fl=>
   cases fl with
   | ret u=>exact I.after hq
   | next=>exact False.elim hq
   | brk=>exact False.elim hq
   | cont=>exact False.elim hq
theorem TY(F:bO X.prog X.w X.K X.mg X.base CX k f fd ps sp)(hr:dg k X.A)(hg:Gl X x)(hm:X.mg x=some (.ref f))(hk:PySem.W.keepIn X.K (.ref f)=true)(hb:Binds X.K fd ps ds)(hd:Vals nH ds)(hx:Passes CX X E)(ha:PA X (e::es) t)(hdb:(x==("__debug__" :Str))=false:=by decide)(he:starEach (e::es) X.env=(false,eval e X.env)::starEach es X.env:=by rfl)(hpl:(backTo pos (starEach es X.env)).any (·.1)=false:=by rfl):
 PE X (.Call (.Name x p) (e::es) [] pos) (VJ sp nH E t):=by
 intro pins s σ H Q I h;refine wpAny_Call_Name_kw (jZ I hg hm ?_ hdb);refine PySem.W.callWith_K (h₀:=X.base) I.ok.mod.Hq hk (cX (ha pos pins s σ H _ I h) λus s1 ⟨vs,H1,I1,r,q⟩=>⟨I1.mO, ?_⟩) he hpl;exact Gz F hr hb hd hx I1 r q
theorem TQ{pl:Sem Bool}(he:PE X o ta)(c:Cls X.K C)(hm:Meth X.K C m f)(F:bO X.prog X.w X.K X.mg X.base CX k f fd ps sp)(hr:dg k X.A)(hb:Binds X.K fd ps ds)(hd:Vals nH ds)(hx:Passes CX X E)(ha:PA X (e::es) t)(hst:starEach (e::es) X.env=(false,eval e X.env)::starEach es X.env:=by rfl)(hpl:(backTo pos (starEach es X.env)).any (·.1)=false:=by rfl)(ht:eval (.Call (.Attribute o m apos) (e::es) [] pos) X.env=(do
   let ov ←eval o X.env
   standAt apos.atName
   let (f,first) ←holding [ov] (getMethod ov m pl)
   callWith pos f first (backTo pos (starEach (e::es) X.env)) (backToKw pos (keywordEach [] X.env))):=by rfl):
 PE X (.Call (.Attribute o m apos) (e::es) [] pos) (Jh C m sp nH E ta t):=by
 intro pins s σ H Q I h;refine PySem.W.methodCall_KW (pl:=pl) (cX (he pins s σ H _ I h) λu s1 ⟨x,H1,I1,rx,a,dx,fs,ex,ea,l,q⟩=>?_) ht;subst ex;obtain rfl:u=Value.ref a:=rx;refine qz I1 ea c hm l ?_;refine PySem.W.callWith_K (first:=[.ref a]) (h₀:=X.base) I.ok.mod.Hq hm.kp (cX (ha pos pins s1 σ H1 _ I1 q) λus s2 ⟨vs,H2,I2,r,q2⟩=>⟨I2.mO, ?_⟩) hst hpl;exact Gz (us:= .ref a::us) (vs:= .ref a::vs) F hr hb hd hx I2 (.cons rfl r) q2
theorem Oc{pl:Sem Bool}(he:PE X o ta)(c:Cls X.K C)(hm:Meth X.K C m f)(F:bO X.prog X.w X.K X.mg X.base CX k f fd ps sp)(hr:dg k X.A)(hb:Binds X.K fd ps ds)(hd:Vals nH ds)(hx:Passes CX X E)(ht:eval (.Call (.Attribute o m apos) [] [] pos) X.env=(do
   let ov ←eval o X.env
   standAt apos.atName
   let (f,first) ←holding [ov] (getMethod ov m pl)
   callWith pos f first (backTo pos (starEach [] X.env)) (backToKw pos (keywordEach [] X.env))):=by rfl):
 PE X (.Call (.Attribute o m apos) [] [] pos) (Jh C m sp nH E ta Sx):=by
 intro pins s σ H Q I h;refine PySem.W.methodCall_KW (pl:=pl) (cX (he pins s σ H _ I h) λu s1 ⟨x,H1,I1,rx,a,dx,fs,ex,ea,l,q⟩=>?_) ht;subst ex;obtain rfl:u=Value.ref a:=rx;refine qz I1 ea c hm l ?_;exact PySem.W.callWith_K0 (first:=[.ref a]) I1.mO hm.kp (Gz (us:=[.ref a]) (vs:=[.ref a]) F hr hb hd hx I1 (.cons rfl .nil) q)
structure Mk(K:PySem.W.Frag)(C f:Addr):Prop where
 makes:PySem.W.makesIn K C=true
 init:PySem.W.findIn K (.ref C) "__init__" = some (some (.ref f))
 fn:PySem.W.isFn K (.ref f)=true
 kp:PySem.W.keepIn K (.ref C)=true
theorem Ny{pins:List (Addr×Obj)}{σ:St}{H:Hp}{s:Shared}{Q:VK}{us:List Value}{vs:List V}(M:Mk X.K C f)(F:bO X.prog X.w X.K X.mg X.base CX k f fd ps sp)(hr:dg (k+1) X.A)(hb:Binds X.K fd ps ds)(hd:Vals nH ds)(hx:Passes CX X E)(I:Inv X pins σ H s)(r:Vals vs us)(h:∀x dx,H x=none->H dx=none->dx≠x->sp (.ref x::(vs++nH)) (upd (upd H dx (.own x)) x (.ins C dx [])) (λv H2=>v = .non/\Q (.ref x) H2) E):
 wpAny (model X.prog X.w) X.A (call (.ref C) us) (EP X pins σ Q) X.xe s:=by
 have hq:=h (s.heap.objs.size+1) s.heap.objs.size (I.hok.fresh (Nat.le_succ _)) (I.hok.fresh (aar _)) (abe (Nat.lt_succ_self _));have I2:=Inv.made (C:=C) I;have r2:Vals (V.ref (s.heap.objs.size+1)::(vs++nH)) (Value.ref (s.heap.objs.size+1)::(us++ds)):= .cons rfl (r.append hd)
 have hl:(Value.ref (s.heap.objs.size+1)::us++ds).length=ps.length:=by
  have e:=r2.length;rw[F.len _ _ _ _ hq] at e;exact e.symm
 refine wpAny_call (En (f:=f) I.mO M.makes M.init (beq_iff_eq.mp M.fn) (codeAny_mono (F.run _ X.stack _ _ ⟨Value.ref (s.heap.objs.size+1)::us,[]⟩ (Value.ref (s.heap.objs.size+1)::(us++ds)) _ _ E (hr.make C us [])
  (I2.env0.make C us []) (hb _ (Value.ref (s.heap.objs.size+1)::us) I2.mO hl) r2 hq) λr s' hq'=>?_))
 cases r with
 | error e=>exact hx pins σ _ _ e s' I2 hq'
 | ok fl=>
   cases fl with
   | ret u=>
     obtain⟨v,H',I3,rv,ev,q3⟩:=I2.after hq';subst ev;exact⟨rv,⟨V.ref (s.heap.objs.size+1),H',I3,Z,q3⟩⟩
   | next=>exact False.elim hq'
   | brk=>exact False.elim hq'
   | cont=>exact False.elim hq'
theorem TV(M:Mk X.K C f)(F:bO X.prog X.w X.K X.mg X.base CX k f fd ps sp)(hr:dg (k+1) X.A)(hg:Gl X x)(hm:X.mg x=some (.ref C))(hb:Binds X.K fd ps ds)(hd:Vals nH ds)(hx:Passes CX X E)(ha:PA X (e::es) t)(hdb:(x==("__debug__" :Str))=false:=by decide)(he:starEach (e::es) X.env=(false,eval e X.env)::starEach es X.env:=by rfl)(hpl:(backTo pos (starEach es X.env)).any (·.1)=false:=by rfl):
 PE X (.Call (.Name x p) (e::es) [] pos) (VF C sp nH E t):=by
 intro pins s σ H Q I h;refine wpAny_Call_Name_kw (jZ I hg hm ?_ hdb);refine PySem.W.callWith_K (h₀:=X.base) I.ok.mod.Hq M.kp (cX (ha pos pins s σ H _ I h) λus s1 ⟨vs,H1,I1,r,q⟩=>⟨I1.mO, ?_⟩) he hpl;exact Ny M F hr hb hd hx I1 r q
end
section
variable{X:Cx}{CX:J9}{k:Nat}{f C:Addr}{fd:FuncData}{ps ks:List Str}{sp:Sp}{E:XK}{x m:Str}{p pos apos kpos:Pos}{e o:Expr}{es:List Expr}{kws:List Keyword}{te ta:TE}{t tk:TA}{nm:Option Str}
variable{g:List Value->List Value->List Value}{gV:List V->List V->List V}
end
structure bh(N P:List Str)(sc:Scope):Prop where
 kind:sc.kind = .function
 co:sc.isCoroutine=false
 gen:sc.isGenerator=false
 nd:N.Nodup
 pre:N.take P.length=P
 par:∀x∈P,sc.names.lookup x=some .local\/sc.names.lookup x=some .cell
 Yp:∀y∈sc.names,y.2 ≠ .free
theorem zU{kindOf:Str->Option NameKind}{x:Str}:∀{binds:List (Str×Value)}{m:Str->Option Value},(∀v,(x,v)∉binds)->bindL kindOf binds m x=m x
 | [],_,_=>rfl
 | (n,v)::r,m,h=>by
   unfold bindL;rw[zU λw hw=>h w (aby _ hw)];split
   .have:x≠n:=by rintro rfl;exact h v List.mem_cons_self
    simp[this]
   .rfl
theorem zW{kindOf:Str->Option NameKind}{x:Str}:∀{binds:List (Str×Value)}{m:Str->Option Value},(∀v,(x,v)∉binds)->bindC kindOf binds m x=m x
 | [],_,_=>rfl
 | (n,v)::r,m,h=>by
   unfold bindC;rw[zW λw hw=>h w (aby _ hw)];split
   .rfl
   .have:x≠n:=by rintro rfl;exact h v List.mem_cons_self
    simp[this]
theorem zV{kindOf:Str->Option NameKind}{x:Str}{v:Value}:∀{P:List Str}{vs:List Value}{i:Nat}{m:Str->Option Value},P.Nodup->P[i]? = some x->vs[i]? = some v->kindOf x=some .local ->
 bindL kindOf (P.zip vs) m x=some v
 | [],_,_,_,_,h,_,_=>by simp at h
 | _::_,[],_,_,_,_,h,_=>by simp at h
 | p::P,w::vs,0,m,nd,h1,h2,hk=>by
   simp at h1 h2;subst h1;subst h2;show bindL kindOf ((p,w)::P.zip vs) m p=_;unfold bindL;rw[zU λv hv=>(List.nodup_cons.mp nd).1 (List.of_mem_zip hv).1,acM hk];simp
 | p::P,w::vs,i+1,m,nd,h1,h2,hk=>by
   show bindL kindOf ((p,w)::P.zip vs) m x=_;unfold bindL;exact zV (i:=i) (List.nodup_cons.mp nd).2 (by simpa using h1) (by simpa using h2) hk
theorem zX{kindOf:Str->Option NameKind}{x:Str}{v:Value}:∀{P:List Str}{vs:List Value}{i:Nat}{m:Str->Option Value},P.Nodup->P[i]? = some x->vs[i]? = some v->kindOf x≠some .local ->
 bindC kindOf (P.zip vs) m x=some v
 | [],_,_,_,_,h,_,_=>by simp at h
 | _::_,[],_,_,_,_,h,_=>by simp at h
 | p::P,w::vs,0,m,nd,h1,h2,hk=>by
   simp at h1 h2;subst h1;subst h2;show bindC kindOf ((p,w)::P.zip vs) m p=_;unfold bindC;rw[zW λv hv=>(List.nodup_cons.mp nd).1 (List.of_mem_zip hv).1,acK hk];simp
 | p::P,w::vs,i+1,m,nd,h1,h2,hk=>by
   show bindC kindOf ((p,w)::P.zip vs) m x=_;unfold bindC;exact zX (i:=i) (List.nodup_cons.mp nd).2 (by simpa using h1) (by simpa using h2) hk
noncomputable def start(N:List Str)(vs:List V):St:=vs.map some++List.replicate (N.length - vs.length) none
noncomputable def mV(CX:J9)(P:Program)(w:World)(K:PySem.W.Frag)(mg:Str->Option Value)(base:Heap)(N:List Str)(qual:Str)(scope:Scope)(f:Addr)(cd:Value)(A:Around)(outer:List Env)(s:Shared)(H:Hp)(E:XK):Cx where
 prog:=P
 w:=w
 K:=K
 mg:=mg
 base:=base
 A:=A.deeper (envOfC qual scope s.heap.objs.size f cd)
 N:=N
 s₀:=s
 H₀:=H
 env:=envOfC qual scope s.heap.objs.size f cd
 outer:=outer
 stack:=envOfC qual scope s.heap.objs.size f cd::outer
 ex:=[]
 calm:=true
 fn:=λ_=>true
 pn:=[]
 xe:=λe s'=>wpAny (model P w) (A.deeper (envOfC qual scope s.heap.objs.size f cd)) (leaving (envOfC qual scope s.heap.objs.size f cd) e) (λ_ s''=>CX outer H s E e s'') (λe' s''=>CX outer H s E e' s'') s'
theorem Fv{sc:Scope}{n:Nat}{x:Str}(h:sc.names.lookup x=some .cell):∃c,(cellsFrom n sc.names []).lookup x=some c:=by
 have q:=PySem.W.cellsFrom_some sc.names n [] (.inl h);exact Option.isSome_iff_exists.mp q
theorem Lg{CX:J9}{P:Program}{w:World}{K:PySem.W.Frag}{mg:Str->Option Value}{base:Heap}{N ps:List Str}{qual:Str}{scope:Scope}{f:Addr}{cd:Value}{A:Around}{outer:List Env}{s s1:Shared}{H:Hp}{E:XK}{us:List Value}{vs:List V}(S:bh N ps scope)(hd:A.handled=none)(e0:sI P w K mg base A outer s H)(hl:vs.length=ps.length)(r:Vals vs us)(x:InCallC s s.heap.objs.size (bindL (envOfC qual scope s.heap.objs.size f cd).kindOf (ps.zip us) λ_=>none) (cellsFrom (s.heap.objs.size+1) scope.names []) (bindC (envOfC qual scope s.heap.objs.size f cd).kindOf (ps.zip us) λ_=>none) s1):
 Inv (mV CX P w K mg base N qual scope f cd A outer s H E) [] (start N vs) H s1:=by
 have hpl:ps.length<=N.length:=by have:=congrArg List.length S.pre;rw[ab_] at this;lia
 obtain⟨h1,tk,rfl,hk⟩:=x.done;have Pg:∀b:Addr,b∉(mV CX P w K mg base N qual scope f cd A outer s H E).ex:=λb z=>acP (show b∈([]:List Addr) from z) (by simp)
 refine⟨⟨e0.mod,S.kind,Z,Z,aar _,λy z c h1 h2=>?_,λy hy=>?_,λy c _ h=>?_,λ_=>hd,Around.frames_deeper e0.frames,.inr ⟨Z,Z⟩,λb z=>acP z (Pg b),e0.bs,e0.Dd,λb _ _=>Pg b,λb z=>acP z (Pg b),e0.lG,e0.HD⟩,
  Z,e0.bare,Un.kept hk,⟨_,x.toInCall.ns,λi y v h1 h2 h3=>?_⟩,λy c h=>⟨_,x.cell y c h⟩,e0.hok.fresh (aar _),λy c h=>?_,λp hp=>acP (show p∈([]:List (Addr×Obj)) from hp) (by simp),e0.hok.kept hk, ?_⟩
 .exact name_of_addr x.apart (PySem.mem_of_lookup h1) (PySem.mem_of_lookup h2)
 .have hy:scope.names.lookup y=some .cell\/scope.names.lookup y=some .free:=hy
  rcases hy with hy|hy
  .exact Fv hy
  .exact acP rfl (S.Yp _ (PySem.mem_of_lookup hy))
 .exact Nat.le_of_lt (x.above y c (PySem.mem_of_lookup h))
 .have hi:i<vs.length:=by
   unfold start at h2
   by_cases hi:i<vs.length
   .exact hi
   .rw[aa' (by simpa using hi)] at h2
    rw[acB] at h2;split at h2<;>cases h2
  have ha:vs[i]? = some v:=by
   unfold start at h2;rw[abb (by simpa using hi),aah] at h2;cases e:vs[i]? with
   | none=>rw[e] at h2;cases h2
   | some a=>rw[e] at h2;cases h2;rfl
  obtain⟨u,hu,rv⟩:=r.get ha
  have hp:ps[i]? = some y:=by
   rw[←S.pre,List.getElem?_take_of_lt (by lia)];exact h1
  have ndP:ps.Nodup:=by rw[←S.pre];exact S.nd.sublist (List.take_sublist _ _)
  refine⟨u,rv, ?_⟩;rcases S.par y (aaK hp) with k|k
  .exact .inl ⟨k,zV ndP hp hu k⟩
  .obtain⟨c,e⟩:=Fv (n:=s.heap.objs.size+1) k
   refine .inr ⟨.inl k,c,e, ?_⟩;have q:=x.cell y c e;rw[zX ndP hp hu (by show scope.names.lookup y≠_;rw[k];decide)] at q;exact q
 .exact e0.hok.fresh (Nat.le_of_lt (x.above y c (PySem.mem_of_lookup h)))
 .unfold start
  show _=N.length;rw[aa_,aac,abS];lia
theorem JN{CX:J9}{P:Program}{w:World}{K:PySem.W.Frag}{mg:Str->Option Value}{base:Heap}{k:Nat}{f:Addr}{name qual:Str}{params:Arguments}{body:List Stmt}{scope:Scope}{dV kV doc pm cdv ct oc:Value}{an od:Option Addr}{osl:Array (Option Value)}{N ps:List Str}{sp:Sp}(lk:K.lookup f=some ⟨oc,od,.func (PySem.W.fnOf name qual params body scope dV kV doc pm an cdv ct),osl⟩)(hcd:PySem.W.codeIn K cdv qual=true)(S:bh N ps scope)(len:∀vs H Q E,sp vs H Q E->vs.length=ps.length)(hbody:∀(A:Around)(outer:List Env)(s:Shared)(H:Hp)(vs:List V)(Q:VK)(E:XK),dg k (A.deeper (envOfC qual scope s.heap.objs.size f cdv))->sp vs H Q E ->
   ∃t,Df (mV CX P w K mg base N qual scope f cdv A outer s H E) body t/\t {nx:=λ_ H'=>Q .non H',rt:=Q} (start N vs) H):
 bO P w K mg base CX (k+1) f (PySem.W.fnOf name qual params body scope dV kV doc pm an cdv ct) ps sp:=by
 refine⟨len,λA outer s H args us vs Q E hr e0 hb r hsp=>?_⟩;have hl:=len _ _ _ _ hsp;have KX:K.In s.heap:=e0.mod.Hq.keeps λb o e=>(e0.bs b o e).1;have lim:s.heap.NoLimit:=e0.mod.nolimit.keeps λb o e=>(e0.bs b o e).1
 have hkind:∀y∈ps.zip us,scope.names.lookup y.1=some .local\/(scope.names.lookup y.1=some .cell/\((cellsFrom (s.heap.objs.size+1) scope.names []).lookup y.1).isSome=true):=λ⟨n,v⟩ hy=>by
  rcases S.par n (List.of_mem_zip hy).1 with q|q
  .exact .inl q
  .exact .inr ⟨q,PySem.W.cellsFrom_some _ _ _ (.inl q)⟩
 refine codeAny_call_function hr.depth (KX _ _ lk) rfl S.co S.gen rfl (PySem.W.codeRec_of KX hcd) (hb _ _ _ _ ?_);refine wpAny_newFunctionEnv_cells S.kind hkind λenv he s1 x=>?_;subst he;refine⟨lim.keeps x.toInCall.keep,codeAny_func ?_⟩;obtain⟨t,ht,hq⟩:=hbody A outer s H vs Q E (hr.deeper _) hsp;have I:Inv (mV CX P w K mg base N qual scope f cdv A outer s H E) [] (start N vs) H s1:=Lg S hr.hd e0 hl r x;refine wpAny_mono (ht [] s1 (start N vs) H _ I hq) (λfl s' hs=>?_) λe s' hs=>hs
 have fin:∀{σ':St}{H':Hp}{v:V}{u:Value},Inv (mV CX P w K mg base N qual scope f cdv A outer s H E) [] σ' H' s'->RelV v u->Q v H'->CE outer P w H s Q u s':=
  fun {σ' H' v u} J rv q=>⟨v,H',J.os,J.bare,J.base,J.hok,rv,q⟩
 cases fl with
 | ret u=>
   obtain⟨v,σ',H',J,rv,q⟩:=hs;exact fin J rv q
 | next=>
   obtain⟨σ',H',J,q⟩:=hs;exact fin (v:=V.non) (u:=Value.none) J rfl q
 | brk=>
   obtain⟨_,_,_,q⟩:=hs;exact False.elim q
 | cont=>
   obtain⟨_,_,_,q⟩:=hs;exact False.elim q
section
variable{X:Cx}{x:Str}{p pos:Pos}{e:Expr}{es:List Expr}{t:TA}{id T:String}{r:List V->Hp->VK->Prop}
noncomputable def tCB(r:List V->Hp->VK->Prop)(t:TA):TE:=λσ H Q=>t σ H λvs H1=>r vs H1 Q
theorem aO(hc:jy X (.builtin id) r)(hg:Gl X x)(hm:X.mg x=none)(hv:bootBuiltins x=some (.builtin id))(ha:PA X (e::es) t)(hn:x ≠ "__name__" :=by decide)(hdb:(x==("__debug__" :Str))=false:=by decide)(he:starEach (e::es) X.env=(false,eval e X.env)::starEach es X.env:=by rfl)(hpl:(backTo pos (starEach es X.env)).any (·.1)=false:=by rfl):PE X (.Call (.Name x p) (e::es) [] pos) (tCB r t):=by
 intro pins s σ H Q I h;refine wpAny_Call_Name_kw (wY I hg hm hv ?_ hn hdb);exact PyProof.Rows.callWith_builtin1 (cX (ha pos pins s σ H _ I h) λus s1 ⟨vs,H1,I1,r1,q1⟩=>hc pins s1 σ H1 vs us Q I1 r1 q1) he hpl
theorem cL(hc:jy X (.type T) r)(hg:Gl X x)(hm:X.mg x=none)(hv:bootBuiltins x=some (.type T))(ha:PA X (e::es) t)(hn:x ≠ "__name__" :=by decide)(hdb:(x==("__debug__" :Str))=false:=by decide)(he:starEach (e::es) X.env=(false,eval e X.env)::starEach es X.env:=by rfl)(hpl:(backTo pos (starEach es X.env)).any (·.1)=false:=by rfl):PE X (.Call (.Name x p) (e::es) [] pos) (tCB r t):=by
 intro pins s σ H Q I h;refine wpAny_Call_Name_kw (wY I hg hm hv ?_ hn hdb);exact PyProof.Rows.callWith_type1 (cX (ha pos pins s σ H _ I h) λus s1 ⟨vs,H1,I1,r1,q1⟩=>hc pins s1 σ H1 vs us Q I1 r1 q1) he hpl
end
end L2
namespace HT
open PySem PyProof.Rows
section
open PySem.SeqAt
open PySem.AutoSeq1 (wpAny_loadPart')
open PySem.MeetsSeq PySem.MeetsSeq2 PySem.MeetsSeq3
end
section
variable{prog:Program}{w:World}{A:Around}{E:Value->Shared->Prop}{s:Shared}
theorem Vi{t b:Addr}{vs ws:List Value}{Q:Value->Shared->Prop}(ht:IsTup s.heap t vs.toArray)(hb:IsTup s.heap b ws.toArray)(hv:vs≠[])(h1:ws=[]->Q (.ref t) s)(h2:ws≠[]->Q (.ref s.heap.objs.size) {s with heap:=s.heap.push {cls:= .type "tuple",data:= .seq (vs++ws).toArray}})(hsz:vs.length+ws.length<=sizeLine):wpAny (model prog w) A (binaryOp .Add (.ref t) (.ref b)) Q E s:=by
 obtain⟨⟨cls,dd,data,sl⟩,ho,hc,n,hd⟩:=id ht;obtain⟨⟨cls2,dd2,data2,sl2⟩,ho2,hc2,n2,hd2⟩:=id hb;simp only at hc hd hc2 hd2;subst hc hd hc2 hd2;have e:vs.toArray++ws.toArray=(vs++ws).toArray:=by simp
 by_cases hw:ws=[]
 .exact concat_meets ⟨_,ho,Z⟩ ⟨_,ho2,Z⟩ noFill_tuple_add seq_tuple_add PySem.F.slot_tuple_add PySem.F.entry_tuple_add (PySem.F.args_tuple_add_2 _ _)
   (tuple_addW1 t b vs.toArray ws.toArray n n2 dd dd2 sl sl2 (by simpa using hv) (by simp[hw])) ⟨ho,ho2,h1 hw⟩
 .refine concat_meets ⟨_,ho,Z⟩ ⟨_,ho2,Z⟩ noFill_tuple_add seq_tuple_add PySem.F.slot_tuple_add PySem.F.entry_tuple_add (PySem.F.args_tuple_add_2 _ _)
   (tuple_addW2 t b vs.toArray ws.toArray n n2 dd dd2 sl sl2 (by simpa using hv) (by simpa using hw) (by rw[aa5,aa5];exact hsz)) ⟨ho,ho2, ?_⟩
  rw[e];exact h2 hw
noncomputable def iz(n d:Nat):Option Int->Nat
 | none=>d
 | some v=>if v<0 then (v+(n:Int)).toNat else min v.toNat n
theorem v7(n d:Nat):iz n d none=d:=Z
theorem Bh(n d k:Nat):iz n d (some (k:Int))=min k n:=by
 show (if (k:Int)<0 then ((k:Int)+(n:Int)).toNat else min (k:Int).toNat n)=min k n;rw[acK (by lia),abt]
theorem Xp(n d:Nat)(hd:d<=n)(o:Option Int):iz n d o<=n:=by
 cases o with
 | none=>exact hd
 | some v=>
   show (if v<0 then (v+(n:Int)).toNat else min v.toNat n)<=n
   by_cases hv:v<0
   .rw[acM hv];lia
   .rw[acK hv];exact Nat.min_le_right _ _
theorem JX(v:Int)(n d:Nat):(if v<0 then max (v+(n:Int)) 0 else min v (n:Int))=((iz n d (some v):Nat):Int):=by
 show (if v<0 then max (v+(n:Int)) 0 else min v (n:Int))=(((if v<0 then (v+(n:Int)).toNat else min v.toNat n):Nat):Int)
 by_cases hv:v<0
 .simp only[acM hv];lia
 .simp only[acK hv];lia
theorem Ik(lo hi:Option Int)(n:Nat):Builtin.Slice.sliceAdjust lo hi 1 (n:Int)=(((iz n 0 lo:Nat):Int),((iz n n hi:Nat):Int)):=by
 have h1:¬((1:Int)<0):=by lia
 unfold Builtin.Slice.sliceAdjust;simp only[h1,if_false];refine Prod.ext ?_ ?_
 .cases lo with
  | none=>rfl
  | some v=>exact JX v n 0
 .cases hi with
  | none=>rfl
  | some v=>exact JX v n n
theorem GF(i j:Nat):Builtin.Slice.slicePlaces (i:Int) (j:Int) 1=j - i:=by
 unfold Builtin.Slice.slicePlaces;have h1:(1:Int)>0:=by lia
 simp only[h1,if_true,Int.ediv_one];split<;>lia
theorem vO{v:Value}{o:Option Int}{Q:Option Int->Shared->Prop}(p:IsPart v o)(h:Q o s):wpAny (model prog w) A (Builtin.Slice.slicePartIndex v) Q E s:=by
 cases p with
 | none=>exact slicePart_none h
 | int i t=>exact slicePart_int h
theorem tK{sl:Addr}{vl vu:Value}{lo hi:Option Int}{n:Nat}{Q:Int×Int×Nat->Shared->Prop}(hs:s.heap.IsSliceOf sl vl vu .none)(pl:IsPart vl lo)(pu:IsPart vu hi)(h:Q (((iz n 0 lo:Nat):Int),1,iz n n hi - iz n 0 lo) s):wpAny (model prog w) A (Builtin.Slice.sliceApplied (.ref sl) (pure (n:Int))) Q E s:=by
 obtain⟨os,hos,hcs,hds⟩:=id hs;unfold Builtin.Slice.sliceApplied Builtin.Slice.sliceFields;refine aas (aas (wpAny_field hos hds (x:=vl) rfl (aas (wpAny_field hos hds (x:=vu) rfl (aas (wpAny_field hos hds (x:= .none) rfl (aaE ?_)))))));refine aas (slicePart_none ?_);show wpAny _ _ (if ((1:Int)==0)=true then _ else _) _ _ s;rw[acK (by decide)];refine aas (vO pl (aas (vO pu (aas (aaE ?_)))));show wpAny _ _ (match Builtin.Slice.sliceAdjust lo hi 1 (n:Int) with |(lo,hi)=>pure (lo,(1:Int),Builtin.Slice.slicePlaces lo hi 1)) _ _ s;rw[Ik lo hi n];show wpAny _ _ (pure (((iz n 0 lo:Nat):Int),(1:Int),Builtin.Slice.slicePlaces ((iz n 0 lo:Nat):Int) ((iz n n hi:Nat):Int) 1)) _ _ s;rw[GF];exact aaE h
theorem Oa(xs:Array Value)(i k:Nat):((List.range k).filterMap λ(m:Nat)=>xs[((i:Int)+(m:Int)*1).toNat]?).toArray=((xs.toList.drop i).take k).toArray:=by
 have e:(λ(m:Nat)=>xs[((i:Int)+(m:Int)*1).toNat]?)=λm=>xs[i+m]? :=by
  funext m;have:((i:Int)+(m:Int)*1).toNat=i+m:=by lia
  rw[this]
 rw[e];have:=pick_run xs i k;rw[List.filterMap_map] at this;have e2:((λx=>xs[x]?)∘λx=>i+x)=λm=>xs[i+m]? :=Z;rw[e2] at this;rw[this]
theorem rW{t sl:Addr}{items:Array Value}{vl vu:Value}{lo hi:Option Int}{Q:Value->Shared->Prop}(ht:IsTup s.heap t items)(hs:s.heap.IsSliceOf sl vl vu .none)(pl:IsPart vl lo)(pu:IsPart vu hi)(hw:¬(iz items.size 0 lo=0/\iz items.size items.size hi=items.size))(h:Q (.ref s.heap.objs.size) {s with heap:=s.heap.push {cls:= .type "tuple",data:= .seq ((items.toList.drop (iz items.size 0 lo)).take (iz items.size items.size hi - iz items.size 0 lo)).toArray}})(hsz:items.size<=sizeLine):wpAny (model prog w) A (getItem (.ref t) (.ref sl)) Q E s:=by
 have JH:sizeOk (.seq ((items.toList.drop (iz items.size 0 lo)).take (iz items.size items.size hi - iz items.size 0 lo)).toArray):=by
  show ((items.toList.drop (iz items.size 0 lo)).take (iz items.size items.size hi - iz items.size 0 lo)).toArray.size<=sizeLine;rw[aa5,ab_,List.length_drop,aaI];lia
 have hj:iz items.size items.size hi<=items.size:=Xp _ _ (aar _) hi;obtain⟨os,hos,hcs,hds⟩:=id hs;have hTs:s.TypeIs (.ref sl) "slice" :=⟨os,hos,hcs⟩;unfold getItem
 try with_reducible refine wpAny_holding ?_
 first |refine aas (aaE ?_)|skip
 refine aas (wpAny_sequenceKey ht.typeIs (by decide) ?_)
 refine aas (wpAny_callSpecial?_slot (name:=Str.ofString "__getitem__") ht.typeIs PyProof.Rows.slot_tuple_getitem
  (wpAny_call_entry PyProof.Rows.slot_tuple_getitem ht.typeIs entry_tuple_getitem ?_ (args_tuple_getitem _ _)))
 show wpAny _ _ (Builtin.Tuple.tupleItemsOf (.ref t) >>= _) _ _ s;refine aas (tupleItemsOf_ ht ?_);refine aas (wpAny_typeOf hTs ?_);rw[acM (by decide)];refine aas (tK hs pl pu ?_)
 have hno:¬((((iz items.size 0 lo:Nat):Int)==0&&(1:Int)==1&&(iz items.size items.size hi - iz items.size 0 lo)==items.size)=true):=by
  intro q;rw[abw,abw] at q;have q1:((iz items.size 0 lo:Nat):Int)=0:=eq_of_beq q.1.1;have q2:iz items.size items.size hi - iz items.size 0 lo=items.size:=eq_of_beq q.2;exact hw ⟨by lia,by lia⟩
 show wpAny _ _ (if (((iz items.size 0 lo:Nat):Int)==0&&(1:Int)==1&&(iz items.size items.size hi - iz items.size 0 lo)==items.size)=true then _ else _) _ _ s;rw[acK hno,Oa]
 first
  | exact aas (m:=Builtin.Tuple.tupleExact _) (wpAny_newObj_type (aaE ⟨_,Z,aaE h⟩) JH)
  | exact aas (m:=Builtin.Tuple.tupleExact _) (wpAny_newObj_type (aas (aaE (aaE ⟨_,Z,aaE h⟩))) JH)
  | exact aas (aas (m:=Builtin.Tuple.tupleExact _) (wpAny_newObj_type (aaE (aaE ⟨_,Z,aaE h⟩)) JH))
  | exact aas (aas (m:=Builtin.Tuple.tupleExact _) (wpAny_newObj_type (aaE ⟨_,Z,aaE h⟩) JH))
end
end HT
namespace L2
open PySem PySem.Spec PyProof.Rows
noncomputable abbrev TO:=St->Hp->(Option Int->Hp->Prop)->Prop
noncomputable def PO(X:Cx)(e:Option Expr)(t:TO):Prop:=
 ∀(pins:List (Addr×Obj))(s:Shared)(σ:St)(H:Hp)(Q:Option Int->Hp->Prop),Inv X pins σ H s->t σ H Q ->
  wpAny (model X.prog X.w) X.A (evalPart e X.env) (λu s'=>∃o H',Inv X pins σ H' s'/\IsPart u o/\Q o H') X.xe s
noncomputable def Sw:TO:=λ_ H Q=>Q none H
noncomputable def aaw(t:TE):TO:=λσ H Q=>t σ H λx H1=>∃i,x = .int i/\Q (some i) H1
section
variable{X:Cx}{e:Expr}{te:TE}{lo hi:Option Expr}{tl th:TO}{pos p2:Pos}
theorem pI:PO X none Sw:=by
 intro pins s σ H Q I h;rw[evalPart_none];exact aaE ⟨none,H,I,.none,h⟩
theorem pH(h:PE X e te):PO X (some e) (aaw te):=by
 intro pins s σ H Q I hw;rw[evalPart_some];refine cX (h pins s σ H _ I hw) λu s1 gw=>?_;obtain⟨x,H1,I1,r1,q1⟩:=gw;obtain⟨i,rfl,q⟩:=q1;obtain⟨t,rfl⟩:=r1;exact⟨some i,H1,I1,.int i t,q⟩
noncomputable def SlR(X:Cx)(r:V->Option Int->Option Int->Hp->VK->Prop):Prop:=
 ∀(pins:List (Addr×Obj))(s:Shared)(σ:St)(H:Hp)(x:V)(v vl vu:Value)(lo hi:Option Int)(sl:Addr)(Q:VK),Inv X pins σ H s->RelV x v->s.heap.IsSliceOf sl vl vu .none->IsPart vl lo->IsPart vu hi->r x lo hi H Q ->
  ∃T id,typeLookup (.type T) "__getitem__" = pure (some (.builtin id))/\s.TypeIs v T/\wpAny (model X.prog X.w) X.A (getItem v (.ref sl)) (EP X pins σ Q) X.xe s
noncomputable def tSl(r:V->Option Int->Option Int->Hp->VK->Prop)(te:TE)(tl th:TO):TE:=λσ H Q=>te σ H λx H1=>tl σ H1 λl H2=>th σ H2 λu H3=>r x l u H3 Q
theorem lM{r:V->Option Int->Option Int->Hp->VK->Prop}(hr:SlR X r)(he:PE X e te)(hl:PO X lo tl)(hu:PO X hi th):PE X (.Subscript e (.Slice lo hi none p2) pos) (tSl r te tl th):=by
 intro pins s σ H Q I h;refine Subscript_ (cX (he pins s σ H _ I h) λv s1 gw=>?_);obtain⟨x,H1,I1,r1,q1⟩:=gw;refine wpAny_Slice (cX (hl pins s1 σ H1 _ I1 q1) λvl s2 ⟨l,H2,I2,pl,q2⟩=>cX (hu pins s2 σ H2 _ I2 q2) λvu s3 gw=>?_);obtain⟨u,H3,I3,pu,q3⟩:=gw;rw[evalPart_none];refine aaE ?_;have I4:Inv X pins σ H3 {s3 with heap:=s3.heap.push {cls:= .type "slice",data:= .fields #[vl,vu,.none]}}:=I3.kept (t':=s3.toks) λb ob q=>aai _ q;obtain⟨T,id,hT,ht,hg⟩:=hr pins {s3 with heap:=s3.heap.push {cls:= .type "slice",data:= .fields #[vl,vu,.none]}} σ H3 x v vl vu l u s3.heap.objs.size Q I4 r1 (Heap.IsSliceOf.new ..) pl pu q3;show wpAny (model X.prog X.w) X.A (subscriptTail e (.Slice lo hi none p2) v (.ref s3.heap.objs.size)) (EP X pins σ Q) X.xe {s3 with heap:=s3.heap.push {cls:= .type "slice",data:= .fields #[vl,vu,.none]}};exact tail_any (ops:=[.ref s3.heap.objs.size,v]) ht hT hg (by with_unfolding_all rfl)
noncomputable def oN(xs:List V)(lo hi:Option Int):List V:=(xs.drop (HT.iz xs.length 0 lo)).take (HT.iz xs.length xs.length hi - HT.iz xs.length 0 lo)
theorem uQ(xs:List V)(lo hi:Option Int):(oN xs lo hi).length<=xs.length:=by
 unfold oN;rw[ab_,List.length_drop];lia
noncomputable def aaQ(K:PySem.W.Frag):V->Option Int->Option Int->Hp->VK->Prop:=λx lo hi H Q=>∃a xs,x = .ref a/\cH K H a xs /\
 ¬(HT.iz xs.length 0 lo=0/\HT.iz xs.length xs.length hi=xs.length) /\ ∀p,H p=none->Q (.ref p) (upd H p (.tup (oN xs lo hi)))
theorem Xk:SlR X (aaQ X.K):=by
 intro pins s σ H x v vl vu lo hi sl Q I rx hs pl pu h;obtain⟨a,xs,rfl,hx,hw,q⟩:=h;cases rx;obtain⟨its,r,ht,hz⟩:=I.tuple hx;have hlen:its.toArray.size=xs.length:=by rw[aa5];exact r.length.symm
 refine⟨"tuple",_,PyProof.Rows.slot_tuple_getitem.lookup,ht.typeIs, ?_⟩;refine HT.rW ht hs pl pu (by rw[hlen];exact hw) ?_ (by rw[hlen];exact hz);rw[hlen];refine⟨.ref s.heap.objs.size,_,I.laid (t':=s.toks) (o:= .tup (oN xs lo hi)) (λb ob q=>aai _ q) (aar _) ?_,Z,q _ (I.hok.fresh (aar _))⟩;exact⟨acH (uQ xs lo hi) hz,_,(r.drop (HT.iz xs.length 0 lo)).take (HT.iz xs.length xs.length hi - HT.iz xs.length 0 lo),IsTup.new _ _⟩
theorem Vals.Jy{xs:List V}{us:List Value}(r:Vals xs us):us=[]↔xs=[]:=by
 cases r with
 | nil=>simp
 | cons _ _=>simp
end
noncomputable def Hs(n:Nat)(i:Int):Option Nat:=if 0<=i then (if i<n then some i.toNat else none) else if -(n:Int)<=i then some (i+n).toNat else none
noncomputable def Ij{α:Type}(xs:List α)(i:Int):Option α:=(Hs xs.length i).bind λj=>xs[j]?
theorem JG{n:Nat}{i:Int}{j:Nat}(h:Hs n i=some j):seqIndex? i n=some j/\j<n /\ -(n:Int)<=i/\i<n:=by
 unfold Hs at h
 by_cases h0:0<=i
 .rw[acM h0] at h
  by_cases h1:i<n
  .rw[acM h1] at h
   have e:i.toNat=j:=aa6 h;exact⟨by rw[seqIndex_of h0 h1,e],by lia,by lia,h1⟩
  .rw[acK h1] at h;cases h
 .rw[acK h0] at h
  by_cases h1: -(n:Int)<=i
  .rw[acM h1] at h
   have e:(i+n).toNat=j:=aa6 h;exact⟨by rw[seqIndex_neg (by lia) h1,e],by lia,h1,by lia⟩
  .rw[acK h1] at h;cases h
theorem J5{α:Type}{xs:List α}{i:Int}{v:α}(h:Ij xs i=some v):∃j,seqIndex? i xs.length=some j/\xs[j]? = some v/\j<xs.length /\ -(xs.length:Int)<=i/\i<xs.length:=by
 unfold Ij at h;cases e:Hs xs.length i with
 | none=>rw[e] at h;cases h
 | some j=>
   rw[e] at h;obtain⟨h1,h2,h3,h4⟩:=JG e;exact⟨j,h1,h,h2,h3,h4⟩
theorem d7{α:Type}{xs:List α}{j:Nat}{v:α}(h:xs[j]? = some v):Ij xs (j:Int)=some v:=by
 have hj:j<xs.length:=(aae.mp h).1
 have e:Hs xs.length (j:Int)=some j:=by
  unfold Hs;rw[acM (by lia),acM (by lia)];simp
 unfold Ij;rw[e];exact h
noncomputable def Vq(b:Expr):Prop:=∀o i,subscripted b false o i=operate [o,i] (getItem o i)
noncomputable def IxR(X:Cx)(r:R2):Prop:=
 ∀(value slice:Expr)(pins:List (Addr×Obj))(s:Shared)(σ:St)(H:Hp)(x y:V)(v u:Value)(Q:VK),Inv X pins σ H s->RelV x v->RelV y u->r x y H Q ->
  subscripted slice false v u=operate [v,u] (getItem v u)->wpAny (model X.prog X.w) X.A (subscriptTail value slice v u) (EP X pins σ Q) X.xe s
noncomputable def Zw(X:Cx)(id:String)(r:V->List V->Hp->VK->Prop):Prop:=
 ∀(pins:List (Addr×Obj))(s:Shared)(σ:St)(H:Hp)(x:V)(xs:List V)(v:Value)(us:List Value)(Q:VK),Inv X pins σ H s->RelV x v->Vals xs us->r x xs H Q ->
  wpAny (model X.prog X.w) X.A (call (.builtin id) (v::us)) (EP X pins σ Q) X.xe s
section
variable{X:Cx}{a b:Expr}{ta tb:TE}{pos:Pos}
theorem aQ{r:R2}(hr:IxR X r)(ha:PE X a ta)(hb:PE X b tb)(hs:Vq b):PE X (.Subscript a b pos) (tOp r ta tb):=by
 intro pins s σ H Q I h;exact Subscript_ (Zm ha hb I h λv u s2 x y H2 I2 rx ry q=>hr a b pins s2 σ H2 x y v u Q I2 rx ry q (hs _ _))
noncomputable def aaU(K:PySem.W.Frag):R2:=λx y H Q=>∃p xs i v,x = .ref p/\y = .int i/\bH K H p xs/\Ij xs i=some v/\Q v H
noncomputable def aaT(K:PySem.W.Frag):R2:=λx y H Q=>∃p xs i v,x = .ref p/\y = .int i/\cH K H p xs/\Ij xs i=some v/\Q v H
theorem Uw:IxR X (aaU X.K):=by
 intro value slice pins s σ H x y v u Q I rx ry h hs;obtain⟨p,xs,i,z,rfl,rfl,hq,he,q⟩:=h;cases rx;obtain⟨t,rfl⟩:=ry;obtain⟨its,r,pl,hz⟩:=I.list hq;obtain⟨j,h1,h2,h3,h4,h5⟩:=J5 he;obtain⟨w,ew,rw'⟩:=r.get h2;have hl:=r.length;have hn:=ug;have fin:EP X pins σ Q w s:=⟨z,H,I,rw',q⟩
 by_cases h0:0<=i
 .have hj:i.toNat=j:=by
   rw[seqIndex_of h0 h5] at h1;exact aa6 h1
  exact item_listR pl.isList h0 (by lia) (by rw[hj];simpa using ew) fin hs
 .have hj:(i+(its.toArray.size:Int)).toNat=j:=by
   rw[seqIndex_neg (by lia) h4] at h1;rw[aa5,←hl];exact aa6 h1
  exact subscriptTail_builtinR (x:=w) pl.isList.typeIs slot_list_getitem.lookup
   (wpAny_getItem_list_neg (Q:=λr s'=>r=w/\EP X pins σ Q r s') pl.isList (by lia) (by rw[aa5]<;>lia) (by lia) (by rw[hj];simpa using ew) ⟨Z,fin⟩) hs
theorem YG:IxR X (aaT X.K):=by
 intro value slice pins s σ H x y v u Q I rx ry h hs;obtain⟨p,xs,i,z,rfl,rfl,hq,he,q⟩:=h;cases rx;obtain⟨t,rfl⟩:=ry;obtain⟨its,r,pl,hz⟩:=I.tuple hq;obtain⟨j,h1,h2,h3,h4,h5⟩:=J5 he;obtain⟨w,ew,rw'⟩:=r.get h2;have hl:=r.length;have hn:=ug;have fin:EP X pins σ Q w s:=⟨z,H,I,rw',q⟩
 exact subscriptTail_builtinR (x:=w) pl.typeIs slot_tuple_getitem.lookup
  (getItem_tuple (j:=j) (Q:=λr s'=>r=w/\EP X pins σ Q r s') pl (by lia) (by lia) (by rw[aa5,←hl];exact h1) (by simpa using ew) ⟨Z,fin⟩) hs
theorem G8(its:List Value)(n j:Nat)(u:Value):Obj.mapSeq (·.setIfInBounds j u) {cls:= .type "list",data:= .seq its.toArray n}={cls:= .type "list",data:= .seq (its.set j u).toArray n}:=by
 simp[Obj.mapSeq]
theorem Inv.lst{pins:List (Addr×Obj)}{σ:St}{H:Hp}{s:Shared}{p:Addr}{xs:List V}(I:Inv X pins σ H s)(h:H p=some (.lst xs)):
 ∃(its:List Value) (n:Nat),Vals xs its/\s.heap.get? p=some {cls:= .type "list",data:= .seq its.toArray n}/\xs.length<=sizeLine:=by
 obtain⟨z,its,n,r,e⟩:=I.hok p _ h;exact⟨its,n,r,e,z⟩
theorem Inv.Yu{pins:List (Addr×Obj)}{σ:St}{H:Hp}{s:Shared}{p:Addr}{xs ys:List V}{its its':List Value}{n n':Nat}{f:Obj->Obj}(I:Inv X pins σ H s)(h:H p=some (.lst xs))(ho:s.heap.get? p=some {cls:= .type "list",data:= .seq its.toArray n})(hf:f {cls:= .type "list",data:= .seq its.toArray n}={cls:= .type "list",data:= .seq its'.toArray n'})(r:Vals ys its')(hz:ys.length<=sizeLine)(t:Nat):
 Inv X pins σ (upd H p (.lst ys)) {s with heap:=s.heap.update p f,toks:=t}:=by
 have e:(s.heap.update p f).get? p=some {cls:= .type "list",data:= .seq its'.toArray n'}:=by
  rw[Heap.get?_update_self f ho (by rw[hf]<;>rfl),hf]
 refine I.write (x:=p) (e:=p) (by rw[h];trivial) (.inl rfl) (λb u hb q=>(Heap.get?_update_other _ _ (Ne.symm hb)).trans q) ⟨_,e⟩ ?_;exact⟨hz,its',n',r,e⟩
noncomputable def aaS:V->V->V->Hp->(Hp->Prop)->Prop:=λo i v H Q=>∃p xs k j,o = .ref p/\i = .int k/\H p=some (.lst xs)/\Hs xs.length k=some j/\Q (upd H p (.lst (xs.set j v)))
theorem set_list:Zv X aaS:=by
 intro pins s σ H o i v ov iv u Q I ro ri rv h;obtain⟨p,xs,k,j,rfl,rfl,hp,hj,q⟩:=h;cases ro;obtain⟨t,rfl⟩:=ri;obtain⟨its,n,r,ho,hz⟩:=I.lst hp;obtain⟨h1,h2,h3,h4⟩:=JG hj;have hl:=r.length;have hn:=ug
 have I':Inv X pins σ (upd H p (.lst (xs.set j v))) {s with heap:=s.heap.update p (Obj.mapSeq (·.setIfInBounds j u))}:=
  I.Yu hp ho (G8 its n j u) (r.set rv j) (by rw[ab5];exact hz) s.toks
 by_cases h0:0<=k
 .have hk:k.toNat=j:=by
   rw[seqIndex_of h0 h4] at h1;exact aa6 h1
  exact PySem.W.ki_setAt ho h0 (by lia) (by rw[aa5,←hl];exact h4) (by rw[hk];exact⟨_,I',q⟩)
 .have hk:(k+(its.toArray.size:Int)).toNat=j:=by
   rw[seqIndex_neg (by lia) h3] at h1;rw[aa5,←hl];exact aa6 h1
  exact PySem.W.ki_setBack ho (by lia) (by rw[aa5,←hl];exact h3) (by lia) (by rw[hk];exact⟨_,I',q⟩)
theorem Av(lo hi:Option Int)(n:Nat):(sliceBounds lo hi none n).1=((HT.iz n 0 lo:Nat):Int)/\(sliceBounds lo hi none n).2.1=((HT.iz n n hi:Nat):Int)/\(sliceBounds lo hi none n).2.2=1:=by
 refine⟨?_, ?_,Z⟩
 .cases lo with
  | none=>simp[sliceBounds,HT.iz]
  | some i=>
    simp only[sliceBounds,HT.iz,Option.getD_none,show (1:Int)>0 by decide,if_true]
    by_cases h:i<0
    .simp only[h,if_true]<;>lia
    .simp only[h,if_false]<;>lia
 .cases hi with
  | none=>simp[sliceBounds,HT.iz]
  | some i=>
    simp only[sliceBounds,HT.iz,Option.getD_none,show (1:Int)>0 by decide,if_true]
    by_cases h:i<0
    .simp only[h,if_true]<;>lia
    .simp only[h,if_false]<;>lia
theorem yD(its:List Value)(lo hi:Option Int):slicePick its.toArray lo hi none=((its.drop (HT.iz its.length 0 lo)).take (HT.iz its.length its.length hi - HT.iz its.length 0 lo)).toArray:=by
 obtain⟨h1,h2,h3⟩:=Av lo hi its.toArray.size;unfold slicePick;rw[h1,h2,h3];simp only[sliceRange_one,pick_run,aa5]<;>rfl
noncomputable def aaR(K:PySem.W.Frag):V->Option Int->Option Int->Hp->VK->Prop:=λx lo hi H Q=>∃a xs,x = .ref a/\bH K H a xs /\ ∀p,H p=none->Q (.ref p) (upd H p (.lst (oN xs lo hi)))
theorem S5:SlR X (aaR X.K):=by
 intro pins s σ H x v vl vu lo hi sl Q I rx hs pl pu h;obtain⟨a,xs,rfl,hx,q⟩:=h;cases rx;obtain⟨its,r,ht,hz⟩:=I.list hx;have hlen:=r.length;refine⟨"list",_,slot_list_getitem.lookup,ht.isList.typeIs, ?_⟩;refine wpAny_getItem_list_slice ht.isList hs pl pu .none (by simp) ?_ (by rw[aa5]<;>lia);rw[yD,←hlen];refine⟨.ref s.heap.objs.size,_,I.laid (t':=s.toks) (o:= .lst (oN xs lo hi)) (λb ob q=>aai _ q) (aar _) ?_,Z,q _ (I.hok.fresh (aar _))⟩;exact⟨acH (uQ xs lo hi) hz,_,0,(r.drop (HT.iz xs.length 0 lo)).take (HT.iz xs.length xs.length hi - HT.iz xs.length 0 lo),aaj _ rfl⟩
noncomputable def uP:V->Bool
 | .non=>true
 | .bl _=>true
 | .int _=>true
 | .str _=>true
 | _=>false
noncomputable def Ms:V->V->Bool
 | .non,.non=>true
 | .bl a,.bl b=>a==b
 | .bl a,.int b=>(if a then 1 else 0)==b
 | .int a,.bl b=>a==(if b then 1 else 0)
 | .int a,.int b=>a==b
 | .str a,.str b=>a==b
 | _,_=>false
theorem Y5{A:Around}{s:Shared}{y x:V}{u v:Value}(ry:RelV y u)(rx:RelV x v)(fy:uP y=true)(fx:uP x=true):SeqAt.EqAt A s u v (Ms y x):=by
 cases y with
 | non=>
   cases ry;cases x with
   | non=>cases rx;exact SeqAt.EqAt.same _
   | bl b=>cases rx;exact SeqAt.EqAt.none_bool b
   | int b=>obtain⟨t,rfl⟩:=rx;exact SeqAt.EqAt.none_int b t
   | str b=>obtain⟨t,rfl⟩:=rx;exact SeqAt.EqAt.none_str b t
   | _=>exact acP (show false=true from fx) aaY
 | bl a=>
   cases ry;cases x with
   | non=>cases rx;exact SeqAt.EqAt.bool_none a
   | bl b=>cases rx;exact SeqAt.EqAt.bool_bool a b
   | int b=>obtain⟨t,rfl⟩:=rx;exact SeqAt.EqAt.bool_int a b t
   | str b=>obtain⟨t,rfl⟩:=rx;exact SeqAt.EqAt.bool_str a b t
   | _=>exact acP (show false=true from fx) aaY
 | int a=>
   obtain⟨t',rfl⟩:=ry;cases x with
   | non=>cases rx;exact SeqAt.EqAt.int_none a t'
   | bl b=>cases rx;exact SeqAt.EqAt.int_bool a t' b
   | int b=>obtain⟨t,rfl⟩:=rx;exact SeqAt.EqAt.int_int a t' b t
   | str b=>obtain⟨t,rfl⟩:=rx;exact SeqAt.EqAt.int_str a t' b t
   | _=>exact acP (show false=true from fx) aaY
 | str a=>
   obtain⟨t',rfl⟩:=ry;cases x with
   | non=>cases rx;exact SeqAt.EqAt.str_none a t'
   | bl b=>cases rx;exact SeqAt.EqAt.str_bool a t' b
   | int b=>obtain⟨t,rfl⟩:=rx;exact SeqAt.EqAt.str_int a t' b t
   | str b=>obtain⟨t,rfl⟩:=rx;exact SeqAt.EqAt.str_str a t' b t
   | _=>exact acP (show false=true from fx) aaY
 | _=>exact acP (show false=true from fy) aaY
noncomputable def HS(x:V)(u:Value):Bool:=match u with
 | .none=>Ms .non x
 | .bool b=>Ms (.bl b) x
 | .int i _=>Ms (.int i) x
 | .str z _=>Ms (.str z) x
 | _=>false
theorem Qw{x y:V}{u:Value}(r:RelV y u)(f:uP y=true):HS x u=Ms y x:=by
 cases y with
 | non=>cases r;rfl
 | bl b=>cases r;rfl
 | int i=>obtain⟨t,rfl⟩:=r;rfl
 | str z=>obtain⟨t,rfl⟩:=r;rfl
 | _=>exact acP (show false=true from f) aaY
theorem sE{x:V}:∀{xs:List V}{us:List Value},Vals xs us->xs.all uP=true->us.any (HS x)=xs.any λy=>Ms y x
 | _,_,.nil,_=>rfl
 | y::xs,u::us,.cons r t,f=>by
   rw[List.all_cons,abw] at f;rw[List.any_cons,List.any_cons,Qw r f.1,sE t f.2]
theorem oG{A:Around}{s:Shared}{x:V}{v:Value}(rx:RelV x v)(fx:uP x=true):∀{xs:List V}{us:List Value},Vals xs us->xs.all uP=true -> ∀u∈us,SeqAt.EqAt A s u v (HS x u)
 | _,_,.nil,_=>λu hu=>by cases hu
 | y::xs,u::us,.cons r t,f=>λu' hu=>by
   rw[List.all_cons,abw] at f;rcases List.mem_cons.mp hu with rfl|hu
   .rw[Qw r f.1];exact Y5 r rx f.1 fx
   .exact oG rx fx t f.2 u' hu
noncomputable def inV(x:V)(xs:List V):Bool:=xs.any λy=>Ms y x
noncomputable def rIn(K:PySem.W.Frag)(neg:Bool):R2:=λx y H Q=>∃p xs,y = .ref p/\(bH K H p xs\/cH K H p xs)/\uP x=true/\xs.all uP=true/\Q (.bl (if neg then !inV x xs else inV x xs)) H
theorem Kv:nF X (compareOp .In) (rIn X.K false):=by
 intro pins s σ H x y v u Q I rx ry h;obtain⟨p,xs,rfl,hq,fx,fs,q⟩:=h;cases ry;rcases hq with hq|hq
 .obtain⟨its,r,pl,hz⟩:=I.list hq
  refine SeqAt.in_listAt (HS x) pl.isList (λw hw=>oG rx fx r fs w (by simpa using hw)) ⟨.bl _,H,I,Z, ?_⟩;rw[show its.toArray.any (HS x)=its.any (HS x) by simp,sE r fs];exact q
 .obtain⟨its,r,pl,hz⟩:=I.tuple hq
  refine SeqAt.in_tupleAt (HS x) pl (λw hw=>oG rx fx r fs w (by simpa using hw)) ⟨.bl _,H,I,Z, ?_⟩;rw[show its.toArray.any (HS x)=its.any (HS x) by simp,sE r fs];exact q
theorem Br:nF X (compareOp .NotIn) (rIn X.K true):=by
 intro pins s σ H x y v u Q I rx ry h;obtain⟨p,xs,rfl,hq,fx,fs,q⟩:=h;cases ry;rcases hq with hq|hq
 .obtain⟨its,r,pl,hz⟩:=I.list hq
  refine SeqAt.notIn_listAt (HS x) pl.isList (λw hw=>oG rx fx r fs w (by simpa using hw)) ⟨.bl _,H,I,Z, ?_⟩;rw[show its.toArray.any (HS x)=its.any (HS x) by simp,sE r fs];exact q
 .obtain⟨its,r,pl,hz⟩:=I.tuple hq
  refine SeqAt.notIn_tupleAt (HS x) pl (λw hw=>oG rx fx r fs w (by simpa using hw)) ⟨.bl _,H,I,Z, ?_⟩;rw[show its.toArray.any (HS x)=its.any (HS x) by simp,sE r fs];exact q
theorem Cp:jy X (.builtin "len") (λxs H Q=>∃p ys,xs=[.ref p]/\(bH X.K H p ys\/cH X.K H p ys)/\Q (.int ys.length) H):=by
 intro pins s σ H xs us Q I r h;obtain⟨p,ys,rfl,hq,q⟩:=h;obtain⟨u,rfl,rx⟩:=vals1 r;cases rx;have hn:=ug;rcases hq with hq|hq
 .obtain⟨its,r',pl,hz⟩:=I.list hq
  have hlen:=r'.length;exact Calls.call_len_list pl.isList (by simp only[aa5]<;>lia) ⟨.int ys.length,H,I.tok _,⟨s.toks+1,by rw[aa5,hlen]⟩,q⟩
 .obtain⟨its,r',pl,hz⟩:=I.tuple hq
  have hlen:=r'.length;exact len_tuple pl (by simp only[aa5]<;>lia) ⟨.int ys.length,H,I.tok _,⟨s.toks+1,by rw[aa5,hlen]⟩,q⟩
theorem Cm:jy X (.type "list") (λxs H Q=>∃p ys,xs=[.ref p]/\(bH X.K H p ys\/cH X.K H p ys) /\ ∀l,H l=none->Q (.ref l) (upd H l (.lst ys))):=by
 intro pins s σ H xs us Q I r h;obtain⟨p,ys,rfl,hq,q⟩:=h;obtain⟨u,rfl,rx⟩:=vals1 r;cases rx
 have fin:∀(its:List Value),Vals ys its->ys.length<=sizeLine -> ∀(h':Heap)(c':Nat),(∀b o',s.heap.get? b=some o'->h'.get? b=some o') ->
  h'.get? s.heap.objs.size=some {cls:= .type "list",dict:=none,data:= .seq its.toArray c',slots:= #[]}->EP X pins σ Q (.ref s.heap.objs.size) {s with heap:=h'}:=λits r' hz h' c' kp e=>
  ⟨.ref s.heap.objs.size,_,I.laid (t':=s.toks) kp (aar _) (show cP X.prog X.w _ h' _ (.lst ys) from ⟨hz,its,c',r',e⟩),Z,q _ (I.hok.fresh (aar _))⟩
 rcases hq with hq|hq
 .obtain⟨its,r',pl,hz⟩:=I.list hq
  have hlen:=r'.length;obtain⟨o,ho,hc,n,hd⟩:=pl.isList;exact call_list_seq p (.inl rfl) ho hc hd (λh' c' kp e=>fin its r' hz h' c' kp e) (by simp only[aa5]<;>lia)
 .obtain⟨its,r',pl,hz⟩:=I.tuple hq
  have hlen:=r'.length;obtain⟨o,ho,hc,n,hd⟩:=pl;exact call_list_seq p (.inr rfl) ho hc hd (λh' c' kp e=>fin its r' hz h' c' kp e) (by simp only[aa5]<;>lia)
noncomputable def tyV(K:PySem.W.Frag)(T:String)(x:V)(H:Hp):Prop:=match x with
 | .str _=>T = "str"
 | .int _=>T = "int"
 | .ref p=>(T = "list" /\ ∃xs,bH K H p xs)\/(T = "tuple" /\ ∃o,K.lookup p=some o/\o.cls = .type "tuple" /\ o.dict=none) \/
    (T = "dict" /\ ((∃kvs,H p=some (.dK kvs)) \/ ∃kvs,H p=some (.dT kvs)))\/(T = "set" /\ ∃S n,H p=some (.set S n))
 | _=>False
theorem MP{pins:List (Addr×Obj)}{σ:St}{H:Hp}{s:Shared}{T:String}{x:V}{v:Value}(I:Inv X pins σ H s)(r:RelV x v)(ty:tyV X.K T x H):
 s.TypeIs v T /\ ∀a,v = .ref a -> ∃ob,s.heap.get? a=some ob/\ob.dict=none:=by
 cases x with
 | str z=>
   obtain⟨t,rfl⟩:=r;cases (show T = "str" from ty);exact⟨typeIs_str s z t,λ_ e=>nomatch e⟩
 | int i=>
   obtain⟨t,rfl⟩:=r;cases (show T = "int" from ty);exact⟨typeIs_int s i t,λ_ e=>nomatch e⟩
 | ref p=>
   cases r;rcases ty with ⟨rfl,xs,hq⟩|⟨rfl,o,hk,hc,hd⟩|⟨rfl,hk⟩|⟨rfl,S,n,hk⟩
   .obtain⟨its,_,pl,_⟩:=I.list hq
    refine⟨pl.isList.typeIs,λa e=>?_⟩;cases e;obtain⟨o,n,e,c,hd,_⟩:=pl;exact⟨o,e,hd⟩
   .refine⟨⟨o,I.mO p o hk,hc⟩,λa e=>?_⟩
    cases e;exact⟨o,I.mO _ o hk,hd⟩
   .have z:∃o,s.heap.get? p=some o/\o.ExactDict:=by
     rcases hk with ⟨kvs,hk⟩|⟨kvs,hk⟩
     .obtain⟨_,_,_,_,o,_,_,e,ex,_⟩:=I.hok p _ hk
      exact⟨o,e,ex⟩
     .obtain⟨_,_,_,_,o,_,_,e,ex,_⟩:=I.hok p _ hk
      exact⟨o,e,ex⟩
    obtain⟨o,e,ex⟩:=z;refine⟨⟨o,e,ex.1⟩,λa e2=>?_⟩;cases e2;exact⟨o,e,ex.2.1⟩
   .obtain⟨o,_,_,_,e,ex,_⟩:=I.hok p _ hk
    refine⟨⟨o,e,ex.1⟩,λa e2=>?_⟩;cases e2;exact⟨o,e,ex.2.1⟩
 | _=>exact False.elim ty
noncomputable def aaB(K:PySem.W.Frag)(T:String)(r:V->List V->Hp->VK->Prop)(to:TE):TE:=λσ H Q=>to σ H λx H1=>tyV K T x H1/\r x [] H1 Q
noncomputable def tBM(K:PySem.W.Frag)(T:String)(r:V->List V->Hp->VK->Prop)(to:TE)(t:TA):TE:=λσ H Q=>to σ H λx H1=>tyV K T x H1/\t σ H1 λxs H2=>r x xs H2 Q
variable{o e:Expr}{es:List Expr}{to:TE}{t:TA}{name:Str}{apos cpos:Pos}{T id:String}{r:V->List V->Hp->VK->Prop}
theorem X5(pa:PlainAttrs T)(slot:Slot T name id)(hty:typeOf (.builtin id)=pure (.type "method_descriptor"))(hm:Zw X id r)(ho:PE X o to)(hbase:attributeBase o name X.env (eval o X.env)=eval o X.env:=by rfl)(hline:(apos.endLine==cpos.line)=true:=by rfl):PE X (.Call (.Attribute o name apos) [] [] cpos) (aaB X.K T r to):=by
 intro pins s σ H Q I h;refine wpAny_Call_method0_late hbase hline (cX (ho pins s σ H _ I h) λv s1 gw=>?_);obtain⟨x,H1,I1,r1,ty,q1⟩:=gw;obtain⟨h1,h2⟩:=MP I1 r1 ty;exact⟨T,id,pa,slot,hty,h1,h2,Calls.callWith_builtin rfl (PySem.evalArgs_none (hm pins s1 σ H1 x [] v [] Q I1 r1 .nil q1))⟩
theorem V0(pa:PlainAttrs T)(slot:Slot T name id)(hty:typeOf (.builtin id)=pure (.type "method_descriptor"))(hm:Zw X id r)(ho:PE X o to)(ha:PA X (e::es) t)(hbase:attributeBase o name X.env (eval o X.env)=eval o X.env:=by rfl)(hfew:((backTo cpos (starEach (e::es) X.env)).all (λx=> !x.1)&&(backToKw cpos (keywordEach [] X.env)).all (λx=>x.1.isSome)
   && decide ((e::es).length+([]:List Keyword).length+(if ([]:List Keyword).isEmpty then 0 else 1)<30))=true:=by rfl)(hline:(apos.endLine==cpos.line)=true:=by rfl)(hs:starEach (e::es) X.env=(false,eval e X.env)::starEach es X.env:=by rfl)(hplain:(backTo cpos (starEach es X.env)).any (·.1)=false:=by rfl):
 PE X (.Call (.Attribute o name apos) (e::es) [] cpos) (tBM X.K T r to t):=by
 intro pins s σ H Q I h;refine wpAny_Call_method_late hbase hfew hline rfl (cX (ho pins s σ H _ I h) λv s1 gw=>?_);obtain⟨x,H1,I1,r1,ty,q1⟩:=gw;obtain⟨h1,h2⟩:=MP I1 r1 ty;refine⟨T,id,pa,slot,hty,h1,h2, ?_⟩;have hA:=ha cpos pins s1 σ H1 _ I1 q1;rw[hs] at hA ⊢;refine Calls.callWith_builtin (by show (false||(backTo cpos (starEach es X.env)).any (·.1))=false;rw[hplain]<;>rfl) (Calls.evalArgs_plain ?_);exact cX hA λus s2 ⟨vs,H2,I2,r2,q2⟩=>hm pins s2 σ H2 x vs v us Q I2 r1 r2 q2
end
noncomputable def MtM(X:Cx)(id:String)(r:V->List V->Hp->VK->Prop):Prop:=
 ∀(pins:List (Addr×Obj))(s:Shared)(σ:St)(H:Hp)(x:V)(xs:List V)(v:Value)(us:List Value)(Q:VK),Inv X pins σ H s->RelV x v->Vals xs us->r x xs H Q ->
  wpAny (model X.prog X.w) X.A (call (.builtin id) (v::us)) (EP X pins σ Q) X.xe s
theorem Vals.one{x:V}{us:List Value}(h:Vals [x] us):∃u,us=[u]/\RelV x u:=by
 cases h with
 | cons r t=>cases t;exact⟨_,Z,r⟩
theorem Vals.zero:∀{us:List Value},Vals [] us->us=[]
 | _,.nil=>rfl
theorem Vals.eraseIdx:∀{xs:List V}{us:List Value}(i:Nat),Vals xs us->Vals (xs.eraseIdx i) (us.eraseIdx i)
 | _,_,_,.nil=> .nil
 | _,_,0,.cons _ t=>t
 | _,_,i+1,.cons r t=> .cons r (Vals.eraseIdx i t)
theorem Vals.rep{xs:List V}{us:List Value}(h:Vals xs us):∀k:Nat,Vals (List.replicate k xs).flatten (List.replicate k us).flatten
 | 0=> .nil
 | k+1=>by
   rw[List.replicate_succ,List.replicate_succ,List.flatten_cons,List.flatten_cons];exact Vals.append h (Vals.rep h k)
theorem zE{α:Type}:∀(l:List α)(i:Nat),(l.eraseIdx i).length<=l.length
 | [],_=>aar _
 | _::_,0=>Nat.le_succ _
 | _::r,i+1=>Nat.succ_le_succ (zE r i)
theorem foldl_rep(its:List Value):∀(k:Nat)(acc:List Value),
 List.foldl (λx1 x2=>x1++x2) acc.toArray (List.replicate k its.toArray)=(acc++(List.replicate k its).flatten).toArray
 | 0,acc=>by simp
 | k+1,acc=>by
   have e:acc.toArray++its.toArray=(acc++its).toArray:=by simp
   have e2:(acc++its)++(List.replicate k its).flatten=acc++(List.replicate (k+1) its).flatten:=by
    rw[List.replicate_succ,List.flatten_cons,List.append_assoc]
   rw[←e2,←foldl_rep its k (acc++its),←e,List.replicate_succ,List.foldl_cons]
section
variable{X:Cx}{pins:List (Addr×Obj)}{σ:St}{H:Hp}{s:Shared}{l b:Addr}{xs ys zs:List V}
theorem Inv.Yw{its its':List Value}{n:Nat}{f:Array Value->Array Value}{t':Nat}(I:Inv X pins σ H s)(hH:H l=some (.lst xs))(e:s.heap.get? l=some {cls:= .type "list",data:= .seq its.toArray n})(hf:f its.toArray=its'.toArray)(hv:Vals ys its')(hz:ys.length<=sizeLine):
 Inv X pins σ (upd H l (.lst ys)) {s with heap:=s.heap.update l (Obj.mapSeq f),toks:=t'}:=by
 have q:=PySem.IsL.update e f;rw[hf] at q;refine I.write (x:=l) (e:=l) (by rw[hH];exact trivial) (.inl rfl) (λb' u hb hu=>(Heap.get?_update_other s.heap (Obj.mapSeq f) (Ne.symm hb)).trans hu) ⟨_,q⟩ ?_;exact⟨hz,its',_,hv,q⟩
theorem Inv.abn{its:List Value}{t':Nat}(I:Inv X pins σ H s)(hv:Vals ys its)(hz:ys.length<=sizeLine):
 Inv X pins σ (upd H s.heap.objs.size (.lst ys)) {s with heap:=s.heap.push {cls:= .type "list",data:= .seq its.toArray},toks:=t'}:=
 I.laid (λ_ _ q=>aai _ q) (aar _) ⟨hz,its,0,hv,aaj _ rfl⟩
theorem Inv.fresh(I:Inv X pins σ H s):H s.heap.objs.size=none:=I.hok.fresh (aar _)
theorem Inv.K6(I:Inv X pins σ H s)(hH:H l=some (.lst xs)):xs.length<=sizeLine /\ ∃(its:List Value) (n:Nat),Vals xs its/\xs.length=its.length/\s.heap.get? l=some {cls:= .type "list",data:= .seq its.toArray n}:=by
 obtain⟨z,its,n,r,e⟩:=I.hok l _ hH;exact⟨z,its,n,r,r.length,e⟩
theorem O8{n:Nat}(h:n<=sizeLine):Builtin.List.listTooLong n=false:=by
 unfold Builtin.List.listTooLong;exact aaN (by lia)
end
section
variable{X:Cx}
noncomputable def Jq:V->List V->Hp->VK->Prop:=λx vs H Q=>∃l xs y,x = .ref l/\vs=[y]/\H l=some (.lst xs)/\xs.length<sizeLine/\Q .non (upd H l (.lst (xs++[y])))
theorem zA:MtM X "list.append" Jq:=by
 intro pins s σ H x vs v us Q I rx rv h;obtain⟨l,xs,y,rfl,rfl,hH,hz,q⟩:=h;cases rx;obtain⟨u,rfl,ru⟩:=rv.one;obtain⟨z,its,n,r,hl,e⟩:=I.K6 hH;refine call_meets F.slot_list_append ⟨_,e,Z⟩ F.entry_list_append (F.args_list_append_2 _ _) (PySem.list_append l its.toArray n u (by rw[aa5];lia)) ⟨e, ?_⟩;refine⟨.non,_,I.Yw (its':=its++[u]) hH e (by simp) (r.append (.cons ru .nil)) ?_,Z,q⟩;rw[aa_,abT];lia
noncomputable def Xw:V->List V->Hp->VK->Prop:=λx vs H Q=>∃l xs i k y,x = .ref l/\vs=[.int i]/\H l=some (.lst xs) /\ -(2 ^ 63)<=i/\i<2 ^ 63/\seqIndex? i xs.length=some k/\xs[k]? = some y/\Q y (upd H l (.lst (xs.eraseIdx k)))
theorem Pn:MtM X "list.pop" Xw:=by
 intro pins s σ H x vs v us Q I rx rv h;obtain⟨l,xs,i,k,y,rfl,rfl,hH,h1,h2,hk,hy,q⟩:=h;cases rx;obtain⟨u,rfl,ru⟩:=rv.one;obtain⟨t,rfl⟩:=ru;obtain⟨z,its,n,r,hl,e⟩:=I.K6 hH;obtain⟨w,hw,rw'⟩:=r.get hy
 refine call_meets F.slot_list_pop ⟨_,e,Z⟩ F.entry_list_pop (F.args_list_pop_2 _ _)
  (MeetsSeq.list_pop_at l its.toArray n i t k w (fitsIndex_both h1 h2) (by rw[aa5,←hl];exact hk) (by rw[←Array.getElem?_toList];exact hw) (by rw[aa5];lia)) ⟨e, ?_⟩
 refine⟨y,_,I.Yw (its':=its.eraseIdx k) hH e ?_ (r.eraseIdx k) ?_,rw',q⟩
 .show its.toArray.eraseIdxIfInBounds k=(its.eraseIdx k).toArray
  rw[List.eraseIdxIfInBounds_toArray]
 .have:=zE xs k
  lia
noncomputable def Xy:V->List V->Hp->VK->Prop:=λx vs H Q=>∃l xs,x = .ref l/\vs=[]/\H l=some (.lst xs)/\Q .non (upd H l (.lst []))
theorem wN:MtM X "list.clear" Xy:=by
 intro pins s σ H x vs v us Q I rx rv h;obtain⟨l,xs,rfl,rfl,hH,q⟩:=h;cases rx;have hus:=rv.zero;subst hus;obtain⟨z,its,n,r,hl,e⟩:=I.K6 hH;refine call_meets F.slot_list_clear ⟨_,e,Z⟩ F.entry_list_clear (F.args_list_clear_1 _) (AutoSeq1.list_clear_list_0 l its.toArray n (by rw[aa5];lia)) ⟨e, ?_⟩;exact⟨.non,_,I.Yw (its':=[]) (ys:=[]) hH e rfl .nil (Nat.zero_le _),Z,q⟩
noncomputable def ae6:R2:=λx y H Q=>∃l b xs zs,x = .ref l/\y = .ref b/\H l=some (.lst xs)/\H b=some (.lst zs)/\xs.length+zs.length<=sizeLine /\ ∀p,H p=none->Q (.ref p) (upd H p (.lst (xs++zs)))
theorem Bv:nF X (binaryOp .Add) ae6:=by
 intro pins s σ H x y v u Q I rx ry h;obtain⟨l,b,xs,zs,rfl,rfl,hH,hB,hz,q⟩:=h;cases rx;cases ry;obtain⟨z,its,n,r,hl,e⟩:=I.K6 hH;obtain⟨z2,its2,n2,r2,hl2,e2⟩:=I.K6 hB;refine PySem.P.add_list e e2 ?_ (by rw[aa5,aa5];lia);have ea:its.toArray++its2.toArray=(its++its2).toArray:=by simp
 rw[ea];exact⟨.ref _,_,I.abn (t':=s.toks) (r.append r2) (by rw[aa_];lia),Z,q _ I.fresh⟩
noncomputable def ae1:R2:=λx y H Q=>∃l k xs,x = .ref l/\y = .int k/\H l=some (.lst xs) /\ -(2 ^ 63)<=k/\k<2 ^ 63/\xs.length*k.toNat<=sizeLine /\
 ∀p,H p=none->Q (.ref p) (upd H p (.lst (List.replicate k.toNat xs).flatten))
theorem len_rep{α:Type}(xs:List α)(k:Nat):(List.replicate k xs).flatten.length=k*xs.length:=by
 induction k with
 | zero=>simp
 | succ k ih=>rw[List.replicate_succ,List.flatten_cons,aa_,ih,Nat.succ_mul,Nat.add_comm]
theorem wD:nF X (binaryOp .Mult) ae1:=by
 intro pins s σ H x y v u Q I rx ry h;obtain⟨l,k,xs,rfl,rfl,hH,h1,h2,hz,q⟩:=h;cases rx;obtain⟨t,rfl⟩:=ry;obtain⟨z,its,n,r,hl,e⟩:=I.K6 hH;have hlen:its.toArray.size*k.toNat<=sizeLine:=by rw[aa5,←hl];exact hz
 have hcap:¬its.toArray.size*k.toNat>(2 ^ 63 - 1) / 8:=by
  have:(sizeLine:Nat)<=(2 ^ 63 - 1) / 8:=by decide
  lia
 have hfit:¬(!Builtin.List.listFitsIndex k)=true:=by
  rw[fitsIndex_both h1 h2];exact aaY
 have abM:¬Builtin.List.listTooLong (its.toArray.size*k.toNat)=true:=by
  rw[O8 hlen];exact aaY
 have hnew:List.foldl (λx1 x2=>x1++x2) #[] (List.replicate (if its.toArray.isEmpty=true then 0 else k.toNat) its.toArray)=(List.replicate k.toNat its).flatten.toArray:=by
  have f0:∀m:Nat,List.foldl (λx1 x2=>x1++x2) #[] (List.replicate m its.toArray)=(List.replicate m its).flatten.toArray:=λm=>by
   have:=foldl_rep its m [];rw[List.nil_append] at this;exact this
  rw[f0];cases its with
  | nil=>simp
  | cons a r'=>rw[acK (by simp)]
 refine wpAny_binaryOp_repeat_ref (T:= "list") (U:= "int") (by decide) ⟨_,e,Z⟩ (λs'=>typeIs_int s' k t) noFill_list_mul F.fills_int_mul F.slot_int_rmul repeat_list F.slot_int_index.lookup
  (call_meets F.slot_int_rmul (typeIs_int s k t) F.entry_int_rmul (F.args_int_rmul_2 _ _) (int___rmul___int_list k t l its.toArray n)
    ⟨e,Z,⟨_,e,Z⟩,call_meets F.slot_list_mul ⟨_,e,Z⟩ F.entry_list_mul (F.args_list_mul_2 _ _) (AutoListH.list___mul___list_int_3 l its.toArray n k t hfit hcap abM) ⟨e, ?_⟩⟩)
 rw[hnew];exact⟨.ref _,_,I.abn (t':=s.toks) (r.rep k.toNat) (by rw[len_rep,Nat.mul_comm];exact hz),Z,q _ I.fresh⟩
end
section
variable{prog:Program}{w:World}{A:Around}{E:Value->Shared->Prop}{s:Shared}
end
section
variable{X:Cx}
end
section
variable{κ:Type}[DecidableEq κ]
noncomputable def eV(kvs:List (κ×V))(k:κ):Option V:=(kvs.find? λkv=>decide (kv.1=k)).map (·.2)
noncomputable def putK(kvs:List (κ×V))(k:κ)(v:V):List (κ×V):=
 if (kvs.any λkv=>decide (kv.1=k))=true then kvs.map (λkv=>if kv.1=k then (kv.1,v) else kv) else kvs++[(k,v)]
theorem fH{p:κ×V}{r:List (κ×V)}{k:κ}(e:p.1=k):eV (p::r) k=some p.2:=by simp[eV,List.find?_cons,e]
theorem fJ{p:κ×V}{r:List (κ×V)}{k:κ}(e:¬p.1=k):eV (p::r) k=eV r k:=by simp[eV,List.find?_cons,e]
theorem qM(k:κ):∀kvs:List (κ×V),(kvs.any λkv=>decide (kv.1=k))=(eV kvs k).isSome
 | []=>rfl
 | p::r=>by
   rw[List.any_cons]
   by_cases e:p.1=k
   .simp only[fH e,aaL e,Bool.true_or,Option.isSome_some]
   .rw[fJ e,aaN e,Bool.false_or];exact qM k r
theorem Dn(k j:κ)(y:V):∀kvs:List (κ×V),eV (kvs.map λkv=>if kv.1=k then (kv.1,y) else kv) j=(eV kvs j).map λx=>if j=k then y else x
 | []=>rfl
 | p::r=>by
   have ih:=Dn k j y r;rw[List.map_cons]
   by_cases h:p.1=k
   .rw[acM h]
    by_cases e:p.1=j
    .rw[fH (p:=(p.1,y)) e,fH e,Option.map_some,acM (e.symm.trans h)]
    .rw[fJ (p:=(p.1,y)) e,fJ e,ih]
   .rw[acK h]
    by_cases e:p.1=j
    .rw[fH (p:=p) e,fH e,Option.map_some,acK (λz=>h (e.trans z))]
    .rw[fJ (p:=p) e,fJ e,ih]
theorem yX(k j:κ)(y:V):∀kvs:List (κ×V),eV kvs k=none->eV (kvs++[(k,y)]) j=if j=k then some y else eV kvs j
 | [],_=>by
   by_cases e:k=j
   .rw[acM e.symm];exact fH (p:=(k,y)) e
   .rw[acK (λz=>e z.symm)];exact fJ (p:=(k,y)) e
 | p::r,hn=>by
   rw[List.cons_append];have hk:¬p.1=k:=λz=>by rw[fH z] at hn;cases hn
   rw[fJ hk] at hn;have ih:=yX k j y r hn
   by_cases e:p.1=j
   .rw[fH e,fH e,acK (λz=>hk (e.trans z))]
   .rw[fJ e,fJ e,ih]
theorem vG(kvs:List (κ×V))(k j:κ)(y:V):eV (putK kvs k y) j=if j=k then some y else eV kvs j:=by
 unfold putK
 by_cases a:(kvs.any λkv=>decide (kv.1=k))=true
 .rw[acM a,Dn]
  rw[qM] at a
  by_cases e:j=k
  .obtain⟨x,hx⟩:=Option.isSome_iff_exists.mp a
   rw[acM e,e,hx,Option.map_some,acM rfl]
  .rw[acK e]
   cases eV kvs j with
   | none=>rfl
   | some x=>rw[Option.map_some,acK e]
 .rw[acK a]
  refine yX k j y kvs ?_;rw[qM] at a;cases q:eV kvs k with
  | none=>rfl
  | some x=>rw[q] at a;exact(a rfl).elim
theorem uK(kvs:List (κ×V))(k:κ)(v:V):(putK kvs k v).length<=kvs.length+1:=by
 unfold putK;split
 .rw[aac];lia
 .rw[aa_,acw,List.length_nil];lia
theorem nA.Lf{o:Option V}{u:Option Value}(r:nA o u):o.isSome=u.isSome:=by
 cases o with
 | none=>cases u with
   | none=>rfl
   | some _=>exact(show False from r).elim
 | some _=>cases u with
   | none=>exact(show False from r).elim
   | some _=>rfl
theorem nA.getD{o:Option V}{u:Option Value}{d:V}{d':Value}(r:nA o u)(rd:RelV d d'):RelV (o.getD d) (u.getD d'):=by
 cases o with
 | none=>cases u with
   | none=>exact rd
   | some _=>exact(show False from r).elim
 | some _=>cases u with
   | none=>exact(show False from r).elim
   | some _=>exact r
theorem KV.val{kvs:List (κ×V)}{vs:List (κ×Value)}(r:KV kvs vs)(k:κ):nA (eV kvs k) (valueAt vs k):=by
 unfold KV at r
 induction r with
 | nil=>exact True.intro
 | @cons p q ps qs h t ih=>
   obtain⟨h1,h2⟩:=h
   by_cases e:p.1=k
   .have e':q.1=k:=h1.symm.trans e
    have b:valueAt (q::qs) k=some q.2:=by simp[valueAt,List.find?_cons,e']
    rw[fH e,b];exact h2
   .have e':¬q.1=k:=λz=>e (h1.trans z)
    have b:valueAt (q::qs) k=valueAt qs k:=by simp[valueAt,List.find?_cons,e']
    rw[fJ e,b];exact ih
end
theorem Wb{P:Program}{w:World}{k:Key}{u:Value}(r:RelV (kV k) u):(eN P w).is k u=true:=by
 cases k with
 | inl i=>obtain⟨t,e⟩:=(show ∃t,u=Value.int i t from r);subst e;exact Ei P w i t
 | inr x=>obtain⟨t,e⟩:=(show ∃t,u=Value.str x t from r);subst e;exact Eh P w x t
theorem zG{P:Program}{w:World}:∀{ks:List Key}{us:List Value},Vals (ks.map kV) us->ItemsAre (eN P w) ks us
 | [],_,r=>by rw[List.map_nil] at r;cases r;exact .nil
 | k::ks,_,r=>by
   rw[List.map_cons] at r;cases r with
   | cons h t=>exact .cons (Wb h) (zG t)
noncomputable abbrev KT(H:Hp):List (List Key×V)->List (List Key×Addr×Value)->Prop:=Paired λp q=>p.1=q.1/\H q.2.1=some (.tup (p.1.map kV))/\RelV p.2 q.2.2
theorem KT.val{H:Hp}{kvs:List (List Key×V)}{xs:List (List Key×Addr×Value)}(r:KT H kvs xs)(k:List Key):nA (eV kvs k) ((atKey xs k).map (·.2)):=by
 induction r with
 | nil=>exact True.intro
 | @cons p q ps qs h t ih=>
   obtain⟨h1,_,h2⟩:=h
   by_cases e:p.1=k
   .have e':q.1=k:=h1.symm.trans e
    have b:atKey (q::qs) k=some q.2:=by simp[atKey,List.find?_cons,e']
    rw[fH e,b];exact h2
   .have e':¬q.1=k:=λz=>e (h1.trans z)
    have b:atKey (q::qs) k=atKey qs k:=by simp[atKey,List.find?_cons,e']
    rw[fJ e,b];exact ih
theorem KT.repl{H:Hp}{kvs:List (List Key×V)}{xs:List (List Key×Addr×Value)}(r:KT H kvs xs)(k:List Key){y:V}{u:Value}(ry:RelV y u):
 KT H (kvs.map λkv=>if kv.1=k then (kv.1,y) else kv) (xs.map (putAt k u)):=by
 induction r with
 | nil=>exact .nil
 | @cons p q ps qs h t ih=>
   rw[List.map_cons,List.map_cons];refine .cons ?_ ih;obtain⟨h1,h2,h3⟩:=h;unfold putAt
   by_cases e:p.1=k
   .rw[acM e,acM (h1.symm.trans e)];exact⟨h1,h2,ry⟩
   .rw[acK e,acK (λz=>e (h1.trans z))];exact⟨h1,h2,h3⟩
theorem KT.put{H:Hp}{kvs:List (List Key×V)}{xs:List (List Key×Addr×Value)}(r:KT H kvs xs)(k:List Key){b:Addr}{y:V}{u:Value}(hb:H b=some (.tup (k.map kV)))(ry:RelV y u):
 KT H (putK kvs k y) (storedH xs k b u):=by
 have e:(kvs.any λkv=>decide (kv.1=k))=(atKey xs k).isSome:=by
  rw[qM,(r.val k).Lf,Option.isSome_map]
 unfold putK storedH;rw[e]
 by_cases q:(atKey xs k).isSome=true
 .rw[acM q,acM q];exact r.repl k ry
 .rw[acK q,acK q];exact Paired.snoc r ⟨Z,hb,ry⟩
theorem KT.keeps{H H':Hp}{kvs:List (List Key×V)}{xs:List (List Key×Addr×Value)}(r:KT H kvs xs)(ht:∀b ys,H b=some (.tup ys)->H' b=some (.tup ys)):KT H' kvs xs:=
 Paired.abh r λ_ _ z=>⟨z.1,ht _ _ z.2.1,z.2.2⟩
section
variable{P:Program}{w:World}{H:Hp}{h:Heap}{a:Addr}
theorem VN{u:HO}(ok:jU P w H h)(e:Rd H a u):cP P w H h a u:=e.ok ok
theorem Wu{kvs:List (Key×V)}(ok:jU P w H h)(e:Rd H a (.dK kvs)):kvs.length<=sizeLine/\(a==sysModules)=false /\ ∃vs,KV kvs vs/\h.DictOf (eN P w) a vs:=
 show cP P w H h a (.dK kvs) from VN ok e
theorem Hr{ks:List Key}(ok:jU P w H h)(e:H a=some (.tup (ks.map kV))):(tupleKind (eN P w)).is h ks a:=by
 obtain⟨_,its,r,o,h1,h2,n,h3⟩:=(show cP P w H h a (.tup (ks.map kV)) from ok a _ e);exact⟨o,its.toArray,n,h1,h2,h3,by simpa using zG r⟩
theorem Qy{kvs:List (List Key×V)}(ok:jU P w H h)(e:Rd H a (.dT kvs)):kvs.length<=sizeLine/\(a==sysModules)=false /\
 ∃xs,KT H kvs xs/\h.DictOfH (tupleKind (eN P w)) a xs:=by
 obtain⟨z,y,xs,r,o,es,ep,h1,h2,h3,h4,h5⟩:=(show cP P w H h a (.dT kvs) from VN ok e);refine⟨z,y,xs,r,o,es,ep,h1,h2,h3,h4,λx hx=>?_,h5⟩
 have all:∀{l:List (List Key×V)}{m:List (List Key×Addr×Value)},KT H l m -> ∀x∈m,(tupleKind (eN P w)).is h x.1 x.2.1:=by
  intro l m q
  induction q with
  | nil=>intro x hx;exact nomatch hx
  | @cons p q ps qs hq t ih=>
    intro x hx;rcases List.mem_cons.mp hx with e|hx
    .subst e
     exact Hr ok (by rw[←hq.1];exact hq.2.1)
    .exact ih x hx
 exact all r x hx
theorem ab'{kvs:List (List Key×V)}(ok:jU P w H h)(e:H a=some (.dT kvs)):kvs.length<=sizeLine/\(a==sysModules)=false /\
 ∃xs,KT H kvs xs/\h.DictOfH (tupleKind (eN P w)) a xs:=Qy ok (.inl e)
end
noncomputable def Ry(H:Hp)(a:Addr)(y:V)(r:Option V):Prop:=
 (∃kvs k,Rd H a (.dK kvs)/\y=kV k/\r=eV kvs k) \/ ∃kvs k b,Rd H a (.dT kvs)/\y = .ref b/\H b=some (.tup (k.map kV))/\r=eV kvs k
theorem Ry.t{H:Hp}{a b:Addr}{kvs:List (List Key×V)}{k:List Key}(e:H a=some (.dT kvs))(eb:H b=some (.tup (k.map kV))):Ry H a (.ref b) (eV kvs k):= .inr ⟨kvs,k,b,.inl e,Z,eb,Z⟩
section
variable{X:Cx}{pins:List (Addr×Obj)}{σ:St}{H:Hp}{s:Shared}{a:Addr}{y v:V}{u r:Value}{o:Option V}{A:Around}{E:Value->Shared->Prop}
theorem Inv.big(I:Inv X pins σ H s):sysModules<s.heap.objs.size:=by
 have h:mainGlobals<s.heap.objs.size:=(I.mod.glob.keeps I.bk).lt;exact Nat.lt_trans (by decide) h
theorem Ve{h':Heap}{t':Nat}{ob:HO}(I:Inv X pins σ H s)(mu:Mut (H a))(hs:Heap.SameBut a s.heap h')(he:∃q,h'.get? a=some q)(new:cP X.prog X.w (upd H a ob) h' a ob):
 Inv X pins σ (upd H a ob) {s with heap:=h',toks:=t'}:=
 I.write (x:=a) (e:=a) mu (.inl rfl) (λb q hb z=>(hs.2 b hb).trans z) he new
end
section
variable{X:Cx}{pins:List (Addr×Obj)}{σ:St}{H:Hp}{s:Shared}{a:Addr}{kvs:List (Key×V)}{k:Key}{u:Value}{A:Around}{E:Value->Shared->Prop}
end
section
variable{X:Cx}{o i e value:Expr}{pos pos' tpos:Pos}{td ty tv:TE}
end
theorem Qz{P:Program}{w:World}{H:Hp}(h:Heap)(hb:sysModules<h.objs.size):cP P w H (h.push {cls:= .type "dict",data:= .dict #[]}) h.objs.size (.dT []):=
 ⟨Nat.zero_le _,beq_eq_false_iff_ne.mpr (Ne.symm (abe hb)),[],.nil,_, #[],0,aaj _ rfl,⟨Z,Z,Z⟩,Z,Z,List.nodup_nil⟩
noncomputable def W_:TE:=λ_ H Q=>∀p,H p=none->Q (.ref p) (upd H p (.dT []))
section
variable{X:Cx}{pos:Pos}
theorem Oi:PE X (.Dict [] [] pos) W_:=λpins s σ H Q I h=>
 wpAny_Dict_empty ⟨.ref s.heap.objs.size,_,I.laid (a:=s.heap.objs.size) (o:= .dT []) (t':=s.toks) (λ_ _ q=>aai _ q) (aar _) (Qz s.heap I.big),Z,h _ (I.hok.fresh (aar _))⟩
end
structure M2(X:Cx)(o:Expr)(m:Str)(apos:Pos)(e f:Expr)(cpos:Pos):Prop where
 base:attributeBase o m X.env (eval o X.env)=eval o X.env
 few:((backTo cpos (starEach [e,f] X.env)).all (λx=> !x.1)&&(backToKw cpos (keywordEach [] X.env)).all (λx=>x.1.isSome)
  && decide (([e,f]:List Expr).length+([]:List Keyword).length+(if ([]:List Keyword).isEmpty then 0 else 1)<30))=true
 line:(apos.endLine==cpos.line)=true
 trees:backTo cpos (starEach [e,f] X.env)=[(false,eval e X.env),(false,eval f X.env)]
noncomputable def IsD(H:Hp)(a:Addr):Prop:=(∃kvs,Rd H a (.dK kvs)) \/ ∃kvs,Rd H a (.dT kvs)
theorem PX{X:Cx}{pins:List (Addr×Obj)}{σ:St}{H:Hp}{s:Shared}{a:Addr}(I:Inv X pins σ H s)(d:IsD H a):
 s.TypeIs (.ref a) "dict" /\ (∀b,Value.ref a = .ref b -> ∃ob,s.heap.get? b=some ob/\ob.dict=none)/\(a==sysModules)=false:=by
 rcases d with ⟨kvs,e⟩|⟨kvs,e⟩
 .obtain⟨_,hd,vs,_,dd⟩:=Wu I.hok e
  refine⟨dd.typeIs,λb q=>?_,hd⟩;cases q;obtain⟨ob,_,_,h1,h2,_⟩:=dd;exact⟨ob,h1,h2.2.1⟩
 .obtain⟨_,hd,xs,_,dd⟩:=Qy I.hok e
  refine⟨dd.typeIs,λb q=>?_,hd⟩;cases q;obtain⟨ob,_,_,h1,h2,_⟩:=dd;exact⟨ob,h1,h2.2.1⟩
section
variable{X:Cx}{pins:List (Addr×Obj)}{σ:St}{H:Hp}{s:Shared}{a:Addr}{y d:V}{u r:Value}{o:Option V}{A:Around}{E:Value->Shared->Prop}
theorem Zg{Q:Value->Shared->Prop}(hu:A.units+1<cLine)(I:Inv X pins σ H s)(g:Ry H a y o)(ry:RelV y u)(rd:RelV d r)(h:∀w' s',Inv X pins σ H s'->RelV (o.getD d) w'->Q w' s'):
 wpAny (model X.prog X.w) A (call (.builtin "dict.get") [.ref a,u,r]) Q E s:=by
 rcases g with ⟨kvs,k,e,ey,l⟩|⟨kvs,k,b,e,ey,eb,l⟩
 .subst ey
  obtain⟨z,hd,vs,rel,dd⟩:=Wu I.hok e;refine call_meetsIn PySem.F.slot_dict_get dd.typeIs PySem.F.entry_dict_get (PySem.F.args_dict_get_3 _ _ _) (meets_dict_get_default (eN X.prog X.w) a (Wb ry) hd r) ⟨_,dd.mapOf,h _ _ (I.tok _) ?_⟩;rw[l];exact(rel.val k).getD rd
 .subst ey
  cases (show u=Value.ref b from ry);obtain⟨z,hd,xs,rel,dd⟩:=Qy I.hok e;refine call_meetsIn PySem.F.slot_dict_get dd.typeIs PySem.F.entry_dict_get (PySem.F.args_dict_get_3 _ _ _) (meetsH_dict_get_default (tupleKind (eN X.prog X.w)) a b hd r) ⟨tupleKind_room_in1 hu,k,xs,Hr I.hok eb,dd,h _ _ (I.tok _) ?_⟩;rw[l];exact(rel.val k).getD rd
end
noncomputable def Xa(td ty tx:TE):TE:=λσ H Q=>td σ H λx H1=>∃a,x = .ref a/\IsD H1 a/\ty σ H1 λy H2=>tx σ H2 λz H3=>∃o,Ry H3 a y o/\Q (o.getD z) H3
section
variable{X:Cx}{o e f:Expr}{apos cpos:Pos}{td ty tx:TE}
theorem Oj(hu:X.A.units+1<cLine)(ho:PE X o td)(he:PE X e ty)(hf:PE X f tx)(m:M2 X o "get" apos e f cpos):PE X (.Call (.Attribute o "get" apos) [e,f] [] cpos) (Xa td ty tx):=by
 intro pins s σ H Q I h;refine wpAny_Call_method m.base m.few m.line PySem.F.plainAttrs_dict PySem.F.slot_dict_get PySem.F.type_dict_get (cX (ho pins s σ H _ I h) λu s1 gw=>?_);obtain⟨x,H1,I1,rx,a,ex,d,q1⟩:=gw;subst ex;obtain rfl:u=Value.ref a:=rx;obtain⟨t1,t2,_⟩:=PX I1 d;refine⟨t1,t2, ?_⟩;rw[m.trees]
 refine Calls.callWith_builtin rfl (Calls.evalArgs_plain (Calls.spliced_cons (cX (he pins s1 σ H1 _ I1 q1) λiv s2 ⟨y,H2,I2,ry,q2⟩=>
  Calls.spliced_cons (cX (hf pins s2 σ H2 _ I2 q2) λfv s3 ⟨z,H3,I3,rz,ov,g,q3⟩=>Calls.spliced_nil ?_))))
 exact Zg hu I3 g ry rz λw' s4 I4 rw'=>⟨_,H3,I4,rw',q3⟩
end
section
variable{X:Cx}{pins:List (Addr×Obj)}{σ:St}{H:Hp}{s:Shared}{a:Addr}{kvs:List (Key×V)}{A:Around}{E:Value->Shared->Prop}
end
section
variable{X:Cx}{pins:List (Addr×Obj)}{σ:St}{H:Hp}{s:Shared}{a:Addr}{y:V}{u:Value}{A:Around}{E:Value->Shared->Prop}
end
end L2
namespace Att
open PySem PySem.W PySem.Calls PyProof.Rows
theorem uX{P:Params}{h:Heap}:∀(ns:List Int)(vs:List Value),WellAll P h vs (ns.map WData.int)->IntsAre vs ns:=by
 intro ns
 induction ns with
 | nil=>
   intro vs w;rw[List.map_nil] at w;cases w;exact .nil
 | cons n ns ih=>
   intro vs w;rw[List.map_cons] at w;cases w with
   | cons a b=>
     cases a;exact .cons _ _ (ih _ b)
theorem Ko{l:OpenLaw}{n:Nat}(hn:l.most=some n){P:Params}{h:Heap}{args:List WData}{vals:List Value}(hpre:l.row.toRowW.claim.pre args=true)(hwl:WellAll P h vals args):
 ∃a vs ns,vals=[Value.ref a]/\args=[WData.list (ns.map WData.int)]/\h.get? a=some {cls:= .type "list",data:= .seq vs.toArray}/\IntsAre vs ns/\ns.length<=n:=by
 have hsh:WShape.hasAll [] args [.list .int]=true:=(pre_splitW hpre).1;have hc:l.pre.holds [] {args:=args}=true:=(pre_splitW hpre).2;obtain⟨d,r,rfl,h1,h2⟩:=hasAllW_cons hsh;obtain rfl:=hasAllW_nil h2;obtain⟨xs,rfl,h3⟩:=hasW_list h1;obtain⟨ns,rfl⟩:=items_int h3
 have hlen:ns.length<=n:=by
  unfold OpenLaw.pre at hc
  have h4:(WTm.not (.lt (.lit (.int (n:Int))) (.len (.arg 0)))).holds [] {args:=[.list (ns.map .int)]}=true:=by
   have h4:=(holds_andW hc).1;rw[hn] at h4;exact h4
  have h5:=condW_of h4 (w_not (w_lt w_lit (w_len_list (w_arg rfl))));rw[aac] at h5;refine Nat.le_of_not_lt λq=>?_;have q':(n:Int)<((ns.length:Nat):Int):=by lia
  first
   | (rw[aaL q'] at h5;exact acP h5 (by decide))
   | (simp at h5;lia)
 cases hwl with
 | cons w1 w2=>
   cases w2;cases w1 with
   | list ho hall=>exact⟨_,_,ns,Z,Z,ho,uX ns _ hall,hlen⟩
theorem Ks(l:OpenLaw)(args:List WData):l.row.toRowW.claim.post args (.bool true) args=true:=
 postW_of (r:=l.row.toRowW) (X:=(true==true))
  (show WShape.has [] (.bool true) .bool=true by first |rfl|decide|simp[WShape.has,WShape.arms,WShape.armsAll])
  (show (WTm.eq .res (.lit (.bool true))).value [] {args:=args,res:=some (.bool true),after:=args}=some (.bool (true==true)) from w_eq_bool (w_res rfl) w_lit) rfl
theorem uR{l:OpenLaw}{n:Nat}{q:Program}{loose:List Str}{XP:(Str->Option Value)->Heap->Prop}{YP:World->Heap->Prop}{d:DefRec}(hn:l.most=some n)(hdf:d.params.defaults=[])(call:∀(w:World)(s₀ s₁:Shared)(mg mb:Str->Option Value)(fa:Addr)(o:Obj)(pm cd doc:Value)(a:Addr)(vs:List Value)(ns:List Int),
   Ground q loose [] XP w s₀ mg mb s₁.heap->YP w s₁.heap ->
   s₁.heap.get? fa=some o->o.data = .func (docDef d.name d.params d.body d.scope pm cd doc)->s₁.heap.CodeRec cd d.name->mg d.name=some (.ref fa) ->
   s₁.heap.get? a=some {cls:= .type "list",data:= .seq vs.toArray}->IntsAre vs ns->ns.length<=n->s₁.gens = #[] ->
   codeAny (model l.prog w) callerA (.call (.ref fa) ⟨[.ref a],[]⟩) (λr s'=>r = .ok (.ret (.bool true))/\OldK s₁.heap s'.heap/\s'.os=s₁.os/\AllBare s'.gens) s₁):
 WalkO q loose XP YP l.row.toRowW d [] (λf vs=>PySem.call f vs):=by
 intro w s₀ s₁ mg mb G Y fa o pm cd doc dV kV ho hd hcd hD hmg hg args vals as hpre hlay hrd hwl hlo;obtain rfl:dV = .none:=Dflts.none hD hdf;obtain rfl:kV = .none:=Dflts.noKw hD;obtain⟨a,vs,ns,rfl,rfl,hobj,hints,hlen⟩:=Ko hn hpre hwl;refine enter_call (codeAny_mono (call w s₀ s₁ mg mb fa o pm cd doc a vs ns G Y ho (fd_plain hd) hcd hmg hobj hints hlen hg) λr s' hq=>?_);obtain⟨rfl,h2,h3,h4⟩:=hq;exact⟨.inl ⟨.bool true,.bool true,[],Z,λ_=>rfl,.bool true,Ks l _,λ_=>⟨List.Pairwise.nil,λ_ hm=>(nomatch hm)⟩⟩,h2,h3,h4⟩
section
variable{prog:Program}{w:World}{A:Around}{E:Value->Shared->Prop}{s:Shared}{K:Frag}
noncomputable def ledger(h:Heap)(L d:Addr):List (Addr×Obj):=(List.range h.objs.size).filterMap λa=>if a=L\/a=d then none else (h.get? a).map λo=>(a,o)
end
end Att
namespace L2
open PySem PySem.Spec PyProof.Rows
theorem yW{vs:List Value}{ns:List Int}(h:IntsAre vs ns):Vals (ns.map V.int) vs:=by
 induction h with
 | nil=>exact .nil
 | cons n t h ih=>exact .cons ⟨t,Z⟩ ih
noncomputable def Only(H:Hp):Prop:=∀b,H b=none \/ ∃o xs,H b=some (.zM o (.lst xs))
theorem Pz{P:Program}{w:World}{K:PySem.W.Frag}{mg mb:Str->Option Value}{CX:J9}{k:Nat}{fa a:Addr}{fd:FuncData}{x:Str}{sp:Sp}{s₁:Shared}{vs:List Value}{ns:List Int}(KX:K.In s₁.heap)(hns:s₁.heap.Ns mainGlobals mg)(hb:s₁.heap.Ns builtinsNs mb)(hbb:∀x:Str,x ≠ "__name__" -> mb x=bootBuiltins x)(hlim:s₁.heap.NoLimit)(hg:s₁.gens = #[])(ha:s₁.heap.get? a=some {cls:= .type "list",data:= .seq vs.toArray})(hi:IntsAre vs ns)(hl:ns.length<=sizeLine)(hr:dg k callerA)(F:∀base:Heap,K.In base->base.Ns mainGlobals mg->bO P w K mg base CX k fa fd [x] sp)(hbind:∀(s:Shared)(u:Value),BindsTo s fd ⟨[u],[]⟩ [(x,u)])(hsp:∀H:Hp,Only H->bH K H a (ns.map V.int)->sp [.ref a] H (λv _=>v = .bl true) λ_ _ _=>False)(YQ:∀H e s',CX [] H s₁ (λ_ _ _=>False) e s'->False):
 codeAny (model P w) callerA (.call (.ref fa) ⟨[.ref a],[]⟩) (λr s'=>r = .ok (.ret (.bool true))/\OldK s₁.heap s'.heap/\s'.os=s₁.os/\AllBare s'.gens) s₁:=by
 have rv:=yW hi;have lenV:=hi.length
 have core:∀H:Hp,Only H->bH K H a (ns.map V.int)->jU P w H s₁.heap->(∀b,H b≠none->b=a)->(H a≠none->K.lookup a=none) ->
  codeAny (model P w) callerA (.call (.ref fa) ⟨[.ref a],[]⟩) (λr s'=>r = .ok (.ret (.bool true))/\OldK s₁.heap s'.heap/\s'.os=s₁.os/\AllBare s'.gens) s₁:=by
  intro H hO hS hok hA hK;have pP:∀{b:Addr}{o:Obj},s₁.heap.get? b=some o->H b=none->(qx s₁.heap H).get? b=some o:=λe n=>Eu e n
  have Pg:∀{b:Addr}{o:Obj}{es:Array DictEntry}{ep:Nat},s₁.heap.get? b=some o->o.data = .dict es ep->H b=none:=fun {b o es ep} e d=>by
   cases q:H b with
   | none=>rfl
   | some u=>
     have e':b=a:=hA b (by rw[q];simp);subst e';rw[ha] at e;cases e;have d':Data.seq vs.toArray _=Data.dict es ep:=d;cases d'
  have Uo:∀{b:Addr}{m:Str->Option Value},s₁.heap.Ns b m->(qx s₁.heap H).Ns b m:=fun {b m} ⟨o,es,ep,e,d,r⟩=>⟨o,es,ep,pP e (Pg e d),d,r⟩
  have hKb:K.In (qx s₁.heap H):=λb o e=>pP (KX b o e) (by
   cases q:H b with
   | none=>rfl
   | some u=>
     have e':b=a:=hA b (by rw[q];simp);subst e';rw[hK (by rw[q];simp)] at e;cases e)
  have hM:Mod K mg (qx s₁.heap H):=⟨hKb,Uo hns,⟨mb,Uo hb,hbb⟩,let ⟨mc,h1,h2⟩:=hlim;⟨mc,Uo h1,h2⟩⟩;have e0:sI P w K mg (qx s₁.heap H) callerA [] s₁ H:=⟨Z,hM,λb o e=>Jw e,Nat.le_of_eq (zK _ _),trivial,λb hb=>acP (show b∈([]:List Addr) from hb) (by simp),hok,.of_eq hg⟩;refine codeAny_mono ((F _ hKb (Uo hns)).run callerA [] s₁ H ⟨[.ref a],[]⟩ [.ref a] [.ref a] _ _ hr e0 (hbind s₁ (.ref a)) (.cons rfl .nil) (hsp H hO hS)) λr s' h=>?_;cases r with
  | error e=>exact(YQ H e s' h).elim
  | ok fl=>
    cases fl with
    | next=>exact False.elim h
    | brk=>exact False.elim h
    | cont=>exact False.elim h
    | ret u=>
      obtain⟨v,H',os,bare,un,hok',r',q⟩:=h;have q':v = .bl true:=q;subst q';obtain rfl:u=Value.bool true:=r';refine⟨Z,OldK.of_keep λb o e=>?_,os,bare⟩;cases q:H b with
      | none=>exact un.keep b o e q (by intro z;exact acP (show b∈([]:List Addr) from z) (by simp)) (by simp)
      | some u=>
        rcases hO b with z|⟨ob,xs,z⟩
        .rw[q] at z;cases z
        .have z2:=un.mU b ob _ z
         obtain⟨e1,_⟩:=hok b _ z;obtain⟨e2,_⟩:=hok' b _ z2;rw[e] at e1;cases e1;exact e2
 cases hk:K.lookup a with
 | some o=>
   have e:=KX a o hk;rw[ha] at e;cases e;refine core (λ_=>none) (λ_=> .inl rfl) (.inr ⟨_,vs.toArray,_,hk,Z,Z,Z,by rw[aa5,lenV];exact hl,by simpa using rv⟩) (λb u z=>by have z':(none:Option HO)=some u:=z;cases z') (λb z=>acP rfl z) λz=>acP rfl z
 | none=>
   refine core (λb=>if b=a then some (.zM {cls:= .type "list",data:= .seq vs.toArray} (.lst (ns.map V.int))) else none) (λb=>?_) (.inl (.inr ⟨{cls:= .type "list",data:= .seq vs.toArray},acM rfl⟩)) (λb u z=>?_) (λb z=>?_) λ_=>hk
   .by_cases hb:b=a
    .exact .inr ⟨_,_,acM hb⟩
    .exact .inl (acK hb)
   .by_cases hb:b=a
    .have z':=(acM hb).symm.trans z
     cases z';subst hb;exact⟨ha,by rw[aac];exact hl,vs,_,rv,ha⟩
    .have z':=(acK hb).symm.trans z
     cases z'
   .by_cases hb:b=a
    .exact hb
    .exact acP (acK hb) z
noncomputable abbrev KOf{K:PySem.W.Frag}{h:Heap}(_:K.In h):PySem.W.Frag:=K
theorem acS{l:PySem.W.OpenLaw}{n k:Nat}{q:Program}{loose:List Str}{XP:(Str->Option Value)->Heap->Prop}{YP:World->Heap->Prop}{d:DefRec}{K:Params->PySem.W.Frag}{CX:World->J9}{sp:World->Sp}{x:Str}(hn:l.most=some n)(hn2:n<=sizeLine)(hdf:d.params.defaults=[])(hr:dg k callerA)(hY:∀(w:World)(h:Heap),YP w h->(K w.params).In h)(F:∀(w:World)(mg:Str->Option Value)(fa:Addr)(h:Heap),(K w.params).In h->h.Ns mainGlobals mg->mg d.name=some (.ref fa) ->
   ∃fd:FuncData,(∀(s:Shared)(u:Value),BindsTo s fd ⟨[u],[]⟩ [(x,u)]) /\
    ∀base:Heap,(K w.params).In base->base.Ns mainGlobals mg->bO l.prog w (K w.params) mg base (CX w) k fa fd [x] (sp w))(hsp:∀(w:World)(H:Hp)(a:Addr)(ns:List Int),ns.length<=n->Only H->bH (K w.params) H a (ns.map V.int)->sp w [.ref a] H (λv _=>v = .bl true) λ_ _ _=>False)(YQ:∀(w:World)(H:Hp)(s:Shared)(e:Value)(s':Shared),CX w [] H s (λ_ _ _=>False) e s'->False):
 PySem.W.WalkO q loose XP YP l.row.toRowW d [] (λf vs=>PySem.call f vs):=by
 refine Att.uR hn hdf λw s₀ s₁ mg mb fa o pm cd doc a vs ns G Y ho hd hcd hmg hobj hints hlen hg=>?_;have KX:=hY w _ Y;obtain⟨fd,hb,hF⟩:=F w mg fa _ KX G.T.g hmg;exact Pz KX G.T.g G.T.b G.T.builtins G.T.nolimit hg hobj hints (acH hlen hn2) hr hF hb (λH hO hS=>hsp w H a ns hlen hO hS) λH e s'=>YQ w H s₁ e s'
noncomputable def inClass(s:Stmt)(j:Nat):Stmt:=match s with
 | .ClassDef _ _ _ body _ _ _ _ _ _ _=>body.getD j (.Pass ⟨0,0,0,0⟩)
 | _=> .Pass ⟨0,0,0,0⟩
noncomputable def cu(s:Stmt):Arguments:=match s with
 | .FunctionDef _ a _ _ _ _ _ _ _ _=>a
 | _=>{posonlyargs:=[],args:=[],vararg:=none,kwonlyargs:=[],kw_defaults:=[],kwarg:=none,defaults:=[]}
noncomputable def cW(s:Stmt):List Stmt:=match s with
 | .FunctionDef _ _ b _ _ _ _ _ _ _=>b
 | _=>[]
noncomputable def aK(s:Stmt):Scope:=match s with
 | .FunctionDef _ _ _ _ _ _ sc _ _ _=>sc
 | _=>{kind:= .function,names:=[],isGenerator:=false,isCoroutine:=false}
noncomputable abbrev iy:J9:=λ_ _ _ _ _ _=>False
noncomputable abbrev E0:XK:=λ_ _ _=>False
theorem Js{X:Cx}:Passes iy X E0:=λ_ _ _ _ _ _ _ h=>h.elim
structure gD(K:PySem.W.Frag)(x qual:Str)(st:Stmt)(f:Addr)(fd:FuncData):Prop where
 ex:∃(oc:Value) (od:Option Addr) (kV doc pm:Value) (an:Option Addr) (cdv ct:Value) (osl:Array (Option Value)),
  fd=PySem.W.fnOf x qual (cu st) (cW st) (aK st) .none kV doc pm an cdv ct/\K.lookup f=some ⟨oc,od,.func fd,osl⟩/\PySem.W.codeIn K cdv qual=true
 kp:PySem.W.keepIn K (.ref f)=true
section
variable{P:Program}{w:World}{K:PySem.W.Frag}{mg:Str->Option Value}{base:Heap}
theorem gD.ok{x qual:Str}{st:Stmt}{f:Addr}{fd:FuncData}{N ps:List Str}{k:Nat}{sp:Sp}(F:gD K x qual st f fd)(S:bh N ps (aK st))(len:∀vs H Q E,sp vs H Q E->vs.length=ps.length)(hbody:∀(cdv:Value)(A:Around)(outer:List Env)(s:Shared)(H:Hp)(vs:List V)(Q:VK)(E:XK),dg k (A.deeper (envOfC qual (aK st) s.heap.objs.size f cdv))->sp vs H Q E ->
   ∃t,Df (mV iy P w K mg base N qual (aK st) f cdv A outer s H E).V5 (cW st) t/\t {nx:=λ_ H'=>Q .non H',rt:=Q} (start N vs) H):bO P w K mg base iy (k+1) f fd ps sp:=by
 obtain⟨oc,od,kV,doc,pm,an,cdv,ct,osl,rfl,lk,hcd⟩:=F.ex;refine JN lk hcd S len λA outer s H vs Q E hr hsp=>?_;obtain⟨t,h,q⟩:=hbody cdv A outer s H vs Q E hr hsp;exact⟨t,h.V5,q⟩
theorem gD.binds{x qual:Str}{st:Stmt}{f:Addr}{fd:FuncData}{ps:List Str}(F:gD K x qual st f fd)(h:∀(kV doc pm:Value)(an:Option Addr)(cdv ct:Value)(us:List Value),us.length=ps.length->bindArgs (PySem.W.fnOf x qual (cu st) (cW st) (aK st) .none kV doc pm an cdv ct) ⟨us,[]⟩=pure (ps.zip us)):Binds K fd ps []:=by
 obtain⟨oc,od,kV,doc,pm,an,cdv,ct,osl,rfl,lk,hcd⟩:=F.ex;exact .all (h kV doc pm an cdv ct)
theorem Qn{x qual:Str}{st:Stmt}{f:Addr}{oc:Value}{od an:Option Addr}{osl:Array (Option Value)}{kV doc pm cdv ct:Value}(l:K.lookup f=some ⟨oc,od,.func (PySem.W.fnOf x qual (cu st) (cW st) (aK st) .none kV doc pm an cdv ct),osl⟩)(c:PySem.W.codeIn K cdv qual=true)(k:PySem.W.keepIn K (.ref f)=true):gD K x qual st f (PySem.W.fnOf x qual (cu st) (cW st) (aK st) .none kV doc pm an cdv ct):=⟨⟨oc,od,kV,doc,pm,an,cdv,ct,osl,Z,l,c⟩,k⟩
end
theorem Wf{A:Around}{k:Nat}(hr:dg k A):A.units+1<cLine:=Nat.lt_of_le_of_lt (Nat.add_le_add_left (by decide:1<=64) _) hr.units
section
variable{X:Cx}
theorem pv(i:Nat){x:Str}{pos:Pos}(hN:X.N[i]? = some x:=by rfl)(hv:Vis X.env.scope x:=by first |exact Or.inl rfl|exact Or.inr (Or.inl rfl)|exact Or.inr (Or.inr rfl))(hd:(x==("__debug__" :Str))=false:=by decide)(hcd:(x==("__classdict__" :Str))=false:=by decide):PE X (.Name x pos) (Nb i):=XS hN hv hd hcd
end
theorem dU{A B:Prop}(h:B):if false=true then A else B:=by
 rw[acK aaY];exact h
theorem fM{A B:Prop}(h:A):if true=true then A else B:=by
 rw[acM rfl];exact h
theorem cO{c A B:Prop}[Decidable c](h1:c->A)(h2:¬c->B):if c then A else B:=by
 by_cases h:c
 .rw[acM h]
  exact h1 h
 .rw[acK h]
  exact h2 h
theorem zH{c A B:Prop}[Decidable c](hc:c)(h:B):if (!decide c)=true then A else B:=by
 rw[aaL hc];exact dU h
noncomputable def Same(H H':Hp):Prop:=∀b o,H b=some o->H' b=some o
theorem Same.refl(H:Hp):Same H H:=λ_ _ h=>h
theorem Same.trans{H H1 H2:Hp}(a:Same H H1)(b:Same H1 H2):Same H H2:=λc o h=>b c o (a c o h)
theorem Same.free{H H':Hp}(e:Same H H'){l:Addr}(h:H' l=Option.none):H l=Option.none:=by
 cases q:H l with
 | none=>rfl
 | some o=>
   rw[e l o q] at h;cases h
theorem Same.seq{K:PySem.W.Frag}{H H':Hp}{a:Addr}{xs:List V}(e:Same H H')(h:bH K H a xs):bH K H' a xs:=by
 rcases h with (h|⟨o,h⟩)|h
 .exact .inl (.inl (e _ _ h))
 .exact .inl (.inr ⟨o,e _ _ h⟩)
 .exact .inr h
section
variable{κ:Type}[DecidableEq κ]
end
end L2
set_option maxHeartbeats 4000000
namespace L2
open PySem PySem.Spec PyProof.Rows
theorem wM{a n:Addr}(h:a<n): @LT.lt Nat _ a n:=h
noncomputable def d9(env:Env):List (Str×NameKind)->List (Str×Addr)->List (Str×Addr)
 | [],acc=>acc
 | (n,k)::r,acc=>if k == .free then d9 env r ((n,(env.cells.lookup n).getD 0)::acc) else d9 env r acc
theorem xQ{env:Env}{scope:Scope}(h:∀y∈scope.names,y.2 = .free->(env.cells.lookup y.1).isSome=true):closureFor scope env=pure (d9 env scope.names []):=by
 have go:∀(ns:List (Str×NameKind))(acc:List (Str×Addr)),(∀y∈ns,y.2 = .free->(env.cells.lookup y.1).isSome=true) ->
  (forIn ns acc (λx cs=>match x with |(name,kind)=>if (kind == .free)=true then do let c ←cellOf env name;pure (ForInStep.yield ((name,c)::cs)) else pure (ForInStep.yield cs)):Sem (List (Str×Addr)))=pure (d9 env ns acc):=by
  intro ns
  induction ns with
  | nil=>intro acc _;rfl
  | cons y r ih=>
    intro acc hy;obtain⟨n,k⟩:=y;rw[List.forIn_cons]
    by_cases hk:k = .free
    .subst hk
     have hs:=hy (n,.free) List.mem_cons_self rfl;obtain⟨c,hc⟩:=Option.isSome_iff_exists.mp hs;have e:cellOf env n=pure c:=by unfold cellOf;rw[hc]
     show _=pure (d9 env r ((n,(env.cells.lookup n).getD 0)::acc));rw[←ih _ λy hm=>hy y (aby _ hm)];simp only[beq_self_eq_true,if_true,e,pure_bind,hc,Option.getD_some]
    .have hb:(k==NameKind.free)=false:=by simpa using hk
     have hc:d9 env ((n,k)::r) acc=d9 env r acc:=by
      show (if (k==NameKind.free)=true then _ else _)=_;rw[acK (by rw[hb];decide)]
     rw[hc,←ih _ λy hm=>hy y (aby _ hm)];simp only[hb,Bool.false_eq_true,if_false,pure_bind]
 have q:=go scope.names [] h;unfold closureFor;show (forIn scope.names [] _ >>= λr=>pure r)=_;rw[bind_pure];exact q
theorem fP{env:Env}:∀(ns:List (Str×NameKind))(acc:List (Str×Addr))(x:Str),(∀y∈ns,y.2 = .free->(env.cells.lookup y.1).isSome=true) ->
 (d9 env ns acc).lookup x=if (x,NameKind.free)∈ns then env.cells.lookup x else acc.lookup x
 | [],acc,x,_=>by simp[d9]
 | (n,k)::r,acc,x,h=>by
   have hr:∀y∈r,y.2 = .free->(env.cells.lookup y.1).isSome=true:=λy hm=>h y (aby _ hm)
   by_cases hk:k = .free
   .subst hk
    show (d9 env r ((n,(env.cells.lookup n).getD 0)::acc)).lookup x=_;rw[fP r _ x hr];obtain⟨c,hc⟩:=Option.isSome_iff_exists.mp (h (n,.free) List.mem_cons_self rfl);have hc:env.cells.lookup n=some c:=hc
    by_cases hm:(x,NameKind.free)∈r
    .rw[acM hm,acM (aby _ hm)]
    .rw[acK hm]
     by_cases e:x=n
     .subst e
      rw[acM List.mem_cons_self,List.lookup_cons,hc];simp
     .rw[acK (λz=>(List.mem_cons.mp z).elim (λq=>e (congrArg Prod.fst q)) hm),List.lookup_cons]
      have:(x==n)=false:=by simpa using e
      rw[this]
   .have hb:(k==NameKind.free)=false:=by simpa using hk
    have hc:d9 env ((n,k)::r) acc=d9 env r acc:=by
     show (if (k==NameKind.free)=true then _ else _)=_;rw[acK (by rw[hb];decide)]
    rw[hc,fP r acc x hr]
    have:((x,NameKind.free)∈(n,k)::r)↔(x,NameKind.free)∈r:=by
     constructor
     .intro z
      rcases List.mem_cons.mp z with q|q
      .exact acP (congrArg Prod.snd q).symm hk
      .exact q
     .exact aby _
    simp only[this]
theorem jL(env:Env):∀(ns:List (Str×NameKind))(x:Str),
 (ns.map λ(n,k)=>if (k == .free&&env.scope.kind == .function&&env.kindOf n==some .cell) then (n,NameKind.cell) else (n,k)).lookup x =
   (ns.lookup x).map λk=>if (k == .free&&env.scope.kind == .function&&env.kindOf x==some .cell)=true then NameKind.cell else k
 | [],x=>rfl
 | (n,k)::r,x=>by
   show List.lookup x ((if (k==NameKind.free&&env.scope.kind == .function&&env.kindOf n==some .cell)=true then (n,NameKind.cell) else (n,k))::_)=_;cases hx:x==n with
   | true=>
     have e:x=n:=by simpa using hx
     subst e
     by_cases hc:(k==NameKind.free&&env.scope.kind == .function&&env.kindOf x==some .cell)=true
     .rw[acM hc];simp only[List.lookup_cons,hx,Option.map_some,acM hc]
     .rw[acK hc];simp only[List.lookup_cons,hx,Option.map_some,acK hc]
   | false=>
     have ih:=jL env r x
     by_cases hc:(k==NameKind.free&&env.scope.kind == .function&&env.kindOf n==some .cell)=true
     .rw[acM hc];simp only[List.lookup_cons,hx];exact ih
     .rw[acK hc];simp only[List.lookup_cons,hx];exact ih
structure bw(N own:List Str)(caps:List Nat)(XN:List Str)(outer scope:Scope):Prop where
 kind:scope.kind = .function
 wL:∀y∈scope.names,y.2 ≠ .cell
 names:∀y∈scope.names,y.2 = .local->scope.names.lookup y.1=some .local
 free:∀y∈scope.names,y.2 = .free->outer.names.lookup y.1=some .cell\/outer.names.lookup y.1=some .free
 nd:N.Nodup
 len:N.length=own.length+caps.length
 cap:∀(j:Nat),j<caps.length->N[own.length+j]? = XN[caps.getD j 0]? /\ ∃x,N[own.length+j]? = some x/\(x,NameKind.free)∈scope.names/\scope.names.lookup x=some .free
noncomputable def st0(own:List Str)(caps:List Nat)(σ:St):St:=own.map (λ_=>none)++caps.map (λi=>(σ[i]?).join)
noncomputable def fu(X:Cx)(scope:Scope)(C:Addr)(N:List Str)(s:Shared)(H:Hp)(fp:List Addr):Cx:=
 {X with N:=N,s₀:=s,H₀:=H,env:=compEnvC scope (d9 X.env scope.names []) C X.env,outer:=X.stack,ex:=fp,fn:=λ_=>false,pn:=[],xe:=λ_ _=>False}
section
variable{X:Cx}{pins:List (Addr×Obj)}{σ:St}{H:Hp}{s:Shared}{scope:Scope}{N own:List Str}{caps:List Nat}{fp:List Addr}{C:Nat}
theorem bw.QL(S:bw N own caps X.N X.env.scope scope)(ok:X.Ok):∀y∈scope.names,y.2 = .free->(X.env.cells.lookup y.1).isSome=true:=λy hy hf=>by
 obtain⟨c,e⟩:=ok.has y.1 (S.free y hy hf);rw[e];rfl
theorem bw.csub(S:bw N own caps X.N X.env.scope scope)(ok:X.Ok){x:Str}{c:Addr}(h:(d9 X.env scope.names []).lookup x=some c):X.env.cells.lookup x=some c:=by
 rw[fP _ _ _ (S.QL ok)] at h;split at h
 .exact h
 .simp at h
theorem bw.Pr{S:bw N own caps X.N X.env.scope scope}{x:Str}(h:(relabel scope X.env).names.lookup x=some .cell\/(relabel scope X.env).names.lookup x=some .free):(x,NameKind.free)∈scope.names:=by
 have e:=jL X.env scope.names x;have e':(relabel scope X.env).names.lookup x=(scope.names.lookup x).map λk=>if (k == .free&&X.env.scope.kind == .function&&X.env.kindOf x==some .cell)=true then NameKind.cell else k:=e;rw[e'] at h;cases q:scope.names.lookup x with
 | none=>rw[q] at h;simp at h
 | some k=>
   have hm:=PySem.mem_of_lookup q
   by_cases hk:k = .free
   .subst hk;exact hm
   .rw[q] at h
    have hb:(k==NameKind.free)=false:=by simpa using hk
    simp only[Option.map_some,hb,Bool.false_and,Bool.false_eq_true,if_false] at h;rcases h with h|h
    .exact acP (aa6 h) (S.wL _ hm)
    .exact acP (aa6 h) hk
theorem Inv.comp{h1:Heap}{D:Nat}(I:Inv X pins σ H s)(S:bw N own caps X.N X.env.scope scope)(hfp:∀b∈fp,qI X pins H b)(hfo:∀b∈fp,∃o,s.heap.get? b=some o)(hD:D=s.heap.objs.size)(hC:C=s.heap.objs.size+1)(old:∀b o,s.heap.get? b=some o->h1.get? b=some o)(hns:h1.Ns C (λ_=>none))(hl:h1.get? D=some {cls:= .type "list",data:= .seq #[]}){t:Nat}:
 Inv (fu X scope C N s H fp) [] (st0 own caps σ) (upd H D (.lst [])) {s with heap:=h1,toks:=t}:=by
 have some':=S.QL I.ok;have sub:∀{x c},(d9 X.env scope.names []).lookup x=some c->X.env.cells.lookup x=some c:=λh=>S.csub I.ok h;have freshD:H D=none:=I.hok.fresh (by rw[hD];exact aar _);have YZ:H C=none:=I.hok.fresh (by rw[hC];exact Nat.le_succ _)
 have Zi:∀x c,X.env.cells.lookup x=some c->c<s.heap.objs.size:=λx c e=>by
  obtain⟨v,z⟩:=I.cell x c e;exact z.lt
 have agA:∀b∈fp,b<s.heap.objs.size:=λb hb=>by
  obtain⟨o,e⟩:=hfo b hb;exact aaq e
 have DC:D≠C:=by lia
 refine⟨⟨I.ok.mod,S.kind,I.ok.glob,I.ok.blt,by show s.heap.objs.size<=C;lia,λx y c e1 e2=>I.ok.inj x y c (sub e1) (sub e2),λx h=>?_,λx c h=>(by cases h),I.ok.hd,I.ok.frames,Or.inl rfl,λb hb=>⟨?_,λx c e=>?_⟩,I.bs,acH I.ok.Dd I.sz,λb o e hb=>?_,λb hb z=>?_,I.stack,I.Ag⟩,
  Z,I.bare,Un.laid old (by show s.heap.objs.size<=D;lia) freshD,⟨_,hns,λj x v e1 e2 e3=>?_⟩,λx c e=>?_, ?_,λx c e=>?_,λp hp=>?_,I.hok.laid old (by lia) ?_, ?_⟩
 .have hm:=bw.Pr (S:=S) (X:=X) h
  obtain⟨c,e⟩:=Option.isSome_iff_exists.mp (some' _ hm rfl);exact⟨c,by show (d9 X.env scope.names []).lookup x=_;rw[fP _ _ _ some',acM hm];exact e⟩
 .exact abe (show @LT.lt Nat _ b C by have:=wM (agA b hb);lia)
 .exact(hfp b hb).2.2.2.2.1 x c (sub e)
 .rcases(hfp b hb).2.2.2.1 with z|z
  .exact I.ok.Bx b o e z
  .exact acP (abg (aaq e) (acH I.ok.Dd z)) (acG _)
 .rcases List.mem_cons.mp (I.sY b z) with q|q
  .exact(hfp b hb).2.1 q
  .exact(hfp b hb).2.2.1 q
 .have e1:N[j]? = some x:=e1
  have hj:own.length<=j:=by
   by_cases q:own.length<=j
   .exact q
   .exfalso
    unfold st0 at e2;rw[abb (by simp;lia),aah] at e2;cases r:own[j]? with
    | none=>rw[r] at e2;cases e2
    | some a=>rw[r] at e2;cases e2
  have hjl:j<N.length:=(aae.mp e1).1;have hjc:j - own.length<caps.length:=by have:=S.len;lia
  obtain⟨c1,x',c2,c3,c4⟩:=S.cap (j - own.length) hjc;rw[show own.length+(j - own.length)=j by lia] at c1 c2;rw[e1] at c2;cases c2
  have e2':(σ[caps.getD (j - own.length) 0]?).join=some v:=by
   unfold st0 at e2;rw[aa' (by simp;lia),aah,aac] at e2;rw[List.getD_eq_getElem?_getD];cases r:caps[j - own.length]? with
   | none=>rw[r] at e2;cases e2
   | some a=>rw[r] at e2;exact aa6 e2
  have ag2:σ[caps.getD (j - own.length) 0]? = some (some v):=by
   cases r:σ[caps.getD (j - own.length) 0]? with
   | none=>rw[r] at e2';cases e2'
   | some a=>rw[r] at e2';exact congrArg Option.some e2'
  have kx:X.env.kindOf x=some .cell\/X.env.kindOf x=some .free:=S.free _ c3 rfl;obtain⟨m,hn,hl'⟩:=I.loc;obtain⟨u,r,l⟩:=hl' _ x v (by rw[←c1];exact e1) ag2 (by rcases kx with z|z;exact .inr (.inl z);exact .inr (.inr z));refine⟨u,r,.inr ⟨?_, ?_⟩⟩
  .show (relabel scope X.env).names.lookup x=some .cell\/(relabel scope X.env).names.lookup x=some .free
   have e:(relabel scope X.env).names.lookup x=(scope.names.lookup x).map λk=>if (k == .free&&X.env.scope.kind == .function&&X.env.kindOf x==some .cell)=true then NameKind.cell else k:=jL X.env scope.names x;rw[e,c4,Option.map_some];split
   .exact .inl rfl
   .exact .inr rfl
  .rcases l with ⟨hk,_⟩|⟨_,c,hc,z⟩
   .rcases kx with q|q<;>rw[hk] at q<;>cases q
   .refine⟨c, ?_, ?_⟩
    .show (d9 X.env scope.names []).lookup x=_
     rw[fP _ _ _ some',acM c3];exact hc
    .obtain⟨o,ho,hd⟩:=z
     exact⟨o,old c o ho,hd⟩
 .obtain⟨v,o,ho,hd⟩:=I.cell x c (sub e)
  exact⟨v,o,old c o ho,hd⟩
 .show upd H D (.lst []) C=none
  rw[aC DC.symm];exact YZ
 .show upd H D (.lst []) c=none
  rw[aC (abe (by have:=wM (Zi x c (sub e));lia))];exact I.iB x c (sub e)
 .cases hp
 .exact⟨Nat.zero_le _,[],0,.nil,hl⟩
 .show (own.map (λ_=>none)++caps.map _).length=N.length
  rw[aa_,aac,aac,S.len]
theorem Inv.MN{m8:List (Addr×Obj)}{σ':St}{H':Hp}{s':Shared}{h':Heap}(I:Inv X pins σ H s)(hfp:∀b∈fp,qI X pins H b)(hC:s.heap.objs.size<=C)(J:Inv (fu X scope C N s H fp) m8 σ' H' s')(hs:Heap.SameBut C s'.heap h'):
 Inv X pins σ H' {s' with heap:=h'}:=by
 have nC:∀b o,s.heap.get? b=some o->b≠C:=λb o e=>abe (by have:=wM (aaq e);lia);have u:=J.base;have frC:H' C=none:=J.free;refine I.call' (ch:=fp) (s':={s' with heap:=h'}) J.os ⟨λb o e n hb hx=>?_,λb o e n hb hx=>?_,u.free,λb o e hx=>?_,u.tups,u.mU,u.qd⟩ (λa o e=>(J.hok a o e).stay (λb v hb q=>?_) (λ_ q=>q) λ_ _ q=>q) J.bare λb hb=>?_
 .exact(hs.2 b (nC b o e)).trans (u.keep b o e n hb hx)
 .obtain⟨sl,q⟩:=u.slot b o e n hb hx
  exact⟨sl,(hs.2 b (nC b o e)).trans q⟩
 .obtain⟨o',q⟩:=u.there b o e hx
  exact⟨o',(hs.2 b (nC b o e)).trans q⟩
 .refine(hs.2 b ?_).trans q
  intro z;subst z;rcases hb with z|z
  .subst z;rw[frC] at e;cases e
  .rw[frC] at z;cases z
 .exact⟨(hfp b hb).2.2.2.1,(hfp b hb).2.1,(hfp b hb).2.2.2.2.1,(hfp b hb).2.2.2.2.2⟩
end
section
variable{prog:Program}{w:World}{A:Around}{R:Result->Shared->Prop}{s:Shared}
theorem Ck{elt target iter:Expr}{ifs:List Expr}{scope:Scope}{pos:Pos}{it acc:Value}{env:Env}(I:Nat->Shared->Prop)(turn:∀n s,I n s->wpAny (model prog w) A (pyNext it) (λr s1=>match r with
   | none=>R (.ok .next) s1
   | some v=>wpAny (model prog w) A (letOwnedTupleGo target it v) (λ_ s1'=>wpAny (model prog w) A (assign target env v) (λ_ s2=>
      wpAny (model prog w) A (forIn ifs true λc r=>if r=true then do let ok ←isTrue c env (eval c env);pure (ForInStep.yield ok) else pure (ForInStep.yield r)) (λok s3=>
       if ok=true then wpAny (model prog w) A (eval elt env) (λx s4=>
        wpAny (model prog w) A (call (.builtin "list.append") [acc,x]) (λ_ s5=>∃m,m<n/\I m s5) (λ_ _=>False) s4) (λ_ _=>False) s3
       else ∃m,m<n/\I m s3) (λ_ _=>False) s2) (λ_ _=>False) s1') (λ_ _=>False) s1) (λ_ _=>False) s)(n:Nat)(h:I n s):
 codeAny (model prog w) A (.compLoop (.ListComp elt [⟨target,iter,ifs,0⟩] scope pos) 0 it acc env) R s:=by
 refine codeAny_loop rfl I (λn s hI=>?_) n h;show wpAny _ A ((compTurn (.ListComp elt [⟨target,iter,ifs,0⟩] scope pos) 0 it acc env).onRaise (λx=>do noteFrame x env;theTreesLotGoes x)) _ _ s;refine wpAny_noted ?_;rw[compTurn_list];refine aas (wpAny_standAt (aas (wpAny_mono (turn n s hI) (λr s1 h1=>?_) λ_ _ h'=>h'.elim)));cases r with
 | none=>exact aaE h1
 | some v=>
   refine aas (wpAny_mono h1 (λ_ s1' h1'=>?_) λ_ _ h'=>h'.elim);refine aas (wpAny_mono h1' (λ_ s2 h2=>aas (wpAny_mono h2 (λok s3 h3=>?_) λ_ _ h'=>h'.elim)) λ_ _ h'=>h'.elim);cases ok with
   | false=>exact aaE ⟨Z,h3⟩
   | true=>
     exact aas (aas (wpAny_mono h3 (λx s4 h4=>aas (wpAny_mono h4 (λ_ s5 h5=>aaE (aaE ⟨Z,h5⟩)) λ_ _ h'=>h'.elim)) λ_ _ h'=>h'.elim))
end
noncomputable def PTs(X:Cx)(ifs:List Expr)(t:TT):Prop:=
 ∀(pins:List (Addr×Obj))(s:Shared)(σ:St)(H:Hp)(Q:Bool->Hp->Prop),Inv X pins σ H s->t σ H Q ->
  wpAny (model X.prog X.w) X.A (forIn ifs true λc r=>if r=true then do let ok ←isTrue c X.env (eval c X.env);pure (ForInStep.yield ok) else pure (ForInStep.yield r)) (TP X pins σ Q) X.xe s
noncomputable def vI:TT:=λ_ H Q=>Q true H
theorem dG{X:Cx}:PTs X [] vI:=λ_ _ _ H _ I h=>wpAny_tests_nil ⟨H,I,h⟩
theorem pG{X:Cx}{c:Expr}{t:TT}(h:PT X c t):PTs X [c] t:=λpins s σ H Q I q=>wpAny_tests_one (h pins s σ H Q I q)
noncomputable def jf(J:It)(g:TG)(tc:TT)(te:TE)(Q:VK)(D:Addr)(σ0:St)(H1:Hp):Prop:=
 ∃W:Nat->Nat->St->Hp->Prop,(∃m,W 0 m σ0 (upd H1 D (.lst []))) /\ ∀i m σ H,W i m σ H ->
  (J.stop i H/\Q (.ref D) H)\/(J.go i H /\ ∃N:St->Hp->Prop,(∀σ' H',N σ' H' -> ∃m',m'<m/\W (i+1) m' σ' H') /\ ∀x H',J.yld i H x H'->g x σ H' λσ2 H2=>tc σ2 H2 λb H3=>
    if b=true then te σ2 H3 λy H4=>∃acc,H4 D=some (.lst acc)/\acc.length<sizeLine/\N σ2 (upd H4 D (.lst (acc++[y]))) else N σ2 H3)
noncomputable def Ng(own:List Str)(caps:List Nat)(wi:TI)(g:TG)(tc:TT)(te:TE):TE:=λσ H Q=>wi σ H λJ H1=>∀D,H1 D=none->jf J g tc te Q D (st0 own caps σ) H1
section
variable{X:Cx}{elt tg iter:Expr}{ifs:List Expr}{scope:Scope}{pos:Pos}{N own:List Str}{caps:List Nat}{wi:TI}{g:TG}{tc:TT}{te:TE}
theorem Fq{use:Option (Value->Sem Unit)}{Qv:Value->Shared->Prop}{pins:List (Addr×Obj)}{σ:St}{H:Hp}{s:Shared}{Q:VK}(hc:X.calm=true)(S:bw N own caps X.N X.env.scope scope)(hg:∀C s H fp,PG (fu X scope C N s H fp) tg g)(hcs:∀C s H fp,PTs (fu X scope C N s H fp) ifs tc)(he:∀C s H fp,PE (fu X scope C N s H fp) elt te)(hi:PI X tg iter wi)(hs:∀x,foldedSetIterable iter X.env x=pure x)(I:Inv X pins σ H s)(h:Ng own caps wi g tc te σ H Q)(fin:∀(D C:Addr)(H':Hp)(s':Shared),(∃m,s'.heap.Ns C m)->Inv X pins σ H' s'->(∀h',Heap.SameBut C s'.heap h'->Inv X pins σ H' {s' with heap:=h'})->qI X pins H' C->Q (.ref D) H' ->
   compPost (model X.prog X.w) X.A X.xe use Qv (.ref D) C (.ok .next) s'):
 wpAny (model X.prog X.w) X.A (comprehension (.ListComp elt [⟨tg,iter,ifs,0⟩] scope pos) scope X.env (firstIterPos [⟨tg,iter,ifs,0⟩] pos) (newList []) false (eval iter X.env) use) Qv X.xe s:=by
 refine wpAny_comprehension_free (use:=use) rfl hs (xQ (S.QL I.ok)) S.kind S.names (cX (hi pins s σ H _ I h) λxv s1 h1=>cX h1 λitv s2 h2=>?_);obtain⟨it,fp,tn,J,H2,e,I2,T,st2,f2,q2⟩:=h2;subst e;refine wpAny_newList ?_;refine wpAny_newFunctionEnv S.wL (by intro y hy;simp at hy) (λh1 abH hsb1=>?_) S.kind;dsimp only at abH hsb1 ⊢;have hD:H2 s2.heap.objs.size=none:=I2.hok.fresh (aar _);have hsz:(s2.heap.push {cls:= .type "list",data:= .seq ([]:List Value).toArray}).objs.size=s2.heap.objs.size+1:=Heap.size_push ..
 have old:∀b o,s2.heap.get? b=some o->h1.get? b=some o:=λb o e=>by
  refine hsb1.extBut b o (abe (by have:=wM (aaq e);rw[hsz];lia)) (aai _ (aai _ e))
 have hl:h1.get? s2.heap.objs.size=some {cls:= .type "list",data:= .seq #[]}:=
  hsb1.extBut _ _ (abe (by rw[hsz];lia)) (aai _ (aaj _ rfl))
 have hfo:∀b∈fp,∃o,s2.heap.get? b=some o:=λb hb=>let ⟨o,e,_⟩:=T.obj _ _ st2 b hb;⟨o,e⟩
 have I4:=Inv.comp (C:=(s2.heap.push {cls:= .type "list",data:= .seq ([]:List Value).toArray}).objs.size) (t:=s2.toks+([]:List (Str×Value)).length) I2 S f2 hfo rfl hsz old abH hl;obtain⟨W,⟨m0,w0⟩,turn⟩:=q2 _ hD;generalize hCe:(s2.heap.push {cls:= .type "list",data:= .seq ([]:List Value).toArray}).objs.size=C at *;generalize hDe:s2.heap.objs.size=D at *;have hDC:D≠C:=by lia
 have loop:∀s3:Shared,s3={s2 with heap:=h1,toks:=s2.toks+([]:List (Str×Value)).length} ->
  codeAny (model X.prog X.w) X.A (.compLoop (.ListComp elt [⟨tg,iter,ifs,0⟩] scope pos) 0 (.ref it) (.ref D) (fu X scope C N s2 H2 fp).env) (compPost (model X.prog X.w) X.A X.xe use Qv (.ref D) C) s3:=by
  rintro s3 rfl
  have zM:∀b∈fp,(upd H2 D (.lst [])) b=none:=λb hb=>by
   obtain⟨o,e⟩:=hfo b hb;rw[aC (abe (by have:=wM (aaq e);lia))];exact(f2 b hb).1
  have stat:∀{H':Hp},(∀b∈fp,H' b=none) -> ∀b∈fp,qI (fu X scope C N s2 H2 fp) [] H' b:=λhn b hb=>by
   obtain⟨o,e⟩:=hfo b hb;have hlt:=wM (aaq e);refine⟨hn b hb, ?_,λz=>?_,.inl hb,λx c e'=>(f2 b hb).2.2.2.2.1 x c (S.csub I2.ok e'),λp hp=>(by cases hp)⟩
   .exact abe (show @LT.lt Nat _ b C by lia)
   .rcases List.mem_cons.mp (I2.sY b z) with q|q
    .exact(f2 b hb).2.1 q
    .exact(f2 b hb).2.2.1 q
  refine Ck (λn s'=>∃i σ' H',Inv (fu X scope C N s2 H2 fp) [] σ' H' s'/\tn i s'.heap/\(∀b∈fp,H' b=none)/\W i n σ' H') ?_ m0
   ⟨0,_,_,I4,T.keep _ _ _ st2 λb _ o e=>old b o e,zM,w0⟩
  rintro n s3 ⟨i,σ3,H3,I3,st3,fr3,w3⟩;rcases turn i n σ3 H3 w3 with ⟨stop,qn⟩|⟨go,Nx,hNx,step⟩
  .refine cX (T.done (fu X scope C N s2 H2 fp) rfl rfl rfl hc i [] s3 σ3 H3 _ I3 (stat fr3) st3 stop) λr s4 ⟨hr,J4⟩=>?_
   subst hr;obtain⟨m4,hn4,_⟩:=J4.loc;exact fin D C H3 s4 ⟨m4,hn4⟩ (I2.MN f2 (by lia) J4 (Heap.SameBut.refl _ _)) (λh' hs'=>I2.MN f2 (by lia) J4 hs') (I2.HJ (show s2.heap.objs.size<=C by lia) J4.free) qn
  .refine cX (T.item (fu X scope C N s2 H2 fp) rfl rfl rfl hc i [] s3 σ3 H3 _ I3 (stat fr3) st3 go) λr s4 ⟨u,hr,h4⟩=>?_
   subst hr;refine cX h4 λ_ s5 gw=>?_;obtain⟨x,H5,I5,r5,y5,SX,fr5⟩:=gw;have I5':=I5.pinned (stat fr5) (T.obj _ _ SX);refine cX (hg C s2 H2 fp _ s5 σ3 H5 x u _ I5' r5 (step x H5 y5)) λ_ s6 gw=>?_;obtain⟨σ6,H6,I6,q6⟩:=gw;refine cX (hcs C s2 H2 fp _ s6 σ6 H6 _ I6 q6) λok s7 ⟨H7,I7,q7⟩=>?_
   have again:∀{σ8:St}{H8:Hp}{s8:Shared},Inv (fu X scope C N s2 H2 fp) ([]++wC fp s5.heap) σ8 H8 s8->Nx σ8 H8 -> ∃m,m<n /\ ∃i σ' H',Inv (fu X scope C N s2 H2 fp) [] σ' H' s8/\tn i s8.heap/\(∀b∈fp,H' b=none)/\W i m σ' H':=fun {σ8 H8 s8} I8 n8=>by
    obtain⟨m',hm,w8⟩:=hNx _ _ n8;refine⟨m',hm,i+1,σ8,H8,I8.qN,T.keep _ _ _ SX λb hb o e=>(I8.pin (b,o) (List.mem_append_right _ (List.mem_append_right _ (mL hb e)))).1,λb hb=>?_,w8⟩;obtain⟨o,e,d⟩:=T.obj _ _ SX b hb;exact(I8.pin (b,o) (List.mem_append_right _ (List.mem_append_right _ (mL hb e)))).2.1
   cases ok with
   | false=>
     rw[acK (by decide)] at q7;exact again I7 q7
   | true=>
     rw[acM rfl] at q7;refine cX (he C s2 H2 fp _ s7 σ6 H7 _ I7 q7) λy s8 gw=>?_;obtain⟨yv,H8,I8,r8,acc,ha,hlen,q8⟩:=gw;exact cX (zA _ s8 σ6 H8 (.ref D) [yv] (.ref D) [y] (λv H9=>Nx σ6 H9) I8 rfl (.cons r8 .nil) ⟨D,acc,yv,Z,Z,ha,hlen,q8⟩) λ_ s9 ⟨_,H9,I9,_,q9⟩=>again I9 q9
 exact codeAny_compStart_list (loop _ rfl) (T.self _ 0 _ _ _ (T.keep _ _ _ st2 λb _ o e=>old b o e) (loop _ rfl))
theorem dY(hc:X.calm=true)(S:bw N own caps X.N X.env.scope scope)(hi:PI X tg iter wi)(hg:∀C s H fp,PG (fu X scope C N s H fp) tg g)(hcs:∀C s H fp,PTs (fu X scope C N s H fp) ifs tc)(he:∀C s H fp,PE (fu X scope C N s H fp) elt te)(hs:∀x,foldedSetIterable iter X.env x=pure x:=by intro _;rfl):PE X (.ListComp elt [⟨tg,iter,ifs,0⟩] scope pos) (Ng own caps wi g tc te):=by
 intro pins s σ H Q I h;rw[eval_ListComp];refine Fq (use:=none) hc S hg hcs he hi hs I h ?_;intro D C H' s' hn I' hk _ q;obtain⟨m,hn⟩:=hn;exact⟨m,hn,λh' hs'=>⟨.ref D,H',hk h' hs',Z,q⟩⟩
theorem mH{i:Nat}{x:Str}{px sp:Pos}(hc:X.calm=true)(hN:X.N.Nodup)(hx:X.N[i]? = some x)(hl:Loc X.env.scope x)(S:bw N own caps X.N X.env.scope scope)(hi:PI X tg iter wi)(hg:∀C s H fp,PG (fu X scope C N s H fp) tg g)(hcs:∀C s H fp,PTs (fu X scope C N s H fp) ifs tc)(he:∀C s H fp,PE (fu X scope C N s H fp) elt te)(hsw:swapsWith (.ListComp elt [⟨tg,iter,ifs,0⟩] scope pos) (some (.Name x px)) sp.line X.env=pure true:=by rfl)(hs:∀x,foldedSetIterable iter X.env x=pure x:=by intro _;rfl)(hf:X.fn x=true\/X.env.scope.names.lookup x=some .local:=by first |exact .inl rfl|exact .inr rfl|assumption):
 PS X (.Assign [.Name x px] (.ListComp elt [⟨tg,iter,ifs,0⟩] scope pos) sp) (Xe (Ng own caps wi g tc te) (cG i)):=by
 intro pins s σ H D I h;rw[exec_Assign_Name_used _ _ _ _ hsw];refine aas (wpAny_standAt (aas ?_));show wpAny _ X.A (do let _ ←comprehension (.ListComp elt [⟨tg,iter,ifs,0⟩] scope pos) scope X.env (firstIterPos [⟨tg,iter,ifs,0⟩] pos) (newList []) false (eval iter X.env) (some (assign (.Name x px) X.env))) _ _ s;refine aas (wpAny_mono (Fq (use:=some (assign (.Name x px) X.env)) (Qv:=λ_ s'=>SP X pins D .next s') hc S hg hcs he hi hs I h ?_) (λ_ s' hq=>aaE (aaE hq)) λ_ _ e=>e);intro E C H' s' hn I' hk fC q;obtain⟨m,hn⟩:=hn;obtain⟨f0,f1,f2,f3,f4,f5⟩:=fC;show wpAny _ X.A (assign (.Name x px) X.env (.ref E)) _ _ _;refine wpAny_assign_Name (zf I' hN hx hl (v:= .ref E) rfl (λs2 I2 k=>?_) hf);refine⟨m, ?_,λh' hs'=>?_⟩
 .obtain⟨o,es,ep,ho,r⟩:=hn
  obtain⟨a,ks,ka⟩:=k
  have hCa:C≠a:=λz=>by
   rcases ka with q'|q'
   .exact f1 (z.trans q')
   .exact f4 x a q' z.symm
  exact⟨o,es,ep,(ks.2 C hCa).trans ho,r⟩
 .exact⟨_,H',I2.turned (t':=s2.toks) (λb o hb e=>(hs'.2 b hb).trans e) f0 f1 f3 f4 f5,q⟩
end
noncomputable def QT(N own:List Str)(caps:List Nat)(XN:List Str)(outer scope:Scope):Bool:=
 decide (scope.kind = .function)&&scope.names.all (λy=>decide (y.2 ≠ .cell))&&scope.names.all (λy=>decide (y.2 ≠ .local)||decide (scope.names.lookup y.1=some .local)) &&
 scope.names.all (λy=>decide (y.2 ≠ .free)||decide (outer.names.lookup y.1=some .cell)||decide (outer.names.lookup y.1=some .free))&&decide N.Nodup&&decide (N.length=own.length+caps.length) &&
 (List.range caps.length).all (λj=>match N[own.length+j]? with |some x=>decide (XN[caps.getD j 0]? = some x)&&decide ((x,NameKind.free)∈scope.names)&&decide (scope.names.lookup x=some .free)|none=>false)
theorem bw.of{N own:List Str}{caps:List Nat}{XN:List Str}{outer scope:Scope}(h:QT N own caps XN outer scope=true):bw N own caps XN outer scope:=by
 unfold QT at h;simp only[abw,decide_eq_true_eq,List.all_eq_true,Bool.or_eq_true] at h;obtain⟨⟨⟨⟨⟨⟨h1,h2⟩,h3⟩,h4⟩,h5⟩,h6⟩,h7⟩:=h;refine⟨h1,h2,λy hy e=>?_,λy hy e=>?_,h5,h6,λj hj=>?_⟩
 .rcases h3 y hy with z|z
  .exact acP e z
  .exact z
 .rcases h4 y hy with (z|z)|z
  .exact acP e z
  .exact .inl z
  .exact .inr z
 .have q:=h7 j (acr.mpr hj)
  cases e:N[own.length+j]? with
  | none=>rw[e] at q;cases q
  | some x=>
    rw[e] at q;simp only[abw,decide_eq_true_eq] at q;exact⟨q.1.1.symm,x,Z,q.1.2,q.2⟩
mutual
noncomputable def Dat(H:Hp):V->PyData->Prop
 | v,.none=>v = .non
 | v,.bool b=>v = .bl b
 | v,.int i=>v = .int i
 | v,.str x=>v = .str x
 | v,.list ds=>∃a vs,v = .ref a/\H a=some (.lst vs)/\aP H vs ds
 | v,.tuple ds=>∃a vs,v = .ref a/\H a=some (.tup vs)/\aP H vs ds
 | _,.dict _=>False
noncomputable def aP(H:Hp):List V->List PyData->Prop
 | [],[]=>True
 | v::vs,d::ds=>Dat H v d/\aP H vs ds
 | [],_::_=>False
 | _::_,[]=>False
end
section
variable{H H':Hp}
theorem aP.length:∀{vs:List V}{ds:List PyData},aP H vs ds->vs.length=ds.length
 | [],[],_=>rfl
 | _::_,_::_,h=>by simp only[aP] at h;simp[aP.length h.2]
 | [],_::_,h=>by simp only[aP] at h
 | _::_,[],h=>by simp only[aP] at h
theorem aP.get:∀{vs:List V}{ds:List PyData}{i:Nat}{v:V},aP H vs ds->vs[i]? = some v -> ∃d,ds[i]? = some d/\Dat H v d
 | _::_,_::_,0,_,h,e=>by simp only[aP] at h;simp at e;subst e;exact⟨_,Z,h.1⟩
 | _::_,_::_,i+1,_,h,e=>by simp only[aP] at h;simp at e;obtain⟨d,q,r⟩:=aP.get h.2 e;exact⟨d,by simpa using q,r⟩
 | [],[],_,_,_,e=>by simp at e
 | [],_::_,_,_,h,_=>by simp only[aP] at h
 | _::_,[],_,_,h,_=>by simp only[aP] at h
theorem aP.getD:∀{vs:List V}{ds:List PyData}{i:Nat}{d:PyData},aP H vs ds->ds[i]? = some d -> ∃v,vs[i]? = some v/\Dat H v d
 | _::_,_::_,0,_,h,e=>by simp only[aP] at h;simp at e;subst e;exact⟨_,Z,h.1⟩
 | _::_,_::_,i+1,_,h,e=>by simp only[aP] at h;simp at e;obtain⟨d,q,r⟩:=aP.getD h.2 e;exact⟨d,by simpa using q,r⟩
 | [],[],_,_,_,e=>by simp at e
 | [],_::_,_,_,h,_=>by simp only[aP] at h
 | _::_,[],_,_,h,_=>by simp only[aP] at h
theorem aP.append:∀{vs ws:List V}{ds es:List PyData},aP H vs ds->aP H ws es->aP H (vs++ws) (ds++es)
 | [],_,[],_,_,g=>g
 | _::_,_,_::_,_,h,g=>by simp only[aP,List.cons_append] at h ⊢;exact⟨h.1,aP.append h.2 g⟩
 | [],_,_::_,_,h,_=>by simp only[aP] at h
 | _::_,_,[],_,h,_=>by simp only[aP] at h
theorem aP.ints(ns:List Int):aP H (ns.map V.int) (ns.map PyData.int):=by
 induction ns with
 | nil=>simp only[List.map_nil,aP]
 | cons n r ih=>simp only[List.map_cons,aP,Dat];exact⟨trivial,ih⟩
mutual
theorem Dat.mono(hl:∀a xs,H a=some (HO.lst xs)->H' a=some (HO.lst xs))(ht:∀a xs,H a=some (HO.tup xs)->H' a=some (HO.tup xs)):∀(d:PyData){v:V},Dat H v d->Dat H' v d
 | .none,_,h=>by simp only[Dat] at h ⊢;exact h
 | .bool _,_,h=>by simp only[Dat] at h ⊢;exact h
 | .int _,_,h=>by simp only[Dat] at h ⊢;exact h
 | .str _,_,h=>by simp only[Dat] at h ⊢;exact h
 | .list ds,_,h=>by simp only[Dat] at h ⊢;obtain⟨a,vs,e,q,r⟩:=h;exact⟨a,vs,e,hl _ _ q,aP.mono hl ht ds r⟩
 | .tuple ds,_,h=>by simp only[Dat] at h ⊢;obtain⟨a,vs,e,q,r⟩:=h;exact⟨a,vs,e,ht _ _ q,aP.mono hl ht ds r⟩
 | .dict _,_,h=>by simp only[Dat] at h
theorem aP.mono(hl:∀a xs,H a=some (HO.lst xs)->H' a=some (HO.lst xs))(ht:∀a xs,H a=some (HO.tup xs)->H' a=some (HO.tup xs)):∀(ds:List PyData){vs:List V},aP H vs ds->aP H' vs ds
 | [],[],_=>by simp only[aP]
 | d::ds,v::vs,h=>by simp only[aP] at h ⊢;exact⟨Dat.mono hl ht d h.1,aP.mono hl ht ds h.2⟩
 | _::_,[],h=>by simp only[aP] at h
 | [],_::_,h=>by simp only[aP] at h
end
mutual
noncomputable def C_:PyData->Bool
 | .tuple ds=>qw ds
 | .list _ | .dict _=>false
 | .none | .bool _ | .int _ | .str _=>true
noncomputable def qw:List PyData->Bool
 | []=>true
 | d::ds=>C_ d&&qw ds
end
mutual
theorem Dat.keep(ht:∀a xs,H a=some (HO.tup xs)->H' a=some (HO.tup xs)):∀(d:PyData){v:V},C_ d=true->Dat H v d->Dat H' v d
 | .none,_,_,h=>by simp only[Dat] at h ⊢;exact h
 | .bool _,_,_,h=>by simp only[Dat] at h ⊢;exact h
 | .int _,_,_,h=>by simp only[Dat] at h ⊢;exact h
 | .str _,_,_,h=>by simp only[Dat] at h ⊢;exact h
 | .list ds,_,i,h=>by simp only[C_] at i;cases i
 | .tuple ds,_,i,h=>by simp only[Dat] at h ⊢;simp only[C_] at i;obtain⟨a,vs,e,q,r⟩:=h;exact⟨a,vs,e,ht _ _ q,aP.keep ht ds i r⟩
 | .dict _,_,_,h=>by simp only[Dat] at h
theorem aP.keep(ht:∀a xs,H a=some (HO.tup xs)->H' a=some (HO.tup xs)):∀(ds:List PyData){vs:List V},qw ds=true->aP H vs ds->aP H' vs ds
 | [],[],_,_=>by simp only[aP]
 | d::ds,v::vs,i,h=>by simp only[aP] at h ⊢;simp only[qw,abw] at i;exact⟨Dat.keep ht d i.1 h.1,aP.keep ht ds i.2 h.2⟩
 | _::_,[],_,h=>by simp only[aP] at h
 | [],_::_,_,h=>by simp only[aP] at h
end
theorem cZ{α:Type}(f:α->PyData)(h:∀x,C_ (f x)=true):∀l:List α,qw (l.map f)=true
 | []=>rfl
 | a::l=>by simp only[List.map_cons,qw,h a,cZ f h l,Bool.and_self]
end
section
variable{X:Cx}{pins:List (Addr×Obj)}{σ:St}{H:Hp}{s:Shared}
mutual
theorem Inv.reads(I:Inv X pins σ H s):∀(d:PyData){v:V}{u:Value},Dat H v d->RelV v u -> ∃as,Reads s.heap u d as
 | .none,v,u,h,r=>by
   simp only[Dat] at h;subst h;cases (show u=Value.none from r);exact⟨_,.none⟩
 | .bool b,v,u,h,r=>by
   simp only[Dat] at h;subst h;cases (show u=Value.bool b from r);exact⟨_,.bool b⟩
 | .int i,v,u,h,r=>by
   simp only[Dat] at h;subst h;obtain⟨t,q⟩:=(show ∃t,u=Value.int i t from r);cases q;exact⟨_,.int i t⟩
 | .str x,v,u,h,r=>by
   simp only[Dat] at h;subst h;obtain⟨t,q⟩:=(show ∃t,u=Value.str x t from r);cases q;exact⟨_,.str x t⟩
 | .list ds,v,u,h,r=>by
   simp only[Dat] at h;obtain⟨a,vs,rfl,q,g⟩:=h;cases (show u=Value.ref a from r);obtain⟨its,rv,p,hz⟩:=I.list (bH.of q);obtain⟨o,ho,hc,n,hd⟩:=p.isList;obtain⟨as,ra⟩:=Inv.readsAll I ds g rv;exact⟨_,.list ho hc hd (by simpa using ra)⟩
 | .tuple ds,v,u,h,r=>by
   simp only[Dat] at h;obtain⟨a,vs,rfl,q,g⟩:=h;cases (show u=Value.ref a from r);obtain⟨its,rv,p,hz⟩:=I.tuple (cH.of q);obtain⟨o,ho,hc,n,hd⟩:=p;obtain⟨as,ra⟩:=Inv.readsAll I ds g rv;exact⟨_,.tuple ho hc hd (by simpa using ra)⟩
 | .dict _,_,_,h,_=>by simp only[Dat] at h
theorem Inv.readsAll(I:Inv X pins σ H s):∀(ds:List PyData){vs:List V}{us:List Value},aP H vs ds->Vals vs us -> ∃as,ReadsAll s.heap us ds as
 | [],[],_,_,.nil=>⟨_,.nil⟩
 | d::ds,v::vs,_,h,.cons r rs=>by
   simp only[aP] at h;obtain⟨as,ra⟩:=Inv.reads I d h.1 r;obtain⟨bs,rb⟩:=Inv.readsAll I ds h.2 rs;exact⟨_,.cons ra rb⟩
 | _::_,[],_,h,_=>by simp only[aP] at h
 | [],_::_,_,h,_=>by simp only[aP] at h
end
noncomputable def Tp(neg:Bool):R2:=λx y H Q=>∃d e,Dat H x d/\Dat H y e/\SeqAt.shaped d=true/\SeqAt.shaped e=true/\Q (.bl (if neg then !PyData.eqv d e else PyData.eqv d e)) H
theorem Yc(hu:X.A.units+64<cLine):nF X (compareOp .Eq) (Tp false):=by
 intro pins s σ H x y v u Q I rx ry h;obtain⟨d,e,h1,h2,s1,s2,q⟩:=h;obtain⟨as,ra⟩:=I.reads d h1 rx;obtain⟨bs,rb⟩:=I.reads e h2 ry;exact SeqAt.compareEq_shaped ra rb s1 s2 hu ⟨.bl _,H,I,Z,q⟩
theorem Yb(hu:X.A.units+64<cLine):nF X (compareOp .NotEq) (Tp true):=by
 intro pins s σ H x y v u Q I rx ry h;obtain⟨d,e,h1,h2,s1,s2,q⟩:=h;obtain⟨as,ra⟩:=I.reads d h1 rx;obtain⟨bs,rb⟩:=I.reads e h2 ry;exact SeqAt.compareNe_shaped ra rb s1 s2 hu ⟨.bl _,H,I,Z,q⟩
theorem QZ{c:Value}{cv:V}(rc:RelV cv c):jy X (.builtin "isinstance") (λxs H Q=>∃x t b,xs=[x,cv]/\qG X.K H x t/\PySem.W.kitOne X.K t c=some b/\Q (.bl b) H):=by
 intro pins s σ H xs us Q I r h;obtain⟨x,t,b,rfl,ty,e,q⟩:=h;obtain⟨u,w',rfl,r1,r2⟩:=vals2 r
 have:w'=c:=by
  cases cv with
  | non=>exact(show w'=Value.none from r2).trans (show c=Value.none from rc).symm
  | bl b=>exact(show w'=Value.bool b from r2).trans (show c=Value.bool b from rc).symm
  | ref a=>exact(show w'=Value.ref a from r2).trans (show c=Value.ref a from rc).symm
  | ty n=>exact(show w'=Value.type n from r2).trans (show c=Value.type n from rc).symm
  | int i=>obtain⟨t1,rfl⟩:=(show ∃t,c=Value.int i t from rc);unfold PySem.W.kitOne at e;exact acP e (by cases ty<;>simp[PySem.W.kitCls])
  | str i=>obtain⟨t1,rfl⟩:=(show ∃t,c=Value.str i t from rc);unfold PySem.W.kitOne at e;exact acP e (by cases ty<;>simp[PySem.W.kitCls])
  | Ig i=>obtain⟨t1,rfl⟩:=(show ∃t,c=Value.bytes i t from rc);unfold PySem.W.kitOne at e;exact acP e (by cases ty<;>simp[PySem.W.kitCls])
  | flt i=>obtain⟨t1,rfl⟩:=(show ∃t,c=Value.float i t from rc);unfold PySem.W.kitOne at e;exact acP e (by cases ty<;>simp[PySem.W.kitCls])
 subst this;exact Le I r1 ty e λtk=>⟨.bl b,H,I.tok _,Z,q⟩
end
section
variable{prog:Program}{w:World}{A:Around}
theorem Gg(hh:A.handled=none)(it a:Addr)(hne:it≠a)(its:List Value):Walks prog w A it [it,a] [it] its.length (λi v=>its[i]? = some v) (λi h=>h.IsListIter it a i/\h.IsList a its.toArray) where
 sub:=by simp
 frame:=λi h h' ⟨s1,o,ho,hc⟩ k=>⟨s1.at λo e=>k it (by simp) o e,o,k a (by simp) o ho,hc⟩
 item:=λi s Q E hi ⟨s1,s2⟩ hQ=>wpAny_pyNext_list_item s1 s2 (x:=its[i]) (by simp[hi]) λh' st' sb=>
  hQ _ h' s.toks (by simp[hi]) ⟨st',s2.extBut sb.extBut hne.symm⟩ λb o hb e=>(sb.2 b (by simpa using hb)).trans e
 done:=λs Q E ⟨s1,s2⟩ hQ=>wpAny_pyNext_list_end hh s1 s2 (by simp) λh' eb=>hQ h' s.toks λb o hb e=>eb b o (by simpa using hb) e
 self:=λi s Q E ⟨s1,_⟩ hQ=>wpAny_pyIter_listiter s1 hQ
end
section
variable{X:Cx}
theorem yF(bs:List Bool):(List.range bs.length).all (λi=>(bs[i]?).getD false)=bs.all id:=by
 rw[Bool.eq_iff_iff,List.all_eq_true,List.all_eq_true];constructor
 .intro h b hb
  obtain⟨i,hi,rfl⟩:=acC hb;have:=h i (by simpa using hi);simpa [hi] using this
 .intro h i hi
  have hi':i<bs.length:=by simpa using hi
  simpa [hi'] using h bs[i] (List.getElem_mem hi')
theorem Gh{bs:List Bool}:∀{us:List Value},Vals (bs.map V.bl) us->us=bs.map Value.bool:=by
 induction bs with
 | nil=>intro us r;cases r;rfl
 | cons b bs ih=>
   intro us r;cases r with
   | cons r rs=>cases (show _=Value.bool b from r);rw[ih rs];rfl
theorem xT(hc:X.calm=true):jy X (.builtin "all") (λxs H Q=>∃(p:Addr) (bs:List Bool),xs=[.ref p]/\bH X.K H p (bs.map V.bl)/\Q (.bl (bs.all id)) H):=by
 intro pins s σ H xs us Q I r h;obtain⟨p,bs,rfl,hq,q⟩:=h;obtain⟨u,rfl,rx⟩:=vals1 r;cases rx;obtain⟨its,rv,pl,hz⟩:=I.list hq;have e:=Gh rv;have hlen:its.length=bs.length:=by rw[e,aac]
 refine call_all_walk (wpAny_pyIter_list pl.isList ⟨s.heap.objs.size,[s.heap.objs.size,p],[s.heap.objs.size],its.length,_,_,λi=>(bs[i]?).getD false,Z,
  Gg (show X.A.in1.handled=none from I.ok.hd hc) s.heap.objs.size p ?_ its,⟨⟨_,aaj _ rfl,Z,Z⟩, ?_⟩, ?_, ?_⟩)
 .intro z
  obtain⟨o,ho,_⟩:=pl.isList;have:=aaq ho;rw[←z] at this;exact acG _ this
 .obtain⟨o,ho,hcl⟩:=pl.isList
  exact⟨o,aai _ ho,hcl⟩
 .intro i v s1 Q1 E1 hP hQ
  rw[e,aah] at hP;cases r:bs[i]? with
  | none=>rw[r] at hP;cases hP
  | some b=>
    rw[r] at hP;cases hP;simp only[r,Option.getD_some] at hQ;exact wpAny_truthy_bool hQ
 .intro h' tk k
  rw[hlen,yF];have f:=I.HJ (H':=H) (b:=s.heap.objs.size) (aar _) (I.hok.fresh (aar _));have I2:Inv X pins σ H {s with heap:=h',toks:=tk}:=I.turned (h':=h') (t':=tk) (it:=s.heap.objs.size) (λb o hb e=>k b o (by simpa using hb) (aai _ e)) f.1 f.2.1 f.2.2.2.1 f.2.2.2.2.1 f.2.2.2.2.2;exact⟨.bl _,H,I2,Z,q⟩
end
noncomputable def FnAt(P:Program)(w:World)(K:PySem.W.Frag)(mg:Str->Option Value)(base:Heap)(k:Nat)(x:Str)(ps:List Str)(sp:Sp):Prop:=
 ∃f fd,bO P w K mg base iy k f fd ps sp/\mg x=some (.ref f)/\PySem.W.keepIn K (.ref f)=true/\Binds K fd ps []
section
variable{X:Cx}{k j:Nat}{x:Str}{ps:List Str}{sp:Sp}{e:Expr}{es:List Expr}{t:TA}{p pos:Pos}
theorem bT(F:FnAt X.prog X.w X.K X.mg X.base k x ps sp)(hr:dg k X.A)(hg:Gl X x)(ha:PA X (e::es) t)(hd:(x==("__debug__" :Str))=false:=by decide)(he:starEach (e::es) X.env=(false,eval e X.env)::starEach es X.env:=by rfl)(hpl:(backTo pos (starEach es X.env)).any (·.1)=false:=by rfl):
 PE X (.Call (.Name x p) (e::es) [] pos) (VJ sp [] E0 t):=by
 obtain⟨f,fd,G,hm,hk,hb⟩:=F;exact TY G hr hg hm hk hb .nil Js ha (hdb:=hd) (he:=he) (hpl:=hpl)
end
theorem Cr:bootBuiltins "all" = some (.builtin "all"):=by kernel_rfl
theorem cQ:bootBuiltins "len" = some (.builtin "len"):=by kernel_rfl
theorem Q6:bootBuiltins "min" = some (.builtin "min"):=by kernel_rfl
theorem Mf:bootBuiltins "sorted" = some (.builtin "sorted"):=by kernel_rfl
theorem bF:bootBuiltins "isinstance" = some (.builtin "isinstance"):=by kernel_rfl
theorem xU:bootBuiltins "int" = some (.type "int"):=by kernel_rfl
theorem su:bootBuiltins "bool" = some (.type "bool"):=by kernel_rfl
theorem dN:bootBuiltins "list" = some (.type "list"):=by kernel_rfl
theorem rZ:bootBuiltins "tuple" = some (.type "tuple"):=by kernel_rfl
theorem Zk:bootBuiltins "str" = some (.type "str"):=by kernel_rfl
section
variable{X:Cx}
theorem Ju:nF X (binaryOp .Mult) (rI IntMulOk λi j=> .int (i*j)):=ZJ λ_ _ _ _ _ _ _ hc q=>mul_int q hc
end
noncomputable def Kp(r:Addr)(H H':Hp):Prop:=∀b o,H b=some o->b≠r->H' b=some o
theorem Kp.of_same{r:Addr}{H H':Hp}(h:Same H H'):Kp r H H':=λb o e _=>h b o e
theorem Kp.trans{r:Addr}{H H1 H2:Hp}(a:Kp r H H1)(b:Kp r H1 H2):Kp r H H2:=λc o h n=>b c o (a c o h n) n
theorem Kp.set{r:Addr}{H:Hp}{o:HO}:Kp r H (upd H r o):=λb u e n=>by rw[aC n];exact e
theorem aF{H:Hp}{p:Addr}{o:HO}(h:H p=none):Same H (upd H p o):=λb u e=>by rw[aC (ao e h)];exact e
theorem Same.tups{H H':Hp}(e:Same H H'):∀a xs,H a=some (HO.tup xs)->H' a=some (HO.tup xs):=λa xs h=>e _ _ h
theorem Same.sqL{K:PySem.W.Frag}{H H':Hp}(e:Same H H'):∀a xs,bH K H a xs->bH K H' a xs:=λa xs h=>e.seq h
theorem Kp.tups{H H':Hp}{r:Addr}{ys:List V}(e:Kp r H H')(hr:H r=some (.lst ys)):∀a xs,H a=some (HO.tup xs)->H' a=some (HO.tup xs):=λa xs h=>e _ _ h (cY h hr (by intro z;cases z))
section
variable{X:Cx}{K:PySem.W.Frag}
theorem aZ(h:X.K=K):IxR X (aaU K):=by subst h;exact Uw
theorem aU(h:X.K=K):IxR X (aaT K):=by subst h;exact YG
theorem qY(h:X.K=K):SlR X (aaR K):=by subst h;exact S5
theorem Jm(h:X.K=K):SlR X (aaQ K):=by subst h;exact Xk
theorem GP(h:X.K=K):nF X (compareOp .In) (rIn K false):=by subst h;exact Kv
theorem lC(h:X.K=K):nF X (compareOp .NotIn) (rIn K true):=by subst h;exact Br
noncomputable def ae4(K:PySem.W.Frag):List V->Hp->VK->Prop:=λxs H Q=>∃(p:Addr) (ys:List V),xs=[.ref p]/\(bH K H p ys\/cH K H p ys)/\Q (.int ys.length) H
theorem aW(h:X.K=K):jy X (.builtin "len") (ae4 K):=by subst h;exact Cp
noncomputable def Tn(K:PySem.W.Frag):List V->Hp->VK->Prop:=λxs H Q=>∃(p:Addr) (ys:List V),xs=[.ref p]/\(bH K H p ys\/cH K H p ys) /\ ∀l,H l=none->Q (.ref l) (upd H l (.lst ys))
theorem bR(h:X.K=K):jy X (.type "list") (Tn K):=by subst h;exact Cm
noncomputable def aaX(K:PySem.W.Frag):List V->Hp->VK->Prop:=λxs H Q=>∃(p:Addr) (bs:List Bool),xs=[.ref p]/\bH K H p (bs.map V.bl)/\Q (.bl (bs.all id)) H
theorem gJ(h:X.K=K)(hc:X.calm=true):jy X (.builtin "all") (aaX K):=by subst h;exact xT hc
theorem Ua(h:X.K=K)(hu:X.A.units+64<cLine):nF X (compareOp .Eq) (Tp false):=by subst h;exact Yc hu
theorem Jt(h:X.K=K)(hu:X.A.units+64<cLine):nF X (compareOp .NotEq) (Tp true):=by subst h;exact Yb hu
theorem cI{tg l:Expr}{tl:TE}(h:X.K=K)(hl:PE X l tl):PI X tg l (Wc K tl):=by subst h;exact TJ hl
theorem TF{tg l:Expr}{tl:TE}(h:X.K=K)(hl:PE X l tl):PI X tg l (abu K tl):=by subst h;exact XM hl
noncomputable def ae5(K:PySem.W.Frag)(c:Value)(cv:V):List V->Hp->VK->Prop:=λxs H Q=>∃x t b,xs=[x,cv]/\qG K H x t/\PySem.W.kitOne K t c=some b/\Q (.bl b) H
theorem cD{c:Value}{cv:V}(h:X.K=K)(rc:RelV cv c):jy X (.builtin "isinstance") (ae5 K c cv):=by subst h;exact QZ rc
theorem dB{o e:Expr}{to:TE}{t:TA}{apos cpos:Pos}(h:X.K=K)(ho:PE X o to)(ha:PA X [e] t)(hbase:attributeBase o "append" X.env (eval o X.env)=eval o X.env:=by rfl)(hfew:((backTo cpos (starEach [e] X.env)).all (λx=> !x.1)&&(backToKw cpos (keywordEach [] X.env)).all (λx=>x.1.isSome)
   && decide (([e]:List Expr).length+([]:List Keyword).length+(if ([]:List Keyword).isEmpty then 0 else 1)<30))=true:=by rfl)(hline:(apos.endLine==cpos.line)=true:=by rfl)(hs:starEach [e] X.env=(false,eval e X.env)::starEach [] X.env:=by rfl)(hplain:(backTo cpos (starEach [] X.env)).any (·.1)=false:=by rfl):
 PE X (.Call (.Attribute o "append" apos) [e] [] cpos) (tBM K "list" Jq to t):=by
 subst h;exact V0 PySem.F.plainAttrs_list PySem.F.slot_list_append PySem.F.type_list_append zA ho ha hbase hfew hline hs hplain
end
end L2
namespace L2
open PySem
section
variable{K:PySem.W.Frag}{a D:Addr}{xs:List V}{g:TG}{tc:TT}{te:TE}{Q:VK}{σ0:St}{H1:Hp}
theorem fY(Pv:Nat->St->Hp->Prop)(h0:Pv 0 σ0 (upd H1 D (.lst [])))(hl:∀i σ H,i<=xs.length->Pv i σ H->bH K H a xs)(hs:∀i x σ H,xs[i]? = some x->Pv i σ H->g x σ H λσ2 H2=>tc σ2 H2 λb H3=>
   if b=true then te σ2 H3 λy H4=>∃acc,H4 D=some (.lst acc)/\acc.length<sizeLine/\Pv (i+1) σ2 (upd H4 D (.lst (acc++[y]))) else Pv (i+1) σ2 H3)(hd:∀σ H,Pv xs.length σ H->Q (.ref D) H):jf (Mt K a) g tc te Q D σ0 H1:=by
 refine⟨λi m σ H=>m=xs.length - i/\i<=xs.length/\Pv i σ H,⟨xs.length,by simp,Nat.zero_le _,h0⟩, ?_⟩;rintro i m σ H ⟨rfl,hi,p⟩;have q:=hl i σ H hi p
 by_cases hlt:i<xs.length
 .refine .inr ⟨⟨xs,xs[i],q,by simp[hlt]⟩,Pv (i+1),λσ' H' p'=>⟨xs.length - (i+1),by lia,Z,hlt,p'⟩,λx H' y=>?_⟩
  obtain⟨e,y⟩:=y;subst e;exact hs i x σ _ (y xs q) p
 .have e:i=xs.length:=by lia
  subst e;exact .inl ⟨⟨xs,q,aar _⟩,hd σ H p⟩
theorem QS(Pv:Nat->St->Hp->Prop)(h0:Pv 0 σ0 (upd H1 D (.lst [])))(hl:∀i σ H,i<=xs.length->Pv i σ H->cH K H a xs)(hs:∀i x σ H,xs[i]? = some x->Pv i σ H->g x σ H λσ2 H2=>tc σ2 H2 λb H3=>
   if b=true then te σ2 H3 λy H4=>∃acc,H4 D=some (.lst acc)/\acc.length<sizeLine/\Pv (i+1) σ2 (upd H4 D (.lst (acc++[y]))) else Pv (i+1) σ2 H3)(hd:∀σ H,Pv xs.length σ H->Q (.ref D) H):jf (Itt K a) g tc te Q D σ0 H1:=by
 refine⟨λi m σ H=>m=xs.length - i/\i<=xs.length/\Pv i σ H,⟨xs.length,by simp,Nat.zero_le _,h0⟩, ?_⟩;rintro i m σ H ⟨rfl,hi,p⟩;have q:=hl i σ H hi p
 by_cases hlt:i<xs.length
 .refine .inr ⟨⟨xs,xs[i],q,by simp[hlt]⟩,Pv (i+1),λσ' H' p'=>⟨xs.length - (i+1),by lia,Z,hlt,p'⟩,λx H' y=>?_⟩
  obtain⟨e,y⟩:=y;subst e;exact hs i x σ _ (y xs q) p
 .have e:i=xs.length:=by lia
  subst e;exact .inl ⟨⟨xs,q,aar _⟩,hd σ H p⟩
theorem xP{lo:Int}{n:Nat}(Pv:Nat->St->Hp->Prop)(h0:Pv 0 σ0 (upd H1 D (.lst [])))(hs:∀i σ H,i<n->Pv i σ H->g (.int (lo+i)) σ H λσ2 H2=>tc σ2 H2 λb H3=>
   if b=true then te σ2 H3 λy H4=>∃acc,H4 D=some (.lst acc)/\acc.length<sizeLine/\Pv (i+1) σ2 (upd H4 D (.lst (acc++[y]))) else Pv (i+1) σ2 H3)(hd:∀σ H,Pv n σ H->Q (.ref D) H):jf (Vu lo n) g tc te Q D σ0 H1:=by
 refine⟨λi m σ H=>m=n - i/\i<=n/\Pv i σ H,⟨n,by simp,Nat.zero_le _,h0⟩, ?_⟩;rintro i m σ H ⟨rfl,hi,p⟩
 by_cases hlt:i<n
 .refine .inr ⟨hlt,Pv (i+1),λσ' H' p'=>⟨n - (i+1),by lia,Z,hlt,p'⟩,λx H' y=>?_⟩
  obtain⟨e,y⟩:=y;subst e y;exact hs i σ _ hlt p
 .have e:i=n:=by lia
  subst e;exact .inl ⟨aar _,hd σ H p⟩
end
end L2
namespace L2
open PySem PySem.Spec PyProof.Rows
section
variable{α:Type}(f:α->PyData)
theorem iM:∀(l:List α),(∀x∈l,(f x).canLay0=true)->PyData.canLayAll0 (l.map f)=true
 | [],_=>rfl
 | a::l,h=>by
   show (PyData.canLay0 (f a)&&PyData.canLayAll0 (l.map f))=true;rw[h a List.mem_cons_self,iM l λx hx=>h x (aby _ hx)];rfl
theorem dM(k:Nat):∀(l:List α),(∀x∈l,(f x).depth<=k)->PyData.depthAll (l.map f)<=k
 | [],_=>Nat.zero_le _
 | a::l,h=>by
   show max (PyData.depth (f a)) (PyData.depthAll (l.map f))<=k;exact Nat.max_le.mpr ⟨h a List.mem_cons_self,dM k l λx hx=>h x (aby _ hx)⟩
theorem uG{l:List α}(k:Nat)(hk:k<64)(h1:∀x∈l,(f x).canLay0=true)(h2:∀x∈l,(f x).depth<=k):SeqAt.shaped (.list (l.map f))=true:=by
 unfold SeqAt.shaped;have e1:PyData.canLay0 (.list (l.map f))=true:=iM f l h1
 have e2:PyData.depth (.list (l.map f))<=64:=by
  show PyData.depthAll (l.map f)+1<=64;have:=dM f k l h2;lia
 rw[e1,aaL e2];rfl
theorem xJ[DecidableEq α](h:∀x y,PyData.eqv (f x) (f y)=decide (x=y)):∀(l m:List α),PyData.eqvAll (l.map f) (m.map f)=decide (l=m)
 | [],[]=>rfl
 | [],_::_=>by simp only[List.map_nil,List.map_cons,PyData.eqvAll];exact(aaN (by intro z;cases z)).symm
 | _::_,[]=>by simp only[List.map_nil,List.map_cons,PyData.eqvAll];exact(aaN (by intro z;cases z)).symm
 | a::l,b::m=>by
   simp only[List.map_cons,PyData.eqvAll];rw[h a b,xJ h l m]
   by_cases e1:a=b
   .subst e1
    by_cases e2:l=m
    .subst e2;simp
    .simp[e2]
   .simp[e1]
theorem Qu[DecidableEq α](h:∀x y,PyData.eqv (f x) (f y)=decide (x=y))(l m:List α):PyData.eqv (.list (l.map f)) (.list (m.map f))=decide (l=m):=by
 simp only[PyData.eqv];exact xJ f h l m
end
theorem oM{H:Hp}{a:Addr}{vs:List V}{ds:List PyData}(h:H a=some (.lst vs))(d:aP H vs ds):Dat H (.ref a) (.list ds):=by
 simp only[Dat];exact⟨a,vs,Z,h,d⟩
theorem uN(K:PySem.W.Frag):PySem.W.kitOne K (.type "int") (.type "int")=some true:=Z
theorem mQ(K:PySem.W.Frag):PySem.W.kitOne K (.type "int") (.type "bool")=some false:=by kernel_rfl
theorem iZ(K:PySem.W.Frag):PySem.W.kitOne K (.type "list") (.type "list")=some true:=Z
theorem uW(K:PySem.W.Frag):PySem.W.kitOne K (.type "tuple") (.type "tuple")=some true:=Z
end L2
namespace L2
open PySem
theorem QK(xs:List V)(k:Nat):oN xs none (some (k:Int))=xs.take k:=by
 unfold oN;rw[HT.v7,HT.Bh,List.drop_zero,Nat.sub_zero]
 by_cases h:k<=xs.length
 .rw[Nat.min_eq_left h]
 .rw[Nat.min_eq_right (by lia),List.take_of_length_le (aar _),List.take_of_length_le (by lia)]
theorem Fp(xs:List V)(k:Nat):oN xs (some (k:Int)) none=xs.drop k:=by
 unfold oN;rw[HT.v7,HT.Bh]
 by_cases h:k<=xs.length
 .rw[Nat.min_eq_left h,List.take_of_length_le (by rw[List.length_drop];exact aar _)]
 .rw[Nat.min_eq_right (by lia),Nat.sub_self,List.take_zero,List.drop_of_length_le (by lia)]
end L2
namespace PySem.W
open PySem PySem.Spec PySem.Calls PyProof.Rows
theorem UW:builtinKind "BaseException.__getattribute__" = some .slot:=by decide +kernel
theorem Ql:splitId "BaseException.__getattribute__" = some ("BaseException","__getattribute__"):=by decide +kernel
section
variable{prog:Program}{w:World}{A:Around}{E:Value->Shared->Prop}{s:Shared}{K:Frag}{x D:Addr}{ox:Obj}{odo:Option Obj}{name:Str}
theorem Lp{M:Model}{nameV:Value}{Q:Unit->Shared->Prop}(X:K.In s.heap)(I:InstAt s.heap x ox D odo)(hB:mroIn K D (.type "BaseException")=some true)(hq:Q () s):
 wpAny M A (checkBuiltinCall "BaseException.__getattribute__" ⟨[.ref x,nameV],[]⟩) Q E s:=by
 obtain⟨hh,g,d,t,os⟩:=s;have L0:=I.type (M:=M);have L3:=looks_mroIn (M:=M) X hB;have ha:=F.args_bexc_ga (.ref x) nameV;simp only[checkBuiltinCall,UW,Ql];unfold isInstance
 repeat (first |lk|wp_step)
 all_goals first |exact hq|trace_state
theorem Qs{Q:Option Value->Shared->Prop}{gv a:Value}(X:K.In s.heap)(I:InstAt s.heap x ox D odo)(hga:findIn K (.ref D) "__getattribute__" = some (some (.builtin "BaseException.__getattribute__")))(hk:findIn K (.ref D) "__getattr__" = some none)(hB:mroIn K D (.type "BaseException")=some true)(hf:findObj K D odo name=some (.bind gv a))(FB:Slot "Exception" "__getattribute__" "BaseException.__getattribute__")(h:∀A',codeAny (model prog w) A' (.call gv ⟨[a,.ref x,.ref D],[]⟩) (λr s'=>match r with | .ok (.ret v)=>wpAny (model prog w) A (handedOut v) (λv s''=>Q (some v) s'') (λ_ _=>False) s'|_=>False) {s with toks:=s.toks+1}):
 wpAny (model prog w) A (getAttr? (.ref x) name) Q E s:=by
 obtain⟨hh,g,d,t,os⟩:=s;have L0:=I.type (M:=model prog w);have L1:=looks_findIn (M:=model prog w) X hga;have L2:=looks_findIn (M:=model prog w) X hk;have L4:=looks_find (M:=model prog w) X I hf;have hx2:(Value.builtin "BaseException.__getattribute__" == Value.builtin "object.__getattribute__")=false:=by decide +kernel
 have f3:=FB.bind (.ref x);unfold getAttr? getAttrBy? getAttrBy;refine aas (wpAny_mkText (aas (wpAny_attempt (wpAny_holding (aas (L0.at (aas (L1.at ?_))))))));simp only[hx2,Bool.and_false,Bool.false_eq_true,if_false];unfold getAttrByItsOwn hookBefore;show wpAny _ _ (typeLookup (.ref D) "__getattr__" >>= _) _ _ _;refine aas (L2.at ?_);refine aas (wpAny_attempt (wpAny_holding ?_));unfold callGetattribute boundAndCalled;rw[acK (by decide)];refine aas (wpAny_of_eq f3 ?_);refine wpAny_call (codeAny_call_builtin FB.plain F.entry_bexc_ga (Lp (s:=⟨hh,g,d,t+1,os⟩) X I hB ?_));show wpAny _ _ (Builtin.«object.__getattribute__» ⟨[.ref x,.str name t],[]⟩) _ _ _;unfold Builtin.«object.__getattribute__»;refine aas (aaE ?_);refine aas (aaE ?_);refine aas (L0.at (aas (L4.at ?_)));show wpAny _ _ (Builtin.ObjectAttr.bindTo gv a (.ref x) (.ref D)) _ _ _;unfold Builtin.ObjectAttr.bindTo;show wpAny _ _ (holding [a] (call gv [a,.ref x,.ref D]) >>= λv=>ret v) _ _ _;refine aas (wpAny_holding (wpAny_call (codeAny_mono (h _) λr s' hr=>?_)))
 match r,hr with
 | .ok (.ret v),hr=>
   refine aaE ?_;exact wpAny_mono hr (λv s'' q=>aaE q) λ_ _ z=>z.elim
end
theorem Qq:Slot "Exception" "__getattribute__" "BaseException.__getattribute__" :=F.attr_Exception.ga
theorem yN{K:Frag}{C:Addr}{od:Option Obj}{name:Str}{a g:Value}(hc:(clsIn K C).isSome=true)(ha:findIn K (.ref C) name=some (some a))(hg:specialIn K a "__get__" = some (some g))(ht:takesIn K a=some true):findObj K C od name=some (.bind g a):=by
 obtain⟨cd,hc⟩:=Option.isSome_iff_exists.mp hc;unfold findObj;rw[hc,acJ,ha,acJ];simp[hg,ht]
theorem Ln{prog:Program}{w:World}{A:Around}{E:Value->Shared->Prop}{s:Shared}{K:Frag}{x D:Addr}{ox:Obj}{odo:Option Obj}{Q:Option Value->Shared->Prop}(X:K.In s.heap)(I:InstAt s.heap x ox D odo)(hga:findIn K (.ref D) "__getattribute__" = some (some (.builtin "BaseException.__getattribute__")))(hk:findIn K (.ref D) "__getattr__" = some none)(hB:mroIn K D (.type "BaseException")=some true)(hc:(clsIn K D).isSome=true)(ha:findIn K (.ref D) "__class__" = some (some (.builtin "object.__class__")))(hn:specialIn K (.builtin "object.__class__") "__get__" = some (some (.builtin "getset_descriptor.__get__")))(htk:takesIn K (.builtin "object.__class__")=some true)(hm:mroIn K D (.type "object")=some true)(h:Q (some (.ref D)) {s with toks:=s.toks+1}):wpAny (model prog w) A (getAttr? (.ref x) "__class__") Q E s:=by
 have hf:findObj K D odo "__class__" = some (.bind (.builtin "getset_descriptor.__get__") (.builtin "object.__class__")):=yN hc ha hn htk;exact Qs X I hga hk hB hf Qq λA'=>class_get (s:={s with toks:=s.toks+1}) X I hm (handed_on rfl h)
structure Vp(K:Frag)(D:Addr):Prop where
 hga:findIn K (.ref D) "__getattribute__" = some (some (.builtin "BaseException.__getattribute__"))
 hk:findIn K (.ref D) "__getattr__" = some none
 hB:mroIn K D (.type "BaseException")=some true
 hc:(clsIn K D).isSome=true
 ha:findIn K (.ref D) "__class__" = some (some (.builtin "object.__class__"))
 hn:specialIn K (.builtin "object.__class__") "__get__" = some (some (.builtin "getset_descriptor.__get__"))
 htk:takesIn K (.builtin "object.__class__")=some true
 hm:mroIn K D (.type "object")=some true
theorem Es{K:Frag}{x D:Addr}(c:Vp K D):KitX K (.ref x) (.ref D) (λh=>∃ox odo,InstAt h x ox D odo) where
 ty:=λ_ _ _ ⟨_,_,I⟩=>I.type
 it:=λ_ _ X _=>by
  have hc:=c.hc;unfold clsIn at hc;split at hc
  .rename_i c' d' cd' sl' ho
   intro A' Q' E' s' k q;unfold isType loadHead;exact aas (wpAny_loadPart (k _ _ (X _ _ ho)) (aaE q))
  .cases hc
 ne:=λh tp dd its n sl X htp=>by
  have hc:=c.hc;refine Bool.eq_false_iff.mpr λq=>?_;have e:D=tp:=Value.ref.inj (beq_iff_eq.mp q);subst e;unfold clsIn at hc;split at hc
  .rename_i c' d' cd' sl' ho
   have z:=(X _ _ ho).symm.trans htp;cases z
  .cases hc
 ca:=λX ⟨_,_,I⟩ k=>Ln X I c.hga c.hk c.hB c.hc c.ha c.hn c.htk c.hm k
end PySem.W
namespace L2
open PySem PySem.Spec PyProof.Rows
noncomputable def ux(h:Heap)(e:Addr)(cls:Value)(dx:Option Addr)(lo:Addr->Prop):Option Value->Prop
 | none=>∃oe vs,h.get? e=some oe/\oe.cls=cls/\oe.dict=dx/\oe.data = .fields vs/\vs[1]? = some .none
 | some f=>∃oe vs T oT ts,h.get? e=some oe/\oe.cls=cls/\oe.dict=dx/\oe.data = .fields vs/\vs[1]? = some (.ref T)/\lo T/\T≠e/\h.get? T=some oT/\oT.data = .fields ts/\ts[3]? = some f
theorem ux.there{h:Heap}{e:Addr}{cls:Value}{dx:Option Addr}{lo:Addr->Prop}{f:Option Value}(x:ux h e cls dx lo f):∃oe vs,h.get? e=some oe/\oe.cls=cls/\oe.dict=dx/\oe.data = .fields vs:=by
 cases f with
 | none=>obtain⟨oe,vs,a,b,c,d,_⟩:=x;exact⟨oe,vs,a,b,c,d⟩
 | some f=>obtain⟨oe,vs,_,_,_,a,b,c,d,_⟩:=x;exact⟨oe,vs,a,b,c,d⟩
section
variable{M:Model}{A:Around}{E:Value->Shared->Prop}{s:Shared}{base:Heap}{env:Env}{outer:List Env}{L e:Addr}
structure oX(fr:List Addr)(e:Addr)(lo:Addr->Prop)(h h':Heap):Prop where
 keep:∀b o,h.get? b=some o->b∉fr->b≠e -> ¬lo b->h'.get? b=some o
 slot:∀b o,h.get? b=some o->b∈fr->b≠e -> ¬lo b -> ∃sl,h'.get? b=some {o with slots:=sl}
 there:∀b o,h.get? b=some o -> ∃o',h'.get? b=some o'
theorem oX.trans{fr:List Addr}{lo:Addr->Prop}{h h1 h2:Heap}(a:oX fr e lo h h1)(b:oX fr e lo h1 h2):oX fr e lo h h2 where
 keep:=λc o q n1 n2 n3=>b.keep c o (a.keep c o q n1 n2 n3) n1 n2 n3
 slot:=λc o q n1 n2 n3=>by
  obtain⟨sl,q1⟩:=a.slot c o q n1 n2 n3;obtain⟨sl2,q2⟩:=b.slot c _ q1 n1 n2 n3;exact⟨sl2,q2⟩
 there:=λc o q=>by
  obtain⟨o1,q1⟩:=a.there c o q;exact b.there c o1 q1
theorem lY{h:Heap}{a:Addr}{o:Obj}{vs:Array Value}(q:h.get? a=some o)(d:o.data = .fields vs)(i:Nat)(v:Value):
 (h.update a (Obj.mapFields (·.setIfInBounds i v))).get? a=some (Obj.mapFields (·.setIfInBounds i v) o)/\(Obj.mapFields (·.setIfInBounds i v) o).data = .fields (vs.setIfInBounds i v) /\
   (Obj.mapFields (·.setIfInBounds i v) o).cls=o.cls/\(Obj.mapFields (·.setIfInBounds i v) o).dict=o.dict:=by
 have d2:=Obj.data_mapFields d (·.setIfInBounds i v);refine⟨Heap.get?_update_self _ q (Obj.isFreed_of_fields d2),d2,Obj.cls_mapFields _ _, ?_⟩;obtain⟨c,dd,dt,sl⟩:=o;simp only at d;subst d;rfl
theorem Mx{oe:Obj}{vs:Array Value}{head:Value}{hadNext:Bool}{cls:Value}{dx:Option Addr}{lo:Addr->Prop}{Q:Unit->Shared->Prop}(hfr:A.frames=some (env::outer))(hl:s.heap.FunFrames base (env::outer))(hf:env.frame=some L)(he:s.heap.get? e=some oe)(hd:oe.data = .fields vs)(hsz:1<vs.size)(hc:oe.cls=cls)(hdx:oe.dict=dx)(hlo:∀T,s.heap.get? T=none->lo T)(h:∀h',oX (frs (env::outer)) e lo s.heap h'->ux h' e cls dx lo (some (rawInt L))->Q () {s with heap:=h'}):
 wpAny M A (do let a ←frameOf env;let pl ←entryPlaceOf L hadNext;let b ←EntryCells.newEntry head a .none (rawInt L) .none pl;setField (.ref e) 1 b) Q E s:=by
 have nfr:e∉frs (env::outer):=λhm=>by
  obtain⟨_,o,q,nf⟩:=hl.mem hm;rw[he] at q;cases q;exact nf vs hd
 refine aas (wpAny_frameOf_fun hfr hl hf λh1 hs1=>?_);refine aas (wpAny_entryPlaceOf λpl hpl=>?_);unfold EntryCells.newEntry newFields;refine aas (wpAny_newObj_type ?_ (hpl.sizeOk5 _ _ _ _ _));generalize hob:({cls:= .type "traceback",dict:=none,data:= .fields ([head,.ref L,.none,rawInt L,.none]++(if pl.isEmpty then List.replicate 6 Value.none else pl)).toArray}:Obj)=ob;have q1:h1.get? e=some oe:=(hs1.2.1 e nfr).trans he;have q2:=aai (h:=h1) ob q1;have nTe:h1.objs.size≠e:=Nat.ne_of_gt (aaq q1);have sizes:h1.objs.size=s.heap.objs.size:=hs1.1;have newT:s.heap.get? h1.objs.size=none:=Heap.get?_none_of_le (by rw[sizes];exact aar _);refine wpAny_setField q2 hd hsz (h _ ⟨λb o q n1 n2 n3=>?_,λb o q n1 n2 n3=>?_,λb o q=>?_⟩ ?_)
 .rw[Heap.get?_update_other _ _ (Ne.symm n2)]
  exact aai _ ((hs1.2.1 b n1).trans q)
 .obtain⟨sl,q3⟩:=hs1.2.2 b o q
  refine⟨sl, ?_⟩;rw[Heap.get?_update_other _ _ (Ne.symm n2)];exact aai _ q3
 .obtain⟨sl,q3⟩:=hs1.2.2 b o q
  by_cases hb:b=e
  .subst hb
   exact⟨_,(lY q2 hd 1 _).1⟩
  .refine⟨{o with slots:=sl}, ?_⟩
   rw[Heap.get?_update_other _ _ (Ne.symm hb)];exact aai _ q3
 .obtain⟨u1,u2,u3,u4⟩:=lY q2 hd 1 (Value.ref h1.objs.size)
  refine⟨_,_,h1.objs.size,ob,_,u1,u3.trans hc,u4.trans hdx,u2,by simp[hsz],hlo _ newT,nTe, ?_,by rw[←hob], ?_⟩
  .rw[Heap.get?_update_other _ _ (Ne.symm nTe)]
   exact aaj _ (by rw[←hob];rfl)
  .first |(simp;done)|(rcases hpl with rfl|⟨_,_,_,_,_,_,_,rfl⟩<;>simp)
theorem VB{cls:Value}{dx:Option Addr}{lo:Addr->Prop}{Q:Unit->Shared->Prop}{fl:Option Value}(hfl:fl=none\/fl=some .none)(hfr:A.frames=some (env::outer))(hl:s.heap.FunFrames base (env::outer))(hf:env.frame=some L)(x:ux s.heap e cls dx lo fl)(hlo:∀T,s.heap.get? T=none->lo T)(h:∀h',oX (frs (env::outer)) e lo s.heap h'->ux h' e cls dx lo (some (rawInt L))->Q () {s with heap:=h'}):wpAny M A (noteFrame (.ref e) env) Q E s:=by
 unfold noteFrame;simp only[hf];rcases hfl with rfl|rfl
 .obtain⟨oe,vs,he,hc,hdx,hd,h1⟩:=x
  refine aas (wpAny_field he hd h1 ?_);rw[acK (by decide)];exact Mx hfr hl hf he hd (Array.getElem?_eq_some_iff.mp h1).1 hc hdx hlo h
 .obtain⟨oe,vs,T,oT,ts,he,hc,hdx,hd,h1,hT,nT,RJ,hdT,h3⟩:=x
  refine aas (wpAny_field he hd h1 ?_);rw[acM (show (Value.ref T != Value.none)=true from by simp)];refine aas (wpAny_field RJ hdT h3 ?_);rw[acK (show ¬((Value.none==rawInt L)=true) from by simp[rawInt])];have hs3:3<ts.size:=(Array.getElem?_eq_some_iff.mp h3).1;refine aas (wpAny_setField RJ hdT hs3 ?_);have oth:∀b,b≠T->(s.heap.update T (Obj.mapFields (·.setIfInBounds 3 Value.none))).get? b=s.heap.get? b:=λb hb=>Heap.get?_update_other _ _ (Ne.symm hb);obtain⟨u1,u2,u3,u4⟩:=lY RJ hdT 3 Value.none
  have n0:oX (frs (env::outer)) e lo s.heap (s.heap.update T (Obj.mapFields (·.setIfInBounds 3 Value.none))):=by
   have nb:∀b,¬lo b->b≠T:=λb hb z=>hb (by rw[z];exact hT);refine⟨λb o q _ _ n3=>(oth b (nb b n3)).trans q,λb o q _ _ n3=>⟨o.slots,(oth b (nb b n3)).trans q⟩,λb o q=>?_⟩
   by_cases hb:b=T
   .subst hb;exact⟨_,u1⟩
   .exact⟨o,(oth b hb).trans q⟩
  have ffs:(s.heap.update T (Obj.mapFields (·.setIfInBounds 3 Value.none))).FunFrames base (env::outer):=hl.of_keeps λb o q nf=>by
   by_cases hb:b=T
   .subst hb;rw[RJ] at q;cases q;exact acP hdT (nf ts)
   .exact⟨o,(oth b hb).trans q,Z⟩
  refine Mx (s:={s with heap:=s.heap.update T (Obj.mapFields (·.setIfInBounds 3 Value.none))}) hfr ffs hf ((oth e (Ne.symm nT)).trans he) hd (Array.getElem?_eq_some_iff.mp h1).1 hc hdx (λT' z=>?_) λh' n1 x1=>h h' (n0.trans n1) x1
  by_cases hb:T'=T
  .rw[hb];exact hT
  .exact hlo T' ((oth T' hb).symm.trans z)
theorem Mw{cls:Value}{dx:Option Addr}{lo:Addr->Prop}{Q:Unit->Shared->Prop}{fr:List Addr}{f:Value}(x:ux s.heap e cls dx lo (some f))(h:∀h',oX fr e lo s.heap h'->ux h' e cls dx lo (some .none)->Q () {s with heap:=h'}):wpAny M A (setFlight (.ref e) none) Q E s:=by
 obtain⟨oe,vs,T,oT,ts,he,hc,hdx,hd,h1,hT,nT,RJ,hdT,h3⟩:=x;have hs3:3<ts.size:=(Array.getElem?_eq_some_iff.mp h3).1;unfold setFlight;refine aas (wpAny_field he hd h1 ?_);rw[acM (show (Value.ref T != Value.none)=true from by simp)];have oth:∀b,b≠T->(s.heap.update T (Obj.mapFields (·.setIfInBounds 3 Value.none))).get? b=s.heap.get? b:=λb hb=>Heap.get?_update_other _ _ (Ne.symm hb);obtain⟨u1,u2,u3,u4⟩:=lY RJ hdT 3 Value.none;have nb:∀b,¬lo b->b≠T:=λb hb z=>hb (by rw[z];exact hT);refine wpAny_setField RJ hdT hs3 (h _ ⟨λb o q _ _ n3=>(oth b (nb b n3)).trans q,λb o q _ _ n3=>⟨o.slots,(oth b (nb b n3)).trans q⟩,λb o q=>?_⟩ ?_)
 .by_cases hb:b=T
  .subst hb;exact⟨_,u1⟩
  .exact⟨o,(oth b hb).trans q⟩
 .exact⟨oe,vs,T,_,_,(oth e (Ne.symm nT)).trans he,hc,hdx,hd,h1,hT,nT,u1,u2,by simp[hs3]⟩
end
section
variable{X:Cx}{pins:List (Addr×Obj)}{σ:St}{H:Hp}{s:Shared}{e:Addr}
theorem cP.there{P:Program}{w:World}{H:Hp}{h:Heap}{a:Addr}{o:HO}(x:cP P w H h a o):∃ob,h.get? a=some ob:=by
 induction o with
 | lst xs=>obtain⟨_,_,_,_,q⟩:=x;exact⟨_,q⟩
 | tup xs=>obtain⟨_,_,_,ob,q,_⟩:=x;exact⟨ob,q⟩
 | dK kvs=>obtain⟨_,_,_,_,ob,_,_,q,_⟩:=x;exact⟨ob,q⟩
 | dT kvs=>obtain⟨_,_,_,_,ob,_,_,q,_⟩:=x;exact⟨ob,q⟩
 | set S n=>obtain⟨ob,_,_,_,q,_⟩:=x;exact⟨ob,q⟩
 | ins C dx fs=>obtain⟨_,_,_,q,_⟩:=x;exact⟨_,q⟩
 | own y=>exact x
 | xd fs=>obtain⟨_,⟨ob,_,_,q,_⟩,_⟩:=x;exact⟨ob,q⟩
 | rng lo hi=>obtain⟨_,_,_,q⟩:=x;exact⟨_,q⟩
 | zM ob u ih=>exact⟨ob,x.1⟩
 | pU ps=>exact⟨_,x⟩
 | met f y=>exact⟨_,x⟩
 | ext φ=>exact x.2.1
noncomputable def Cy(X:Cx)(pins:List (Addr×Obj))(H:Hp)(b:Addr):Prop:=
 H b=none/\b≠X.env.locals/\b∉X.fs/\X.s₀.heap.get? b=none/\(∀x c,X.env.cells.lookup x=some c->c≠b) /\ ∀p∈X.pn++pins,p.1≠b
theorem Inv.xfp(I:Inv X pins σ H s)(hx:X.ex=[]){b:Addr}(hb:s.heap.get? b=none):Cy X pins H b:=by
 refine⟨?_,λz=>?_,λz=>?_, ?_,λx c q z=>?_,λp hp z=>?_⟩
 .cases q:H b with
  | none=>rfl
  | some o=>
    obtain⟨ob,r⟩:=(I.hok b o q).there;rw[hb] at r;cases r
 .obtain⟨m,⟨o,_,_,r,_⟩,_⟩:=I.loc
  rw[←z,hb] at r;cases r
 .obtain⟨_,o,r,_⟩:=I.lG.mem z
  rw[hb] at r;cases r
 .cases q:X.s₀.heap.get? b with
  | none=>rfl
  | some o=>
    obtain⟨o',r⟩:=I.base.there b o q (by rw[hx];simp);rw[hb] at r;cases r
 .obtain⟨v,o,r,_⟩:=I.cell x c q
  rw[z,hb] at r;cases r
 .obtain⟨r,_⟩:=I.pin p hp
  rw[z,hb] at r;cases r
theorem Inv.noted{lo:Addr->Prop}{h':Heap}(I:Inv X pins σ H s)(n:oX (frs X.stack) e lo s.heap h')(hlo:∀b,(b=e\/lo b)->Cy X pins H b\/s.heap.get? b=none):Inv X pins σ H {s with heap:=h'}:=by
 have off:∀b o,s.heap.get? b=some o->(¬Cy X pins H b)->b≠e /\ ¬lo b:=λb o q nx=>
  ⟨λz=>(hlo b (.inl z)).elim nx λr=>(by rw[r] at q;cases q),λz=>(hlo b (.inr z)).elim nx λr=>(by rw[r] at q;cases q)⟩
 have any:∀b o,s.heap.get? b=some o->(¬Cy X pins H b) -> ∃sl,h'.get? b=some {o with slots:=sl}:=λb o q nx=>by
  obtain⟨n1,n2⟩:=off b o q nx
  by_cases hb:b∈frs X.stack
  .exact n.slot b o q hb n1 n2
  .exact⟨o.slots,n.keep b o q hb n1 n2⟩
 have s0:∀b o,X.s₀.heap.get? b=some o -> ¬Cy X pins H b:=λb o q x=>by rw[x.2.2.2.1] at q;cases q
 have V9:∀b o,X.s₀.heap.get? b=some o->b≠X.env.locals:=λb o q=>abe (abg (aaq q) I.ok.above);have nst:∀b,b≠X.env.locals->b∉X.fs->b∉frs X.stack:=λb n1 n2 z=>(List.mem_cons.mp (I.sY b z)).elim n1 n2;have RB:∀b o,H b=some o -> ¬Cy X pins H b:=λb o q x=>by rw[x.1] at q;cases q
 have aal:∀b o,H b=some o->b∉frs X.stack:=λb o q z=>by rw[I.Ag b z] at q;cases q
 have cl:∀x c,X.env.cells.lookup x=some c -> ∀v,s.heap.IsCell c v->h'.IsCell c v:=λx c q v ⟨o,ho,hd⟩=>by
  obtain⟨sl,r⟩:=any c o ho λz=>z.2.2.2.2.1 x c q rfl;exact⟨_,r,hd⟩
 refine⟨I.ok,I.os,I.bare,⟨λb o q nn hb hx=>?_,λb o q nn hb hx=>?_,I.base.free,λb o q hx=>?_,I.base.tups,I.base.mU,I.base.qd⟩, ?_,λx c q=>?_,I.free,I.iB,λp hp=>?_,λa o q=>?_,I.len⟩
 .have q1:=I.base.keep b o q nn hb hx
  obtain⟨n1,n2⟩:=off b o q1 (s0 b o q);exact n.keep b o q1 (nst b (V9 b o q) hb) n1 n2
 .obtain⟨sl,q1⟩:=I.base.slot b o q nn hb hx
  obtain⟨sl2,q2⟩:=any b _ q1 (s0 b o q);exact⟨sl2,q2⟩
 .obtain⟨o1,q1⟩:=I.base.there b o q hx
  exact n.there b o1 q1
 .obtain⟨m,⟨ob,es,ep,ho,r⟩,hl⟩:=I.loc
  obtain⟨sl,q1⟩:=any _ ob ho λz=>z.2.1 rfl;refine⟨m,⟨_,es,ep,q1,r⟩,λi x v e1 e2 e3=>?_⟩;obtain⟨u,ru,l⟩:=hl i x v e1 e2 e3;refine⟨u,ru, ?_⟩;rcases l with l|⟨k,c,hc,z⟩
  .exact .inl l
  .exact .inr ⟨k,c,hc,cl x c hc _ z⟩
 .obtain⟨v,z⟩:=I.cell x c q
  exact⟨v,cl x c q v z⟩
 .obtain⟨q,nn,n1,n2,d⟩:=I.pin p hp
  obtain⟨m1,m2⟩:=off p.1 p.2 q λz=>z.2.2.2.2.2 p hp rfl;exact⟨n.keep p.1 p.2 q (nst p.1 n1 n2) m1 m2,nn,n1,n2,d⟩
 .refine(I.hok a o q).stay (λb u hb r=>?_) (λ_ z=>z) λ_ _ z=>z
  rcases hb with rfl|hb
  .obtain⟨m1,m2⟩:=off b u r (RB b o q)
   exact n.keep b u r (aal b o q) m1 m2
  .obtain⟨m1,m2⟩:=off b u r (RB b _ hb)
   exact n.keep b u r (aal b _ hb) m1 m2
noncomputable def pY(P:Program)(w:World):J9:=λouter H s E ev s'=>∃(e:Addr) (cls:Value) (dx:Option Addr) (H':Hp),ev = .ref e/\s'.os=s.os/\AllBare s'.gens/\Un (frs outer) [] H H' s.heap s'.heap/\jU P w H' s'.heap /\
 s.heap.get? e=none/\H' e=none/\ux s'.heap e cls dx (λT=>s.heap.get? T=none/\H' T=none) (some .none)/\E cls dx H'
noncomputable def Rz(X:Cx)(E:St->XK):Prop:=∀(pins:List (Addr×Obj))(σ:St)(H:Hp)(s:Shared)(e:Addr)(cls:Value)(dx:Option Addr)(fl:Option Value),(fl=none\/fl=some .none)->Inv X pins σ H s->Cy X pins H e ->
 ux s.heap e cls dx (Cy X pins H) fl->E σ cls dx H->X.xe (.ref e) s
theorem ux.imp{h:Heap}{e:Addr}{cls:Value}{dx:Option Addr}{lo lo':Addr->Prop}{f:Option Value}(x:ux h e cls dx lo f)(k:∀T,(∃o,h.get? T=some o)->lo T->lo' T):ux h e cls dx lo' f:=by
 cases f with
 | none=>exact x
 | some f=>
   obtain⟨oe,vs,T,oT,ts,he,hc,hdx,hd,h1,hT,nT,RJ,r⟩:=x;exact⟨oe,vs,T,oT,ts,he,hc,hdx,hd,h1,k T ⟨oT,RJ⟩ hT,nT,RJ,r⟩
theorem vg{E:St->XK}{σ:St}(hx:X.ex=[])(R:Rz X E){pins:List (Addr×Obj)}{H:Hp}{s s':Shared}{ev:Value}(I:Inv X pins σ H s)(c:pY X.prog X.w X.stack H s (E σ) ev s'):X.xe ev s':=by
 obtain⟨e,cls,dx,H',rfl,ho,hg,u,hok,ne,he,x,q⟩:=c;have I':Inv X pins σ H' s':=I.call' (ch:=[]) ho u hok hg (λb hb=>by cases hb)
 have fp:∀T,s.heap.get? T=none->H' T=none->Cy X pins H' T:=λT h1 h2=>by
  obtain⟨_,a2,a3,a4,a5,a6⟩:=I.xfp hx h1;exact⟨h2,a2,a3,a4,a5,a6⟩
 exact R pins σ H' s' e cls dx _ (.inr rfl) I' (fp e ne he) (x.imp λT _ z=>fp T z.1 z.2) q
theorem DW{P:Program}{w:World}{K:PySem.W.Frag}{mg:Str->Option Value}{base:Heap}{N:List Str}{qual:Str}{scope:Scope}{f:Addr}{cd:Value}{A:Around}{outer:List Env}{s:Shared}{H:Hp}{E:XK}:
 Rz (mV (pY P w) P w K mg base N qual scope f cd A outer s H E) (λ_=>E):=by
 intro pins σ H1 s1 e cls dx fl hfl I fe x q;show wpAny (model P w) _ (leaving _ (.ref e)) _ _ s1;unfold leaving;have lo1:∀b,(b=e\/(Cy (mV (pY P w) P w K mg base N qual scope f cd A outer s H E) pins H1 b\/s1.heap.get? b=none))->Cy (mV (pY P w) P w K mg base N qual scope f cd A outer s H E) pins H1 b\/s1.heap.get? b=none:=λb z=>z.elim (λz=> .inl (by rw[z];exact fe)) λz=>z;have stk:(mV (pY P w) P w K mg base N qual scope f cd A outer s H E).A.frames=some ((mV (pY P w) P w K mg base N qual scope f cd A outer s H E).env::outer):=I.ok.frames;refine aas (VB (base:=base) (lo:=λT=>Cy (mV (pY P w) P w K mg base N qual scope f cd A outer s H E) pins H1 T\/s1.heap.get? T=none) hfl stk I.stack rfl (x.imp λT _ z=> .inl z) (λT z=> .inr z) λh1 n1 x1=>?_);refine Mw (fr:=frs ((mV (pY P w) P w K mg base N qual scope f cd A outer s H E).env::outer)) x1 λh2 n2 x2=>?_;have I2:Inv (mV (pY P w) P w K mg base N qual scope f cd A outer s H E) pins σ H1 {s1 with heap:=h2}:=I.noted (n1.trans n2) lo1;refine⟨e,cls,dx,H1,Z,I2.os,I2.bare,I2.base,I2.hok,fe.2.2.2.1,fe.1,x2.imp λT _ z=>?_,q⟩;rcases z with z|z
 .exact⟨z.2.2.2.1,z.1⟩
 .have y:=I.xfp rfl z
  exact⟨y.2.2.2.1,y.1⟩
end
noncomputable def zY(P:Program)(w:World)(K:PySem.W.Frag)(mg:Str->Option Value)(base:Heap)(k:Nat)(x:Str)(ps:List Str)(sp:Sp):Prop:=
 ∃f fd,bO P w K mg base (pY P w) k f fd ps sp/\mg x=some (.ref f)/\PySem.W.keepIn K (.ref f)=true/\Binds K fd ps []
noncomputable def Xc(sp:Sp)(E:St->XK)(t:TA):TE:=λσ H Q=>t σ H λvs H1=>sp vs H1 Q (E σ)
section
variable{X:Cx}{k:Nat}{x:Str}{ps:List Str}{sp:Sp}{e:Expr}{es:List Expr}{t:TA}{p pos:Pos}{E:St->XK}
theorem X3(F:zY X.prog X.w X.K X.mg X.base k x ps sp)(hx:X.ex=[])(R:Rz X E)(hr:dg k X.A)(hg:Gl X x)(ha:PA X (e::es) t)(hd:(x==("__debug__" :Str))=false:=by decide)(he:starEach (e::es) X.env=(false,eval e X.env)::starEach es X.env:=by rfl)(hpl:(backTo pos (starEach es X.env)).any (·.1)=false:=by rfl):
 PE X (.Call (.Name x p) (e::es) [] pos) (Xc sp E t):=by
 obtain⟨f,fd,G,hm,hk,hb⟩:=F;intro pins s σ H Q I h;refine wpAny_Call_Name_kw (jZ I hg hm ?_ hd);refine PySem.W.callWith_K (h₀:=X.base) I.ok.mod.Hq hk (cX (ha pos pins s σ H _ I h) λus s1 ⟨vs,H1,I1,r,q⟩=>⟨I1.mO, ?_⟩) he hpl;have hlen:us.length=ps.length:=by rw[←r.length];exact G.len _ _ _ _ q
 have hbd:=hb s1 us I1.mO (by rw[List.append_nil];exact hlen);rw[List.append_nil] at hbd;refine wpAny_call (codeAny_mono (G.run X.A X.stack s1 H1 ⟨us,[]⟩ us vs Q (E σ) hr I1.env0 hbd r q) λres s' hq=>?_)
 match res,hq with
 | .error ev,hq=>exact vg hx R I1 hq
 | .ok (.ret u),hq=>exact I1.after hq
end
section
variable{P:Program}{w:World}{K:PySem.W.Frag}{mg:Str->Option Value}{base:Heap}
theorem gD.Uk{x qual:Str}{st:Stmt}{f:Addr}{fd:FuncData}{N ps:List Str}{k:Nat}{sp:Sp}(F:gD K x qual st f fd)(S:bh N ps (aK st))(len:∀vs H Q E,sp vs H Q E->vs.length=ps.length)(hbody:∀(cdv:Value)(A:Around)(outer:List Env)(s:Shared)(H:Hp)(vs:List V)(Q:VK)(E:XK),dg k (A.deeper (envOfC qual (aK st) s.heap.objs.size f cdv))->sp vs H Q E ->
   Rz (mV (pY P w) P w K mg base N qual (aK st) f cdv A outer s H E) (λ_=>E) ->
   ∃t,Df (mV (pY P w) P w K mg base N qual (aK st) f cdv A outer s H E) (cW st) t/\t {nx:=λ_ H'=>Q .non H',rt:=Q} (start N vs) H):bO P w K mg base (pY P w) (k+1) f fd ps sp:=by
 obtain⟨oc,od,kV,doc,pm,an,cdv,ct,osl,rfl,lk,hcd⟩:=F.ex;exact JN lk hcd S len λA outer s H vs Q E hr hsp=>hbody cdv A outer s H vs Q E hr hsp DW
end
theorem U5{K:PySem.W.Frag}{h:Heap}{C:Addr}{bmB:List Value}{newId:String}(X:K.In h)(q:PySem.W.excIn K C bmB newId=true):
 ∃bm N nm qn bs hdct sn sub ab col dd k0 k1 k2 k3 k5 mN,h.get? C=some (excClassObj nm qn C N bs bm hdct sn sub ab col dd k0 k1 k2 k3 k5 newId)/\h.Ns N mN/\mN "__init__" = none/\OwnTail h bmB bm:=by
 unfold PySem.W.excIn at q;split at q
 .rename_i d0 c0 s0 lk
  split at q
  .rename_i C1 tl a0 a1 a2 a3 nn a5 em es
   simp only[abw,beq_iff_eq,Bool.not_eq_true'] at q;obtain⟨⟨⟨⟨⟨e1,e2⟩,e3⟩,e4⟩,e5⟩,e6⟩:=q;subst e1 e2;obtain⟨f1,f2,f3,f4,f5,f6,f7,f8,f9,f10,f11⟩:=c0;dsimp only at em e3 e5 e6;subst em e3
   have ez:s0 = #[a0,a1,a2,a3,some (.builtin nn),a5]:=by
    obtain⟨l⟩:=s0;simp only at es;rw[es]
   subst ez;exact⟨tl,f4,_,_,_,_,_,_,_,_,_,_,_,_,_,_,_,X _ _ lk,.of_isNs (PySem.W.isNs_of_in X e5),PySem.W.nsMap_none_of_in X e5 e6,PySem.W.tail_of_in X e4⟩
  .cases q
 .cases q
noncomputable def W4(cls:Value)(E:St->XK)(ta:TA):TS:=λ_ σ H=>ta σ H λvs H1=>vs.length<=sizeLine/\E σ cls none H1
section
variable{X:Cx}{E:St->XK}{x:Str}{C:Addr}{B newId initId:String}{bmB:List Value}{e0:Expr}{rest:List Expr}{ta:TA}{np cpos pos:Pos}
theorem jc(FB:ExcBaseFacts B newId initId bmB)(q:PySem.W.excIn X.K C bmB newId=true)(hm:X.mg x=some (.ref C))(hg:Gl X x)(hc:X.calm=true)(hx:X.ex=[])(R:Rz X E)(ha:PA X (e0::rest) ta)(he:starEach (e0::rest) X.env=(false,eval e0 X.env)::starEach rest X.env:=by rfl)(hplain:(backTo cpos (starEach rest X.env)).any (·.1)=false:=by rfl)(hd:(x==("__debug__" :Str))=false:=by decide):
 PS X (.Raise (some (.Call (.Name x np) (e0::rest) [] cpos)) none pos) (W4 (.ref C) E ta):=by
 intro pins s σ H D I h;obtain⟨bm,N,nm,qn,bs,hdct,sn,sub,ab,col,dd,k0,k1,k2,k3,k5,mN,hC,hN,hni,T⟩:=U5 I.ok.mod.Hq q
 refine wpAny_Raise_call_subT (k5:=k5) (k3:=k3) (k2:=k2) (k1:=k1) (k0:=k0) (dd:=dd) (col:=col) (ab:=ab) (sub:=sub) (sn:=sn) (hdct:=hdct) (bs:=bs) (q:=qn) (nm:=nm)
  (C:=C) (N:=N) (bm:=bm) (mN:=mN) FB (T.hasType FB.hasBase) (I.ok.hd hc) (by rw[he];show (false||(backTo cpos (starEach rest X.env)).any (·.1))=false;rw[hplain];rfl) hni (jZ I hg hm ⟨Z, ?_⟩ hd)
 have h2:=ha cpos pins s σ H _ I h;rw[he] at h2 ⊢;refine Calls.evalArgs_plain (cX h2 λus s1 ⟨vs,H1,I1,r,hl,hE⟩=>⟨Z,by rw[←r.length];exact hl,I1.bk _ _ hC,hN.keeps I1.bk,T.keeps I1.bk,λh' e mk=>?_⟩);obtain⟨t,ht,_,_⟩:=mk.there;have I2:Inv X pins σ H1 {s1 with heap:=h'}:=I1.kept (t':=s1.toks) mk.keeps;exact R pins σ H1 _ e (.ref C) none none (.inl rfl) I2 (I1.xfp hx mk.new) ⟨_,_,ht,Z,Z,Z,Z⟩ hE
end
noncomputable def XO(C:Addr)(dx:Option Addr)(e:Addr):HO:= .ext λh=>∃oe vs,h.get? e=some oe/\oe.cls = .ref C/\oe.dict=dx/\oe.data = .fields vs
noncomputable def Ci(X:Cx)(e:Addr):Cx:={X with A:=X.A.mark (some (.ref e)),calm:=false,xe:=λ_ _=>False}
noncomputable def xO(X:Cx)(pins:List (Addr×Obj))(xe:Value->Shared->Prop):Cx:={X with pn:=X.pn++pins,xe:=xe}
section
variable{X:Cx}{pins:List (Addr×Obj)}{σ:St}{H:Hp}{s:Shared}
theorem Inv.aan(I:Inv X pins σ H s)(xe:Value->Shared->Prop):Inv (xO X pins xe) [] σ H s:=
 ⟨⟨I.ok.mod,I.ok.kind,I.ok.glob,I.ok.blt,I.ok.above,I.ok.inj,I.ok.has,I.ok.cab,I.ok.hd,I.ok.frames,I.ok.stk,I.ok.Z1,I.ok.bs,I.ok.Dd,I.ok.Bx,I.ok.E_,I.ok.lG,I.ok.HD⟩,I.os,I.bare,I.base,I.loc,I.cell,I.free,I.iB,
   λp hp=>I.pin p (by rw[List.append_nil] at hp;exact hp),I.hok,I.len⟩
theorem Inv.zu{xe:Value->Shared->Prop}{m8:List (Addr×Obj)}(I:Inv (xO X pins xe) m8 σ H s):Inv X pins σ H s:=
 ⟨⟨I.ok.mod,I.ok.kind,I.ok.glob,I.ok.blt,I.ok.above,I.ok.inj,I.ok.has,I.ok.cab,I.ok.hd,I.ok.frames,I.ok.stk,I.ok.Z1,I.ok.bs,I.ok.Dd,I.ok.Bx,I.ok.E_,I.ok.lG,I.ok.HD⟩,I.os,I.bare,I.base,I.loc,I.cell,I.free,I.iB,
   λp hp=>I.pin p (List.mem_append_left _ hp),I.hok,I.len⟩
theorem Inv.M8(I:Inv X pins σ H s)(e:Addr):Inv (Ci X e) pins σ H s:=
 ⟨⟨I.ok.mod,I.ok.kind,I.ok.glob,I.ok.blt,I.ok.above,I.ok.inj,I.ok.has,I.ok.cab,λz=>(by cases z),I.ok.frames,I.ok.stk,I.ok.Z1,I.ok.bs,I.ok.Dd,I.ok.Bx,I.ok.E_,I.ok.lG,I.ok.HD⟩,I.os,I.bare,I.base,I.loc,I.cell,I.free,I.iB,
   I.pin,I.hok,I.len⟩
theorem Inv.Bw{e:Addr}(I:Inv (Ci X e) pins σ H s)(hd:X.calm=true->X.A.handled=none):Inv X pins σ H s:=
 ⟨⟨I.ok.mod,I.ok.kind,I.ok.glob,I.ok.blt,I.ok.above,I.ok.inj,I.ok.has,I.ok.cab,hd,I.ok.frames,I.ok.stk,I.ok.Z1,I.ok.bs,I.ok.Dd,I.ok.Bx,I.ok.E_,I.ok.lG,I.ok.HD⟩,I.os,I.bare,I.base,I.loc,I.cell,I.free,I.iB,
   I.pin,I.hok,I.len⟩
theorem Inv.track{e C:Addr}{dx:Option Addr}{lo:Addr->Prop}{fl:Option Value}(I:Inv X pins σ H s)(hx:X.ex=[])(fe:Cy X pins H e)(x:ux s.heap e (.ref C) dx lo fl):Inv X pins σ (upd H e (XO C dx e)) s:=by
 obtain⟨f1,f2,f3,f4,f5,f6⟩:=fe;obtain⟨oe,vs,q,hc,hdx,hd⟩:=x.there;have ne:∀b o,H b=some o->b≠e:=λb o r=>ao r f1;refine⟨I.ok,I.os,I.bare,⟨I.base.keep,I.base.slot,λb o r n hh=>?_,I.base.there,λb xs r=>?_,λb o u r=>?_,λb ps r=>?_⟩,I.loc,I.cell, ?_,λy c r=>?_,λp hp=>?_,λa o r=>?_,I.len⟩
 .rw[aC (λz=>by rw[z,f4] at r;cases r)]
  exact I.base.free b o r n hh
 .have r2:=I.base.tups b xs r
  rw[aC (ne b _ r2)];exact r2
 .have r2:=I.base.mU b o u r
  rw[aC (ne b _ r2)];exact r2
 .obtain⟨m,r2⟩:=I.base.qd b ps r
  exact⟨m,by rw[aC (ne b _ r2)];exact r2⟩
 .rw[aC (Ne.symm f2)];exact I.free
 .rw[aC (f5 y c r)];exact I.iB y c r
 .obtain⟨a1,a2,a3⟩:=I.pin p hp
  exact⟨a1,by rw[aC (f6 p hp)];exact a2,a3⟩
 .by_cases ha:a=e
  .subst ha
   rw[ak] at r;cases r;exact⟨⟨oe,vs,q,hc,hdx,hd⟩,⟨oe,q⟩,λh1 h2 ⟨o1,v1,p1,p2⟩ k=>⟨o1,v1,k _ p1,p2⟩⟩
  .rw[aC ha] at r
   refine(I.hok a o r).stay (λ_ _ _ z=>z) (λb z=>by rw[aC (ne b _ z)];exact z) λb ys z=>by rw[aC (ne b _ z)];exact z
end
section
variable{M:Model}{A:Around}{Er:Value->Shared->Prop}{s:Shared}{K:PySem.W.Frag}{e C D:Addr}
theorem Em{oe:Obj}{b:Bool}{Q:Bool->Shared->Prop}(X:K.In s.heap)(he:s.heap.get? e=some oe)(hc:oe.cls = .ref C)(hD:(PySem.W.clsIn K D).isSome=true)(hty:PySem.W.typeIn K (.ref D)=some (.type "type"))(hB:PySem.W.subIn K (.ref D) (.type "BaseException")=some true)(hs:PySem.W.subIn K (.ref C) (.ref D)=some b)(hq:Q b s):wpAny M A (excMatches (.ref e) (.ref D)) Q Er s:=by
 obtain⟨hh,g,d,t,os⟩:=s;have L1:PySem.W.Looks M hh (typeOf (.ref D)) (.type "type"):=PySem.W.looks_typeIn X hty;have L2:PySem.W.Looks M hh (isSubtype (.ref D) (.type "BaseException")) true:=PySem.W.looks_subIn X hB;have L3:PySem.W.Looks M hh (isSubtype (.ref C) (.ref D)) b:=PySem.W.looks_subIn X hs
 have L4:PySem.W.Looks M hh (isType (.ref D)) true:=by
  unfold PySem.W.clsIn at hD;split at hD
  .rename_i c' d' cd' sl' ho
   intro A' Q' E' s' k q;unfold isType loadHead;exact aas (wpAny_loadPart (k _ _ (X _ _ ho)) (aaE q))
  .cases hD
 have f:=tc_notTuple;unfold excMatches isExcClass isInstance;refine aas (aas (L1.at ?_));refine wpAny_of_eq f ?_;rw[acK (by decide)];refine aas (aaE ?_);simp only[List.forIn_cons,List.forIn_nil];refine aas (aas (aas (aas (L4.at ?_))));rw[acM rfl];refine L2.at ?_;simp only[Bool.not_true,Bool.false_eq_true,if_false];refine aaE (aaE ?_)
 have L0:PySem.W.Looks M hh (typeOf (.ref e)) (.ref C):=by
  intro A' Q' E' s' k q;unfold typeOf;refine aas (wpAny_loadPart (k _ _ he) ?_);rw[hc];exact aaE q
 refine aas (L0.at ?_);refine aas (aas (aas (L3.at ?_)));cases b with
 | true=>exact aaE (aaE (aaE hq))
 | false=>exact aaE (aaE (aaE hq))
end
section
variable{X:Cx}{pins:List (Addr×Obj)}{σ:St}{H:Hp}{s:Shared}
theorem Inv.gone{i:Nat}{n:Str}{m:Str->Option Value}{v:Option Value}{h':Heap}{t:Nat}(I:Inv X pins σ H s)(hN:X.N.Nodup)(hi:X.N[i]? = some n)(hm:∀(j:Nat)(x:Str)(u:V),X.N[j]? = some x->σ[j]? = some (some u)->Vis X.env.scope x -> ∃w',RelV u w'/\Look X.env s.heap m x w')(hn:h'.Ns X.env.locals (λx=>if x=n then v else m x))(sb:Heap.SameBut X.env.locals s.heap h'):Inv X pins (σ.set i none) H {s with heap:=h',toks:=t}:=by
 have V9:∀b o,X.s₀.heap.get? b=some o->b≠X.env.locals:=λb o q=>abe (abg (aaq q) I.ok.above);have cl:∀x c,X.env.cells.lookup x=some c -> ∀w',s.heap.IsCell c w'->h'.IsCell c w':=λx c q w' ⟨o,ho,hd⟩=>⟨o,(sb.2 c (I.Vf x c q)).trans ho,hd⟩;have RB:∀b o,H b=some o->b≠X.env.locals:=λb o q=>ao q I.free;refine⟨I.ok,I.os,I.bare,⟨λb o q nn hb hx=>(sb.2 b (V9 b o q)).trans (I.base.keep b o q nn hb hx),λb o q nn hb hx=>?_,I.base.free,λb o q hx=>?_,I.base.tups,I.base.mU,I.base.qd⟩,⟨_,hn,λj x u e1 e2 e3=>?_⟩,λx c q=>?_,I.free,I.iB,λp hp=>?_,λa o q=>?_, ?_⟩
 .obtain⟨sl,r⟩:=I.base.slot b o q nn hb hx
  exact⟨sl,(sb.2 b (V9 b o q)).trans r⟩
 .obtain⟨o',r⟩:=I.base.there b o q hx
  exact⟨o',(sb.2 b (V9 b o q)).trans r⟩
 .have hji:j≠i:=by
   rintro rfl
   by_cases hlt:j<σ.length
   .rw[List.getElem?_set_self hlt] at e2
    cases e2
   .rw[List.getElem?_eq_none (by rw[ab5];lia)] at e2
    cases e2
  rw[List.getElem?_set_ne (Ne.symm hji)] at e2;obtain⟨w',r,l⟩:=hm j x u e1 e2 e3;refine⟨w',r, ?_⟩;have hxn:x≠n:=λz=>hji (wK hN e1 (by rw[z];exact hi));rcases l with ⟨k,q⟩|⟨k,c,hc,z⟩
  .exact .inl ⟨k,by show (if x=n then v else m x)=some w';rw[acK hxn];exact q⟩
  .exact .inr ⟨k,c,hc,cl x c hc _ z⟩
 .obtain⟨w',z⟩:=I.cell x c q
  exact⟨w',cl x c q w' z⟩
 .obtain⟨q,nn,n1,r⟩:=I.pin p hp
  exact⟨(sb.2 p.1 n1).trans q,nn,n1,r⟩
 .refine(I.hok a o q).stay (λb u hb r=>?_) (λ_ z=>z) λ_ _ z=>z
  rcases hb with rfl|hb
  .exact(sb.2 b (RB b o q)).trans r
  .exact(sb.2 b (RB b _ hb)).trans r
 .show (σ.set i none).length=X.N.length
  rw[ab5];exact I.len
theorem pJ{M:Model}{A:Around}{E:Value->Shared->Prop}{i:Nat}{n:Str}{pos:Pos}{Q:Unit->Shared->Prop}(I:Inv X pins σ H s)(hN:X.N.Nodup)(hi:X.N[i]? = some n)(hl:X.env.kindOf n=some .local)(h:∀s',Inv X pins (σ.set i none) H s'->Q () s'):wpAny M A (do bindName X.env n .none;unbindBehindTheSuite X.env n pos) Q E s:=by
 obtain⟨m,hn,hm⟩:=I.loc;exact wpAny_nameGoes_keeps hl hn (by rw[I.ok.kind];rfl) λh' v hn' sb=>h _ (I.gone hN hi hm hn' sb)
end
noncomputable def ab6(D:Ends)(i:Nat):Ends:={nx:=λσ H=>D.nx (σ.set i none) H,rt:=D.rt,bk:=λσ H=>D.bk (σ.set i none) H,ct:=λσ H=>D.ct (σ.set i none) H}
noncomputable def aez(K:PySem.W.Frag)(i:Nat)(Dc:Addr)(tb:(St->XK)->TS)(th:TS):TS:=λD σ H=>
 tb (λσ1 cls dx H1=>∃C,cls = .ref C/\PySem.W.subIn K (.ref C) (.ref Dc)=some true /\ ∀e,H1 e=none->th (ab6 D i) (σ1.set i (some (.ref e))) (upd H1 e (XO C dx e))) D σ H
structure XHd(K:PySem.W.Frag)(D:Addr):Prop where
 cl:(PySem.W.clsIn K D).isSome=true
 ty:PySem.W.typeIn K (.ref D)=some (.type "type")
 bs:PySem.W.subIn K (.ref D) (.type "BaseException")=some true
section
variable{X:Cx}{body suite:List Stmt}{b0:Stmt}{n cn:Str}{i:Nat}{Dc:Addr}{tb:(St->XK)->TS}{th:TS}{cp hpos pos:Pos}
theorem XF(hc:X.calm=true)(hx:X.ex=[])(hst:X.stack=X.env::X.outer)(hfm:X.env.frame=some X.env.locals)(hN:X.N.Nodup)(hi:X.N[i]? = some n)(hl:X.env.kindOf n=some .local)(hg:Gl X cn)(hm:X.mg cn=some (.ref Dc))(hD:XHd X.K Dc)(hb:∀(pn:List (Addr×Obj))(xe:Value->Shared->Prop)(E:St->XK),PassesOwn (model X.prog X.w) X.A X.env xe->Rz {X with pn:=pn,xe:=xe} E->Df {X with pn:=pn,xe:=xe} body (tb E))(hh:∀e,Df (Ci X e) (b0::suite) th)(hd:(cn==("__debug__" :Str))=false:=by decide):
 PS X (.Try body [.ExceptHandler (some (.Name cn cp)) (some n) (b0::suite) hpos] [] [] pos) (aez X.K i Dc tb th):=by
 intro pins s σ H D I h;refine wpAny_Try_except ?_
 refine wpAny_mono (hb (X.pn++pins) (λe s₁=>wpAny (model X.prog X.w) X.A (noteFrame e X.env) (λ_ s₂=>wpAny (model X.prog X.w) X.A (setFlight e none) (λ_ s₃=>wpAny (model X.prog X.w) X.A (handleBy e X.env [.ExceptHandler (some (.Name cn cp)) (some n) (b0::suite) hpos]) (SP X pins D) X.xe s₃) X.xe s₂) X.xe s₁) _
  PassesOwn.looking ?_ [] s σ H D (I.aan _) h) (λf s1 q=>?_) λ_ _ q=>q
 .
  intro m8 σ1 H1 s1 e cls dx fl hfl I1 fe x hE;obtain⟨C,rfl,hsub,hth⟩:=hE;have lo1:∀b,(b=e\/(Cy (xO X pins X.xe) m8 H1 b\/s1.heap.get? b=none))->Cy (xO X pins X.xe) m8 H1 b\/s1.heap.get? b=none:=λb z=>z.elim (λz=> .inl (by rw[z];exact fe)) λz=>z;have hfr:X.A.frames=some (X.env::X.outer):=by rw[←hst];exact I.ok.frames
  have hff:s1.heap.FunFrames X.base (X.env::X.outer):=by rw[←hst];exact I1.stack
  refine VB (base:=X.base) (lo:=λT=>Cy (xO X pins X.xe) m8 H1 T\/s1.heap.get? T=none) hfl hfr hff hfm (x.imp λT _ z=> .inl z) (λT z=> .inr z) λh1 n1 x1=>?_;refine Mw (fr:=frs (X.env::X.outer)) x1 λh2 n2 x2=>?_;have n12:oX (frs X.stack) e (λT=>Cy (xO X pins X.xe) m8 H1 T\/s1.heap.get? T=none) s1.heap h2:=by rw[hst];exact n1.trans n2
  have I2:Inv X pins σ1 H1 {s1 with heap:=h2}:=(I1.noted n12 lo1).zu;refine wpAny_handleBy_cons (codeAny_handlers_test (jZ (I2.M8 e) hg hm ?_ hd)) (by intro z;cases z);obtain⟨oe,vs,q1,q2,q3,q4⟩:=x2.there;refine Em (K:=X.K) I2.mO q1 q2 hD.cl hD.ty hD.bs hsub ?_;rw[acM rfl];refine codeAny_handlers_suite_as ?_;refine Mw (fr:=frs (X.env::X.outer)) x2 λh3 n3 x3=>?_;have n13:oX (frs X.stack) e (λT=>Cy (xO X pins X.xe) m8 H1 T\/s1.heap.get? T=none) s1.heap h3:=by rw[hst];exact(n1.trans n2).trans n3
  have I3:Inv X pins σ1 H1 {s1 with heap:=h3}:=(I1.noted n13 lo1).zu;have feX:Cy X pins H1 e:=⟨fe.1,fe.2.1,fe.2.2.1,fe.2.2.2.1,fe.2.2.2.2.1,λp hp=>fe.2.2.2.2.2 p (List.mem_append_left _ hp)⟩;have I4:Inv X pins σ1 (upd H1 e (XO C dx e)) {s1 with heap:=h3}:=I3.track hx feX x3;refine qQ (X:=Ci X e) (I4.M8 e) hN hi (.inl hl) (v:= .ref e) rfl (λs5 I5=>?_) (.inr hl);refine wpAny_mono (hh e pins s5 _ _ (ab6 D i) I5 (hth e fe.1)) (λf s6 q6=>?_) λ_ _ z=>z.elim;cases f with
  | next=>
    obtain⟨σ6,H6,J6,r6⟩:=q6;exact pJ (J6.Bw I.ok.hd) hN hi hl λs7 J7=>⟨_,H6,J7,r6⟩
  | brk=>
    obtain⟨σ6,H6,J6,r6⟩:=q6;exact pJ (J6.Bw I.ok.hd) hN hi hl λs7 J7=>⟨_,H6,J7,r6⟩
  | cont=>
    obtain⟨σ6,H6,J6,r6⟩:=q6;exact pJ (J6.Bw I.ok.hd) hN hi hl λs7 J7=>⟨_,H6,J7,r6⟩
  | ret u=>
    obtain⟨v6,σ6,H6,J6,rv,r6⟩:=q6;exact pJ (J6.Bw I.ok.hd) hN hi hl λs7 J7=>⟨v6,_,H6,J7,rv,r6⟩
 .cases f with
  | next=>obtain⟨σ1,H1,J,r⟩:=q;exact wpAny_execs_nil ⟨σ1,H1,J.zu,r⟩
  | brk=>obtain⟨σ1,H1,J,r⟩:=q;exact⟨σ1,H1,J.zu,r⟩
  | cont=>obtain⟨σ1,H1,J,r⟩:=q;exact⟨σ1,H1,J.zu,r⟩
  | ret u=>obtain⟨v,σ1,H1,J,rv,r⟩:=q;exact⟨v,σ1,H1,J.zu,rv,r⟩
end
section
variable{X:Cx}{K:PySem.W.Frag}
theorem yH{o:Obj}{vs:Array Value}(h:o.data = .fields vs):PySem.W.notCls o=true:=by
 obtain⟨c,d,dt,sl⟩:=o;simp only at h;subst h;rfl
theorem Ip{C e:Addr}{P:Program}{w:World}{H:Hp}{h:Heap}(x:cP P w H h e (XO C none e)):∃ox odo,PySem.W.InstAt h e ox C odo:=by
 obtain⟨⟨oe,vs,q,hc,hd,hf⟩,_⟩:=x;exact⟨oe,none,⟨q,hc,yH hf,by rw[hd];trivial⟩⟩
theorem FJ{c:Value}{cv:V}(hk:X.K=K)(rc:∀u,RelV cv u->u=c):jy X (.builtin "isinstance") (λxs H Q=>∃(e C:Addr) (b:Bool),xs=[.ref e,cv]/\H e=some (XO C none e)/\PySem.W.Vp K C/\PySem.W.kitOne K (.ref C) c=some b/\Q (.bl b) H):=by
 subst hk;intro pins s σ H xs us Q I r h;obtain⟨e,C,b,rfl,he,xc,hb,q⟩:=h;obtain⟨u,w',rfl,r1,r2⟩:=vals2 r;cases (show u=Value.ref e from r1);have:=rc _ r2;subst this;exact PySem.W.kia_one (PySem.W.Es xc) I.mO (Ip (I.hok e _ he)) hb (by intro z;cases z) λtk=>⟨.bl b,H,I.tok _,Z,q⟩
theorem Ka{cs:List Addr}:∀{us:List Value},Vals (cs.map V.ref) us->us=cs.map Value.ref:=by
 induction cs with
 | nil=>intro us r;cases r;rfl
 | cons c cs ih=>
   intro us r;cases r with
   | cons r rs=>cases (show _=Value.ref c from r);rw[ih rs];rfl
end
section
variable{X:Cx}{K:PySem.W.Frag}
theorem Ma(hk:X.K=K):jy X (.builtin "isinstance") (λxs H Q=>∃(e t C:Addr) (cs:List Addr) (b:Bool),xs=[.ref e,.ref t]/\H e=some (XO C none e)/\PySem.W.Vp K C/\H t=some (.tup (cs.map V.ref)) /\
 PySem.W.kitAny K (.ref C) (cs.map Value.ref)=some b/\Q (.bl b) H):=by
 subst hk;intro pins s σ H xs us Q I r h;obtain⟨e,t,C,cs,b,rfl,he,xc,ht,hb,q⟩:=h;obtain⟨u,w',rfl,r1,r2⟩:=vals2 r;cases (show u=Value.ref e from r1);cases (show w'=Value.ref t from r2);obtain⟨its,rv,⟨o,ho,hc,m,hd⟩,hz⟩:=I.tuple (cH.of ht);have ei:=Ka rv;subst ei;obtain⟨c0,d0,dt,sl⟩:=o;simp only at hc hd;subst hc hd;exact PySem.W.kia_tup (PySem.W.Es xc) I.mO (Ip (I.hok e _ he)) ho hb (by intro z;cases z) λtk=>⟨.bl b,H,I.tok _,Z,q⟩
end
structure yg(K:PySem.W.Frag)(C D:Addr)(b:Bool):Prop where
 ne:(Value.ref C==Value.ref D)=false
 sub:PySem.W.subIn K (.ref C) (.ref D)=some b
theorem JF{K:PySem.W.Frag}{C D:Addr}{b:Bool}(h:XHd K D)(p:yg K C D b):PySem.W.kitOne K (.ref C) (.ref D)=some b:=by
 unfold PySem.W.kitOne;rw[acK (by rw[p.ne];decide)];show (if ((PySem.W.clsIn K D).isSome&&PySem.W.typeIn K (.ref D)==some (.type "type"))=true then PySem.W.subIn K (.ref C) (.ref D) else none)=some b;rw[acM (by rw[h.cl,h.ty];rfl)];exact p.sub
theorem PN{K:PySem.W.Frag}{C:Addr}:PySem.W.kitOne K (.ref C) (.ref C)=some true:=by
 unfold PySem.W.kitOne;rw[acM (by simp)]
theorem La{K:PySem.W.Frag}{C:Addr}{b:Bool}(h:PySem.W.subIn K (.ref C) (.type "ValueError")=some b):PySem.W.kitOne K (.ref C) (.type "ValueError")=some b:=by
 unfold PySem.W.kitOne;rw[acK (by intro z;cases beq_iff_eq.mp z)];show (if PySem.W.kitMeta "ValueError" = true then PySem.W.subIn K (.ref C) (.type "ValueError") else none)=some b;rw[acM (by decide +kernel)];exact h
theorem uM{K:PySem.W.Frag}{C:Addr}:∀{cs:List Addr},(∀D∈cs,PySem.W.kitOne K (.ref C) (.ref D)=some false)->PySem.W.kitAny K (.ref C) (cs.map Value.ref)=some false
 | [],_=>rfl
 | D::cs,h=>by
   show PySem.W.kitAny K (.ref C) (.ref D::cs.map Value.ref)=some false;unfold PySem.W.kitAny;rw[h D List.mem_cons_self];exact uM λD' hD=>h D' (aby _ hD)
theorem yP:bootBuiltins "ValueError" = some (.type "ValueError"):=by kernel_rfl
end L2
namespace L2
open PySem
structure Xr(K:PySem.W.Frag)(mg:Str->Option Value)(C:Addr)(nm:Str):Prop where
 bd:mg nm=some (.ref C)
 hd:XHd K C
 xc:PySem.W.Vp K C
 ex:PySem.W.excIn K C [.type "ValueError",.type "Exception",.type "BaseException",.type "object"] "ValueError.__new__" = true
 ve:PySem.W.subIn K (.ref C) (.type "ValueError")=some true
structure Xo(K:PySem.W.Frag)(mg:Str->Option Value)(C D:Addr)(nm:Str)(b:Bool):Prop where
 bd:mg nm=some (.ref D)
 hd:XHd K D
 pr:yg K C D b
theorem Xo.kit{K:PySem.W.Frag}{mg:Str->Option Value}{C D:Addr}{nm:Str}{b:Bool}(x:Xo K mg C D nm b):PySem.W.kitOne K (.ref C) (.ref D)=some b:=JF x.hd x.pr
end L2
namespace L2
open PySem PySem.Spec PyProof.Rows
section
variable{X:Cx}{pins:List (Addr×Obj)}{σ:St}{H:Hp}{s:Shared}{h':Heap}
theorem Inv.Jf{t':Nat}{fp:List Addr}(I:Inv X pins σ H s)(hf:∀b∈fp,qI X pins H b)(k:∀b o,b∉fp->s.heap.get? b=some o->h'.get? b=some o):Inv X pins σ H {s with heap:=h',toks:=t'}:=by
 have nit:∀b u,H b=some u->b∉fp:=λb u e z=>by rw[(hf b z).1] at e;cases e
 refine I.step (g':=s.gens) (d':=s.drawn) (ch:=fp) (λb hb=>?_) (λb o _ _ hc e _=>k b o hc e) (λb o _ _ hc e _=>⟨o.slots,k b o hc e⟩) (λ_ _ _ _ n=>n)
  (λb o hc e=>⟨o,k b o hc e⟩) (λ_ _ e=>e) (λ_ _ _ e=>e) (λb ps e=>⟨#[],by rw[e];simp⟩) (λm hm=>?_) (λb u e=>?_) I.bare
 .obtain⟨f0,f1,f2,f3,f4,f5⟩:=hf b hb
  exact⟨f3,f1,f4,f5⟩
 .obtain⟨o,es,ep,ho,r⟩:=hm
  exact⟨o,es,ep,k _ o (λz=>(hf _ z).2.1 rfl) ho,r⟩
 .refine(I.hok b u e).stay (λc v hc q=>k c v ?_ q) (λ_ q=>q) λ_ _ q=>q
  rcases hc with z|z
  .rw[z];exact nit b u e
  .exact nit c _ z
theorem qI.upd{b p:Addr}{o:HO}(h:qI X pins H b)(n:b≠p):qI X pins (upd H p o) b:=by
 obtain⟨f0,r⟩:=h;exact⟨by rw[aC n];exact f0,r⟩
theorem Qj{h:Heap}{o u:Obj}{b:Addr}(ho:o.isFreed=false)(e:(h.push o).get? b=some u):(b=h.objs.size/\u=o)\/h.get? b=some u:=by
 by_cases hb:b=h.objs.size
 .subst hb
  rw[aaj _ ho] at e;exact .inl ⟨Z,(aa6 e).symm⟩
 .refine .inr ?_
  have lt:=aaq e
  have RD:b<h.objs.size:=by
   have:(h.push o).objs.size=h.objs.size+1:=by simp[Heap.push]
   rw[this] at lt;exact Nat.lt_of_le_of_ne (Nat.le_of_lt_succ lt) hb
  have:(h.push o).get? b=h.get? b:=by
   simp only[Heap.get?,Heap.push];rw[Array.getElem?_push_lt RD,Array.getElem?_eq_getElem RD]
  rw[←this];exact e
end
section
variable{X:Cx}
end
noncomputable def Itz(K:PySem.W.Frag)(l1 l2:Addr):It:=
 ⟨λi H=>∃xs ys x y,bH K H l1 xs/\bH K H l2 ys/\xs[i]? = some x/\ys[i]? = some y,
  λi H x H'=>∃(p:Addr) (y z:V),x = .ref p/\H p=none/\(∀xs,bH K H l1 xs->xs[i]? = some y)/\(∀ys,bH K H l2 ys->ys[i]? = some z)/\H'=upd H p (.tup [y,z]),
  λi H=>∃xs ys,bH K H l1 xs/\bH K H l2 ys/\(xs.length<=i\/ys.length<=i)⟩
theorem M4{P:Program}{w:World}{K:PySem.W.Frag}{elts:List Expr}{x1:Nat}{pos:Pos}(z TI TO i1 i2 l1 l2:Addr)(ap:ZipApart z TI TO i1 i2 l1 l2):Turn P w K (.Tuple elts x1 pos) (Itz K l1 l2) [z,TI,TO,i1,i2] z
 (λi h=>IsZip h z TI TO .none/\IsPair h TI (.ref i1) (.ref i2)/\(∃a b,IsPair h TO a b)/\h.IsListIter i1 l1 i/\h.IsListIter i2 l2 i) where
 mem:=by simp
 obj:=λi h st b hb=>by
  obtain⟨hz,hTI,⟨a,c,hTO⟩,⟨o1,h1,c1,d1⟩,⟨o2,h2,c2,d2⟩⟩:=st;have hb':b=z\/b=TI\/b=TO\/b=i1\/b=i2:=by simpa using hb
  rcases hb' with rfl|rfl|rfl|rfl|rfl
  .exact⟨_,hz,λv z=>by cases z⟩
  .exact⟨_,hTI,λv z=>by cases z⟩
  .exact⟨_,hTO,λv z=>by cases z⟩
  .exact⟨_,h1,λv z=>by rw[d1] at z;cases z⟩
  .exact⟨_,h2,λv z=>by rw[d2] at z;cases z⟩
 keep:=λi h h' st k=>by
  obtain⟨hz,hTI,⟨a,c,hTO⟩,⟨o1,h1,c1,d1⟩,⟨o2,h2,c2,d2⟩⟩:=st;exact⟨k z (by simp) _ hz,k TI (by simp) _ hTI,⟨a,c,k TO (by simp) _ hTO⟩,⟨o1,k i1 (by simp) _ h1,c1,d1⟩,⟨o2,k i2 (by simp) _ h2,c2,d2⟩⟩
 item:=by
  intro X hP hw hK hc i pins s σ H E I hf st hg;subst hP hw hK;obtain⟨xs,ys,x,y,hq1,hq2,hx,hy⟩:=hg;obtain⟨abq,rv1,p1,hz1⟩:=I.list hq1;obtain⟨its2,rv2,p2,hz2⟩:=I.list hq2;obtain⟨u1,hu1,ru1⟩:=rv1.get hx;obtain⟨u2,hu2,ru2⟩:=rv2.get hy;obtain⟨hz,hTI,⟨a,c,hTO⟩,hi1,hi2⟩:=st;have zlt:=aaq hz;have ahn:=aaq hTI;have ahm:=aaq hTO;have agc:i1<s.heap.objs.size:=by obtain⟨o,ho,_⟩:=id hi1;exact aaq ho
  have agb:i2<s.heap.objs.size:=by obtain⟨o,ho,_⟩:=id hi2;exact aaq ho
  refine wpAny_pyNext_zip_item ap hz hTI hTO hi1 hi2 p1.isList p2.isList (x:=u1) (y:=u2) (by simpa using hu1) (by simpa using hu2) λh' hz' ags agn hi2' hnew hsz hk=>?_;refine⟨_,Z, ?_⟩;refine wpAny_letOwnedTupleGo_zip hz' λh2 agd sb=>?_;have hfr:H s.heap.objs.size=none:=I.hok.fresh (aar _)
  have I0:Inv X pins σ (upd H s.heap.objs.size (.tup [x,y])) {s with heap:=s.heap.push {cls:= .type "tuple",data:= .seq #[u1,u2]}}:=
   I.laid (t':=s.toks) (λb u e=>aai _ e) (aar _) ⟨by show 2<=sizeLine;decide,[u1,u2],.cons ru1 (.cons ru2 .nil),⟨_,aaj _ rfl,Z,_,Z⟩⟩
  have hf0:∀b∈[z,TI,TO,i1,i2],qI X pins (upd H s.heap.objs.size (.tup [x,y])) b:=λb hb=>by
   refine(hf b hb).upd ?_;have hb':b=z\/b=TI\/b=TO\/b=i1\/b=i2:=by simpa using hb
   rcases hb' with rfl|rfl|rfl|rfl|rfl
   .exact abe zlt
   .exact abe ahn
   .exact abe ahm
   .exact abe agc
   .exact abe agb
  have I1:=I0.Jf (h':=h2) (t':=s.toks) hf0 (λb o hb eb=>by
   have b1:b≠z:=λe=>hb (by simp[e]);have b2:b≠TO:=λe=>hb (by simp[e]);have b3:b≠i1:=λe=>hb (by simp[e]);have b4:b≠i2:=λe=>hb (by simp[e]);rw[sb.2 b b1];rcases Qj rfl eb with ⟨rfl,rfl⟩|eb
   .exact hnew
   .exact hk b o b1 b2 b3 b4 eb)
  refine⟨.ref s.heap.objs.size,_,I1,Z,⟨s.heap.objs.size,x,y,Z,hfr,λys hy=>by rw[I.wW hy hq1];exact hx,λys' hy'=>by rw[I.wW hy' hq2];exact hy,Z⟩, ?_,λb hb=>(hf0 b hb).1⟩;obtain⟨o1,ho1,c1,d1⟩:=agn;obtain⟨o2,ho2,c2,d2⟩:=hi2';exact⟨agd,(sb.2 TI ap.TIz).trans (hk TI _ ap.TIz ap.TITO ap.TIi1 ap.TIi2 hTI),⟨_,_,(sb.2 TO ap.TOz).trans ags⟩,⟨o1,(sb.2 i1 ap.i1z).trans ho1,c1,d1⟩,⟨o2,(sb.2 i2 ap.i2z).trans ho2,c2,d2⟩⟩
 done:=by
  intro X hP hw hK hc i pins s σ H E I hf st hg;subst hP hw hK;obtain⟨xs,ys,hq1,hq2,hx⟩:=hg;obtain⟨abq,rv1,p1,hz1⟩:=I.list hq1;obtain⟨its2,rv2,p2,hz2⟩:=I.list hq2;obtain⟨hz,hTI,⟨a,c,hTO⟩,hi1,hi2⟩:=st;have hl1:=rv1.length;have hl2:=rv2.length;refine wpAny_pyNext_zip_end (I.ok.hd hc) ap hz hTI hTO hi1 hi2 p1.isList p2.isList ?_ λh' eb=>⟨Z,I.Jf (t':=s.toks) hf (λb o hb e=>eb b o (λz=>hb (by simp[z])) (λz=>hb (by simp[z])) (λz=>hb (by simp[z])) (λz=>hb (by simp[z])) e)⟩;rcases hx with hx|hx
  .exact .inl (by simp;lia)
  .exact .inr (by simp;lia)
 self:=λ_ _ _ _ _ st h=>wpAny_pyIter_zip st.1 h
section
variable{X:Cx}
noncomputable def af'(K:PySem.W.Frag)(ta:TA):TI:=λσ H R=>ta σ H λvs H1=>∃l1 l2 xs ys,vs=[.ref l1,.ref l2]/\bH K H1 l1 xs/\bH K H1 l2 ys/\R (Itz K l1 l2) H1
theorem Tz{K:PySem.W.Frag}{a b:Expr}{ta:TA}{p pos:Pos}{elts:List Expr}{x1:Nat}{tpos:Pos}(hK:X.K=K)(hg:Gl X "zip")(hm:X.mg "zip" = none)(ha:PA X [a,b] ta)(hs:starEach [a,b] X.env=[(false,eval a X.env),(false,eval b X.env)]:=by rfl)(hs2:starEach [b] X.env=[(false,eval b X.env)]:=by rfl):PI X (.Tuple elts x1 tpos) (.Call (.Name "zip" p) [a,b] [] pos) (af' K ta):=by
 subst hK;intro pins s σ H R I h;refine Call_ (wY I hg hm boot_zip (PyProof.Rows.callWith_type1 (cX (ha pos pins s σ H _ I h) λus s1 ⟨vs,H1,I1,r1,q1⟩=>?_) (by rw[hs,hs2]) (by rw[hs2];rfl)));obtain⟨l1,l2,xs,ys,e,hq1,hq2,q⟩:=q1;subst e;cases r1 with
 | cons r rr=>
   cases rr with
   | cons r' rr=>
     cases rr;cases r;cases r';obtain⟨abq,rv1,pl1,hz1⟩:=I1.list hq1;obtain⟨its2,rv2,pl2,hz2⟩:=I1.list hq2;have lt1:l1<s1.heap.objs.size:=by obtain⟨o,ho,_⟩:=pl1.isList;exact aaq ho
     have RD:l2<s1.heap.objs.size:=by obtain⟨o,ho,_⟩:=pl2.isList;exact aaq ho
     refine call_zip_2 pl1.isList pl2.isList λh' hZ hTI hTO hi1 hi2 hsz hk=>?_;refine wpAny_pyIter_zip hZ ?_;have I2:Inv X pins σ H1 {s1 with heap:=h'}:=I1.kept (t':=s1.toks) hk;refine⟨s1.heap.objs.size+4,[s1.heap.objs.size+4,s1.heap.objs.size+2,s1.heap.objs.size+3,s1.heap.objs.size,s1.heap.objs.size+1],_,_,H1,Z,I2,M4 _ _ _ _ _ l1 l2 (zipApart_new lt1 RD),⟨hZ,hTI,⟨_,_,hTO⟩,hi1,hi2⟩,λb hb=>?_,q⟩
     have hb':s1.heap.objs.size<=b:=by
      have:b=s1.heap.objs.size+4\/b=s1.heap.objs.size+2\/b=s1.heap.objs.size+3\/b=s1.heap.objs.size\/b=s1.heap.objs.size+1:=by simpa using hb
      rcases this with rfl|rfl|rfl|rfl|rfl
      .exact Nat.le_add_right _ _
      .exact Nat.le_add_right _ _
      .exact Nat.le_add_right _ _
      .exact aar _
      .exact Nat.le_add_right _ _
     exact I1.HJ hb' (I1.hok.fresh hb')
end
section
variable{K:PySem.W.Frag}{a l1 l2 D:Addr}{xs ys:List V}{g:TG}{tc:TT}{te:TE}{Q:VK}{σ0:St}{H1:Hp}
theorem QM{n:Nat}(hn1:xs.length=n)(hn2:ys.length=n)(Pv:Nat->St->Hp->Prop)(h0:Pv 0 σ0 (upd H1 D (.lst [])))(hl:∀i σ H,i<=n->Pv i σ H->bH K H l1 xs/\bH K H l2 ys)(hs:∀i x y σ H p,xs[i]? = some x->ys[i]? = some y->Pv i σ H->H p=none->g (.ref p) σ (upd H p (.tup [x,y])) λσ2 H2=>tc σ2 H2 λb H3=>
   if b=true then te σ2 H3 λy H4=>∃acc,H4 D=some (.lst acc)/\acc.length<sizeLine/\Pv (i+1) σ2 (upd H4 D (.lst (acc++[y]))) else Pv (i+1) σ2 H3)(hd:∀σ H,Pv n σ H->Q (.ref D) H):jf (Itz K l1 l2) g tc te Q D σ0 H1:=by
 refine⟨λi m σ H=>m=n - i/\i<=n/\Pv i σ H,⟨n,by simp,Nat.zero_le _,h0⟩, ?_⟩;rintro i m σ H ⟨rfl,hi,p⟩;obtain⟨q1,q2⟩:=hl i σ H hi p
 by_cases hlt:i<n
 .refine .inr ⟨⟨xs,ys,xs[i],ys[i],q1,q2,by simp[hn1,hlt],by simp[hn2,hlt]⟩,Pv (i+1),λσ' H' p'=>⟨n - (i+1),by lia,Z,hlt,p'⟩,λx H' y=>?_⟩
  obtain⟨t,z,u,rfl,ht,hz,hu,rfl⟩:=y;exact hs i z u σ _ t (hz xs q1) (hu ys q2) p ht
 .have e:i=n:=by lia
  subst e;exact .inl ⟨⟨xs,ys,q1,q2,.inl (by lia)⟩,hd σ H p⟩
end
section
variable{K:PySem.W.Frag}{a l1 l2:Addr}{xs ys:List V}{g:TG}{tb:TS}{D:Ends}{σ:St}{H:Hp}
end
section
variable{X:Cx}
theorem Dm:∀{ns:List Int}{us:List Value},Vals (ns.map V.int) us->IntsAre us ns
 | [],us,r=>by cases r;exact .nil
 | n::ns,us,r=>by
   cases r with
   | cons r rs=>
     obtain⟨t,rfl⟩:=r;exact .cons n t (Dm rs)
noncomputable def Tq:V->List V->Hp->VK->Prop:=λx vs H Q=>∃(l:Addr) (ns:List Int) (i:Int),x = .ref l/\vs=[.int i]/\bH X.K H l (ns.map V.int)/\Q (.int (ns.count i)) H
theorem Pq:Zw X "list.count" (Tq (X:=X)):=by
 intro pins s σ H x vs v us Q I rx rv h;obtain⟨l,ns,i,rfl,rfl,hq,q⟩:=h;cases rx;obtain⟨u,rfl,ru⟩:=rv.one;obtain⟨t,rfl⟩:=ru;obtain⟨its,r',pl,hz⟩:=I.list hq;exact count_list_ints pl.isList (Dm r') ⟨.int _,H,I.tok _,⟨_,Z⟩,q⟩
theorem Bl{K:PySem.W.Frag}{T name id:String}{r:V->List V->Hp->VK->Prop}{o e:Expr}{es:List Expr}{to:TE}{t:TA}{apos cpos:Pos}(h:X.K=K)(pa:PlainAttrs T)(slot:Slot T name id)(hty:typeOf (.builtin id)=pure (.type "method_descriptor"))(hm:Zw X id r)(ho:PE X o to)(ha:PA X (e::es) t)(hbase:attributeBase o name X.env (eval o X.env)=eval o X.env:=by rfl)(hfew:((backTo cpos (starEach (e::es) X.env)).all (λx=> !x.1)&&(backToKw cpos (keywordEach [] X.env)).all (λx=>x.1.isSome)
   && decide ((e::es).length+([]:List Keyword).length+(if ([]:List Keyword).isEmpty then 0 else 1)<30))=true:=by rfl)(hline:(apos.endLine==cpos.line)=true:=by rfl)(hs:starEach (e::es) X.env=(false,eval e X.env)::starEach es X.env:=by rfl)(hplain:(backTo cpos (starEach es X.env)).any (·.1)=false:=by rfl):
 PE X (.Call (.Attribute o name apos) (e::es) [] cpos) (tBM K T r to t):=by
 subst h;exact V0 pa slot hty hm ho ha hbase hfew hline hs hplain
noncomputable def Xx(K:PySem.W.Frag):V->List V->Hp->VK->Prop:=λx vs H Q=>∃(l:Addr) (ns:List Int) (i:Int),x = .ref l/\vs=[.int i]/\bH K H l (ns.map V.int)/\Q (.int (ns.count i)) H
theorem K4{K:PySem.W.Frag}(h:X.K=K):Zw X "list.count" (Xx K):=by subst h;exact Pq
theorem rH{K:PySem.W.Frag}{es:List Expr}{k:Nat}{t:Wz}{n:Nat}{pos:Pos}(hK:X.K=K)(hc:X.calm=true)(h:PGs X es t)(hn:(assignEach es X.env).length=n:=by rfl)(hst:(assignEach es X.env).findIdx? (·.1)=none:=by rfl):PG X (.Tuple es k pos) (Qm K n t):=by subst hK;exact XR hc h hn hst
end
end L2
namespace L2
open PySem
section
variable{K:PySem.W.Frag}{a D:Addr}{xs:List V}{tc:TT}{te:TE}{Q:VK}{rest:St}{H1:Hp}
theorem dJ{α:Type}(f:Nat->Option α)(n:Nat):(List.range (n+1)).filterMap f=(List.range n).filterMap f++(f n).toList:=by
 rw[List.range_succ,List.filterMap_append];cases h:f n<;>simp[h]
theorem uo{α:Type}(f:Nat->Option α)(n:Nat):((List.range n).filterMap f).length<=n:=by
 have:=List.length_filterMap_le f (List.range n);simpa using this
theorem Same.newly{H H1:Hp}{D:Addr}{o:HO}(h:Same H H1)(n:H D=none):Same H (upd H1 D o):=λb u e=>by rw[aC (ao e n)];exact h b u e
theorem lU(f:Nat->Option V)(hD:H1 D=none)(hq:bH K H1 a xs)(hx:xs.length<=100000)(hs:∀i x H (G:Hp->Prop) (F:VK),xs[i]? = some x->Same H1 H->(∀H',Same H H'->f i=none->G H')->(∀y H',Same H H'->f i=some y->F y H')->tc (some x::rest) H λb H3=>if b=true then te (some x::rest) H3 F else G H3)(hd:∀H,Same H1 H->H D=some (.lst ((List.range xs.length).filterMap f))->Q (.ref D) H):jf (Mt K a) (cG 0) tc te Q D (none::rest) H1:=by
 refine fY (K:=K) (xs:=xs) (λi σ H=>(∃v,σ=v::rest)/\Same H1 H/\H D=some (.lst ((List.range i).filterMap f))) ⟨⟨none,Z⟩,aF hD,ak⟩ (λi σ H _ ⟨_,sm,_⟩=>sm.sqL _ _ hq) ?_ (λσ H ⟨_,sm,e⟩=>hd H sm e);rintro i x σ H hi ⟨⟨v,rfl⟩,sm,e⟩;have hil:i<xs.length:=(aae.mp hi).1;refine hs i x H _ _ hi sm (λH3 s3 ef=>⟨⟨_,Z⟩,sm.trans s3,by rw[s3 _ _ e,dJ,ef];simp⟩) (λy H4 s4 ef=>?_);refine⟨_,s4 _ _ e, ?_,⟨_,Z⟩,(sm.trans s4).newly hD, ?_⟩
 .have:=uo f i
  rw[sizeLine_eq];lia
 .rw[ak,dJ,ef];rfl
theorem Lx(f:Nat->Option V)(hD:H1 D=none)(hq:H1 a=some (.tup xs))(hx:xs.length<=100000)(hs:∀i x H (G:Hp->Prop) (F:VK),xs[i]? = some x->Same H1 H->(∀H',Same H H'->f i=none->G H')->(∀y H',Same H H'->f i=some y->F y H')->tc (some x::rest) H λb H3=>if b=true then te (some x::rest) H3 F else G H3)(hd:∀H,Same H1 H->H D=some (.lst ((List.range xs.length).filterMap f))->Q (.ref D) H):jf (Itt K a) (cG 0) tc te Q D (none::rest) H1:=by
 refine QS (K:=K) (xs:=xs) (λi σ H=>(∃v,σ=v::rest)/\Same H1 H/\H D=some (.lst ((List.range i).filterMap f))) ⟨⟨none,Z⟩,aF hD,ak⟩ (λi σ H _ ⟨_,sm,_⟩=>cH.of (sm.tups _ _ hq)) ?_ (λσ H ⟨_,sm,e⟩=>hd H sm e);rintro i x σ H hi ⟨⟨v,rfl⟩,sm,e⟩;have hil:i<xs.length:=(aae.mp hi).1;refine hs i x H _ _ hi sm (λH3 s3 ef=>⟨⟨_,Z⟩,sm.trans s3,by rw[s3 _ _ e,dJ,ef];simp⟩) (λy H4 s4 ef=>?_);refine⟨_,s4 _ _ e, ?_,⟨_,Z⟩,(sm.trans s4).newly hD, ?_⟩
 .have:=uo f i
  rw[sizeLine_eq];lia
 .rw[ak,dJ,ef];rfl
theorem lR{n:Nat}(f:Nat->Option V)(hD:H1 D=none)(hx:n<=100000)(hs:∀i H (G:Hp->Prop) (F:VK),i<n->Same H1 H->(∀H',Same H H'->f i=none->G H')->(∀y H',Same H H'->f i=some y->F y H')->tc (some (.int (0+i))::rest) H λb H3=>if b=true then te (some (.int (0+i))::rest) H3 F else G H3)(hd:∀H,Same H1 H->H D=some (.lst ((List.range n).filterMap f))->Q (.ref D) H):jf (Vu 0 n) (cG 0) tc te Q D (none::rest) H1:=by
 refine xP (lo:=0) (n:=n) (λi σ H=>(∃v,σ=v::rest)/\Same H1 H/\H D=some (.lst ((List.range i).filterMap f))) ⟨⟨none,Z⟩,aF hD,ak⟩ ?_ (λσ H ⟨_,sm,e⟩=>hd H sm e);rintro i σ H hi ⟨⟨v,rfl⟩,sm,e⟩;refine hs i H _ _ hi sm (λH3 s3 ef=>⟨⟨_,Z⟩,sm.trans s3,by rw[s3 _ _ e,dJ,ef];simp⟩) (λy H4 s4 ef=>?_);refine⟨_,s4 _ _ e, ?_,⟨_,Z⟩,(sm.trans s4).newly hD, ?_⟩
 .have:=uo f i
  rw[sizeLine_eq];lia
 .rw[ak,dJ,ef];rfl
theorem Lw{l1 l2:Addr}{ys:List V}{n:Nat}(hn1:xs.length=n)(hn2:ys.length=n)(f:Nat->Option V)(hD:H1 D=none)(hq1:bH K H1 l1 xs)(hq2:bH K H1 l2 ys)(hx:n<=100000)(hs:∀i x y H (G:Hp->Prop) (F:VK),xs[i]? = some x->ys[i]? = some y->Same H1 H->(∀H',Same H H'->f i=none->G H')->(∀y H',Same H H'->f i=some y->F y H')->tc (some x::some y::rest) H λb H3=>if b=true then te (some x::some y::rest) H3 F else G H3)(hd:∀H,Same H1 H->H D=some (.lst ((List.range n).filterMap f))->Q (.ref D) H):jf (Itz K l1 l2) (Qm K 2 (xH (cG 0) (xH (cG 1) U0))) tc te Q D (none::none::rest) H1:=by
 refine QM (K:=K) (xs:=xs) (ys:=ys) hn1 hn2 (λi σ H=>(∃u v,σ=u::v::rest)/\Same H1 H/\H D=some (.lst ((List.range i).filterMap f))) ⟨⟨none,none,Z⟩,aF hD,ak⟩ (λi σ H _ ⟨_,sm,_⟩=>⟨sm.sqL _ _ hq1,sm.sqL _ _ hq2⟩) ?_ (λσ H ⟨_,sm,e⟩=>hd H sm e);rintro i x y σ H p hix hiy ⟨⟨u,v,rfl⟩,sm,e⟩ hp;have sp:=aF (o:=HO.tup [x,y]) hp;refine⟨p,[x,y],Z,cH.of ak,Z,_,_,Z,_,_,Z,Z, ?_⟩;have hil:i<xs.length:=(aae.mp hix).1;refine hs i x y _ _ _ hix hiy (sm.trans sp) (λH3 s3 ef=>⟨⟨_,_,Z⟩,(sm.trans sp).trans s3,by rw[s3 _ _ (sp _ _ e),dJ,ef];simp⟩) (λy H4 s4 ef=>?_);refine⟨_,s4 _ _ (sp _ _ e), ?_,⟨_,_,Z⟩,((sm.trans sp).trans s4).newly hD, ?_⟩
 .have:=uo f i
  rw[sizeLine_eq];lia
 .rw[ak,dJ,ef];rfl
theorem EY{α β:Type}{f g:α->Option β}:∀(l:List α)(_:True)(h:∀x∈l,f x=g x),l.filterMap f=l.filterMap g
 | [],_,_=>rfl
 | x::l,_,h=>by
   rw[List.filterMap_cons,List.filterMap_cons,h x (by simp),EY l trivial λy hy=>h y (by simp[hy])]
theorem snocInd{α:Type}{P:List α->Prop}(h0:P [])(hs:∀xs x,P xs->P (xs++[x]))(xs:List α):P xs:=by
 rw[←List.reverse_reverse xs]
 induction xs.reverse with
 | nil=>exact h0
 | cons x l ih=>rw[List.reverse_cons];exact hs _ _ ih
theorem JQ{α β:Type}(xs:List α)(g:α->β):(List.range xs.length).filterMap (λi=>(xs[i]?).map g)=xs.map g:=by
 refine snocInd (P:=λxs=>(List.range xs.length).filterMap (λi=>(xs[i]?).map g)=xs.map g) rfl (λxs x ih=>?_) xs
 .show (List.range (xs++[x]).length).filterMap (λi=>((xs++[x])[i]?).map g)=(xs++[x]).map g
  rw[aa_,abT,dJ,abo];congr 1
  .rw[←ih]
   refine EY _ trivial λi hi=>?_;have:i<xs.length:=by simpa using hi
   rw[abb this]
  .simp
end
section
variable{X:Cx}{K:PySem.W.Frag}
end
theorem qZ{a b:TS}{D:Ends}{σ:St}{H:Hp}(h:∀R:St->Hp->Prop,(∀σ' H',b D σ' H'->R σ' H')->a {D with nx:=R} σ H):W3 a b D σ H:=h _ (λ_ _ x=>x)
theorem fW{a b:TS}{D:Ends}{σ:St}{H:Hp}(P:St->Hp->Prop)(h1:∀D':Ends,(∀σ' H',P σ' H'->D'.nx σ' H')->D'.rt=D.rt->a D' σ H)(h2:∀σ' H',P σ' H'->b D σ' H'):W3 a b D σ H:=h1 _ h2 rfl
end L2
namespace L2
open PySem PySem.Spec PyProof.Rows
section
variable{X:Cx}{K:PySem.W.Frag}{a:Expr}{ta:TE}{pos:Pos}
noncomputable def aeA(K:PySem.W.Frag)(ta:TE):TT:=λσ H Q=>ta σ H λx H'=>∃k,Zq K x H' k/\Q k H'
theorem tY(h:X.K=K)(ha:PE X a ta)(he:∀whole,isTrue a X.env whole=(do let v ←whole;standAt a.pos;holding [v] (truthy v)):=by intro _;rfl):PT X a (aeA K ta):=by
 subst h;exact N6 ha he
end
section
variable{X:Cx}{K:PySem.W.Frag}
theorem Bo{T name id:String}{r:V->List V->Hp->VK->Prop}{o:Expr}{to:TE}{apos cpos:Pos}(h:X.K=K)(pa:PlainAttrs T)(slot:Slot T name id)(hty:typeOf (.builtin id)=pure (.type "method_descriptor"))(hm:Zw X id r)(ho:PE X o to)(hbase:attributeBase o name X.env (eval o X.env)=eval o X.env:=by rfl)(hline:(apos.endLine==cpos.line)=true:=by rfl):PE X (.Call (.Attribute o name apos) [] [] cpos) (aaB K T r to):=by
 subst h;exact X5 pa slot hty hm ho hbase hline
end
section
variable{K:PySem.W.Frag}{a D:Addr}{xs:List V}{te:TE}{Q:VK}{rest:St}{H1:Hp}
theorem zQ{H:Hp}{vs:List V}{ds:List PyData}{v:V}{d:PyData}(h:aP H vs ds)(hd:Dat H v d):aP H (vs++[v]) (ds++[d]):=aP.append h (by simp only[aP,and_true];exact hd)
end
end L2
namespace L2
open PySem
noncomputable def Gv(mg:Str->Option Value)(x:Str)(v:V):Prop:=∃u,mg x=some u/\RelV v u
end L2
namespace L2
open PySem PySem.Spec PyProof.Rows
section
variable{prog:Program}{w:World}{K:Type}[DecidableEq K]{knd:HeapKind prog w K}
theorem Ii{xs:List (K×Addr×Value)}{k:K}(h:∀(j:Nat)(p:Addr×Value),xs[j]? ≠ some (k,p)):atKey xs k=none:=by
 unfold atKey;rw[Option.map_eq_none_iff,List.find?_eq_none];intro x hx e;obtain⟨j,hj⟩:=List.getElem?_of_mem hx;have e':x.1=k:=aaO e;exact h j x.2 (by rw[hj,←e'])
theorem Ih{xs:List (K×Addr×Value)}{k:K}{j:Nat}{p:Addr×Value}(hn:(xs.map (·.1)).Nodup)(h:xs[j]? = some (k,p)):atKey xs k=some p:=by
 unfold atKey
 induction xs generalizing j with
 | nil=>cases h
 | cons x xs ih=>
   rw[List.find?_cons];cases j with
   | zero=>
     have:x=(k,p):=by simpa using h
     subst this;simp
   | succ j=>
     have hj:xs[j]? = some (k,p):=by simpa using h
     have hn':=List.nodup_cons.mp (by simpa using hn:(x.1::xs.map (·.1)).Nodup);have ne:¬x.1=k:=λz=>hn'.1 (by rw[z];exact abG.mpr ⟨(k,p),aaK hj,Z⟩);rw[aaN ne];exact ih hn'.2 hj
theorem pW{A:Around}{E:Value->Shared->Prop}{s:Shared}{d a:Addr}{xs:List (K×Addr×Value)}{k:K}{dflt:Value}{Q:Value->Shared->Prop}(hr:knd.room A)(hk:knd.is s.heap k a)(dd:Heap.DictOfH knd s.heap d xs)(hz:xs.length<=sizeLine)(h1:∀p,atKey xs k=some p->Q p.2 {s with toks:=s.toks+knd.draws k})(h2:atKey xs k=none -> ∀h',Heap.DictOfH knd h' d (xs++[(k,a,dflt)])->Heap.SameBut d s.heap h'->Q dflt {s with heap:=h',toks:=s.toks+knd.draws k}):
 wpAny (model prog w) A (dictSetDefault d (.ref a) dflt) Q E s:=by
 unfold dictSetDefault;refine wpAny_holding (aas (knd.pyHash hr hk ?_));obtain⟨o,es,ep,ho,hx,hd,he,hi,hn⟩:=id dd;have hl:es.size=xs.length:=by rw[←aaI,he,aac]
 refine aas (wpAny_dictFind_heap (s:={s with toks:=s.toks+knd.draws k}) hr hk ho hd he hi hn (λhno=>?_) (λj p hj=>?_))
 .refine aas (wpAny_rule ?_)
  have an:=Ii hno;refine aas (wpAny_updateDictKeys (s:={s with toks:=s.toks+knd.draws k}) ho hd ?_ (by lia) (by simp));refine aaE ?_;have sb:=Heap.SameBut.update s.heap d (Obj.mapDictKeys λx=>x.push {hash:=knd.hash k,key:= .ref a,val:=dflt});refine h2 an _ ?_ sb;obtain⟨oc,od,ake,osl⟩:=o;simp only at hd;subst hd;refine⟨_,es.push {hash:=knd.hash k,key:= .ref a,val:=dflt},ep+1,Heap.get?_update_self _ ho ?_,hx,Z, ?_, ?_, ?_⟩
  .obtain⟨c1,c2,c3⟩:=hx
   simp only at c1;subst c1;rfl
  .rw[Array.toList_push,he,abo];rfl
  .intro x hxm
   rcases abF.mp hxm with hxm|hxm
   .exact knd.keeps (hi x hxm) ho rfl sb
   .have:x=(k,a,dflt):=by simpa using hxm
    subst this;exact knd.keeps hk ho rfl sb
  .rw[abo]
   refine List.nodup_append.mpr ⟨hn,by simp, ?_⟩;intro y hy z hz' e;have:z=k:=by simpa using hz'
   subst this;subst e;obtain⟨x,hx',rfl⟩:=abG.mp hy;obtain⟨j,hj⟩:=List.getElem?_of_mem hx';exact hno j x.2 hj
 .refine aas (wpAny_dictEntries (s:={s with toks:=s.toks+knd.draws k}) ho hd ?_)
  have ej:es[j]? = some (entryOfKey knd (k,p)):=by
   rw[←Array.getElem?_toList,he,aah,hj];rfl
  rw[ej];exact aas (wpAny_rule (aaE (h1 p (Ih hn hj))))
theorem rQ(knd:HeapKind prog w K)(d a:Addr)(hd:(d==sysModules)=false)(dflt:Value):MeetsIn prog w (Builtin.«dict.setdefault» {pos:=[.ref d,.ref a,dflt]}) λA R s=>
 knd.room A.in1 /\ ∃k xs,knd.is s.heap k a/\Heap.DictOfH knd s.heap d xs/\xs.length<=sizeLine/\(∀p,atKey xs k=some p->R (.ok (.ret p.2)) {s with toks:=s.toks+knd.draws k}) /\
  (atKey xs k=none -> ∀h',Heap.DictOfH knd h' d (xs++[(k,a,dflt)])->Heap.SameBut d s.heap h'->R (.ok (.ret dflt)) {s with heap:=h',toks:=s.toks+knd.draws k}):=by
 rintro A R s ⟨hr,k,xs,hk,dd,hz,h1,h2⟩;obtain⟨o,es,ep,ho,hx,hdat,_⟩:=id dd;unfold Builtin.«dict.setdefault»;have ht:s.TypeIs (.ref d) "dict" :=⟨o,ho,hx.1⟩;refine aas ?_;unfold Builtin.Dict.keyAndDefault;refine aas ?_;unfold Builtin.Dict.notOrdered;rw[acM (by decide)];refine aas (wpAny_typeOf ht ?_);rw[acK (by decide)];refine aaE ?_;refine aas ?_;unfold Builtin.Dict.nameIsSure;rw[acK (by show ¬(false=true);decide)];refine aaE ?_;refine aas ?_;unfold selfAndSome noKeywords;refine aas ?_;rw[acM (by rfl)];refine aaE ?_;show wpAny (model prog w) A.in1 (checkCount "setdefault" 1 2 2 >>= λ_=>pure (Value.ref d,[Value.ref a,dflt])) _ _ s;refine aas ?_;have ck:checkCount "setdefault" 1 2 2=pure ():=Z;rw[ck];refine aaE (aaE ?_);show wpAny (model prog w) A.in1 (Builtin.Dict.addrOf (.ref d) >>= λx=>pure (x,Value.ref a,some dflt)) _ _ s;refine aas (aaE (aaE ?_));show wpAny (model prog w) A.in1 (if (d==sysModules)=true then _ else (dictSetDefault d (.ref a) dflt >>= λv=>ret v)) _ _ s;rw[acK (by rw[hd];decide)];refine aas (pW hr hk dd hz (λp hp=>aaE (h1 p hp)) (λhn h' dd' sb=>aaE (h2 hn h' dd' sb)))
end
section
variable{X:Cx}{o e f:Expr}{td ty tx:TE}{apos cpos:Pos}
noncomputable def W9(td ty tx:TE):TE:=λσ H Q=>td σ H λx H1=>∃a,x = .ref a/\IsD H1 a/\ty σ H1 λy H2=>tx σ H2 λz H3=>∃kvs k b,H3 a=some (.dT kvs)/\y = .ref b/\H3 b=some (.tup (k.map kV))/\kvs.length<sizeLine /\
 (∀v,eV kvs k=some v->Q v H3)/\(eV kvs k=none->Q z (upd H3 a (.dT (putK kvs k z))))
theorem Oh(hu:X.A.units+1<cLine)(ho:PE X o td)(he:PE X e ty)(hf:PE X f tx)(m:M2 X o "setdefault" apos e f cpos):PE X (.Call (.Attribute o "setdefault" apos) [e,f] [] cpos) (W9 td ty tx):=by
 intro pins s σ H Q I h;refine wpAny_Call_method m.base m.few m.line PySem.F.plainAttrs_dict PySem.F.slot_dict_setdefault PySem.F.type_dict_setdefault (cX (ho pins s σ H _ I h) λu s1 gw=>?_);obtain⟨x,H1,I1,rx,a,ex,d,q1⟩:=gw;subst ex;obtain rfl:u=Value.ref a:=rx;obtain⟨t1,t2,_⟩:=PX I1 d;refine⟨t1,t2, ?_⟩;rw[m.trees]
 refine Calls.callWith_builtin rfl (Calls.evalArgs_plain (Calls.spliced_cons (cX (he pins s1 σ H1 _ I1 q1) λiv s2 ⟨y,H2,I2,ry,q2⟩=>
  Calls.spliced_cons (cX (hf pins s2 σ H2 _ I2 q2) λfv s3 ⟨z,H3,I3,rz,kvs,k,b,ea,ey,eb,hl,q3,q4⟩=>Calls.spliced_nil ?_))))
 subst ey;cases (show iv=Value.ref b from ry);obtain⟨hz,hd,xs,rel,dd⟩:=ab' I3.hok ea;have hz':xs.length<=sizeLine:=by rw[←Paired.length rel];exact hz
 have rv:=rel.val k;refine call_meetsIn PySem.F.slot_dict_setdefault dd.typeIs PySem.F.entry_dict_setdefault (PySem.F.args_dict_setdefault_3 _ _ _) (rQ (tupleKind (eN X.prog X.w)) a b hd fv) ⟨tupleKind_room_in1 hu,k,xs,Hr I3.hok eb,dd,hz',λp hp=>?_,λhn h' dd' sb=>?_⟩
 .rw[hp] at rv
  cases lv:eV kvs k with
  | none=>rw[lv] at rv;exact acP rv (by simp[nA])
  | some v=>
    rw[lv] at rv;exact⟨v,H3,I3.tok _,rv,q3 v lv⟩
 .rw[hn] at rv
  have lv:eV kvs k=none:=by
   cases lv:eV kvs k with
   | none=>rfl
   | some v=>rw[lv] at rv;exact acP rv (by simp[nA])
  have hl':(putK kvs k z).length<=sizeLine:=by have:=uK kvs k z;lia
  obtain⟨q,es,ep,hq,h2,h3,h4,_,h5⟩:=dd';have est:storedH xs k b fv=xs++[(k,b,fv)]:=by unfold storedH;rw[hn];rfl
  have rp:=rel.put k eb rz;rw[est] at rp;refine⟨z,upd H3 a (.dT (putK kvs k z)),Ve (ob:= .dT (putK kvs k z)) I3 (by rw[ea];exact True.intro) sb ⟨q,hq⟩ ⟨hl',hd,_,rp.keeps λc ys ec=>?_,q,es,ep,hq,h2,h3,h4,h5⟩,rz,q4 lv⟩;rw[aC (cY ec ea (λz=>nomatch z))];exact ec
end
section
variable{X:Cx}{K:PySem.W.Frag}
noncomputable def aaW(K:PySem.W.Frag):V->V->Hp->VK->Prop:=λx y H Q=>∃p xs i v,x = .ref p/\y = .int i/\bH K H p xs/\0<=i/\xs[i.toNat]? = some v/\Q v H
theorem GJ(h:X.K=K):acD X (aaW K):=by
 subst h;intro pins s σ H o i ov iv Q I ro ri h;obtain⟨p,xs,k,v,rfl,rfl,hq,k0,he,q⟩:=h;cases ro;obtain⟨t,rfl⟩:=ri;obtain⟨its,r,pl,hz⟩:=I.list hq;obtain⟨w,ew,rw'⟩:=r.get he;have hl:=r.length;have hn:=ug;have:k.toNat<xs.length:=(aae.mp he).1;exact getItem_listL pl.isList k0 (by lia) ew ⟨v,H,I,rw',q⟩
end
end L2
namespace L2
open PySem
theorem Fe{K:PySem.W.Frag}{T:String}{r:V->List V->Hp->VK->Prop}{to:TE}{t:TA}{D:Ends}{σ:St}{H:Hp}(P:V->Hp->Prop)(h1:∀Q':VK,(∀v H',P v H'->Q' v H')->to σ H Q')(h2:∀v H',P v H'->tyV K T v H'/\t σ H' λxs H2=>r v xs H2 λ_ H3=>D.nx σ H3):VH (tBM K T r to t) D σ H:=h1 _ h2
end L2
namespace L2
open PySem PySem.Spec PyProof.Rows
section
variable{X:Cx}{K:PySem.W.Frag}
end
noncomputable def cat:List Str->Str
 | []=>Str.empty
 | x::xs=>x++cat xs
section
variable{X:Cx}{body suite:List Stmt}{b0:Stmt}{cn:Str}{Dc:Addr}{tb:(St->XK)->TS}{th:TS}{cp hpos pos:Pos}
end
section
variable{X:Cx}
noncomputable def acN(i j:Int):Prop:=0<j/\j<1329227995784915872903807060280344576
theorem DY:nF X (binaryOp .FloorDiv) (rI acN λi j=> .int (i / j)):=ZJ λi j _ _ _ _ _ hc q=>by
 have h1:(0:Int)<j:=hc.1;have h2:j<1329227995784915872903807060280344576:=hc.2;refine floordiv_int (by lia) (by rw[Int.fdiv_eq_ediv_of_nonneg i (by lia)];exact q) (.inl ?_);unfold Builtin.divisionGoesByPylong;have hn:j.natAbs<2 ^ 120:=by lia
 have hl:j.natAbs.log2<120:=(Nat.log2_lt (by lia)).mpr hn
 have hz:(j==0)=false:=by
  rw[beq_eq_false_iff_ne];lia
 simp only[hz,Bool.false_eq_true,if_false];have:¬j.natAbs.log2 / 30+1>300:=by lia
 rw[aaN this,Bool.false_and]
end
section
variable{X:Cx}{pins:List (Addr×Obj)}{σ:St}{H:Hp}{s:Shared}{d:Addr}{u u':HO}
end
section
variable{X:Cx}{tg:Expr}
end
section
variable{d D:Addr}{o:Obj}{kvs:List (Key×V)}{tc:TT}{te:TE}{Q:VK}{rest:St}{H1:Hp}
end
section
variable{X:Cx}{tg:Expr}
end
section
variable{X:Cx}{tg:Expr}
end
section
variable{X:Cx}
end
section
variable{H H':Hp}
mutual
theorem Dat.same(k:Same H H'):∀(d:PyData){v:V},Dat H v d->Dat H' v d
 | .none,_,h=>by simp only[Dat] at h ⊢;exact h
 | .bool _,_,h=>by simp only[Dat] at h ⊢;exact h
 | .int _,_,h=>by simp only[Dat] at h ⊢;exact h
 | .str _,_,h=>by simp only[Dat] at h ⊢;exact h
 | .list ds,_,h=>by simp only[Dat] at h ⊢;obtain⟨a,vs,e,q,r⟩:=h;exact⟨a,vs,e,k _ _ q,aP.same k ds r⟩
 | .tuple ds,_,h=>by simp only[Dat] at h ⊢;obtain⟨a,vs,e,q,r⟩:=h;exact⟨a,vs,e,k _ _ q,aP.same k ds r⟩
 | .dict _,_,h=>by simp only[Dat] at h
theorem aP.same(k:Same H H'):∀(ds:List PyData){vs:List V},aP H vs ds->aP H' vs ds
 | [],[],_=>by simp only[aP]
 | d::ds,v::vs,h=>by simp only[aP] at h ⊢;exact⟨Dat.same k d h.1,aP.same k ds h.2⟩
 | _::_,[],h=>by simp only[aP] at h
 | [],_::_,h=>by simp only[aP] at h
end
end
section
variable{X:Cx}{K:PySem.W.Frag}
theorem jP(K:PySem.W.Frag):PySem.W.kitOne K (.type "list") (.type "tuple")=some false:=by kernel_rfl
end
section
variable{K:PySem.W.Frag}{a D:Addr}{xs:List V}{tc:TT}{te:TE}{Q:VK}{rest:St}{H1:Hp}
theorem BX{f:Nat->Option PyData}(hf:∀i d,f i=some d->C_ d=true):∀l:List Nat,qw (l.filterMap f)=true
 | []=>rfl
 | i::l=>by
   rw[List.filterMap_cons];cases e:f i with
   | none=>exact BX hf l
   | some d=>simp only[qw,hf i d e,BX hf l,Bool.and_self]
theorem L_(f:Nat->Option PyData)(hf:∀i d,f i=some d->C_ d=true)(hD:H1 D=none)(hq:bH K H1 a xs)(hx:xs.length<=100000)(hs:∀i x H (G:Hp->Prop) (F:VK),xs[i]? = some x->Same H1 H->(∀H',Same H H'->f i=none->G H')->(∀y d H',Same H H'->f i=some d->Dat H' y d->F y H')->tc (some x::rest) H λb H3=>if b=true then te (some x::rest) H3 F else G H3)(hd:∀H vs,Same H1 H->H D=some (.lst vs)->aP H vs ((List.range xs.length).filterMap f)->Q (.ref D) H):jf (Mt K a) (cG 0) tc te Q D (none::rest) H1:=by
 refine fY (K:=K) (xs:=xs) (λi σ H=>(∃v,σ=v::rest)/\Same H1 H /\ ∃vs,H D=some (.lst vs)/\aP H vs ((List.range i).filterMap f)) ⟨⟨none,Z⟩,aF hD,[],ak,by simp[aP]⟩ (λi σ H _ ⟨_,sm,_⟩=>sm.sqL _ _ hq) ?_ (λσ H ⟨_,sm,vs,e,d⟩=>hd H vs sm e d);rintro i x σ H hi ⟨⟨v,rfl⟩,sm,vs,e,d⟩;have hil:i<xs.length:=(aae.mp hi).1;have im:=BX hf (List.range i);refine hs i x H _ _ hi sm (λH3 s3 ef=>⟨⟨_,Z⟩,sm.trans s3,vs,s3 _ _ e, ?_⟩) (λy dd H4 s4 ef dy=>?_)
 .rw[dJ,ef]
  simpa using aP.keep s3.tups _ im d
 .have hl:vs.length<=i:=by rw[d.length];exact uo f i
  have kp:Kp D H4 (upd H4 D (.lst (vs++[y]))):=Kp.set;have tp:=kp.tups (s4 _ _ e);refine⟨vs,s4 _ _ e, ?_,⟨_,Z⟩,(sm.trans s4).newly hD,vs++[y],ak, ?_⟩
  .rw[sizeLine_eq];lia
  .rw[dJ,ef]
   exact zQ (aP.keep (λa xs h=>tp _ _ (s4.tups _ _ h)) _ im d) (Dat.keep tp _ (hf i dd ef) dy)
end
section
variable{X:Cx}
noncomputable def Xz:R2:=λx y H Q=>∃a b xs ys,x = .ref a/\y = .ref b/\H a=some (.tup xs)/\H b=some (.tup ys)/\xs.length+ys.length<=sizeLine /\ ∀p H',H' p=some (.tup (xs++ys))->Same H H'->Q (.ref p) H'
theorem Oq:nF X (binaryOp .Add) Xz:=by
 intro pins s σ H x y v u Q I rx ry h;obtain⟨a,b,xs,ys,rfl,rfl,ha,hb,hz,q⟩:=h;cases rx;cases ry;obtain⟨its,r1,p1,_⟩:=I.tuple (cH.of ha);obtain⟨its2,r2,p2,_⟩:=I.tuple (cH.of hb)
 by_cases hv:its=[]
 .obtain⟨⟨cls,dd,data,sl⟩,ho,hc,n,hd⟩:=id p1
  obtain⟨⟨cls2,dd2,data2,sl2⟩,ho2,hc2,n2,hd2⟩:=id p2;simp only at hc hd hc2 hd2;subst hc hd hc2 hd2
  exact concat_meets ⟨_,ho,Z⟩ ⟨_,ho2,Z⟩ noFill_tuple_add seq_tuple_add PySem.F.slot_tuple_add PySem.F.entry_tuple_add (PySem.F.args_tuple_add_2 _ _)
   (tuple_addW0 a b its.toArray its2.toArray n n2 dd dd2 sl sl2 (by simp[hv])) ⟨ho,ho2,⟨.ref b,H,I,Z,q b H (by rw[hb,r1.Jy.mp hv];rfl) (Same.refl _)⟩⟩
 refine HT.Vi p1 p2 hv (λz=>⟨.ref a,H,I,Z,q a H (by rw[ha,r2.Jy.mp z,List.append_nil]) (Same.refl _)⟩) (λz=>?_) (by rw[←r1.length,←r2.length];exact hz);have fr:=I.hok.fresh (aar s.heap.objs.size);refine⟨.ref s.heap.objs.size,_,I.laid (t':=s.toks) (o:= .tup (xs++ys)) (λb ob q=>aai _ q) (aar _) ?_,Z,q _ _ ak (aF fr)⟩;exact⟨by rw[aa_];exact hz,_,r1.append r2,IsTup.new _ _⟩
end
section
variable{X:Cx}{K:PySem.W.Frag}{e st:Expr}{te tk:TE}{pos p2:Pos}
end
section
variable{H:Hp}
mutual
theorem Dat.fn:∀(d e:PyData){v:V},Dat H v d->Dat H v e->d=e
 | .none,e,v,h,g=>by cases e<;>simp only[Dat] at h g<;>first |rfl|(subst h;first |(obtain⟨_,_,z,_⟩:=g;cases z;done)|(cases g;done))
 | .bool _,e,v,h,g=>by cases e<;>simp only[Dat] at h g<;>first |(subst h;first |(injection g with g;rw[g];done)|(obtain⟨_,_,z,_⟩:=g;cases z;done)|(cases g;done))
 | .int _,e,v,h,g=>by cases e<;>simp only[Dat] at h g<;>first |(subst h;first |(injection g with g;rw[g];done)|(obtain⟨_,_,z,_⟩:=g;cases z;done)|(cases g;done))
 | .str _,e,v,h,g=>by cases e<;>simp only[Dat] at h g<;>first |(subst h;first |(injection g with g;rw[g];done)|(obtain⟨_,_,z,_⟩:=g;cases z;done)|(cases g;done))
 | .list ds,.list es,v,h,g=>by
   simp only[Dat] at h g;obtain⟨a,vs,rfl,ha,da⟩:=h;obtain⟨b,ws,e,hb,db⟩:=g;injection e with e
   subst e;rw[ha] at hb;injection hb with hb
   injection hb with hb
   subst hb;rw[aP.fn ds es da db]
 | .tuple ds,.tuple es,v,h,g=>by
   simp only[Dat] at h g;obtain⟨a,vs,rfl,ha,da⟩:=h;obtain⟨b,ws,e,hb,db⟩:=g;injection e with e
   subst e;rw[ha] at hb;injection hb with hb
   injection hb with hb
   subst hb;rw[aP.fn ds es da db]
 | .list ds,.tuple es,v,h,g=>by
   simp only[Dat] at h g;obtain⟨a,vs,rfl,ha,da⟩:=h;obtain⟨b,ws,e,hb,db⟩:=g;injection e with e
   subst e;rw[ha] at hb;injection hb with hb
   cases hb
 | .tuple ds,.list es,v,h,g=>by
   simp only[Dat] at h g;obtain⟨a,vs,rfl,ha,da⟩:=h;obtain⟨b,ws,e,hb,db⟩:=g;injection e with e
   subst e;rw[ha] at hb;injection hb with hb
   cases hb
 | .list ds,.none,v,h,g=>by simp only[Dat] at h g;obtain⟨a,vs,rfl,_⟩:=h;cases g
 | .list ds,.bool _,v,h,g=>by simp only[Dat] at h g;obtain⟨a,vs,rfl,_⟩:=h;cases g
 | .list ds,.int _,v,h,g=>by simp only[Dat] at h g;obtain⟨a,vs,rfl,_⟩:=h;cases g
 | .list ds,.str _,v,h,g=>by simp only[Dat] at h g;obtain⟨a,vs,rfl,_⟩:=h;cases g
 | .tuple ds,.none,v,h,g=>by simp only[Dat] at h g;obtain⟨a,vs,rfl,_⟩:=h;cases g
 | .tuple ds,.bool _,v,h,g=>by simp only[Dat] at h g;obtain⟨a,vs,rfl,_⟩:=h;cases g
 | .tuple ds,.int _,v,h,g=>by simp only[Dat] at h g;obtain⟨a,vs,rfl,_⟩:=h;cases g
 | .tuple ds,.str _,v,h,g=>by simp only[Dat] at h g;obtain⟨a,vs,rfl,_⟩:=h;cases g
 | .list ds,.dict _,v,h,g=>by simp only[Dat] at g
 | .tuple ds,.dict _,v,h,g=>by simp only[Dat] at g
 | .dict _,_,v,h,g=>by simp only[Dat] at h
theorem aP.fn:∀(ds es:List PyData){vs:List V},aP H vs ds->aP H vs es->ds=es
 | [],[],_,_,_=>rfl
 | d::ds,e::es,v::vs,h,g=>by
   simp only[aP] at h g;rw[Dat.fn d e h.1 g.1,aP.fn ds es h.2 g.2]
 | [],_::_,[],_,g=>by simp only[aP] at g
 | [],_::_,_::_,h,_=>by simp only[aP] at h
 | _::_,[],[],h,_=>by simp only[aP] at h
 | _::_,[],_::_,_,g=>by simp only[aP] at g
 | _::_,_::_,[],h,_=>by simp only[aP] at h
end
end
section
variable{X:Cx}
end
section
variable{X:Cx}{K:PySem.W.Frag}{e e1 e2 l:Expr}{te t1 t2 tl:TE}{pos:Pos}{tg:Expr}
end
section
variable{X:Cx}
end
end L2
namespace L2
open PySem PySem.Spec PyProof.Rows PySem.Builtin PySem.Builtin.Str
section
variable{X:Cx}{K:PySem.W.Frag}
noncomputable def Its(x:Str):It:=⟨λi _=>i<x.cps.size,λi H v H'=>H'=H /\ ∃c,x.cps[i]? = some c/\v = .str ⟨#[c]⟩,λi _=>x.cps.size<=i⟩
theorem M5{P:Program}{w:World}{K:PySem.W.Frag}{tg:Expr}(x:Str)(t:Tok)(it:Addr):Turn P w K tg (Its x) [it] it (λi h=>i<=x.cps.size/\(h.IsStrIter it "str_ascii_iterator" x t i\/h.IsStrIter it "str_iterator" x t i)) where
 mem:=by simp
 obj:=λi h st b hb=>by
  have e:b=it:=by simpa using hb
  subst e;rcases st.2 with ⟨o,e,c,d⟩|⟨o,e,c,d⟩
  .exact⟨o,e,λv z=>by rw[d] at z;cases z⟩
  .exact⟨o,e,λv z=>by rw[d] at z;cases z⟩
 keep:=λi h h' st k=>⟨st.1,st.2.imp (λ⟨o,e,r⟩=>⟨o,k it (by simp) o e,r⟩) (λ⟨o,e,r⟩=>⟨o,k it (by simp) o e,r⟩)⟩
 item:=by
  intro X hP hw hK hc i pins s σ H E I hf st hg;subst hP hw hK;have hi:i<x.cps.size:=hg;have hx:x.cps[i]? = some x.cps[i]:=by simp[hi]
  obtain⟨f0,f1,f2,f3,f4,f5⟩:=hf it (by simp);rcases st.2 with st|st
  .refine wpAny_pyNext_ascii_item st hx λh' st' sb=>?_
   have I1:Inv X pins σ H {s with heap:=h',toks:=s.toks+1}:=I.turned (t':=s.toks+1) (λb o hb e=>(sb.2 b hb).trans e) f0 f1 f3 f4 f5;obtain⟨o,e,c,d⟩:=id st';exact⟨_,Z,Ey (s:={s with heap:=h',toks:=s.toks+1}) e c d (by decide) ⟨.str ⟨#[x.cps[i]]⟩,H,I1,⟨_,Z⟩,⟨Z,_,hx,Z⟩,⟨hi,.inl st'⟩,λb hb=>(hf b hb).1⟩⟩
  .refine wpAny_pyNext_wide_item st hx λh' st' sb=>?_
   have I1:Inv X pins σ H {s with heap:=h',toks:=s.toks+1}:=I.turned (t':=s.toks+1) (λb o hb e=>(sb.2 b hb).trans e) f0 f1 f3 f4 f5;obtain⟨o,e,c,d⟩:=id st';exact⟨_,Z,Ey (s:={s with heap:=h',toks:=s.toks+1}) e c d (by decide) ⟨.str ⟨#[x.cps[i]]⟩,H,I1,⟨_,Z⟩,⟨Z,_,hx,Z⟩,⟨hi,.inr st'⟩,λb hb=>(hf b hb).1⟩⟩
 done:=by
  intro X hP hw hK hc i pins s σ H E I hf st hg;subst hP hw hK;have hx:x.cps[i]? = none:=by simpa using (show x.cps.size<=i from hg)
  obtain⟨f0,f1,f2,f3,f4,f5⟩:=hf it (by simp);rcases st.2 with st|st
  .exact wpAny_pyNext_ascii_end (I.ok.hd hc) st hx λh' eb=>⟨Z,I.turned (t':=s.toks) (λb o hb e=>eb b o hb e) f0 f1 f3 f4 f5⟩
  .exact wpAny_pyNext_wide_end (I.ok.hd hc) st hx λh' eb=>⟨Z,I.turned (t':=s.toks) (λb o hb e=>eb b o hb e) f0 f1 f3 f4 f5⟩
 self:=λ_ _ _ _ _ st h=>st.2.elim (λst=>wpAny_pyIter_striter_ascii st h) (λst=>wpAny_pyIter_striter_wide st h)
noncomputable def aga(tl:TE):TI:=λσ H R=>tl σ H λx H1=>∃a,x = .str a/\R (Its a) H1
theorem XQ{tg l:Expr}{tl:TE}(hl:PE X l tl):PI X tg l (aga tl):=by
 intro pins s σ H R I h;refine cX (hl pins s σ H _ I h) λv s1 gw=>?_;obtain⟨x,H1,I1,r1,q1⟩:=gw;obtain⟨a,rfl,q⟩:=q1;obtain⟨t,rfl⟩:=r1
 have fin:∀o,(s1.heap.push o).IsStrIter s1.heap.objs.size "str_ascii_iterator" a t 0\/(s1.heap.push o).IsStrIter s1.heap.objs.size "str_iterator" a t 0->PIE X pins σ tg R (.ref s1.heap.objs.size) {s1 with heap:=s1.heap.push o}:=by
  intro o st;refine⟨s1.heap.objs.size,[s1.heap.objs.size],_,_,H1,Z,I1.kept (t':=s1.toks) λb o e=>aai _ e,M5 a t _,⟨Nat.zero_le _,st⟩,λb hb=>?_,q⟩;have e:b=s1.heap.objs.size:=by simpa using hb
  subst e;exact I1.HJ (aar _) (I1.hok.fresh (aar _))
 cases ha:a.cps.all (· < 128)
 .exact wpAny_pyIter_wide ha (fin _ (.inr ⟨_,aaj _ rfl,Z,Z⟩))
 .exact wpAny_pyIter_ascii ha (fin _ (.inl ⟨_,aaj _ rfl,Z,Z⟩))
end
section
variable{K:PySem.W.Frag}{D:Addr}{tc:TT}{te:TE}{Q:VK}{rest:St}{H1:Hp}
theorem Lz{x:Str}{g:TG}{σ0:St}(Pv:Nat->St->Hp->Prop)(h0:Pv 0 σ0 (upd H1 D (.lst [])))(hs:∀i c σ H,x.cps[i]? = some c->Pv i σ H->g (.str ⟨#[c]⟩) σ H λσ2 H2=>tc σ2 H2 λb H3=>
   if b=true then te σ2 H3 λy H4=>∃acc,H4 D=some (.lst acc)/\acc.length<sizeLine/\Pv (i+1) σ2 (upd H4 D (.lst (acc++[y]))) else Pv (i+1) σ2 H3)(hd:∀σ H,Pv x.cps.size σ H->Q (.ref D) H):jf (Its x) g tc te Q D σ0 H1:=by
 refine⟨λi m σ H=>m=x.cps.size - i/\i<=x.cps.size/\Pv i σ H,⟨x.cps.size,by simp,Nat.zero_le _,h0⟩, ?_⟩;rintro i m σ H ⟨rfl,hi,p⟩
 by_cases hlt:i<x.cps.size
 .refine .inr ⟨hlt,Pv (i+1),λσ' H' p'=>⟨x.cps.size - (i+1),by lia,Z,hlt,p'⟩,λy H' e=>?_⟩
  obtain⟨e,c,hc,rfl⟩:=e;subst e;exact hs i c σ _ hc p
 .have e:i=x.cps.size:=by lia
  subst e;exact .inl ⟨aar _,hd σ H p⟩
theorem Ly{x:Str}(f:Nat->Option V)(hD:H1 D=none)(hx:x.cps.size<=100000)(hs:∀i c H (G:Hp->Prop) (F:VK),x.cps[i]? = some c->Same H1 H->(∀H',Same H H'->f i=none->G H')->(∀y H',Same H H'->f i=some y->F y H')->tc (some (.str ⟨#[c]⟩)::rest) H λb H3=>if b=true then te (some (.str ⟨#[c]⟩)::rest) H3 F else G H3)(hd:∀H,Same H1 H->H D=some (.lst ((List.range x.cps.size).filterMap f))->Q (.ref D) H):jf (Its x) (cG 0) tc te Q D (none::rest) H1:=by
 refine Lz (λi σ H=>(∃v,σ=v::rest)/\Same H1 H/\H D=some (.lst ((List.range i).filterMap f))) ⟨⟨none,Z⟩,aF hD,ak⟩ ?_ (λσ H ⟨_,sm,e⟩=>hd H sm e);rintro i c σ H hi ⟨⟨v,rfl⟩,sm,e⟩;have hil:i<x.cps.size:=(Array.getElem?_eq_some_iff.mp hi).1;refine hs i c H _ _ hi sm (λH3 s3 ef=>⟨⟨_,Z⟩,sm.trans s3,by rw[s3 _ _ e,dJ,ef];simp⟩) (λy H4 s4 ef=>?_);refine⟨_,s4 _ _ e, ?_,⟨_,Z⟩,(sm.trans s4).newly hD, ?_⟩
 .have:=uo f i
  rw[sizeLine_eq];lia
 .rw[ak,dJ,ef];rfl
end
section
variable{X:Cx}
end
end L2
namespace L2
open PySem PySem.Spec PyProof.Rows
section
variable(P:Program)(w:World)(K:PySem.W.Frag)(mg:Str->Option Value)(base:Heap)
noncomputable def MethAt(k:Nat)(C:Addr)(m:Str)(ps:List Str)(sp:Sp):Prop:=∃f fd,bO P w K mg base iy k f fd ps sp/\Meth K C m f/\Binds K fd ps []
noncomputable def j9(k:Nat)(C:Addr)(m:Str)(ps:List Str)(sp:Sp):Prop:=∃f fd,bO P w K mg base (pY P w) k f fd ps sp/\Meth K C m f/\Binds K fd ps []
noncomputable def qH(k:Nat)(C:Addr)(x:Str)(ps:List Str)(nH:List V)(sp:Sp):Prop:=∃f fd ds,bO P w K mg base iy k f fd ps sp/\Mk K C f/\mg x=some (.ref C)/\Binds K fd ps ds/\Vals nH ds
noncomputable def mX(k:Nat)(C:Addr)(x:Str)(ps:List Str)(nH:List V)(sp:Sp):Prop:=∃f fd ds,bO P w K mg base (pY P w) k f fd ps sp/\Mk K C f/\mg x=some (.ref C)/\Binds K fd ps ds/\Vals nH ds
noncomputable def Vt(k:Nat)(C:Addr)(x:Str)(ps:List Str)(kn:Str)(sp:Sp):Prop:=∃f fd,bO P w K mg base (pY P w) k f fd ps sp/\Mk K C f/\mg x=some (.ref C) /\
 ∀(s:Shared)(us:List Value)(z:Value),K.In s.heap->(us++[z]).length=ps.length->BindsTo s fd ⟨us,[(kn,z)]⟩ (ps.zip (us++[z]))
end
section
variable{P:Program}{w:World}{K:PySem.W.Frag}{mg:Str->Option Value}{base:Heap}{k:Nat}{C:Addr}{m x:Str}{ps:List Str}{sp:Sp}{nH:List V}
theorem bO.calm{f:Addr}{fd:FuncData}(G:bO P w K mg base (pY P w) k f fd ps sp):bO P w K mg base iy k f fd ps (λvs H Q _=>sp vs H Q λ_ _ _=>False):=by
 refine⟨λvs H Q E q=>G.len vs H Q _ q,λA outer s H args us vs Q E hr he hbd hv hs=>?_⟩;refine codeAny_mono (G.run A outer s H args us vs Q (λ_ _ _=>False) hr he hbd hv hs) λres s' hq=>?_
 match res,hq with
 | .error ev,hq=>
   obtain⟨e,cls,dx,H',_,_,_,_,_,_,_,_,z⟩:=hq;exact z.elim
 | .ok (.ret u),hq=>exact hq
theorem j9.calm(F:j9 P w K mg base k C m ps sp):MethAt P w K mg base k C m ps (λvs H Q _=>sp vs H Q λ_ _ _=>False):=by
 obtain⟨f,fd,G,r⟩:=F;exact⟨f,fd,G.calm,r⟩
theorem mX.calm(F:mX P w K mg base k C x ps nH sp):qH P w K mg base k C x ps nH (λvs H Q _=>sp vs H Q λ_ _ _=>False):=by
 obtain⟨f,fd,ds,G,r⟩:=F;exact⟨f,fd,ds,G.calm,r⟩
end
section
variable{X:Cx}{k:Nat}{C:Addr}{x m:Str}{ps:List Str}{sp:Sp}{nH:List V}{e o:Expr}{es:List Expr}{ta:TE}{t:TA}{p pos apos:Pos}{E:St->XK}
theorem cC{pl:Sem Bool}(M:MethAt X.prog X.w X.K X.mg X.base k C m ps sp)(c:Cls X.K C)(hr:dg k X.A)(he:PE X o ta)(ha:PA X (e::es) t)(hst:starEach (e::es) X.env=(false,eval e X.env)::starEach es X.env:=by rfl)(hpl:(backTo pos (starEach es X.env)).any (·.1)=false:=by rfl)(ht:eval (.Call (.Attribute o m apos) (e::es) [] pos) X.env=(do
   let ov ←eval o X.env
   standAt apos.atName
   let (f,first) ←holding [ov] (getMethod ov m pl)
   callWith pos f first (backTo pos (starEach (e::es) X.env)) (backToKw pos (keywordEach [] X.env))):=by rfl):
 PE X (.Call (.Attribute o m apos) (e::es) [] pos) (Jh C m sp [] E0 ta t):=by
 obtain⟨f,fd,G,hm,hb⟩:=M;exact TQ he c hm G hr hb .nil Js ha hst hpl ht
theorem cV{pl:Sem Bool}(M:MethAt X.prog X.w X.K X.mg X.base k C m ps sp)(c:Cls X.K C)(hr:dg k X.A)(he:PE X o ta)(ht:eval (.Call (.Attribute o m apos) [] [] pos) X.env=(do
   let ov ←eval o X.env
   standAt apos.atName
   let (f,first) ←holding [ov] (getMethod ov m pl)
   callWith pos f first (backTo pos (starEach [] X.env)) (backToKw pos (keywordEach [] X.env))):=by rfl):
 PE X (.Call (.Attribute o m apos) [] [] pos) (Jh C m sp [] E0 ta Sx):=by
 obtain⟨f,fd,G,hm,hb⟩:=M;exact Oc he c hm G hr hb .nil Js ht
noncomputable def W7(C:Addr)(m:Str)(sp:Sp)(E:St->XK)(ta:TE)(t:TA):TE:=λσ H Q=>ta σ H λx H1=>∃a dx fs,x = .ref a/\H1 a=some (.ins C dx fs)/\fs.lookup m=none/\t σ H1 λvs H2=>sp (x::vs) H2 Q (E σ)
theorem Tf{pins:List (Addr×Obj)}{σ:St}{H:Hp}{s:Shared}{Q:VK}{us:List Value}{vs:List V}{f:Addr}{fd:FuncData}(G:bO X.prog X.w X.K X.mg X.base (pY X.prog X.w) k f fd ps sp)(hx:X.ex=[])(R:Rz X E)(hr:dg k X.A)(hb:Binds X.K fd ps [])(I:Inv X pins σ H s)(r:Vals vs us)(q:sp vs H Q (E σ)):wpAny (model X.prog X.w) X.A (call (.ref f) us) (EP X pins σ Q) X.xe s:=by
 have hlen:us.length=ps.length:=by rw[←r.length];exact G.len _ _ _ _ q
 have hbd:=hb s us I.mO (by rw[List.append_nil];exact hlen);rw[List.append_nil] at hbd;refine wpAny_call (codeAny_mono (G.run X.A X.stack s H ⟨us,[]⟩ us vs Q (E σ) hr I.env0 hbd r q) λres s' hq=>?_)
 match res,hq with
 | .error ev,hq=>exact vg hx R I hq
 | .ok (.ret u),hq=>exact I.after hq
theorem rJ{pl:Sem Bool}(M:j9 X.prog X.w X.K X.mg X.base k C m ps sp)(c:Cls X.K C)(hx:X.ex=[])(R:Rz X E)(hr:dg k X.A)(he:PE X o ta)(ha:PA X (e::es) t)(hst:starEach (e::es) X.env=(false,eval e X.env)::starEach es X.env:=by rfl)(hpl:(backTo pos (starEach es X.env)).any (·.1)=false:=by rfl)(ht:eval (.Call (.Attribute o m apos) (e::es) [] pos) X.env=(do
   let ov ←eval o X.env
   standAt apos.atName
   let (f,first) ←holding [ov] (getMethod ov m pl)
   callWith pos f first (backTo pos (starEach (e::es) X.env)) (backToKw pos (keywordEach [] X.env))):=by rfl):
 PE X (.Call (.Attribute o m apos) (e::es) [] pos) (W7 C m sp E ta t):=by
 obtain⟨f,fd,G,hm,hb⟩:=M;intro pins s σ H Q I h;refine PySem.W.methodCall_KW (pl:=pl) (cX (he pins s σ H _ I h) λu s1 ⟨x,H1,I1,rx,a,dx,fs,ex,ea,l,q⟩=>?_) ht;subst ex;obtain rfl:u=Value.ref a:=rx;refine qz I1 ea c hm l ?_;refine PySem.W.callWith_K (first:=[.ref a]) (h₀:=X.base) I.ok.mod.Hq hm.kp (cX (ha pos pins s1 σ H1 _ I1 q) λus s2 ⟨vs,H2,I2,r,q2⟩=>⟨I2.mO, ?_⟩) hst hpl;exact Tf (us:= .ref a::us) (vs:= .ref a::vs) G hx R hr hb I2 (.cons rfl r) q2
theorem rK(M:qH X.prog X.w X.K X.mg X.base k C x ps nH sp)(hr:dg (k+1) X.A)(hg:Gl X x)(ha:PA X (e::es) t)(hdb:(x==("__debug__" :Str))=false:=by decide)(he:starEach (e::es) X.env=(false,eval e X.env)::starEach es X.env:=by rfl)(hpl:(backTo pos (starEach es X.env)).any (·.1)=false:=by rfl):
 PE X (.Call (.Name x p) (e::es) [] pos) (VF C sp nH E0 t):=by
 obtain⟨f,fd,ds,G,mk,hm,hb,hd⟩:=M;exact TV mk G hr hg hm hb hd Js ha hdb he hpl
noncomputable def W8(C:Addr)(sp:Sp)(nH:List V)(E:St->XK)(t:TA):TE:=λσ H Q=>t σ H λvs H1=>∀x dx,H1 x=none->H1 dx=none->dx≠x ->
 sp (.ref x::(vs++nH)) (upd (upd H1 dx (.own x)) x (.ins C dx [])) (λv H2=>v = .non/\Q (.ref x) H2) (E σ)
theorem Kq{pins:List (Addr×Obj)}{σ:St}{H:Hp}{s:Shared}{Q:VK}{args:Args}{us:List Value}{vs:List V}{f:Addr}{fd:FuncData}(M:Mk X.K C f)(G:bO X.prog X.w X.K X.mg X.base (pY X.prog X.w) k f fd ps sp)(hx:X.ex=[])(R:Rz X E)(hr:dg (k+1) X.A)(I:Inv X pins σ H s)(r:Vals vs us)(hb:∀s':Shared,X.K.In s'.heap -> ∀a:Addr,(Value.ref a::us).length=ps.length->BindsTo s' fd ⟨Value.ref a::args.pos,args.kw⟩ (ps.zip (Value.ref a::us)))(h:∀x dx,H x=none->H dx=none->dx≠x->sp (.ref x::vs) (upd (upd H dx (.own x)) x (.ins C dx [])) (λv H2=>v = .non/\Q (.ref x) H2) (E σ)):
 wpAny (model X.prog X.w) X.A (call (.ref C) args.pos args.kw) (EP X pins σ Q) X.xe s:=by
 have hq:=h (s.heap.objs.size+1) s.heap.objs.size (I.hok.fresh (Nat.le_succ _)) (I.hok.fresh (aar _)) (abe (Nat.lt_succ_self _));have I2:=Inv.made (C:=C) I;have r2:Vals (V.ref (s.heap.objs.size+1)::vs) (Value.ref (s.heap.objs.size+1)::us):= .cons rfl r
 have hl:(Value.ref (s.heap.objs.size+1)::us).length=ps.length:=by
  have e:=r2.length;rw[G.len _ _ _ _ hq] at e;exact e.symm
 refine wpAny_call (En (f:=f) I.mO M.makes M.init (beq_iff_eq.mp M.fn) (codeAny_mono (G.run _ X.stack _ _ ⟨Value.ref (s.heap.objs.size+1)::args.pos,args.kw⟩ (Value.ref (s.heap.objs.size+1)::us) _ _ (E σ) (hr.make C args.pos args.kw)
  (I2.env0.make C args.pos args.kw) (hb _ I2.mO _ hl) r2 hq) λr s' hq'=>?_))
 match r,hq' with
 | .error ev,hq'=>exact vg hx R I2 hq'
 | .ok (.ret u),hq'=>
   obtain⟨v,H',I3,rv,ev,q3⟩:=I2.after hq';subst ev;exact⟨rv,⟨V.ref (s.heap.objs.size+1),H',I3,Z,q3⟩⟩
theorem Od(M:mX X.prog X.w X.K X.mg X.base k C x ps nH sp)(hx:X.ex=[])(R:Rz X E)(hr:dg (k+1) X.A)(hg:Gl X x)(ha:PA X (e::es) t)(hdb:(x==("__debug__" :Str))=false:=by decide)(he:starEach (e::es) X.env=(false,eval e X.env)::starEach es X.env:=by rfl)(hpl:(backTo pos (starEach es X.env)).any (·.1)=false:=by rfl):
 PE X (.Call (.Name x p) (e::es) [] pos) (W8 C sp nH E t):=by
 obtain⟨f,fd,ds,G,mk,hm,hb,hd⟩:=M;intro pins s σ H Q I h;refine wpAny_Call_Name_kw (jZ I hg hm ?_ hdb);refine PySem.W.callWith_K (h₀:=X.base) I.ok.mod.Hq mk.kp (cX (ha pos pins s σ H _ I h) λus s1 ⟨vs,H1,I1,r,q⟩=>⟨I1.mO, ?_⟩) he hpl;exact Kq (args:=⟨us,[]⟩) (us:=us++ds) (vs:=vs++nH) mk G hx R hr I1 (r.append hd) (λs' ki a hl=>hb s' (Value.ref a::us) ki hl) q
end
end L2
namespace L2
open PySem PySem.Spec PyProof.Rows PySem.Builtin PySem.Builtin.Str
section
variable{X:Cx}{K:PySem.W.Frag}{o e value:Expr}{f:Str}{pos pos' tpos:Pos}{ta tv:TE}
theorem aY(hK:X.K=K)(he:PE X e ta)(hb:attributeBase e f X.env (eval e X.env)=eval e X.env):PE X (.Attribute e f pos) (aaz K ta f):=by subst hK;exact X4 he hb
theorem cM(hK:X.K=K)(ha:PE X o ta)(hv:PE X value tv)(hs:swapsWith value (some (.Attribute o f pos')) pos.line X.env=pure false):PS X (.Assign [.Attribute o f pos'] value pos) (aaM K ta tv f):=by subst hK;exact XH ha hv hs
theorem wz{op:Operator}{rd:V->V->Hp->VK->Prop}(hK:X.K=K)(ha:PE X o ta)(hv:PE X value tv)(hop:acI X op rd):PS X (.AugAssign (.Attribute o f tpos) op value pos) (Jo K ta tv rd f):=by subst hK;exact Kr ha hv hop
noncomputable def aaV:V->List V->Hp->VK->Prop:=λx vs H Q=>∃(a y:Str) (i:Nat) (r:List Nat),x = .str a/\vs=[.str y]/\occurrences a y 0 a.length 1=i::r/\Q (.int i) H
theorem zy:Zw X "str.index" aaV:=by
 intro pins s σ H x vs v us Q I rx rv h;obtain⟨a,y,i,r,rfl,rfl,ho,q⟩:=h;obtain⟨t,rfl⟩:=rx;obtain⟨u,rfl,ru⟩:=rv.one;obtain⟨t2,rfl⟩:=ru;exact call_meets PySem.F.slot_str_index (typeIs_str _ _ _) PySem.F.entry_str_index (PySem.F.args_str_index_2 _ _) (gives_str_index a y t t2 i r ho).meets ⟨.int i,H,I.tok _,⟨_,Z⟩,q⟩
end
structure Vv(K:PySem.W.Frag)(x qual:Str)(st:Stmt)(ds:List Value)(f:Addr)(fd:FuncData):Prop where
 ex:∃(oc:Value) (od:Option Addr) (T:Addr) (kV doc pm:Value) (an:Option Addr) (cdv ct:Value) (osl:Array (Option Value)) (tc:Value) (td:Option Addr) (tn:Nat) (RW:Array (Option Value)),
  fd=PySem.W.fnOf x qual (cu st) (cW st) (aK st) (.ref T) kV doc pm an cdv ct/\K.lookup f=some ⟨oc,od,.func fd,osl⟩/\PySem.W.codeIn K cdv qual=true/\K.lookup T=some ⟨tc,td,.seq ds.toArray tn,RW⟩
 kp:PySem.W.keepIn K (.ref f)=true
section
variable{P:Program}{w:World}{K:PySem.W.Frag}{mg:Str->Option Value}{base:Heap}
theorem Vv.Uk{x qual:Str}{st:Stmt}{ds:List Value}{f:Addr}{fd:FuncData}{N ps:List Str}{k:Nat}{sp:Sp}(F:Vv K x qual st ds f fd)(S:bh N ps (aK st))(len:∀vs H Q E,sp vs H Q E->vs.length=ps.length)(hbody:∀(cdv:Value)(A:Around)(outer:List Env)(s:Shared)(H:Hp)(vs:List V)(Q:VK)(E:XK),dg k (A.deeper (envOfC qual (aK st) s.heap.objs.size f cdv))->sp vs H Q E ->
   Rz (mV (pY P w) P w K mg base N qual (aK st) f cdv A outer s H E) (λ_=>E) ->
   ∃t,Df (mV (pY P w) P w K mg base N qual (aK st) f cdv A outer s H E) (cW st) t/\t {nx:=λ_ H'=>Q .non H',rt:=Q} (start N vs) H):bO P w K mg base (pY P w) (k+1) f fd ps sp:=by
 obtain⟨oc,od,T,kV,doc,pm,an,cdv,ct,osl,tc,td,tn,RW,rfl,lk,hcd,_⟩:=F.ex;exact JN lk hcd S len λA outer s H vs Q E hr hsp=>hbody cdv A outer s H vs Q E hr hsp DW
end
section
variable{X:Cx}{k:Nat}{C:Addr}{x kn:Str}{ps:List Str}{sp:Sp}{e ke:Expr}{es:List Expr}{te:TE}{t:TA}{p pos kpos:Pos}{E:St->XK}
end
end L2
namespace L2
open PySem PySem.Spec PyProof.Rows
section
variable{prog:Program}{w:World}{A:Around}{E:Value->Shared->Prop}{s:Shared}{it d:Addr}{ep:Nat}{od:Obj}{es:Array DictEntry}
end
section
variable{X:Cx}{pins:List (Addr×Obj)}{σ:St}{H:Hp}{s:Shared}{d:Addr}
end
section
variable{X:Cx}{tg:Expr}
end
section
variable{d D:Addr}{o:Obj}{kvs:List (List Key×V)}{tc:TT}{te:TE}{Q:VK}{rest:St}{H1:Hp}
end
section
variable{prog:Program}{w:World}{A:Around}{E:Value->Shared->Prop}{s:Shared}
end
section
variable{X:Cx}{pos:Pos}
end
end L2
namespace L2
open PySem
noncomputable abbrev Tg:=Addr->List Nat
noncomputable def aM(τ:Tg)(x:Addr)(t:List Nat):Tg:=λy=>if y=x then t else τ y
theorem bD{τ:Tg}{x:Addr}{t:List Nat}:aM τ x t x=t:=acM rfl
theorem aN{τ:Tg}{x y:Addr}{t:List Nat}(h:y≠x):aM τ x t y=τ y:=acK h
noncomputable def j8(τ:Tg)(H:Hp):Prop:=∀x,H x=none->τ x=[]
theorem j8.dom{τ:Tg}{H H':Hp}(u:j8 τ H)(d:∀x,H' x=none->H x=none):j8 τ H':=λx e=>u x (d x e)
theorem j8.same{τ:Tg}{H H':Hp}(u:j8 τ H)(k:Same H H'):j8 τ H':=u.dom λ_ e=>k.free e
theorem j8.claim{τ:Tg}{H H':Hp}{p:Addr}{t:List Nat}(u:j8 τ H)(k:Same H H')(hp:∃o,H' p=some o):j8 (aM τ p t) H':=λx e=>by
 have n:x≠p:=λz=>by
  obtain⟨o,ho⟩:=hp;rw[z,ho] at e;cases e
 rw[aN n];exact u.same k x e
theorem dD{τ:Tg}{a b:Addr}{s t:List Nat}(ha:τ a=s)(hb:τ b=t)(h:s≠t):a≠b:=λe=>h (by rw[←ha,←hb,e])
structure nu(i:Nat)(τ:Tg)(H H':Hp):Prop where
 keep:∀x o,H x=some o->(τ x).head?≠some i->H' x=some o
 tup:∀x xs,H x=some (.tup xs)->H' x=some (.tup xs)
 dom:∀x,H' x=none->H x=none
theorem nu.of_same{i:Nat}{τ:Tg}{H H':Hp}(k:Same H H'):nu i τ H H':=⟨λx o e _=>k _ _ e,λx xs e=>k _ _ e,λx e=>k.free e⟩
theorem nu.refl(i:Nat)(τ:Tg)(H:Hp):nu i τ H H:= .of_same (Same.refl _)
theorem nu.trans{i:Nat}{τ:Tg}{H H1 H2:Hp}(a:nu i τ H H1)(b:nu i τ H1 H2):nu i τ H H2:=⟨λx o e n=>b.keep _ _ (a.keep _ _ e n) n,λx xs e=>b.tup _ _ (a.tup _ _ e),λx e=>a.dom _ (b.dom _ e)⟩
theorem nu.set{i:Nat}{τ:Tg}{H:Hp}{x:Addr}{o u:HO}(ht:(τ x).head?=some i)(hx:H x=some o)(hn:∀xs,o ≠ .tup xs):nu i τ H (upd H x u):=by
 refine⟨λy v e n=>?_,λy xs e=>?_,λy e=>?_⟩
 .have z:y≠x:=λz=>n (by rw[z];exact ht)
  rw[aC z];exact e
 .rw[aC (cY e hx λz=>hn xs z.symm)];exact e
 .by_cases z:y=x
  .rw[z,ak] at e;cases e
  .rw[aC z] at e;exact e
theorem nu.un{i:Nat}{τ:Tg}{H H':Hp}(a:nu i τ H H')(u:j8 τ H):j8 τ H':=u.dom a.dom
structure Mv(i:Nat)(τ:Tg)(H:Hp)(τ':Tg)(H':Hp):Prop where
 keep:∀x o,H x=some o->τ x=[0]\/(τ x).head?=some i->H' x=some o/\τ' x=τ x
 tup:∀x xs,H x=some (.tup xs)->H' x=some (.tup xs)
theorem Mv.of_same{i:Nat}{τ:Tg}{H H':Hp}(k:Same H H'):Mv i τ H τ H':=⟨λx o e _=>⟨k _ _ e,Z⟩,λx xs e=>k _ _ e⟩
theorem Mv.tags{i:Nat}{τ τ':Tg}{H H':Hp}(k:Same H H')(t:∀x o,H x=some o->τ' x=τ x):Mv i τ H τ' H':=⟨λx o e _=>⟨k _ _ e,t x o e⟩,λx xs e=>k _ _ e⟩
theorem Mv.claim{i:Nat}{τ:Tg}{H H':Hp}{p:Addr}{t:List Nat}(k:Same H H')(hp:H p=none):Mv i τ H (aM τ p t) H':= .tags k λx o e=>aN (ao e hp)
theorem Mv.mK{i j:Nat}{τ:Tg}{H H':Hp}(k:nu j τ H H')(h:j≠i)(h0:j≠0):Mv i τ H τ H':=⟨λx o e t=>⟨k.keep _ _ e (by
 rcases t with t|t
 .rw[t];intro z;exact h0 (aa6 z).symm
 .rw[t];intro z;exact h (aa6 z).symm),Z⟩,k.tup⟩
theorem Mv.aa2{i:Nat}{τ:Tg}{H H':Hp}{a:Addr}{o:HO}(k:Kp a H H')(ha:H a=some o)(hn:∀xs,o ≠ .tup xs)(ht:τ a=[]):Mv i τ H τ H':=⟨λx u e t=>⟨k _ _ e (λz=>by
 rw[z,ht] at t;rcases t with t|t<;>cases t),Z⟩,λx xs e=>k _ _ e (cY e ha λz=>hn xs z.symm)⟩
theorem Mv.trans{i:Nat}{τ τ1 τ2:Tg}{H H1 H2:Hp}(a:Mv i τ H τ1 H1)(b:Mv i τ1 H1 τ2 H2):Mv i τ H τ2 H2:=⟨λx o e t=>by
 obtain⟨e1,t1⟩:=a.keep x o e t;obtain⟨e2,t2⟩:=b.keep x o e1 (by rw[t1];exact t);exact⟨e2,by rw[t2,t1]⟩,λx xs e=>b.tup _ _ (a.tup _ _ e)⟩
end L2
namespace Prf
open PySem L2
inductive Vy where
 | num (n:Int)
 | box (b:Nat)
 deriving DecidableEq
inductive Ge where
 | one (x:Vy)
 | two (p:Bool) (x y:Vy)
 deriving DecidableEq
inductive Rw where
 | load (b c:Nat)
 | store (c:Nat) (e:Ge)
 | swap (b c:Nat) (e:Ge)
 | yJ (b:Nat) (e:Ge)
 | say (e:Ge)
 | go (k:Nat)
 | Ad (q:Bool) (e f:Ge) (k:Nat)
 deriving DecidableEq
noncomputable def yC(b:Nat):Str:=⟨#[97+b]⟩
noncomputable def Gf:Vy->PyData
 | .num n=> .tuple [.str "number",.int n]
 | .box b=> .tuple [.str "box",.str (yC b)]
noncomputable def qC:Ge->PyData
 | .one x=>Gf x
 | .two p x y=> .tuple [.str (if p then "plus" else "minus"),Gf x,Gf y]
noncomputable def uH:Rw->PyData
 | .load b c=> .tuple [.str "load",.str (yC b),.int c]
 | .store c e=> .tuple [.str "store",.int c,qC e]
 | .swap b c e=> .tuple [.str "swap",.str (yC b),.int c,qC e]
 | .yJ b e=> .tuple [.str "let",.str (yC b),qC e]
 | .say e=> .tuple [.str "say",qC e]
 | .go k=> .tuple [.str "go",.int k]
 | .Ad q e f k=> .tuple [.str "unless",.str (if q then "=" else "<"),qC e,qC f,.int k]
noncomputable def RL:Vy->Prop
 | .num n=>0<=n/\n<1000
 | .box b=>b<8
noncomputable def u5:Ge->Prop
 | .one x=>RL x
 | .two _ x y=>RL x/\RL y
noncomputable def Gy(m:Nat):Rw->Prop
 | .load b c=>b<8/\c<m
 | .store c e=>c<m/\u5 e
 | .swap b c e=>b<8/\c<m/\u5 e
 | .yJ b e=>b<8/\u5 e
 | .say e=>u5 e
 | .go _=>True
 | .Ad _ e f _=>u5 e/\u5 f
theorem Qa:∀x:Vy,C_ (Gf x)=true
 | .num _=>rfl
 | .box _=>rfl
theorem xr:∀e:Ge,C_ (qC e)=true
 | .one x=>Qa x
 | .two p x y=>by simp only[qC,C_,qw,Qa,Bool.and_self]
theorem Qc:∀r:Rw,C_ (uH r)=true
 | .load _ _=>rfl
 | .store _ e=>by simp only[uH,C_,qw,xr,Bool.and_self]
 | .swap _ _ e=>by simp only[uH,C_,qw,xr,Bool.and_self]
 | .yJ _ e=>by simp only[uH,C_,qw,xr,Bool.and_self]
 | .say e=>by simp only[uH,C_,qw,xr,Bool.and_self]
 | .go _=>rfl
 | .Ad _ e f _=>by simp only[uH,C_,qw,xr,Bool.and_self]
section
variable{H:Hp}{v:V}
theorem eO{vs:List V}{d:PyData}{ds:List PyData}(h:aP H vs (d::ds)):∃v ws,vs=v::ws/\Dat H v d/\aP H ws ds:=by
 cases vs with
 | nil=>exact h.elim
 | cons v ws=>exact⟨v,ws,Z,h.1,h.2⟩
theorem jA{vs:List V}(h:aP H vs []):vs=[]:=by
 cases vs with
 | nil=>rfl
 | cons v ws=>exact h.elim
theorem Wx{x:Vy}(h:Dat H v (Gf x)):∃t,v = .ref t/\H t=some (.tup (match x with | .num n=>[.str "number",.int n] | .box b=>[.str "box",.str (yC b)])):=by
 cases x<;>simp only[Gf,Dat] at h<;>obtain⟨t,vs,rfl,e,d⟩:=h<;>refine⟨t,Z, ?_⟩<;>rw[e] <;>
 .obtain⟨_,_,rfl,e1,d11⟩:=eO d
  obtain⟨_,_,rfl,e2,QH⟩:=eO d11;cases jA QH;cases e1;cases e2;rfl
theorem Zn{p:Bool}{x y:Vy}(h:Dat H v (qC (.two p x y))):∃t a b,v = .ref t/\H t=some (.tup [.str (if p then "plus" else "minus"),a,b])/\Dat H a (Gf x)/\Dat H b (Gf y):=by
 simp only[qC,Dat] at h;obtain⟨t,vs,rfl,e,d⟩:=h;obtain⟨_,_,rfl,e1,d11⟩:=eO d;obtain⟨_,_,rfl,e2,QH⟩:=eO d11;obtain⟨_,_,rfl,e3,xM⟩:=eO QH;cases jA xM;cases e1;exact⟨t,_,_,Z,e,e2,e3⟩
noncomputable def Parts(H:Hp)(vs:List V):Rw->Prop
 | .load b c=>vs=[.str "load",.str (yC b),.int c]
 | .store c e=>∃x,vs=[.str "store",.int c,x]/\Dat H x (qC e)
 | .swap b c e=>∃x,vs=[.str "swap",.str (yC b),.int c,x]/\Dat H x (qC e)
 | .yJ b e=>∃x,vs=[.str "let",.str (yC b),x]/\Dat H x (qC e)
 | .say e=>∃x,vs=[.str "say",x]/\Dat H x (qC e)
 | .go k=>vs=[.str "go",.int k]
 | .Ad q e f k=>∃x y,vs=[.str "unless",.str (if q then "=" else "<"),x,y,.int k]/\Dat H x (qC e)/\Dat H y (qC f)
theorem J3{r:Rw}(h:Dat H v (uH r)):∃t vs,v = .ref t/\H t=some (.tup vs)/\Parts H vs r:=by
 cases r<;>simp only[uH,Dat] at h<;>obtain⟨t,vs,rfl,e,d⟩:=h<;>refine⟨t,vs,Z,e, ?_⟩<;>obtain⟨_,_,rfl,e1,d11⟩:=eO d<;>cases e1<;>obtain⟨_,_,rfl,e2,QH⟩:=eO d11
 .obtain⟨_,_,rfl,e3,xM⟩:=eO QH
  cases jA xM;cases e2;cases e3;rfl
 .obtain⟨_,_,rfl,e3,xM⟩:=eO QH
  cases jA xM;cases e2;exact⟨_,Z,e3⟩
 .obtain⟨_,_,rfl,e3,xM⟩:=eO QH
  obtain⟨_,_,rfl,e4,Zh⟩:=eO xM;cases jA Zh;cases e2;cases e3;exact⟨_,Z,e4⟩
 .obtain⟨_,_,rfl,e3,xM⟩:=eO QH
  cases jA xM;cases e2;exact⟨_,Z,e3⟩
 .cases jA QH
  exact⟨_,Z,e2⟩
 .cases jA QH
  cases e2;rfl
 .obtain⟨_,_,rfl,e3,xM⟩:=eO QH
  obtain⟨_,_,rfl,e4,Zh⟩:=eO xM;obtain⟨_,_,rfl,e5,Z7⟩:=eO Zh;cases jA Z7;cases e2;cases e5;exact⟨_,_,Z,e3,e4⟩
end
noncomputable def v1(bs:List Int):Vy->Int
 | .num n=>n % 1000
 | .box b=>(bs[b]?).getD 0
noncomputable def vx(bs:List Int):Ge->Int
 | .one x=>v1 bs x
 | .two true x y=>(v1 bs x+v1 bs y) % 1000
 | .two false x y=>(v1 bs x - v1 bs y) % 1000
structure bI where
 (rws:List Rw) (pos:Nat) (bs sy:List Int) (st:Str)
noncomputable def touch:Rw->Bool
 | .load _ _=>true
 | .store _ _=>true
 | .swap _ _ _=>true
 | _=>false
noncomputable def um(bs:List Int):Rw->Bool
 | .Ad true e f _=>decide (vx bs e=vx bs f)
 | .Ad false e f _=>decide (vx bs e<vx bs f)
 | _=>false
noncomputable def p7(s:bI):Rw->bI
 | .yJ b e=>{s with pos:=s.pos+1,bs:=s.bs.set b (vx s.bs e)}
 | .say e=>{s with pos:=s.pos+1,sy:=s.sy++[vx s.bs e]}
 | .go k=>{s with pos:=k}
 | .Ad q e f k=>{s with pos:=if um s.bs (.Ad q e f k) then s.pos+1 else k}
 | _=>s
noncomputable def led:Nat->bI->bI
 | 0,s=>match s.rws[s.pos]? with
   | none=>{s with st:= "ends" }
   | some r=>if touch r then {s with st:= "waits" } else {s with st:= "lost" }
 | n+1,s=>match s.rws[s.pos]? with
   | none=>{s with st:= "ends" }
   | some r=>if touch r then {s with st:= "waits" } else led n (p7 s r)
noncomputable def lead(s:bI):bI:=led 60 s
theorem zP(s:bI)(r:Rw):(p7 s r).rws=s.rws:=by cases r<;>rfl
theorem Fg(s:bI)(r:Rw):(p7 s r).sy.length<=s.sy.length+1:=by cases r<;>simp[p7]
theorem rR:∀(n:Nat)(s:bI),(led n s).rws=s.rws
 | 0,s=>by
   unfold led;split
   .rfl
   .split<;>rfl
 | n+1,s=>by
   unfold led;split
   .rfl
   .split
    .rfl
    .rw[rR,zP]
theorem Hi:∀(n:Nat)(s:bI),(led n s).sy.length<=s.sy.length+n
 | 0,s=>by
   unfold led;split
   .simp
   .split<;>simp
 | n+1,s=>by
   unfold led;split
   .simp
   .split
    .simp
    .rename_i r _ _
     have:=Hi n (p7 s r);have:=Fg s r;lia
noncomputable def jU(s:bI):Prop:=s.st = "waits" -> ∃r,s.rws[s.pos]? = some r/\touch r=true
theorem Cg:(Str.ofString "ends")≠Str.ofString "waits" :=by decide +kernel
theorem Jz:(Str.ofString "lost")≠Str.ofString "waits" :=by decide +kernel
theorem Hj:∀(n:Nat)(s:bI),jU (led n s)
 | 0,s=>by
   unfold led jU;split
   .intro z;exact acP z Cg
   .rename_i r e
    split
    .intro _;exact⟨r,e,by assumption⟩
    .intro z;exact acP z Jz
 | n+1,s=>by
   unfold led;split
   .intro z;exact acP z Cg
   .rename_i r e
    split
    .intro _;exact⟨r,e,by assumption⟩
    .exact Hj n _
noncomputable def new(rws:List Rw):bI:=⟨rws,0,List.replicate 8 0,[],"waits"⟩
structure gU where
 (m:Nat) (ns:List Int) (hs:List bI) (ts:List Int)
noncomputable def Fx:Rw->Nat
 | .load _ c=>c
 | .store c _=>c
 | .swap _ c _=>c
 | _=>0
noncomputable def aag:Rw->Str
 | .load _ _=> "load"
 | .store _ _=> "store"
 | .swap _ _ _=> "swap"
 | .yJ _ _=> "let"
 | .say _=> "say"
 | .go _=> "go"
 | .Ad _ _ _ _=> "unless"
noncomputable def aaP(ns:List Int):Rw->Option Int
 | .load _ c=>ns[c]?
 | .swap _ c _=>ns[c]?
 | _=>none
noncomputable def aaf(bs:List Int):Rw->Option Int
 | .store _ e=>some (vx bs e)
 | .swap _ _ e=>some (vx bs e)
 | _=>none
noncomputable def oV:Option Int->V
 | none=> .non
 | some i=> .int i
noncomputable def oD:Option Int->PyData
 | none=> .none
 | some i=> .int i
noncomputable def Gm(ns bs:List Int)(r:Rw):List V:=[.str (aag r),.int (Fx r),oV (aaP ns r),oV (aaf bs r)]
noncomputable def Cu(ns bs:List Int):Rw->List Int
 | .load b c=>bs.set b ((ns[c]?).getD 0)
 | .swap b c _=>bs.set b ((ns[c]?).getD 0)
 | _=>bs
noncomputable def mW(ns bs:List Int):Rw->List Int
 | .store c e=>ns.set c (vx bs e)
 | .swap _ c e=>ns.set c (vx bs e)
 | _=>ns
noncomputable def lO(ns:List Int)(s:bI)(r:Rw):bI:=lead {s with pos:=s.pos+1,bs:=Cu ns s.bs r}
noncomputable def fK(S:gU)(k:Nat):gU:=match S.hs[k]? with
 | none=>S
 | some s=>match s.rws[s.pos]? with
   | none=>S
   | some r=>{S with ns:=mW S.ns s.bs r,hs:=S.hs.set k (lO S.ns s r),ts:=S.ts++[(k:Int)]}
noncomputable def Cv(m:Nat)(ns:List Int)(rws:List (List Rw)):gU:=⟨m,ns,rws.map λr=>lead (new r),[]⟩
end Prf
namespace L2
open PySem Prf
end L2
namespace L2
open PySem PySem.Spec PyProof.Rows
section
variable{X:Cx}{k:Nat}{C:Addr}{sp:Sp}
theorem S_{pins:List (Addr×Obj)}{σ:St}{H:Hp}{s:Shared}{Q:VK}{us:List Value}{vs:List V}{f:Addr}{fd:FuncData}{ps:List Str}(G:bO X.prog X.w X.K X.mg X.base iy k f fd ps sp)(hr:dg (k+1) X.A)(hb:Binds X.K fd ps [])(I:Inv X pins σ H s)(r:Vals vs us)(q:sp vs H Q E0):wpAny (model X.prog X.w) X.A.in1 (call (.ref f) us) (EP X pins σ Q) X.xe s:=by
 have hlen:us.length=ps.length:=by rw[←r.length];exact G.len _ _ _ _ q
 have hbd:=hb s us I.mO (by rw[List.append_nil];exact hlen);rw[List.append_nil] at hbd;refine wpAny_call (codeAny_mono (G.run X.A.in1 X.stack s H ⟨us,[]⟩ us vs Q E0 hr.in1 I.env0.in1 hbd r q) λres s' hq=>?_)
 match res,hq with
 | .error ev,hq=>exact False.elim hq
 | .ok (.ret u),hq=>exact I.after hq
end
structure IsO(K:PySem.W.Frag)(mg:Str->Option Value)(C:Addr)(nm:Str):Prop where
 bd:mg nm=some (.ref C)
 ha:PySem.W.findIn K (.ref C) "__class__" = some (some (.builtin "object.__class__"))
 hn:PySem.W.specialIn K (.builtin "object.__class__") "__get__" = some (some (.builtin "getset_descriptor.__get__"))
 ht:PySem.W.takesIn K (.builtin "object.__class__")=some true
 hm:PySem.W.mroIn K C (.type "object")=some true
theorem IsO.ty{K:PySem.W.Frag}{mg:Str->Option Value}{C:Addr}{nm:Str}(o:IsO K mg C nm){H:Hp}{a dx:Addr}{fs:List (Str×V)}(e:H a=some (.ins C dx fs))(c:Cls K C):qG K H (.ref a) (.ref C):= .ins e c o.ha o.hn o.ht o.hm
end L2
namespace Prf
open PySem L2
noncomputable def inR(x:Int):Prop:=0<=x/\x<1000
noncomputable def allR(l:List Int):Prop:=∀x∈l,inR x
theorem FQ{l:List Int}(h:allR l)(i:Nat):inR ((l[i]?).getD 0):=by
 cases e:l[i]? with
 | none=>exact⟨by decide,by decide⟩
 | some x=>exact h x (aaK e)
theorem yd{l:List Int}(h:allR l)(i:Nat){x:Int}(hx:inR x):allR (l.set i x):=λy hy=>by
 rcases List.mem_or_eq_of_mem_set hy with m|e
 .exact h y m
 .rw[e];exact hx
theorem BL(x:Int):inR (x % 1000):=⟨Int.emod_nonneg _ (by decide),Int.emod_lt_of_pos _ (by decide)⟩
theorem MK{bs:List Int}(h:allR bs):∀e:Ge,inR (vx bs e)
 | .one (.num n)=>BL n
 | .one (.box b)=>FQ h b
 | .two true x y=>BL _
 | .two false x y=>BL _
theorem Vc{s:bI}(h:allR s.bs)(r:Rw):allR (p7 s r).bs:=by
 cases r<;>first |exact h|exact yd h _ (MK h _)
theorem Px:∀(n:Nat)(s:bI),allR s.bs->allR (led n s).bs
 | 0,s,h=>by
   unfold led;split
   .exact h
   .split<;>exact h
 | n+1,s,h=>by
   unfold led;split
   .exact h
   .split
    .exact h
    .exact Px n _ (Vc h _)
noncomputable def SQ(x:Str):Prop:=x = "waits" \/ x = "ends" \/ x = "lost"
theorem wX:∀(n:Nat)(s:bI),SQ (led n s).st
 | 0,s=>by
   unfold led;split
   .exact .inr (.inl rfl)
   .split
    .exact .inl rfl
    .exact .inr (.inr rfl)
 | n+1,s=>by
   unfold led;split
   .exact .inr (.inl rfl)
   .split
    .exact .inl rfl
    .exact wX n _
structure gn(S:gU):Prop where
 n:allR S.ns
 b:∀s∈S.hs,allR s.bs
 t:∀s∈S.hs,SQ s.st
theorem Vg{ns bs:List Int}(h:allR ns)(hb:allR bs)(r:Rw):allR (mW ns bs r):=by
 cases r<;>first |exact h|exact yd h _ (MK hb _)
theorem Vk{ns bs:List Int}(h:allR ns)(hb:allR bs)(r:Rw):allR (Cu ns bs r):=by
 cases r<;>first |exact hb|exact yd hb _ (FQ h _)
theorem gn.turn{S:gU}(g:gn S)(k:Nat):gn (fK S k):=by
 unfold fK;split
 .exact g
 .rename_i s es
  split
  .exact g
  .rename_i r er
   have hb:=g.b s (aaK es);refine⟨Vg g.n hb r,λs' hs'=>?_,λs' hs'=>?_⟩
   .rcases List.mem_or_eq_of_mem_set hs' with m|e
    .exact g.b s' m
    .rw[e]
     exact Px _ _ (Vk g.n hb r)
   .rcases List.mem_or_eq_of_mem_set hs' with m|e
    .exact g.t s' m
    .rw[e]
     exact wX _ _
theorem Lj{m:Nat}{ns:List Int}{rws:List (List Rw)}(h:allR ns):gn (Cv m ns rws):=⟨h,λs hs=>by
 obtain⟨r,_,rfl⟩:=abG.mp hs;refine Px _ _ λx hx=>?_;rw[(List.mem_replicate.mp hx).2];exact⟨by decide,by decide⟩,λs hs=>by
 obtain⟨r,_,rfl⟩:=abG.mp hs;exact wX _ _⟩
theorem Cq:∀b:Fin 8,PyData.strOk (yC b.val)=true:=by decide +kernel
theorem Ia{x:Vy}(h:RL x):(Gf x).canLay0=true/\(Gf x).depth<=1:=by
 cases x with
 | num n=>exact⟨by show (PyData.strOk (Str.ofString "number")&&(true&&true))=true;decide +kernel,by show (max 0 (max 0 0))+1<=1;decide⟩
 | box b=>
   refine⟨?_,by show (max 0 (max 0 0))+1<=1;decide⟩;show (PyData.strOk (Str.ofString "box")&&(PyData.strOk (yC b)&&true))=true;rw[show PyData.strOk (yC b)=true from Cq ⟨b,h⟩];decide +kernel
theorem ur{e:Ge}(h:u5 e):(qC e).canLay0=true/\(qC e).depth<=2:=by
 cases e with
 | one x=>obtain⟨a,b⟩:=Ia (x:=x) h;exact⟨a,by show (Gf x).depth<=2;lia⟩
 | two p x y=>
   obtain⟨a1,b1⟩:=Ia h.1;obtain⟨a2,b2⟩:=Ia h.2;refine⟨?_, ?_⟩
   .show (PyData.strOk (if p then Str.ofString "plus" else Str.ofString "minus")&&(PyData.canLay0 (Gf x)&&(PyData.canLay0 (Gf y)&&true)))=true
    rw[a1,a2];cases p<;>decide +kernel
   .show max 0 (max (Gf x).depth (max (Gf y).depth 0))+1<=2
    lia
theorem QX{m:Nat}{r:Rw}(h:Gy m r):(uH r).canLay0=true/\(uH r).depth<=3:=by
 cases r with
 | load b c=>
   refine⟨?_,by show max 0 (max 0 (max 0 0))+1<=3;decide⟩;show (PyData.strOk (Str.ofString "load")&&(PyData.strOk (yC b)&&(true&&true)))=true;rw[show PyData.strOk (yC b)=true from Cq ⟨b,h.1⟩];decide +kernel
 | store c e=>
   obtain⟨a,d⟩:=ur h.2;refine⟨?_, ?_⟩
   .show (PyData.strOk (Str.ofString "store")&&(true&&(PyData.canLay0 (qC e)&&true)))=true
    rw[a];decide +kernel
   .show max 0 (max 0 (max (qC e).depth 0))+1<=3
    lia
 | swap b c e=>
   obtain⟨a,d⟩:=ur h.2.2;refine⟨?_, ?_⟩
   .show (PyData.strOk (Str.ofString "swap")&&(PyData.strOk (yC b)&&(true&&(PyData.canLay0 (qC e)&&true))))=true
    rw[a,show PyData.strOk (yC b)=true from Cq ⟨b,h.1⟩];decide +kernel
   .show max 0 (max 0 (max 0 (max (qC e).depth 0)))+1<=3
    lia
 | yJ b e=>
   obtain⟨a,d⟩:=ur h.2;refine⟨?_, ?_⟩
   .show (PyData.strOk (Str.ofString "let")&&(PyData.strOk (yC b)&&(PyData.canLay0 (qC e)&&true)))=true
    rw[a,show PyData.strOk (yC b)=true from Cq ⟨b,h.1⟩];decide +kernel
   .show max 0 (max 0 (max (qC e).depth 0))+1<=3
    lia
 | say e=>
   obtain⟨a,d⟩:=ur (e:=e) h;refine⟨?_, ?_⟩
   .show (PyData.strOk (Str.ofString "say")&&(PyData.canLay0 (qC e)&&true))=true
    rw[a];decide +kernel
   .show max 0 (max (qC e).depth 0)+1<=3
    lia
 | go k=>exact⟨by show (PyData.strOk (Str.ofString "go")&&(true&&true))=true;decide +kernel,by show max 0 (max 0 0)+1<=3;decide⟩
 | Ad q e f k=>
   obtain⟨a1,b1⟩:=ur h.1;obtain⟨a2,b2⟩:=ur h.2;refine⟨?_, ?_⟩
   .show (PyData.strOk (Str.ofString "unless")&&(PyData.strOk (if q then Str.ofString "=" else Str.ofString "<")&&(PyData.canLay0 (qC e)&&(PyData.canLay0 (qC f)&&(true&&true)))))=true
    rw[a1,a2];cases q<;>decide +kernel
   .show max 0 (max 0 (max (qC e).depth (max (qC f).depth (max 0 0))))+1<=3
    lia
noncomputable def j4(l:List Int):PyData:= .list (l.map PyData.int)
theorem rY(l:List Int):(j4 l).canLay0=true/\(j4 l).depth<=1:=⟨iM PyData.int l λ_ _=>rfl,by
 have:=dM PyData.int 0 l λ_ _=>by show 0<=0;decide
 show PyData.depthAll (l.map PyData.int)+1<=1;lia⟩
noncomputable def tZ(s:bI):PyData:= .tuple [.str s.st,if s.st = "waits" then .int s.pos else .none,j4 s.bs,j4 s.sy]
theorem aaF{x:Str}(h:SQ x):PyData.strOk x=true:=by
 rcases h with rfl|rfl|rfl<;>decide +kernel
theorem JZ{s:bI}(h:SQ s.st):(tZ s).canLay0=true/\(tZ s).depth<=2:=by
 obtain⟨a1,b1⟩:=rY s.bs;obtain⟨a2,b2⟩:=rY s.sy;have a3:(if s.st = "waits" then PyData.int s.pos else .none).canLay0=true:=by split<;>rfl
 have b3:(if s.st = "waits" then PyData.int s.pos else .none).depth=0:=by split<;>rfl
 refine⟨?_, ?_⟩
 .show (PyData.strOk s.st&&(PyData.canLay0 (if s.st = "waits" then PyData.int s.pos else .none)&&(PyData.canLay0 (j4 s.bs)&&(PyData.canLay0 (j4 s.sy)&&true))))=true
  rw[a1,a2,a3,aaF h];rfl
 .show max 0 (max (PyData.depth (if s.st = "waits" then PyData.int s.pos else .none)) (max (j4 s.bs).depth (max (j4 s.sy).depth 0)))+1<=2
  lia
noncomputable def rC(rws:List Rw):PyData:= .list (rws.map uH)
noncomputable def N8(S:gU):PyData:= .tuple [.int S.m,.list (S.hs.map λs=>rC s.rws)]
noncomputable def MF(S:gU)(cs:List Int):PyData:= .tuple [N8 S,j4 S.ns,.list (S.hs.map tZ),j4 cs]
theorem Fy{m:Nat}{rws:List Rw}(h:∀r∈rws,Gy m r):(rC rws).canLay0=true/\(rC rws).depth<=4:=⟨iM uH rws λr hr=>(QX (h r hr)).1,by
 have:=dM uH 3 rws λr hr=>(QX (h r hr)).2;show PyData.depthAll (rws.map uH)+1<=4;lia⟩
theorem Ib{S:gU}{cs:List Int}(g:gn S)(h:∀s∈S.hs,∀r∈s.rws,Gy S.m r):SeqAt.shaped (MF S cs)=true:=by
 obtain⟨a1,b1⟩:=rY S.ns;obtain⟨a2,b2⟩:=rY cs;have a3:PyData.canLay0 (.list (S.hs.map tZ))=true:=iM tZ S.hs λs hs=>(JZ (g.t s hs)).1;have b3:=dM tZ 2 S.hs λs hs=>(JZ (g.t s hs)).2;have a4:PyData.canLay0 (.list (S.hs.map λs=>rC s.rws))=true:=iM (λs:bI=>rC s.rws) S.hs λs hs=>(Fy (h s hs)).1;have b4:=dM (λs:bI=>rC s.rws) 4 S.hs λs hs=>(Fy (h s hs)).2
 have e1:PyData.canLay0 (MF S cs)=true:=by
  show ((true&&(PyData.canLay0 (.list (S.hs.map λs=>rC s.rws))&&true))&&(PyData.canLay0 (j4 S.ns)&&(PyData.canLay0 (.list (S.hs.map tZ))&&(PyData.canLay0 (j4 cs)&&true))))=true;rw[a1,a2,a3,a4];rfl
 have e2:PyData.depth (MF S cs)<=64:=by
  show max (max 0 (max (PyData.depthAll (S.hs.map λs=>rC s.rws)+1) 0)+1) (max (j4 S.ns).depth (max (PyData.depthAll (S.hs.map tZ)+1) (max (j4 cs).depth 0)))+1<=64;lia
 unfold SeqAt.shaped;rw[e1,aaL e2];rfl
mutual
theorem Fd:∀d:PyData,d.canLay0=true->PyData.eqv d d=true
 | .none,_=>rfl
 | .bool b,_=>by simp[PyData.eqv]
 | .int i,_=>by simp[PyData.eqv]
 | .str x,_=>by simp[PyData.eqv]
 | .list ds,h=>by simp only[PyData.eqv];exact uq ds (by simpa [PyData.canLay0] using h)
 | .tuple ds,h=>by simp only[PyData.eqv];exact uq ds (by simpa [PyData.canLay0] using h)
 | .dict _,h=>by simp[PyData.canLay0] at h
theorem uq:∀ds:List PyData,PyData.canLayAll0 ds=true->PyData.eqvAll ds ds=true
 | [],_=>rfl
 | d::ds,h=>by
   simp only[PyData.canLayAll0,abw] at h;simp only[PyData.eqvAll,abw];exact⟨Fd d h.1,uq ds h.2⟩
end
theorem Qt{d:PyData}(h:SeqAt.shaped d=true):PyData.eqv d d=true:=by
 unfold SeqAt.shaped at h;rw[abw] at h;exact Fd d h.1
noncomputable def isLoad:Rw->Bool
 | .load _ _=>true
 | _=>false
noncomputable def apart(r q:Rw):Prop:=Fx r≠Fx q\/(isLoad r=true/\isLoad q=true)
theorem Dp{S:gU}{k:Nat}{s:bI}{r:Rw}(es:S.hs[k]? = some s)(er:s.rws[s.pos]? = some r):fK S k={S with ns:=mW S.ns s.bs r,hs:=S.hs.set k (lO S.ns s r),ts:=S.ts++[(k:Int)]}:=by
 unfold fK;simp only[es,er]
end Prf
namespace L2
open PySem
noncomputable def nw(H H':Hp):Hp:=λx=>match H x with
 | none=>H' x
 | some _=>none
theorem zx{H H':Hp}{x:Addr}{o:HO}(n:H x=none)(e:H' x=some o):nw H H' x=some o:=by
 unfold nw;rw[n];exact e
theorem G7{H H':Hp}{x:Addr}{o:HO}(e:nw H H' x=some o):H x=none/\H' x=some o:=by
 unfold nw at e;cases q:H x with
 | none=>rw[q] at e;exact⟨Z,e⟩
 | some u=>rw[q] at e;cases e
theorem Ul(H H':Hp):Same (nw H H') H':=λx o e=>(G7 e).2
section
variable{K:PySem.W.Frag}{a D:Addr}{xs:List V}{te:TE}{Q:VK}{rest:St}{H1:Hp}
noncomputable def nwB(H1:Hp)(D:Addr)(H:Hp):Hp:=λx=>if x=D then none else nw H1 H x
theorem Jx{H H1:Hp}{x:Addr}{o:HO}(e:nwB H1 D H x=some o):x≠D/\H1 x=none/\H x=some o:=by
 unfold nwB at e
 by_cases z:x=D
 .rw[acM z] at e;cases e
 .rw[acK z] at e;exact⟨z,G7 e⟩
theorem O7{H H1:Hp}{x:Addr}{o:HO}(z:x≠D)(n:H1 x=none)(e:H x=some o):nwB H1 D H x=some o:=by
 unfold nwB;rw[acK z];exact zx n e
theorem O6{H H4:Hp}{o:HO}(s:Same H H4):Same (nwB H1 D H) (nwB H1 D (upd H4 D o)):=λx u e=>by
 obtain⟨z,n,h⟩:=Jx e;exact O7 z n (by rw[aC z];exact s _ _ h)
theorem Um{H H4:Hp}{o u:HO}(s:Same H1 H)(e:H D=some u):Same (nw H H4) (nwB H1 D (upd H4 D o)):=λx v h=>by
 obtain⟨n,h⟩:=G7 h;have z:x≠D:=(ao e n).symm;exact O7 z (s.free n) (by rw[aC z];exact h)
theorem Yj{H:Hp}:Same (nwB H1 D H) (nw H1 H):=λx o e=>by
 obtain⟨_,n,h⟩:=Jx e;exact zx n h
theorem LK(f:Nat->PyData)(hD:H1 D=none)(hq:bH K H1 a xs)(hx:xs.length<=100000)(hs:∀i x H (F:VK),xs[i]? = some x->Same H1 H->(∀y H',Same H H'->Dat (nw H H') y (f i)->F y H')->te (some x::rest) H F)(hd:∀H,Same H1 H->Dat (nw H1 H) (.ref D) (.list ((List.range xs.length).map f))->Q (.ref D) H):jf (Mt K a) (cG 0) vI te Q D (none::rest) H1:=by
 refine fY (K:=K) (xs:=xs) (λi σ H=>(∃v,σ=v::rest)/\Same H1 H /\ ∃vs,H D=some (.lst vs)/\aP (nwB H1 D H) vs ((List.range i).map f)) ⟨⟨none,Z⟩,aF hD,[],ak,by simp[aP]⟩ (λi σ H _ ⟨_,sm,_⟩=>sm.sqL _ _ hq) ?_ (λσ H ⟨_,sm,vs,e,d⟩=>hd H sm (oM (zx hD e) (d.same Yj _)));rintro i x σ H hi ⟨⟨v,rfl⟩,sm,vs,e,d⟩;have hil:i<xs.length:=(aae.mp hi).1;refine hs i x H _ hi sm λy H4 s4 dy=>?_;have hl:vs.length=i:=by rw[d.length];simp
 refine⟨vs,s4 _ _ e, ?_,⟨_,Z⟩,(sm.trans s4).newly hD,vs++[y],ak, ?_⟩
 .rw[sizeLine_eq];lia
 .rw[List.range_succ,abo]
  exact zQ (d.same (O6 s4) _) (dy.same (Um sm e) _)
end
end L2
namespace L2
open PySem PySem.Spec PyProof.Rows
structure NeO(K:PySem.W.Frag)(C:Addr):Prop where
 ne:PySem.W.findIn K (.ref C) "__ne__" = some (some (.builtin "object.__ne__"))
 ob:PySem.W.mroIn K C (.type "object")=some true
section
variable{prog:Program}{w:World}{A:Around}{E:Value->Shared->Prop}{s:Shared}{K:PySem.W.Frag}{x C f:Addr}{ox:Obj}{od:Option Obj}{b:Value}
theorem Pj{Q:PySem.Fin->Shared->Prop}(hu:A.units<cLine)(X:K.In s.heap)(I:PySem.W.InstAt s.heap x ox C od)(hs:PySem.W.findIn K (.ref C) "__eq__" = some (some (.ref f)))(hf:PySem.W.isFn K (.ref f)=true)(h:wpAny (model prog w) A (call (.ref f) [.ref x,b]) (λv s'=>∃t,v = .bool t/\Q (.done (.ret (.bool (!t)))) s') E s):wpAny (model prog w) A (Builtin.«object.__ne__» ⟨[.ref x,b],[]⟩) Q E s:=by
 unfold Builtin.«object.__ne__»;refine aas (m:=slotArgs "__ne__" 1 _) (aaE ?_);refine aas (m:=cRoomFor _ _) (wpAny_cRoomFor hu ?_);refine aas (m:=callSpecialIfBound? (.ref x) (Str.ofString "__eq__") [b]) (PySem.W.ifBound_K X I hs hf (wpAny_mono h (λv s' hv=>?_) λ_ _ e=>e));obtain⟨t,rfl,q⟩:=hv;exact aas (m:=truthy (.bool _)) (wpAny_truthy_bool (aaE q))
theorem Ut{Q:Value->Shared->Prop}{tb:Value}(hu:A.units+1<cLine)(X:K.In s.heap)(I:PySem.W.InstAt s.heap x ox C od)(hb:PySem.W.Looks (model prog w) s.heap (typeOf b) tb)(hn:PySem.W.notFirst K C tb=true)(N:NeO K C)(hs:PySem.W.findIn K (.ref C) "__eq__" = some (some (.ref f)))(hf:PySem.W.isFn K (.ref f)=true)(h:wpAny (model prog w) A.in1 (call (.ref f) [.ref x,b]) (λv s'=>∃t,v = .bool t/\Q (.bool (!t)) s') E s):wpAny (model prog w) A (compareOp .NotEq (.ref x) b) Q E s:=by
 have hu0:A.units<cLine:=by lia
 have one:wpAny (model prog w) A (tryCompare (.ref x) "__ne__" b) (λr s'=>∃v,r=some v/\Q v s') E s:=by
  unfold tryCompare;refine aas ?_;simp only[callSpecialIfBound?,bindSpecialIfBound?];refine wpAny_holding (aas (aas (aas (I.type.here ((PySem.W.looks_findIn X N.ne).here (aas (wpAny_askSetting (wpAny_ite ?_))))))));have hbd:PySem.W.Looks (model prog w) s.heap (bindSpecial (.builtin "object.__ne__") (.ref x)) (.builtin "object.__ne__",[.ref x]):=PySem.W.Looks.of_pure (PySem.F.slot_object_ne.bind _)
  have fin:wpAny (model prog w) A (call (.builtin "object.__ne__") ([.ref x]++[b]) >>= λv=>pure (some v)) (λa s'=>wpAny (model prog w) A (match a with |some Value.notImplemented=>pure none|none=>pure none|some v=>pure (some v)) (λr s'=>∃v,r=some v/\Q v s') E s') E s:=by
   refine aas (wpAny_call (codeAny_call_builtin PySem.F.slot_object_ne.plain F.cmpEntry_ne (PySem.W.check_slot F.cmpKind_ne F.cmpSplit_ne (I.type.andThen (PySem.W.looks_mroIn X N.ob)) (F.cmpArgs_ne _ _) (Pj (A:=A.in1) hu X I hs hf (wpAny_mono h (λv s' hv=>?_) λ_ _ e=>e)))));obtain⟨t,rfl,q⟩:=hv;refine⟨t,Z, ?_⟩;exact aaE (aaE ⟨_,Z,q⟩)
  split
  .exact aas (hbd.here (aaE (by exact fin)))
  .exact wpAny_tryCatch (aas (hbd.here (aaE (by exact fin))))
 refine PySem.W.cmp_ofNotEq ?_;unfold richCompare;simp only[oneThing_ref];refine wpAny_holding (aas (wpAny_cRoomFor hu0 (aas (I.type.here (aas (hb.here ?_))))));split
 .rename_i ql
  have no:PySem.W.subIn K tb (.ref C)=some false:=by
   rcases Bool.or_eq_true_iff.mp hn with y|y
   .rw[beq_iff_eq.mp y] at ql
    simp at ql
   .exact beq_iff_eq.mp y
  refine aas ((PySem.W.looks_subIn X no).here ?_);simp only[Bool.false_eq_true,if_false];refine aas (wpAny_mono one (λr t' y=>?_) λ_ _ y=>y);obtain⟨v,rfl,yq⟩:=y;exact aaE yq
 .refine aas (aaE ?_)
  simp only[Bool.false_eq_true,if_false];refine aas (wpAny_mono one (λr t' y=>?_) λ_ _ y=>y);obtain⟨v,rfl,yq⟩:=y;exact aaE yq
end
section
variable{X:Cx}{k:Nat}{C:Addr}{sp:Sp}
noncomputable def ae3(C:Addr)(sp:Sp):R2:=λx y H Q=>∃(a b dx dy:Addr) (fs gs:List (Str×V)),x = .ref a/\y = .ref b/\H a=some (.ins C dx fs)/\H b=some (.ins C dy gs)/\sp [.ref a,.ref b] H (λv H'=>∃t:Bool,v = .bl t/\Q (.bl (!t)) H') E0
theorem X_(N:NeO X.K C)(M:MethAt X.prog X.w X.K X.mg X.base k C "__eq__" ["self","other"] sp)(hr:dg (k+1) X.A):nF X (compareOp .NotEq) (ae3 C sp):=by
 intro pins s σ H x y u v Q I rx ry h;obtain⟨f,fd,G,hm,hb⟩:=M;obtain⟨a,b,dx,dy,fs,gs,rfl,rfl,ea,eb,q⟩:=h;obtain rfl:u=Value.ref a:=rx;obtain rfl:v=Value.ref b:=ry;obtain⟨mA,O,_⟩:=pL I.hok ea;obtain⟨od,J,_⟩:=O.look;obtain⟨mB,O2,_⟩:=pL I.hok eb;obtain⟨od2,J2,_⟩:=O2.look;obtain⟨mm,Fm⟩:=I.fr;refine Ut (by have:=hr.units;lia) (I.mod.Hq.keeps Fm.keep) J J2.type (by simp[PySem.W.notFirst]) N hm.at_ hm.fn (cX (S_ (us:=[.ref a,.ref b]) (vs:=[.ref a,.ref b]) G hr hb I (.cons rfl (.cons rfl .nil)) q) λv s' hv=>?_)
 obtain⟨x,H',I',rx,t,rfl,q'⟩:=hv;obtain rfl:v=Value.bool t:=rx;exact⟨t,Z,.bl (!t),H',I',Z,q'⟩
end
section
variable{prog:Program}{w:World}{K:Type}[DecidableEq K]{knd:HeapKind prog w K}{A:Around}{E:Value->Shared->Prop}{s:Shared}
end
section
variable{X:Cx}
end
section
variable{prog:Program}{w:World}{K:Type}[DecidableEq K]{knd:HeapKind prog w K}{A:Around}{E:Value->Shared->Prop}{s:Shared}{d:Addr}{xs:List (K×Addr×Value)}
end
section
variable{X:Cx}{pos:Pos}{k v a:Expr}{tk tv ta:TE}
end
section
variable{d:Addr}{o:Obj}{kvs:List (List Key×V)}{g:TG}{tb:TS}{D:Ends}{σ:St}{H:Hp}
end
section
variable{X:Cx}
end
end L2
namespace L2
open PySem PySem.Spec PyProof.Rows PySem.W
section
variable{P:Program}{w:World}{H:Hp}{h h':Heap}{p:Addr}{ps:Array Value}
theorem Un.W0{fs ex:List Addr}{more:Array Value}{c f:Addr}{o1 o2:HO}(hp:H p=some (.pU ps))(k:∀b u,b≠p->h.get? b=some u->h'.get? b=some u)(hn:∃u,h'.get? p=some u)(hc:H c=none)(hf:H f=none)(sc:h.objs.size<=c)(sf:h.objs.size<=f):
 Un fs ex H (upd (upd (upd H p (.pU (ps++more))) c o1) f o2) h h':=by
 have np:∀b,H b=none->b≠p:=λb n z=>by rw[z,hp] at n;cases n
 have at_:∀b u,H b=some u->b≠p->(upd (upd (upd H p (.pU (ps++more))) c o1) f o2) b=some u:=λb u e n=>by
  rw[aC (ao e hf),aC (ao e hc),aC n];exact e
 have lt:∀b u,h.get? b=some u->b≠c/\b≠f:=λb u e=>⟨abe (abg (aaq e) sc),abe (abg (aaq e) sf)⟩;refine⟨λb u q n _ _=>k b u (np b n) q,λb u q n _ _=>⟨u.slots,k b u (np b n) q⟩,λb u q n _=>?_,λb u q _=>?_,λb xs q=>at_ b _ q λz=>?_,λb u xs q=>at_ b _ q λz=>?_,λb qs q=>?_⟩
 .rw[aC (lt b u q).2,aC (lt b u q).1,aC (np b n)];exact n
 .by_cases z:b=p
  .rw[z];exact hn
  .exact⟨u,k b u z q⟩
 .rw[z,hp] at q;cases q
 .rw[z,hp] at q;cases q
 .by_cases z:b=p
  .subst z
   rw[hp] at q;cases q;exact⟨more,by rw[aC (ao hp hf),aC (ao hp hc),ak]⟩
  .exact⟨#[],by rw[at_ b _ q z];simp⟩
theorem jU.W0{more:Array Value}{c f:Addr}{o1 o2:HO}(ok:jU P w H h)(hp:H p=some (.pU ps))(k:∀b u,b≠p->h.get? b=some u->h'.get? b=some u)(new:h'.get? p=some (tabObj (ps++more)))(hc:H c=none)(hf:H f=none)(ncf:c≠f)(n1:cP P w (upd (upd (upd H p (.pU (ps++more))) c o1) f o2) h' c o1)(n2:cP P w (upd (upd (upd H p (.pU (ps++more))) c o1) f o2) h' f o2):jU P w (upd (upd (upd H p (.pU (ps++more))) c o1) f o2) h':=λb u q=>by
 by_cases hbf:b=f
 .subst hbf;rw[ak] at q;cases q;exact n2
 rw[aC hbf] at q
 by_cases hbc:b=c
 .subst hbc;rw[ak] at q;cases q;exact n1
 rw[aC hbc] at q
 by_cases hb:b=p
 .subst hb;rw[ak] at q;cases q;exact new
 .rw[aC hb] at q
  have at_:∀d u,H d=some u->d≠p->(upd (upd (upd H p (.pU (ps++more))) c o1) f o2) d=some u:=λd u e n=>by
   rw[aC (ao e hf),aC (ao e hc),aC n];exact e
  refine(ok b u q).stay (λd v hd r=>k d v ?_ r) (λd r=>at_ d _ r λz=>?_) λd xs r=>at_ d _ r λz=>?_
  .rcases hd with rfl|hd
   .exact hb
   .intro z;rw[z,hp] at hd;cases hd
  .rw[z,hp] at r;cases r
  .rw[z,hp] at r;cases r
end
noncomputable def Bm(mg:Str->Option Value)(h:Heap):Prop:=∃bm ob,mg "__builtins__" = some (.ref bm)/\bm≠builtinsNs/\h.get? bm=some ob/\ob.cls = .type "module" /\ ob.dict=some builtinsNs/\ob.data = .plain
noncomputable abbrev CdO(c:Addr)(qual:Str):HO:= .ext λh=>h.CodeRec (.ref c) qual
noncomputable abbrev FnO(f:Addr)(o:Obj):HO:= .ext λh=>h.get? f=some o
noncomputable def Zx(H:Hp)(p:Addr)(pos:Pos)(qual:Str):Prop:=H p=some (.pU #[]) \/ ∃c,H p=some (.pU #[rawInt pos.line,rawInt pos.col,.ref c])/\H c=some (CdO c qual)
section
variable{X:Cx}
theorem acj{P:Program}{w:World}{H:Hp}{h:Heap}{c:Addr}{qual:Str}(r:h.CodeRec (.ref c) qual):cP P w H h c (CdO c qual):=by
 obtain⟨c',o,vs,t,e,g,d⟩:=id r;cases e;exact⟨r,⟨o,g⟩,λh1 h2 ⟨c2,o2,vs2,t2,e2,g2,d2⟩ kp=>by cases e2;exact⟨_,o2,vs2,t2,Z,kp o2 g2,d2⟩⟩
theorem Wk{P:Program}{w:World}{H:Hp}{h:Heap}{f:Addr}{o:Obj}(e:h.get? f=some o):cP P w H h f (FnO f o):=⟨e,⟨o,e⟩,λh1 h2 e1 kp=>kp o e1⟩
end
section
variable{X:Cx}{k:Nat}{N ps:List Str}{qual:Str}{params:Arguments}{body:Expr}{scope:Scope}{sp:List V->Hp->VK->Prop}{pm:Value}{f:Addr}
end
section
variable{X:Cx}{pins:List (Addr×Obj)}{σ:St}{H:Hp}{q l I S:Addr}{xs:List V}
end
section
variable{X:Cx}{a:Expr}{ta:TA}{tk:TE}{p pos kp akM:Pos}{k:Nat}{N ps:List Str}{qual:Str}{params:Arguments}{body:Expr}{scope:Scope}{sp:List V->Hp->VK->Prop}{pm:Value}
end
structure FW(K:PySem.W.Frag)(x qual:Str)(st:Stmt)(p:Addr)(f:Addr)(fd:FuncData):Prop where
 ex:∃(oc:Value) (od:Option Addr) (kV doc pm:Value) (an:Option Addr) (c:Addr) (ct:Value) (osl:Array (Option Value)),
  fd=PySem.W.fnOf x qual (cu st) (cW st) (aK st) .none kV doc pm an (.ref c) ct/\K.lookup f=some ⟨oc,od,.func fd,osl⟩/\PySem.W.codeIn K (.ref c) qual=true/\codeHdIn K c p=true
 kp:PySem.W.keepIn K (.ref f)=true
section
variable{P:Program}{w:World}{K:PySem.W.Frag}{mg:Str->Option Value}{base:Heap}
theorem FW.fun{x qual:Str}{st:Stmt}{p f:Addr}{fd:FuncData}(F:FW K x qual st p f fd):gD K x qual st f fd:=by
 obtain⟨oc,od,kV,doc,pm,an,c,ct,osl,e,l,cd,_⟩:=F.ex;exact⟨⟨oc,od,kV,doc,pm,an,.ref c,ct,osl,e,l,cd⟩,F.kp⟩
theorem FW.ok{x qual:Str}{st:Stmt}{p f:Addr}{fd:FuncData}{N ps:List Str}{k:Nat}{sp:Sp}(F:FW K x qual st p f fd)(S:bh N ps (aK st))(len:∀vs H Q E,sp vs H Q E->vs.length=ps.length)(hbody:∀(c:Addr)(A:Around)(outer:List Env)(s:Shared)(H:Hp)(vs:List V)(Q:VK)(E:XK),codeHdIn K c p=true->dg k (A.deeper (envOfC qual (aK st) s.heap.objs.size f (.ref c)))->sp vs H Q E ->
   ∃t,Df (mV iy P w K mg base N qual (aK st) f (.ref c) A outer s H E).V5 (cW st) t/\t {nx:=λ_ H'=>Q .non H',rt:=Q} (start N vs) H):bO P w K mg base iy (k+1) f fd ps sp:=by
 obtain⟨oc,od,kV,doc,pm,an,c,ct,osl,rfl,lk,hcd,hh⟩:=F.ex;refine JN lk hcd S len λA outer s H vs Q E hr hsp=>?_;obtain⟨t,h,q⟩:=hbody c A outer s H vs Q E hh hr hsp;exact⟨t,h.V5,q⟩
theorem U3{x qual:Str}{st:Stmt}{p f c:Addr}{oc:Value}{od an:Option Addr}{osl:Array (Option Value)}{kV doc pm ct:Value}(l:K.lookup f=some ⟨oc,od,.func (PySem.W.fnOf x qual (cu st) (cW st) (aK st) .none kV doc pm an (.ref c) ct),osl⟩)(cd:PySem.W.codeIn K (.ref c) qual=true)(k:PySem.W.keepIn K (.ref f)=true)(h:codeHdIn K c p=true):FW K x qual st p f (PySem.W.fnOf x qual (cu st) (cW st) (aK st) .none kV doc pm an (.ref c) ct):=⟨⟨oc,od,kV,doc,pm,an,c,ct,osl,Z,l,cd,h⟩,k⟩
end
noncomputable def Rf(p:Addr)(H:Hp):Prop:=∀b,H b=none\/(∃o xs,H b=some (.zM o (.lst xs)))\/(b=p/\H b=some (.pU #[]))
theorem K8{P:Program}{w:World}{K:PySem.W.Frag}{mg mb:Str->Option Value}{CX:J9}{k:Nat}{fa a p:Addr}{fd:FuncData}{x:Str}{sp:Sp}{s₁:Shared}{vs:List Value}{ns:List Int}(KX:K.In s₁.heap)(hns:s₁.heap.Ns mainGlobals mg)(hb:s₁.heap.Ns builtinsNs mb)(hbb:∀x:Str,x ≠ "__name__" -> mb x=bootBuiltins x)(hlim:s₁.heap.NoLimit)(hbm:Bm mg s₁.heap)(hg:s₁.gens = #[])(hp:s₁.heap.get? p=some (tabObj #[]))(hc:∃c,codeHdIn K c p=true)(ha:s₁.heap.get? a=some {cls:= .type "list",data:= .seq vs.toArray})(hi:IntsAre vs ns)(hl:ns.length<=sizeLine)(hr:dg k callerA)(hKp:K.lookup p=none)(F:∀base:Heap,K.In base->base.Ns mainGlobals mg->Bm mg base->bO P w K mg base CX k fa fd [x] sp)(hbind:∀(s:Shared)(u:Value),BindsTo s fd ⟨[u],[]⟩ [(x,u)])(hsp:∀H:Hp,Rf p H->bH K H a (ns.map V.int)->H p=some (.pU #[])->sp [.ref a] H (λv _=>v = .bl true) λ_ _ _=>False)(YQ:∀H e s',CX [] H s₁ (λ_ _ _=>False) e s'->False):
 codeAny (model P w) callerA (.call (.ref fa) ⟨[.ref a],[]⟩) (λr s'=>r = .ok (.ret (.bool true))/\OldK s₁.heap s'.heap/\s'.os=s₁.os/\AllBare s'.gens) s₁:=by
 have rv:=yW hi;have lenV:=hi.length;have npa:p≠a:=λz=>by rw[z,ha] at hp;cases hp
 obtain⟨c,hc⟩:=hc;have CT:isCodeTable s₁.heap p:=((codeHd_of_K KX hc).tab hp).isCodeTable
 have core:∀H:Hp,Rf p H->bH K H a (ns.map V.int)->H p=some (.pU #[])->jU P w H s₁.heap->(∀b,H b≠none->b=a\/b=p)->(H a≠none->K.lookup a=none) ->
  codeAny (model P w) callerA (.call (.ref fa) ⟨[.ref a],[]⟩) (λr s'=>r = .ok (.ret (.bool true))/\OldK s₁.heap s'.heap/\s'.os=s₁.os/\AllBare s'.gens) s₁:=by
  intro H hO hS hHp hok hA hK;have pP:∀{b:Addr}{o:Obj},s₁.heap.get? b=some o->H b=none->(qx s₁.heap H).get? b=some o:=λe n=>Eu e n
  have noO:∀{b:Addr}{o:Obj},s₁.heap.get? b=some o->(∀vs n,o.data ≠ .seq vs n)->(∀vs,o.data ≠ .fields vs)->H b=none:=fun {b o} e d1 d2=>by
   cases q:H b with
   | none=>rfl
   | some u=>
     rcases hA b (by rw[q];simp) with e'|e'
     .subst e'
      rw[ha] at e;cases e;exact acP rfl (d1 _ _)
     .subst e'
      rw[hp] at e;cases e;exact acP rfl (d2 _)
  have Pg:∀{b:Addr}{o:Obj}{es:Array DictEntry}{ep:Nat},s₁.heap.get? b=some o->o.data = .dict es ep->H b=none:=fun {b o es ep} e d=>noO e (λ_ _ z=>by rw[d] at z;cases z) (λ_ z=>by rw[d] at z;cases z);have Uo:∀{b:Addr}{m:Str->Option Value},s₁.heap.Ns b m->(qx s₁.heap H).Ns b m:=fun {b m} ⟨o,es,ep,e,d,r⟩=>⟨o,es,ep,pP e (Pg e d),d,r⟩
  have hKb:K.In (qx s₁.heap H):=λb o e=>pP (KX b o e) (by
   cases q:H b with
   | none=>rfl
   | some u=>
     rcases hA b (by rw[q];simp) with e'|e'
     .subst e'
      rw[hK (by rw[q];simp)] at e;cases e
     .subst e'
      rw[hKp] at e;cases e)
  have hM:Mod K mg (qx s₁.heap H):=⟨hKb,Uo hns,⟨mb,Uo hb,hbb⟩,let ⟨mc,h1,h2⟩:=hlim;⟨mc,Uo h1,h2⟩⟩
  have hBm:Bm mg (qx s₁.heap H):=by
   obtain⟨bm,ob,b1,b2,b3,b4,b5,b6⟩:=hbm;exact⟨bm,ob,b1,b2,pP b3 (noO b3 (λ_ _ z=>by rw[b6] at z;cases z) (λ_ z=>by rw[b6] at z;cases z)),b4,b5,b6⟩
  have e0:sI P w K mg (qx s₁.heap H) callerA [] s₁ H:=⟨Z,hM,λb o e=>Jw e,Nat.le_of_eq (zK _ _),trivial,λb hb=>acP (show b∈([]:List Addr) from hb) (by simp),hok,.of_eq hg⟩;refine codeAny_mono ((F _ hKb (Uo hns) hBm).run callerA [] s₁ H ⟨[.ref a],[]⟩ [.ref a] [.ref a] _ _ hr e0 (hbind s₁ (.ref a)) (.cons rfl .nil) (hsp H hO hS hHp)) λr s' h=>?_;cases r with
  | error e=>exact(YQ H e s' h).elim
  | ok fl=>
    cases fl with
    | next=>exact False.elim h
    | brk=>exact False.elim h
    | cont=>exact False.elim h
    | ret u=>
      obtain⟨v,H',os,bare,un,hok',r',q⟩:=h;have q':v = .bl true:=q;subst q';obtain rfl:u=Value.bool true:=r'
      have each:∀b o,s₁.heap.get? b=some o->s'.heap.get? b=some o\/(b=p /\ ∃more,s'.heap.get? b=some (tabObj (#[]++more))):=λb o e=>by
       cases q:H b with
       | none=>exact .inl (un.keep b o e q (by intro z;exact acP (show b∈([]:List Addr) from z) (by simp)) (by simp))
       | some u=>
         rcases hO b with z|⟨ob,xs,z⟩|⟨z1,z⟩
         .rw[q] at z;cases z
         .have z2:=un.mU b ob _ z
          obtain⟨e1,_⟩:=hok b _ z;obtain⟨e2,_⟩:=hok' b _ z2;rw[e] at e1;cases e1;exact .inl e2
         .obtain⟨more,z2⟩:=un.qd b _ z
          exact .inr ⟨z1,more,hok' b _ z2⟩
      refine⟨Z,⟨λb o e=>?_,λb o e=>?_⟩,os,bare⟩
      .rcases each b o e with z|⟨rfl,more,z⟩
       .exact .inl z
       .rw[hp] at e
        cases e;exact .inr (.inl ⟨CT,Z, #[],more,Z,z⟩)
      .rcases each b o e with z|⟨rfl,more,z⟩
       .exact⟨_,z⟩
       .exact⟨_,z⟩
 cases hk:K.lookup a with
 | some o=>
   have e:=KX a o hk;rw[ha] at e;cases e;refine core (λb=>if b=p then some (.pU #[]) else none) (λb=>?_) (.inr ⟨_,vs.toArray,_,hk,Z,Z,Z,by rw[aa5,lenV];exact hl,by simpa using rv⟩) (acM rfl) (λb u z=>?_) (λb z=>?_) λz=>acP (acK (Ne.symm npa)) z
   .by_cases hb:b=p
    .exact .inr (.inr ⟨hb,acM hb⟩)
    .exact .inl (acK hb)
   .by_cases hb:b=p
    .have z':=(acM hb).symm.trans z
     cases z';subst hb;exact hp
    .have z':=(acK hb).symm.trans z
     cases z'
   .by_cases hb:b=p
    .exact .inr hb
    .exact acP (acK hb) z
 | none=>
   refine core (λb=>if b=p then some (.pU #[]) else if b=a then some (.zM {cls:= .type "list",data:= .seq vs.toArray} (.lst (ns.map V.int))) else none) (λb=>?_) (.inl (.inr ⟨{cls:= .type "list",data:= .seq vs.toArray},(acK (Ne.symm npa)).trans (acM rfl)⟩)) (acM rfl) (λb u z=>?_) (λb z=>?_) λ_=>hk
   .by_cases hb:b=p
    .exact .inr (.inr ⟨hb,acM hb⟩)
    .by_cases hb2:b=a
     .exact .inr (.inl ⟨_,_,(acK hb).trans (acM hb2)⟩)
     .exact .inl ((acK hb).trans (acK hb2))
   .by_cases hb:b=p
    .have z':=(acM hb).symm.trans z
     cases z';subst hb;exact hp
    .have z:=(acK hb).symm.trans z
     by_cases hb2:b=a
     .have z':=(acM hb2).symm.trans z
      cases z';subst hb2;exact⟨ha,by rw[aac];exact hl,vs,_,rv,ha⟩
     .have z':=(acK hb2).symm.trans z
      cases z'
   .by_cases hb:b=p
    .exact .inr hb
    .by_cases hb2:b=a
     .exact .inl hb2
     .exact acP ((acK hb).trans (acK hb2)) z
theorem MJ{l:PySem.W.OpenLaw}{n k:Nat}{q:Program}{loose:List Str}{XP:(Str->Option Value)->Heap->Prop}{YP:World->Heap->Prop}{d:DefRec}{K:Params->PySem.W.Frag}{CX:World->J9}{sp:World->Sp}{x:Str}{p:Addr}(hn:l.most=some n)(hn2:n<=sizeLine)(hdf:d.params.defaults=[])(hr:dg k callerA)(hY:∀(w:World)(h:Heap),YP w h->(K w.params).In h)(hT:∀(w:World)(h:Heap),YP w h->h.get? p=some (tabObj #[]))(F:∀(w:World)(mg:Str->Option Value)(fa:Addr)(h:Heap),(K w.params).In h->h.Ns mainGlobals mg->mg d.name=some (.ref fa) ->
   ((K w.params).lookup p=none /\ ∃c,codeHdIn (K w.params) c p=true) /\ ∃fd:FuncData,(∀(s:Shared)(u:Value),BindsTo s fd ⟨[u],[]⟩ [(x,u)]) /\
     ∀base:Heap,(K w.params).In base->base.Ns mainGlobals mg->Bm mg base->bO l.prog w (K w.params) mg base (CX w) k fa fd [x] (sp w))(hsp:∀(w:World)(H:Hp)(a:Addr)(ns:List Int),ns.length<=n->Rf p H->bH (K w.params) H a (ns.map V.int)->H p=some (.pU #[])->sp w [.ref a] H (λv _=>v = .bl true) λ_ _ _=>False)(YQ:∀(w:World)(H:Hp)(s:Shared)(e:Value)(s':Shared),CX w [] H s (λ_ _ _=>False) e s'->False):
 PySem.W.WalkO q loose XP YP l.row.toRowW d [] (λf vs=>PySem.call f vs):=by
 refine Att.uR hn hdf λw s₀ s₁ mg mb fa o pm cd doc a vs ns G Y ho hd hcd hmg hobj hints hlen hg=>?_;have KX:=hY w _ Y;obtain⟨⟨kp,hc⟩,fd,hb,hF⟩:=F w mg fa _ KX G.T.g hmg;exact K8 KX G.T.g G.T.b G.T.builtins G.T.nolimit G.T.bmain hg (hT w _ Y) hc hobj hints (acH hlen hn2) hr kp hF hb (λH hO hS hH=>hsp w H a ns hlen hO hS hH) λH e s'=>YQ w H s₁ e s'
end L2
namespace L2
open PySem PySem.Spec PyProof.Rows PySem.Calls PyProof.V
section
variable{prog:Program}{w:World}{K:Type}[DecidableEq K]{knd:HeapKind prog w K}{A:Around}{E:Value->Shared->Prop}{s:Shared}
end
section
variable{X:Cx}
end
end L2
namespace L2
open PySem PySem.Spec PyProof.Rows
section
variable{X:Cx}{k:Nat}{C:Addr}{sp:Sp}
end
section
variable{X:Cx}{k:Nat}{C:Addr}{sp:Sp}
end
section
variable{X:Cx}{k:Nat}{C:Addr}{sp:Sp}
noncomputable def acd:List String:=["NoneType","bool","int","str","list","tuple","dict"]
end
noncomputable def ae2(K:PySem.W.Frag)(neg:Bool):R2:=λx y H Q=>∃(p q:Addr) (vs:List V),x = .ref p/\y = .ref q/\bH K H p vs/\bH K H q []/\Q (.bl (if neg then !vs.isEmpty else vs.isEmpty)) H
section
variable{X:Cx}{K:PySem.W.Frag}
theorem Ed{us:List Value}(r:Vals [] us):us=[]:=by cases r;rfl
theorem Oo(hK:X.K=K)(hu:X.A.units+64<cLine):nF X (compareOp .NotEq) (ae2 K true):=by
 subst hK;intro pins s σ H x y v u Q I rx ry h;obtain⟨p,q,vs,rfl,rfl,hp,hq,k⟩:=h;cases rx;cases ry;obtain⟨its,r,pl,_⟩:=I.list hp;obtain⟨its2,r2,pl2,_⟩:=I.list hq;have e2:=Ed r2;subst e2;have hl:=r.length;have hu':X.A.units<cLine:=by have:=wM hu;exact Nat.lt_of_le_of_lt (Nat.le_add_right _ 64) this
 cases vs with
 | nil=>
   have e1:=Ed r;subst e1;exact SeqAt.RcNeAt.lists (e:=λ_=>true) pl.isList pl2.isList rfl hu' (λj h1=>acP h1 (Nat.not_lt_zero j)) X.prog X.w X.xe _ ⟨.bl false,H,I,Z,k⟩
 | cons a vs=>
   refine SeqAt.RcNeAt.lists_lengths pl.isList pl2.isList ?_ hu' X.prog X.w X.xe _ ⟨.bl true,H,I,Z,k⟩;cases its with
   | nil=>cases hl
   | cons b l=>rfl
end
end L2
namespace L2
open PySem PySem.Spec PyProof.Rows PySem.W
noncomputable abbrev o9(o:Obj):HO:= .zM o (.ext λ_=>True)
noncomputable def hide(H:Hp)(cs:List Addr):Hp:=λb=>if b∈cs then none else H b
noncomputable def Gb(H H':Hp)(cs:List Addr):Hp:=λb=>if b∈cs then H b else H' b
theorem gH{H:Hp}{cs:List Addr}{b:Addr}(h:b∈cs):hide H cs b=none:=acM h
theorem bx{H:Hp}{cs:List Addr}{b:Addr}(h:b∉cs):hide H cs b=H b:=acK h
theorem vP{H H':Hp}{cs:List Addr}{b:Addr}(h:b∈cs):Gb H H' cs b=H b:=acM h
theorem gZ{H H':Hp}{cs:List Addr}{b:Addr}(h:b∉cs):Gb H H' cs b=H' b:=acK h
noncomputable def yt(H:Hp)(f:Addr)(qual:Str)(params:Arguments)(body:Expr)(scope:Scope)(pm:Value)(cl:List (Str×Addr)):Prop:=∃c ctv,H f=some (FnO f (kla_obj "<lambda>" qual params body scope cl pm c ctv))/\H c=some (CdO c qual)
structure yw(H:Hp)(cl:List (Str×Addr))(xs:List Str)(vs:List V):Prop where
 all:∀c∈cl.map (·.2),∃o q,H c=some (o9 o)/\o.data = .cell q
 val:∀(j:Nat)(x:Str)(v:V),xs[j]? = some x->vs[j]? = some v -> ∃c o u,cl.lookup x=some c/\H c=some (o9 o)/\o.data = .cell (some u)/\RelV v u
 inj:∀x y c,cl.lookup x=some c->cl.lookup y=some c->x=y
theorem vo{cl:List (Str×Addr)}{x:Str}{c:Addr}(h:cl.lookup x=some c):c∈cl.map (·.2):=abG.mpr ⟨(x,c),PySem.mem_of_lookup h,Z⟩
theorem xu{P:Program}{w:World}{H:Hp}{h:Heap}{cs:List Addr}(ok:jU P w H h)(hc:∀c∈cs,∃o,H c=some (o9 o)):jU P w (hide H cs) h:=λb u q=>by
 have e:∀{d:Addr}{x:HO},H d=some x->(∀o,x≠o9 o)->hide H cs d=some x:=fun {d x} e n=>by
  rw[bx]
  .exact e
  .intro z
   obtain⟨o,r⟩:=hc d z;rw[e] at r;exact n o (aa6 r)
 have hb:b∉cs:=λz=>by rw[gH z] at q;cases q
 rw[bx hb] at q;exact(ok b u q).stay (λ_ _ _ z=>z) (λd r=>e r (by intro o z;cases z)) λd xs r=>e r (by intro o z;cases z)
theorem Zj{P:Program}{w:World}{H:Hp}{h:Heap}{c:Addr}{o:Obj}(e:h.get? c=some o):cP P w H h c (o9 o):=⟨e,trivial,⟨o,e⟩,λ_ _ _ _=>trivial⟩
theorem JK{P:Program}{w:World}{H H':Hp}{h:Heap}{cs:List Addr}(ok:jU P w H' h)(hn:∀c∈cs,H' c=none)(hc:∀c∈cs,∃o,H c=some (o9 o)/\h.get? c=some o):jU P w (Gb H H' cs) h:=λb u q=>by
 by_cases hb:b∈cs
 .obtain⟨o,r,g⟩:=hc b hb
  rw[vP hb,r] at q;cases q;exact Zj g
 .rw[gZ hb] at q
  have e:∀{d:Addr}{x:HO},H' d=some x->Gb H H' cs d=some x:=fun {d x} e=>by rw[gZ λz=>by rw[hn d z] at e;cases e];exact e
  exact(ok b u q).stay (λ_ _ _ z=>z) (λd r=>e r) λd xs r=>e r
structure Rk(ps xs:List Str)(scope:Scope):Prop where
 kind:scope.kind = .function
 co:scope.isCoroutine=false
 gen:scope.isGenerator=false
 wL:∀y∈scope.names,y.2 ≠ .cell
 par:∀x∈ps,scope.names.lookup x=some .local
 cap:∀x∈xs,scope.names.lookup x=some .free
 only:∀y,scope.names.lookup y=some .free->y∈xs
 nd:(ps++xs).Nodup
noncomputable def QJ(P:Program)(w:World)(K:PySem.W.Frag)(mg:Str->Option Value)(base:Heap)(N:List Str)(qual:Str)(scope:Scope)(f:Addr)(cd:Value)(cl:List (Str×Addr))(A:Around)(outer:List Env)(s:Shared)(H:Hp):Cx where
 prog:=P
 w:=w
 K:=K
 mg:=mg
 base:=base
 A:=A.deeper (envX qual scope s.heap.objs.size f cd cl)
 N:=N
 s₀:=s
 H₀:=H
 env:=envX qual scope s.heap.objs.size f cd cl
 outer:=outer
 stack:=envX qual scope s.heap.objs.size f cd cl::outer
 ex:=[]
 calm:=true
 fn:=λ_=>false
 pn:=[]
 xe:=λ_ _=>False
structure CK(P:Program)(w:World)(K:PySem.W.Frag)(mg:Str->Option Value)(base:Heap)(k:Nat)(ps xs:List Str)(qual:Str)(params:Arguments)(body:Expr)(scope:Scope)(sp:List V->Hp->VK->Prop):Prop where
 sc:Rk ps xs scope
 bind:∀(pm ctv:Value)(c:Addr)(cl:List (Str×Addr))(us:List Value),us.length=ps.length->bindArgs (kla_fn "<lambda>" qual params body scope cl pm (.ref c) ctv) ⟨us,[]⟩=pure (ps.zip us)
 run:∀(f c:Addr)(cl:List (Str×Addr))(A:Around)(outer:List Env)(s:Shared)(H:Hp)(vs:List V)(Q:VK),dg k (A.deeper (envX qual scope s.heap.objs.size f (.ref c) cl))->sp vs H Q ->
  ∃t,PE (QJ P w K mg base (ps++xs) qual scope f (.ref c) cl A outer s H) body t/\t (vs.map some) H Q
section
variable{P:Program}{w:World}{K:PySem.W.Frag}{mg:Str->Option Value}{base:Heap}{k:Nat}{ps xs:List Str}{qual:Str}{params:Arguments}{body:Expr}{scope:Scope}{sp:List V->Hp->VK->Prop}{pm:Value}{f:Addr}{cl:List (Str×Addr)}{Fo:List V}
theorem zip_get{ps:List Str}{us:List Value}:∀{i:Nat}{x:Str}{u:Value},ps.Nodup->ps.length=us.length->ps[i]? = some x->us[i]? = some u->(ps.zip us).reverse.lookup x=some u:=fun {i x u} nd hl h1 h2=>by
 have key:∀(l:List (Str×Value)),(l.map (·.1)).Nodup->(x,u)∈l->l.lookup x=some u:=λl=>by
  induction l with
  | nil=>intro _ h;cases h
  | cons y l ih=>
    intro nd h;obtain⟨a,b⟩:=y;rw[List.map_cons,List.nodup_cons] at nd;rw[List.lookup_cons];rcases List.mem_cons.mp h with e|h
    .cases e;simp
    .have:x≠a:=λz=>nd.1 (by rw[←z];exact abG.mpr ⟨_,h,Z⟩)
     rw[show (x==a)=false by simpa using this];exact ih nd.2 h
 refine key _ ?_ ?_
 .rw[List.map_reverse,List.map_fst_zip (by lia)]
  exact(List.reverse_perm _).nodup_iff.mpr nd
 .rw[List.mem_reverse]
  exact aaK (i:=i) (by rw[List.getElem?_zip_eq_some];exact⟨h1,h2⟩)
theorem PB{A:Around}{outer:List Env}{s:Shared}{H:Hp}{us:List Value}{vs:List V}{Q:VK}(L:CK P w K mg base k ps xs qual params body scope sp)(hr:dg (k+1) A)(e0:sI P w K mg base A outer s H)(F:yt H f qual params body scope pm cl)(C:yw H cl xs Fo)(hlen:vs.length=ps.length)(hcv:Fo.length=xs.length)(hfr:∀y,(scope.names.lookup y=some .free) -> ∃c,cl.lookup y=some c)(r:Vals vs us)(hsp:sp (vs++Fo) (hide H (cl.map (·.2))) λv H'=>(∀c∈cl.map (·.2),H' c=none)->Q v (Gb H H' (cl.map (·.2)))):
 codeAny (model P w) A (.call (.ref f) ⟨us,[]⟩) (CR iy outer P w H s Q E0) s:=by
 obtain⟨c,ctv,hf,hc⟩:=F;have S:=L.sc;have lim:s.heap.NoLimit:=e0.mod.nolimit.keeps λb o e=>(e0.bs b o e).1;have fo:s.heap.get? f=some (kla_obj "<lambda>" qual params body scope cl pm c ctv):=(e0.hok f _ hf).1;have cd:s.heap.CodeRec (.ref c) qual:=(e0.hok c _ hc).1;have hul:us.length=ps.length:=by rw[←r.length];exact hlen
 refine kla_callFunE hr.depth fo rfl S.co S.gen rfl cd ?_;refine wpAny_of_eq (L.bind pm ctv c cl us hul) ?_;refine wpAny_newFunctionEnv S.wL (λy hy=>S.par _ (List.of_mem_zip hy).1) (λh1 hns hsb=>?_) S.kind;have hk:∀b o,s.heap.get? b=some o->h1.get? b=some o:=λb o e=>hsb.extBut b o (abe (aaq e)) (aai _ e);refine⟨lim.keeps hk,kla_codeExpr ?_⟩;show wpAny (model P w) (A.deeper (envX qual scope s.heap.objs.size f (.ref c) cl)) (eval body (envX qual scope s.heap.objs.size f (.ref c) cl)) _ _ _;obtain⟨t,ht,hq⟩:=L.run f c cl A outer s (hide H (cl.map (·.2))) (vs++Fo) _ (hr.deeper _) hsp
 have Vh:∀a∈cl.map (·.2),∃o q,H a=some (o9 o)/\o.data = .cell q/\s.heap.get? a=some o:=λa ha=>by
  obtain⟨o,q,e1,e2⟩:=C.all a ha;exact⟨o,q,e1,e2,(e0.hok a _ e1).1⟩
 have isC:∀x a,cl.lookup x=some a -> ∃v,h1.IsCell a v:=λx a h=>by
  obtain⟨o,q,_,e2,e3⟩:=Vh a (vo h);exact⟨q,o,hk _ _ e3,e2⟩
 have Pg:∀b:Addr,b∉(QJ P w K mg base (ps++xs) qual scope f (.ref c) cl A outer s (hide H (cl.map (·.2)))).ex:=λb z=>acP (show b∈([]:List Addr) from z) (by simp)
 have ZV:∀{b:Addr},H b=none->hide H (cl.map (·.2)) b=none:=fun {b} e=>by
  by_cases z:b∈cl.map (·.2)
  .exact gH z
  .rw[bx z];exact e
 have ndP:ps.Nodup:=S.nd.sublist (List.sublist_append_left _ _)
 have I:Inv (QJ P w K mg base (ps++xs) qual scope f (.ref c) cl A outer s (hide H (cl.map (·.2)))) [] ((vs++Fo).map some) (hide H (cl.map (·.2))) {s with heap:=h1,toks:=s.toks+(ps.zip us).length}:=by
  refine⟨⟨e0.mod,S.kind,Z,Z,aar _,C.inj,λy hy=>?_,λy c h=>(by cases h),λ_=>hr.hd,Around.frames_deeper e0.frames,.inr ⟨Z,Z⟩,λb z=>acP z (Pg b),λb o e=>⟨(e0.bs b o e).1,ZV (e0.bs b o e).2⟩,e0.Dd,λb _ _=>Pg b,λb z=>acP z (Pg b),e0.lG,λb hb=>ZV (e0.HD b hb)⟩,
   Z,e0.bare,Un.kept hk,⟨_,hns,λi y v h1' h2 h3=>?_⟩,isC,ZV (e0.hok.fresh (aar _)),λy a h=>gH (vo h),λp hp=>acP (show p∈([]:List (Addr×Obj)) from hp) (by simp),(xu e0.hok λa ha=>let ⟨o,_,e,_⟩:=Vh a ha;⟨o,e⟩).kept hk, ?_⟩
  .have hy:scope.names.lookup y=some .cell\/scope.names.lookup y=some .free:=hy
   rcases hy with hy|hy
   .exact acP rfl (S.wL _ (PySem.mem_of_lookup hy))
   .exact hfr y hy
  .have h1':(ps++xs)[i]? = some y:=h1'
   rw[aah] at h2
   by_cases hi:i<ps.length
   .rw[abb hi] at h1'
    rw[abb (by lia)] at h2;obtain⟨v',ev,e⟩:=Option.map_eq_some_iff.mp h2;cases e;obtain⟨u,hu,rv⟩:=r.get ev;exact⟨u,rv,.inl ⟨S.par y (aaK h1'),zip_get ndP (by lia) h1' hu⟩⟩
   .rw[aa' (by lia)] at h1'
    rw[aa' (by lia),hlen] at h2;obtain⟨v',ev,e⟩:=Option.map_eq_some_iff.mp h2;cases e;obtain⟨a,o,u,e1,e2,e3,rv⟩:=C.val _ y _ h1' ev;exact⟨u,rv,.inr ⟨.inr (S.cap y (aaK h1')),a,e1,o,hk _ _ ((e0.hok a _ e2).1),e3⟩⟩
  .show ((vs++Fo).map some).length=(ps++xs).length
   rw[aac,aa_,aa_,hlen,hcv]
 refine wpAny_mono (ht [] _ _ _ _ I hq) (λu s' hs=>?_) λe s' hs=>hs.elim;obtain⟨v,H',J,rv,q⟩:=hs;have un:Un (frs outer) [] (hide H (cl.map (·.2))) H' s.heap s'.heap:=J.base
 have nfr:∀a∈cl.map (·.2),a∉frs outer:=λa ha z=>by
  obtain⟨o,_,e,_⟩:=Vh a ha;rw[e0.HD a z] at e;cases e
 have QW:∀a∈cl.map (·.2),∃o,H a=some (o9 o)/\s'.heap.get? a=some o/\H' a=none:=λa ha=>by
  obtain⟨o,q',e1,e2,e3⟩:=Vh a ha;exact⟨o,e1,un.keep a o e3 (gH ha) (nfr a ha) (by simp),un.free a o e3 (gH ha) (by simp)⟩
 have pass:∀{b:Addr}{x:HO},H b=some x->(∀o,x≠o9 o)->hide H (cl.map (·.2)) b=some x/\b∉cl.map (·.2):=fun {b x} e n=>by
  have nb:b∉cl.map (·.2):=λz=>by
   obtain⟨o,r,_⟩:=QW b z;rw[e] at r;exact n o (aa6 r)
  exact⟨by rw[bx nb];exact e,nb⟩
 refine⟨v,Gb H H' (cl.map (·.2)),J.os,J.bare,⟨λb o e n hb hx=>un.keep b o e (ZV n) hb hx,λb o e n hb hx=>un.slot b o e (ZV n) hb hx,λb o e n hx=>?_,un.there,λb ys e=>?_,λb o u' e=>?_,λb qs e=>?_⟩,JK J.hok (λa ha=>let ⟨_,_,_,z⟩:=QW a ha;z) λa ha=>let ⟨o,z1,z2,_⟩:=QW a ha;⟨o,z1,z2⟩,rv,q λa ha=>let ⟨_,_,_,z⟩:=QW a ha;z⟩
 .have nb:b∉cl.map (·.2):=λz=>by
   obtain⟨o',r,_⟩:=QW b z;rw[n] at r;cases r
  rw[gZ nb];exact un.free b o e (ZV n) hx
 .obtain⟨p1,p2⟩:=pass e (by intro o z;cases z)
  rw[gZ p2];exact un.tups b ys p1
 .by_cases nb:b∈cl.map (·.2)
  .rw[vP nb];exact e
  .rw[gZ nb]
   exact un.mU b o u' (by rw[bx nb];exact e)
 .obtain⟨p1,p2⟩:=pass e (by intro o z;cases z)
  obtain⟨more,z⟩:=un.qd b qs p1;exact⟨more,by rw[gZ p2];exact z⟩
end
theorem xR{env:Env}:∀(ns:List (Str×NameKind))(acc:List (Str×Addr))(q:Str×Addr),q∈d9 env ns acc->q∈acc\/((q.1,NameKind.free)∈ns/\q.2=(env.cells.lookup q.1).getD 0)
 | [],acc,q,h=> .inl h
 | (n,k)::r,acc,q,h=>by
   unfold d9 at h
   by_cases hk:(k==NameKind.free)=true
   .rw[acM hk] at h
    have hk':k=NameKind.free:=by simpa using hk
    rcases xR r _ q h with h|⟨h1,h2⟩
    .rcases List.mem_cons.mp h with e|h
     .subst e;subst hk'
      exact .inr ⟨List.mem_cons_self,Z⟩
     .exact .inl h
    .exact .inr ⟨aby _ h1,h2⟩
   .rw[acK hk] at h
    rcases xR r _ q h with h|⟨h1,h2⟩
    .exact .inl h
    .exact .inr ⟨aby _ h1,h2⟩
section
variable{P:Program}{w:World}{H2 H':Hp}{h h':Heap}{cs fs:List Addr}
theorem Je(un:Un fs [] H2 H' h h')(ok:jU P w H2 h)(ok':jU P w H' h')(hc:∀c∈cs,∃o,H2 c=some (o9 o)):Un fs [] (hide H2 cs) (hide H' cs) h h':=by
 have Z8:∀b∈cs,∀o,h.get? b=some o->h'.get? b=some o:=λb hb o e=>by
  obtain⟨o',r⟩:=hc b hb;have e1:=(ok b _ r).1;rw[e] at e1;cases e1;exact(ok' b _ (un.mU b _ _ r)).1
 have out:∀{b:Addr}{x:HO},hide H2 cs b=some x->b∉cs/\H2 b=some x:=fun {b x} e=>by
  have nb:b∉cs:=λz=>by rw[gH z] at e;cases e
  exact⟨nb,by rw[bx nb] at e;exact e⟩
 refine⟨λb o e n hb hx=>?_,λb o e n hb hx=>?_,λb o e n hx=>?_,un.there,λb ys e=>?_,λb o u e=>?_,λb qs e=>?_⟩
 .by_cases z:b∈cs
  .exact Z8 b z o e
  .exact un.keep b o e (by rw[bx z] at n;exact n) hb hx
 .by_cases z:b∈cs
  .exact⟨o.slots,Z8 b z o e⟩
  .exact un.slot b o e (by rw[bx z] at n;exact n) hb hx
 .by_cases z:b∈cs
  .exact gH z
  .rw[bx z] at n ⊢
   exact un.free b o e n hx
 .obtain⟨nb,e2⟩:=out e
  rw[bx nb];exact un.tups b ys e2
 .obtain⟨nb,e2⟩:=out e
  rw[bx nb];exact un.mU b o u e2
 .obtain⟨nb,e2⟩:=out e
  obtain⟨more,z⟩:=un.qd b qs e2;exact⟨more,by rw[bx nb];exact z⟩
end
noncomputable def qK(P:Program)(w:World)(K:PySem.W.Frag)(mg:Str->Option Value)(base:Heap)(k:Nat)(f:Addr)(vs:List V)(H:Hp)(Q:VK):Prop:=
 (∃o fd,H f=some (FnO f o)/\o.data = .func fd) /\ ∀(A:Around)(outer:List Env)(s:Shared)(us:List Value),dg k A->sI P w K mg base A outer s H->Vals vs us->codeAny (model P w) A (.call (.ref f) ⟨us,[]⟩) (CR iy outer P w H s Q E0) s
theorem Vj{P:Program}{w:World}{K:PySem.W.Frag}{mg:Str->Option Value}{base:Heap}{k:Nat}{ps xs:List Str}{qual:Str}{params:Arguments}{body:Expr}{scope:Scope}{sp:List V->Hp->VK->Prop}{pm:Value}{f:Addr}{cl:List (Str×Addr)}{Fo:List V}{H:Hp}{vs:List V}{Q:VK}(L:CK P w K mg base k ps xs qual params body scope sp)(F:yt H f qual params body scope pm cl)(C:yw H cl xs Fo)(hlen:vs.length=ps.length)(hcv:Fo.length=xs.length)(hsp:sp (vs++Fo) (hide H (cl.map (·.2))) λv H'=>(∀c∈cl.map (·.2),H' c=none)->Q v (Gb H H' (cl.map (·.2)))):qK P w K mg base (k+1) f vs H Q:=by
 refine⟨?_,λA outer s us hr e0 r=>PB L hr e0 F C hlen hcv (λy hy=>?_) r hsp⟩
 .obtain⟨c,ctv,hf,_⟩:=F
  exact⟨_,_,hf,Z⟩
 .obtain⟨j,hj⟩:=List.getElem?_of_mem (L.sc.only y hy)
  have jl:=(aae.mp hj).1;obtain⟨c,_,_,e,_⟩:=C.val j y _ hj (aad (by lia));exact⟨c,e⟩
noncomputable def Xd(P:Program)(w:World)(K:PySem.W.Frag)(mg:Str->Option Value)(base:Heap)(k i:Nat)(t:TA):TE:=λσ H Q=>∃f,σ[i]? = some (some (.ref f))/\t σ H λvs H1=>qK P w K mg base k f vs H1 Q
section
variable{X:Cx}{k i:Nat}{x:Str}{e:Expr}{es:List Expr}{t:TA}{p pos:Pos}
theorem Om(hv:PE X (.Name x p) (Nb i))(hr:dg k X.A)(ha:PA X (e::es) t)(he:starEach (e::es) X.env=(false,eval e X.env)::starEach es X.env:=by rfl)(hpl:(backTo pos (starEach es X.env)).any (·.1)=false:=by rfl):
 PE X (.Call (.Name x p) (e::es) [] pos) (Xd X.prog X.w X.K X.mg X.base k i t):=by
 intro pins s σ H Q I h;obtain⟨f,hf,h⟩:=h;refine wpAny_Call_Name_kw (wpAny_mono (hv pins s σ H (λv H1=>v = .ref f/\H1=H) I ⟨_,hf,Z,Z⟩) (λu s0 hu=>?_) λ_ _ z=>z);obtain⟨v,H0,I0,rv,rfl,rfl⟩:=hu;obtain rfl:u=Value.ref f:=rv;rw[he];have hq:=ha pos pins s0 σ H0 _ I0 h;rw[he] at hq;refine callWith_of (P:=λh=>∃o fd,h.get? f=some o/\o.data = .func fd) (by show ((false||(backTo pos (starEach es X.env)).any (·.1))||false)=false;rw[hpl];rfl) (λh ⟨o,fd,g,d⟩=>⟨.frame,.inl rfl, ?_⟩) (Calls.evalArgs_plain (cX hq λus s1 ⟨vs,H1,I1,r,q⟩=>?_))
 .unfold keeperOf
  refine(Looks.ld (part:=none) g).andThen ?_;rw[d];exact .now
 .obtain⟨⟨o,fd,hfo,hd⟩,run⟩:=q
  refine⟨⟨o,fd,(I1.hok f _ hfo).1,hd⟩, ?_⟩;refine wpAny_call (codeAny_mono (run X.A X.stack s1 us hr I1.env0 r) λres s' hq=>?_)
  match res,hq with
  | .error ev,hq=>exact(show False from hq).elim
  | .ok (.ret u),hq=>exact I1.after hq
end
noncomputable def VG(p:Addr)(pos:Pos)(qual:Str)(params:Arguments)(body:Expr)(scope:Scope)(pm:Value)(cl:List (Str×Addr)):TE:=λ_ H Q=>Zx H p pos qual /\ ∀(f:Addr)(H':Hp),H f=none->yt H' f qual params body scope pm cl->Zx H' p pos qual->Kp p H H'->Q (.ref f) H'
section
variable{X:Cx}
theorem TX{params:Arguments}{body:Expr}{scope:Scope}{pos:Pos}{c p:Addr}(BM:Bm X.mg X.base)(hcode:X.env.code = .ref c)(hcd:codeHdIn X.K c p=true)(hfree:∀y∈scope.names,y.2 = .free->X.env.kindOf y.1=some .cell\/X.env.kindOf y.1=some .free)(hg:X.env.globals=mainGlobals:=by rfl)(hdef:defaultsOf params X.env=([],[]):=by rfl):
 PE X (.Lambda params body scope pos) (VG p pos (X.env.qual ++ "<lambda>") params body scope ((X.mg "__name__").getD .none) (d9 X.env scope.names [])):=by
 intro pins s σ H Q I h
 have hcl:closureFor scope X.env=pure (d9 X.env scope.names []):=xQ λy hy hf=>by
  obtain⟨c,e⟩:=I.ok.has y.1 (hfree y hy hf);rw[e];rfl
 obtain⟨lt,q⟩:=h;have C:CodeHd s.heap c p:=codeHd_of_K I.mO hcd;have hns:s.heap.Ns mainGlobals X.mg:=I.ok.mod.glob.keeps I.bk;obtain⟨bm,ob,b1,b2,b3,b4,b5,b6⟩:=BM;have b3':=I.bk _ _ b3;have tr:∃ps,H p=some (.pU ps):=by rcases lt with e|⟨_,e,_⟩<;>exact⟨_,e⟩
 obtain⟨ps0,hp0⟩:=tr;have hP0:s.heap.get? p=some (tabObj ps0):=(show cP X.prog X.w H s.heap p (.pU ps0) from I.hok p _ hp0)
 have hgP:mainGlobals≠p:=λz=>by
  obtain⟨o,es,ep,e,hd,_⟩:=hns;rw[z,hP0] at e;cases e;cases hd
 have hbP:bm≠p:=λz=>by rw[z,hP0] at b3';cases b3';cases b4
 have hbG:bm≠mainGlobals:=λz=>by
  obtain⟨o,es,ep,e,hd,_⟩:=hns;rw[z,e] at b3';cases b3';rw[hd] at b6;cases b6
 have hb:s.heap.BuiltinsAt X.mg p:=⟨bm,ob,b1,b2,hbG,hbP,b3',b4,b5,b6⟩;refine kla_eval hdef ?_;generalize d9 X.env scope.names []=cl at *;rcases lt with hp|⟨c0,hp,hc0⟩
 .have hP:s.heap.get? p=some (tabObj #[]):=(show cP X.prog X.w H s.heap p (.pU #[]) from I.hok p _ hp)
  refine kla_makeFunction hcl hg hns hcode C hP True.intro rfl hgP hb λc' ctv h' tk hx hge hlt hrec htb=>?_;have hsz:s.heap.objs.size<=h'.objs.size:=acH hge (Nat.le_of_lt hlt);have nc:H c'=none:=I.hok.fresh hge;have nf:H h'.objs.size=none:=I.hok.fresh hsz;have ncf:c'≠h'.objs.size:=abe hlt;have kp:∀b u,b≠p->s.heap.get? b=some u->(h'.push (kla_obj "<lambda>" (X.env.qual ++ "<lambda>") params body scope cl ((X.mg "__name__").getD .none) c' ctv)).get? b=some u:=λb u n e=>aai _ (hx b u n e);have htb':=aai (kla_obj "<lambda>" (X.env.qual ++ "<lambda>") params body scope cl ((X.mg "__name__").getD .none) c' ctv) htb;have hrec':=hrec.push (kla_obj "<lambda>" (X.env.qual ++ "<lambda>") params body scope cl ((X.mg "__name__").getD .none) c' ctv);have fo:(h'.push (kla_obj "<lambda>" (X.env.qual ++ "<lambda>") params body scope cl ((X.mg "__name__").getD .none) c' ctv)).get? h'.objs.size=some (kla_obj "<lambda>" (X.env.qual ++ "<lambda>") params body scope cl ((X.mg "__name__").getD .none) c' ctv):=aaj _ rfl
  have I':=I.un (t':=tk) (Un.W0 (fs:=X.fs) (ex:=[]) (o1:=CdO c' (X.env.qual ++ "<lambda>")) (o2:=FnO h'.objs.size (kla_obj "<lambda>" (X.env.qual ++ "<lambda>") params body scope cl ((X.mg "__name__").getD .none) c' ctv)) hp kp ⟨_,htb'⟩ nc nf hge hsz)
   (jU.W0 I.hok hp kp htb' nc nf ncf (acj hrec') (Wk fo))
  refine⟨.ref h'.objs.size,_,I',Z,q _ _ nf ⟨c',ctv,ak, ?_⟩ (.inr ⟨c', ?_, ?_⟩) λb u e n=>?_⟩
  .rw[aC ncf,ak]
  .have npc:p≠c':=ao hp nc
   have npf:p≠h'.objs.size:=ao hp nf;rw[aC npf,aC npc,ak];simp
  .rw[aC ncf,ak]
  .rw[aC (ao e nf),aC (ao e nc),aC n]
   exact e
 .have hP:s.heap.get? p=some (tabObj #[rawInt pos.line,rawInt pos.col,.ref c0]):=(show cP X.prog X.w H s.heap p (.pU _) from I.hok p _ hp)
  refine kla_makeFunctionHit hcl hg hns hcode C hP (cv:= .ref c0) trivial (by simp[codeAmong,rawInt]) hb λctv h' tk hk hsz=>?_;have nf:H h'.objs.size=none:=I.hok.fresh hsz;have fo:(h'.push (kla_obj "<lambda>" (X.env.qual ++ "<lambda>") params body scope cl ((X.mg "__name__").getD .none) c0 ctv)).get? h'.objs.size=some (kla_obj "<lambda>" (X.env.qual ++ "<lambda>") params body scope cl ((X.mg "__name__").getD .none) c0 ctv):=aaj _ rfl;have I':=I.laid (t':=tk) (o:=FnO h'.objs.size (kla_obj "<lambda>" (X.env.qual ++ "<lambda>") params body scope cl ((X.mg "__name__").getD .none) c0 ctv)) (λb u e=>aai _ (hk b u e)) hsz (Wk fo);refine⟨.ref h'.objs.size,_,I',Z,q _ _ nf ⟨c0,ctv,ak, ?_⟩ (.inr ⟨c0, ?_, ?_⟩) λb u e n=>?_⟩
  .rw[aC (ao hc0 nf)];exact hc0
  .rw[aC (ao hp nf)];exact hp
  .rw[aC (ao hc0 nf)];exact hc0
  .rw[aC (ao e nf)];exact e
end
noncomputable def Nf(sp:Sp)(cl:List (Str×Addr))(xs:List Str)(caps:List Nat)(E:St->XK)(t:TA):TE:=λσ H Q=>t σ H λvs H1=>∃Fo:List V,caps.map (λi=>(σ[i]?).join)=Fo.map some /\
 ∀H2:Hp,hide H2 (cl.map (·.2))=H1->yw H2 cl xs Fo->sp vs H2 (λv H3=>Q v (hide H3 (cl.map (·.2)))) λc d H3=>E σ c d (hide H3 (cl.map (·.2)))
section
variable{X:Cx}{k:Nat}{x:Str}{ps:List Str}{sp:Sp}{e:Expr}{es:List Expr}{t:TA}{p pos:Pos}{E:St->XK}{scope:Scope}{xs:List Str}{caps:List Nat}
theorem QV{pins:List (Addr×Obj)}{σ:St}{H:Hp}{s:Shared}{Fo:List V}(I:Inv X pins σ H s)(hfree:∀y∈scope.names,y.2 = .free->X.env.kindOf y.1=some .cell)(hxs:∀(j:Nat)(y:Str),xs[j]? = some y->(y,NameKind.free)∈scope.names)(hlen:xs.length=caps.length)(hcap:∀(j:Nat)(y:Str),xs[j]? = some y->X.N[caps.getD j 0]? = some y)(hcv:caps.map (λi=>(σ[i]?).join)=Fo.map some):
 ∃H2:Hp,hide H2 ((d9 X.env scope.names []).map (·.2))=H/\yw H2 (d9 X.env scope.names []) xs Fo/\jU X.prog X.w H2 s.heap /\ ∀c∈(d9 X.env scope.names []).map (·.2),∃y o,X.env.cells.lookup y=some c/\H2 c=some (o9 o):=by
 have some':∀y∈scope.names,y.2 = .free->(X.env.cells.lookup y.1).isSome=true:=λy hy hf=>by
  obtain⟨c,e⟩:=I.ok.has y.1 (.inl (hfree y hy hf));rw[e];rfl
 have look:∀y c,(d9 X.env scope.names []).lookup y=some c->X.env.cells.lookup y=some c:=λy c h=>by
  rw[fP _ _ _ some'] at h;split at h
  .exact h
  .simp at h
 have snd:∀c∈(d9 X.env scope.names []).map (·.2),∃y,X.env.cells.lookup y=some c:=λc hc=>by
  obtain⟨q,hq,rfl⟩:=abG.mp hc;rcases xR _ _ q hq with h|⟨h1,h2⟩
  .cases h
  .obtain⟨c',e⟩:=Option.isSome_iff_exists.mp (some' _ h1 rfl)
   have e:X.env.cells.lookup q.1=some c':=e;exact⟨q.1,by rw[h2,e];rfl⟩
 have obj:∀c∈(d9 X.env scope.names []).map (·.2),∃y o q,X.env.cells.lookup y=some c/\s.heap.get? c=some o/\o.data = .cell q/\H c=none:=λc hc=>by
  obtain⟨y,e⟩:=snd c hc;obtain⟨v,o,ho,hd⟩:=I.cell y c e;exact⟨y,o,v,e,ho,hd,I.iB y c e⟩
 generalize hcl:d9 X.env scope.names []=cl at *
 have at_:∀c∈cl.map (·.2),∀o,s.heap.get? c=some o->(Gb (λb=>(s.heap.get? b).map o9) H (cl.map (·.2))) c=some (o9 o):=λc hc o e=>by
  rw[vP hc,e];rfl
 refine⟨Gb (λb=>(s.heap.get? b).map o9) H (cl.map (·.2)), ?_,⟨λc hc=>?_,λj y v h1 h2=>?_,λy z c h1 h2=>I.ok.inj y z c (look y c h1) (look z c h2)⟩, ?_,λc hc=>?_⟩
 .funext b
  by_cases z:b∈cl.map (·.2)
  .rw[gH z]
   obtain⟨_,_,_,_,_,_,n⟩:=obj b z;exact n.symm
  .rw[bx z,gZ z]
 .obtain⟨y,o,q,e,ho,hd,_⟩:=obj c hc
  exact⟨o,q,at_ c hc o ho,hd⟩
 .have hy:=hxs j y h1
  have jl:=(aae.mp h1).1
  have e1:(σ[caps.getD j 0]?).join=some v:=by
   have:=congrArg (λl=>l[j]?) hcv;simp only[aah,h2,Option.map_some] at this
   have cj:caps[j]? = some (caps.getD j 0):=by
    rw[List.getD_eq_getElem?_getD];obtain⟨n,hn⟩:∃n,caps[j]? = some n:=⟨_,aad (by lia)⟩;rw[hn];rfl
   rw[cj] at this;exact aa6 this
  have e2:σ[caps.getD j 0]? = some (some v):=by
   cases r:σ[caps.getD j 0]? with
   | none=>rw[r] at e1;cases e1
   | some a=>rw[r] at e1;exact congrArg Option.some e1
  have kx:=hfree _ hy rfl;obtain⟨m,hn,hl'⟩:=I.loc;obtain⟨u,r,l⟩:=hl' _ y v (hcap j y h1) e2 (.inr (.inl kx));rcases l with ⟨hk,_⟩|⟨_,c,hc,o,ho,hd⟩
  .have kx:X.env.kindOf y=some .cell:=kx
   rw[hk] at kx;cases kx
  .have hcl':cl.lookup y=some c:=by
    rw[←hcl,fP _ _ _ some',acM hy];exact hc
   exact⟨c,o,u,hcl',at_ c (vo hcl') o ho,hd,r⟩
 .refine JK I.hok (λc hc=>?_) λc hc=>?_
  .obtain⟨_,_,_,_,_,_,n⟩:=obj c hc
   exact n
  .obtain⟨y,o,q,e,ho,hd,_⟩:=obj c hc
   exact⟨o,by show (s.heap.get? c).map o9=_;rw[ho];rfl,ho⟩
 .obtain⟨y,o,q,e,ho,hd,_⟩:=obj c hc
  exact⟨y,o,e,at_ c hc o ho⟩
theorem Og(F:zY X.prog X.w X.K X.mg X.base k x ps sp)(hx:X.ex=[])(R:Rz X E)(hr:dg k X.A)(hg:Gl X x)(ha:PA X (e::es) t)(hown:∀y,X.fn y=true)(hfree:∀y∈scope.names,y.2 = .free->X.env.kindOf y.1=some .cell)(hxs:∀(j:Nat)(y:Str),xs[j]? = some y->(y,NameKind.free)∈scope.names)(hlen:xs.length=caps.length)(hcap:∀(j:Nat)(y:Str),xs[j]? = some y->X.N[caps.getD j 0]? = some y)(hd:(x==("__debug__" :Str))=false:=by decide)(he:starEach (e::es) X.env=(false,eval e X.env)::starEach es X.env:=by rfl)(hpl:(backTo pos (starEach es X.env)).any (·.1)=false:=by rfl):
 PE X (.Call (.Name x p) (e::es) [] pos) (Nf sp (d9 X.env scope.names []) xs caps E t):=by
 obtain⟨f,fd,G,hm,hk,hb⟩:=F;intro pins s σ H Q I h;refine wpAny_Call_Name_kw (jZ I hg hm ?_ hd);refine PySem.W.callWith_K (h₀:=X.base) I.ok.mod.Hq hk (cX (ha pos pins s σ H _ I h) λus s1 ⟨vs,H1,I1,r,Fo,hcv,q⟩=>⟨I1.mO, ?_⟩) he hpl;obtain⟨H2,eH,C2,ok2,Z8⟩:=QV I1 hfree hxs hlen hcap hcv;have q:=q H2 eH C2;have hlen:us.length=ps.length:=by rw[←r.length];exact G.len _ _ _ _ q
 have hbd:=hb s1 us I1.mO (by rw[List.append_nil];exact hlen);rw[List.append_nil] at hbd;have e1:=I1.env0;have ce:∀c∈(d9 X.env scope.names []).map (·.2),∃o,H2 c=some (o9 o):=λc hc=>let ⟨_,o,_,z⟩:=Z8 c hc;⟨o,z⟩
 have up:∀c∈(d9 X.env scope.names []).map (·.2),X.s₀.heap.objs.size<=c:=λc hc=>by
  obtain⟨y,_,e,_⟩:=Z8 c hc;exact I.ok.cab y c (hown y) e
 have h2n:∀b,H1 b=none->b∉(d9 X.env scope.names []).map (·.2)->H2 b=none:=λb n z=>by rw[←eH,bx z] at n;exact n
 have e2:sI X.prog X.w X.K X.mg X.base X.A X.stack s1 H2:=⟨e1.frames,e1.mod,λb o e=>⟨(e1.bs b o e).1,h2n b (e1.bs b o e).2 λz=>by
  have:=aaq e;exact acP (abg this (acH I.ok.Dd (up b z))) (acG _)⟩,e1.Dd,e1.lG,λb hb=>h2n b (e1.HD b hb) λz=>?_,ok2,e1.bare⟩
 .refine wpAny_call (codeAny_mono (G.run X.A X.stack s1 H2 ⟨us,[]⟩ us vs _ _ hr e2 hbd r q) λres s' hq=>?_)
  match res,hq with
  | .error ev,hq=>
    obtain⟨e',cls,dx,H',rfl,ho,hg',u,hok',he',ne,xo,hE⟩:=hq;have u1:=Je u ok2 hok' ce;rw[eH] at u1;refine vg hx R I1 ⟨e',cls,dx,hide H' ((d9 X.env scope.names []).map (·.2)),Z,ho,hg',u1,xu hok' λc hc=>?_,he', ?_,xo.imp λT _ z=>⟨z.1, ?_⟩,hE⟩
    .obtain⟨o,z⟩:=ce c hc
     exact⟨o,u.mU c _ _ z⟩
    .by_cases z:e'∈(d9 X.env scope.names []).map (·.2)
     .exact gH z
     .rw[bx z];exact ne
    .by_cases w:T∈(d9 X.env scope.names []).map (·.2)
     .exact gH w
     .rw[bx w];exact z.2
  | .ok (.ret u),hq=>
    obtain⟨v,H',os,bare,un,hok',rv,qq⟩:=hq;have u1:=Je un ok2 hok' ce;rw[eH] at u1;exact I1.after ⟨v,hide H' ((d9 X.env scope.names []).map (·.2)),os,bare,u1,xu hok' λc hc=>(let ⟨o,z⟩:=ce c hc;⟨o,un.mU c _ _ z⟩),rv,qq⟩
 .obtain⟨y,o,e,_⟩:=Z8 b z
  rcases List.mem_cons.mp (I1.sY b hb) with w|w
  .exact I1.Vf y b e w
  .obtain⟨_,o',ho',_⟩:=I.ok.lG.mem w
   exact acP (abg (aaq ho') (up b z)) (acG _)
end
end L2
namespace L2
open PySem
noncomputable def PJ(sc outer:Scope)(N xs:List Str)(caps:List Nat):Bool:=
 sc.names.all (λy=>decide (y.2 ≠ .free)||decide (outer.names.lookup y.1=some .cell))&&decide (xs.length=caps.length) &&
 (List.range xs.length).all λj=>match xs[j]? with |some y=>decide ((y,NameKind.free)∈sc.names)&&decide (N[caps.getD j 0]? = some y)|none=>true
structure Rm(sc outer:Scope)(N xs:List Str)(caps:List Nat):Prop where
 free:∀y∈sc.names,y.2 = .free->outer.names.lookup y.1=some .cell
 mem:∀(j:Nat)(y:Str),xs[j]? = some y->(y,NameKind.free)∈sc.names
 len:xs.length=caps.length
 cap:∀(j:Nat)(y:Str),xs[j]? = some y->N[caps.getD j 0]? = some y
theorem Rm.of{sc outer:Scope}{N xs:List Str}{caps:List Nat}(h:PJ sc outer N xs caps=true):Rm sc outer N xs caps:=by
 unfold PJ at h;simp only[abw,decide_eq_true_eq,List.all_eq_true,Bool.or_eq_true] at h;obtain⟨⟨h1,h2⟩,h3⟩:=h
 have key:∀(j:Nat)(y:Str),xs[j]? = some y->(y,NameKind.free)∈sc.names/\N[caps.getD j 0]? = some y:=λj y e=>by
  have q:=h3 j (acr.mpr (aae.mp e).1);rw[e] at q;simpa only[abw,decide_eq_true_eq] using q
 exact⟨λy hy e=>(h1 y hy).elim (λz=>acP e z) id,λj y e=>(key j y e).1,h2,λj y e=>(key j y e).2⟩
noncomputable def Ep(ps xs:List Str)(sc:Scope):Bool:=
 decide (sc.kind = .function) && !sc.isCoroutine && !sc.isGenerator&&sc.names.all (λy=>decide (y.2 ≠ .cell))&&ps.all (λx=>decide (sc.names.lookup x=some .local))&&xs.all (λx=>decide (sc.names.lookup x=some .free)) &&
 sc.names.all (λy=>decide (y.2 ≠ .free)||decide (y.1∈xs))&&decide (ps++xs).Nodup
theorem Rk.of{ps xs:List Str}{sc:Scope}(h:Ep ps xs sc=true):Rk ps xs sc:=by
 unfold Ep at h;simp only[abw,decide_eq_true_eq,List.all_eq_true,Bool.or_eq_true,Bool.not_eq_true'] at h;obtain⟨⟨⟨⟨⟨⟨⟨h1,h2⟩,h3⟩,h4⟩,h5⟩,h6⟩,h7⟩,h8⟩:=h;exact⟨h1,h2,h3,h4,h5,h6,λy e=>(h7 _ (PySem.mem_of_lookup e)).elim (λz=>acP rfl z) id,h8⟩
end L2
namespace L2
open PySem PySem.Spec PyProof.Rows PySem.W
theorem qK.imp{P:Program}{w:World}{K:PySem.W.Frag}{mg:Str->Option Value}{base:Heap}{k:Nat}{f:Addr}{vs:List V}{H:Hp}{Q Q':VK}(h:qK P w K mg base k f vs H Q)(i:∀v H',Q v H'->Q' v H'):qK P w K mg base k f vs H Q':=by
 refine⟨h.1,λA outer s us r e v=>codeAny_mono (h.2 A outer s us r e v) λres s' hq=>?_⟩
 match res,hq with
 | .error ev,hq=>exact hq
 | .ok (.ret u),hq=>
   obtain⟨v,H',a,b,c,d,e,q⟩:=hq;exact⟨v,H',a,b,c,d,e,i _ _ q⟩
section
variable{X:Cx}
theorem Oe{params:Arguments}{body:Expr}{scope:Scope}{pos:Pos}{c p:Addr}(en:Env)(pm:Value)(hen:X.env=en)(hpm:(X.mg "__name__").getD .none=pm)(BM:Bm X.mg X.base)(hcode:X.env.code = .ref c)(hcd:codeHdIn X.K c p=true)(hfree:∀y∈scope.names,y.2 = .free->X.env.kindOf y.1=some .cell\/X.env.kindOf y.1=some .free)(hg:X.env.globals=mainGlobals:=by rfl)(hdef:defaultsOf params X.env=([],[]):=by rfl):
 PE X (.Lambda params body scope pos) (VG p pos (en.qual ++ "<lambda>") params body scope pm (d9 en scope.names [])):=by
 subst hen hpm;exact TX BM hcode hcd hfree hg hdef
theorem Ku{k:Nat}{x:Str}{ps:List Str}{sp:Sp}{e:Expr}{es:List Expr}{t:TA}{p pos:Pos}{E:St->XK}{scope:Scope}{xs:List Str}{caps:List Nat}(en:Env)(hen:X.env=en)(F:zY X.prog X.w X.K X.mg X.base k x ps sp)(hx:X.ex=[])(R:Rz X E)(hr:dg k X.A)(hg:Gl X x)(ha:PA X (e::es) t)(hown:∀y,X.fn y=true)(hfree:∀y∈scope.names,y.2 = .free->X.env.kindOf y.1=some .cell)(hxs:∀(j:Nat)(y:Str),xs[j]? = some y->(y,NameKind.free)∈scope.names)(hlen:xs.length=caps.length)(hcap:∀(j:Nat)(y:Str),xs[j]? = some y->X.N[caps.getD j 0]? = some y)(hd:(x==("__debug__" :Str))=false:=by decide)(he:starEach (e::es) X.env=(false,eval e X.env)::starEach es X.env:=by rfl)(hpl:(backTo pos (starEach es X.env)).any (·.1)=false:=by rfl):
 PE X (.Call (.Name x p) (e::es) [] pos) (Nf sp (d9 en scope.names []) xs caps E t):=by
 subst hen;exact Og F hx R hr hg ha hown hfree hxs hlen hcap hd he hpl
end
end L2
namespace L2
open PySem PyProof.Rows
theorem Dh:∀{ps:List Str}{us:List Value},us.length=ps.length->ps.Nodup->(ps.filter λn=>((ps.zip us).lookup n).isNone)=[]/\(ps.filterMap λn=>((ps.zip us).lookup n).map (n,·))=ps.zip us
 | [],[],_,_=>⟨Z,Z⟩
 | p::ps,u::us,hl,nd=>by
   rw[List.nodup_cons] at nd;obtain⟨h1,h2⟩:=Dh (ps:=ps) (us:=us) (by simpa using hl) nd.2
   have e:∀n∈ps,((p::ps).zip (u::us)).lookup n=(ps.zip us).lookup n:=λn hn=>by
    rw[List.zip_cons_cons,List.lookup_cons];rw[show (n==p)=false from beq_eq_false_iff_ne.mpr λz=>nd.1 (by rw[←z];exact hn)]
   have e0:((p::ps).zip (u::us)).lookup p=some u:=by rw[List.zip_cons_cons,List.lookup_cons];simp
   constructor
   .rw[acv,e0,acK (by simp)]
    rw[←h1];exact List.filter_congr λn hn=>by rw[e n hn]
   .rw[List.filterMap_cons,e0]
    refine congrArg ((p,u) :: ·) (Eq.trans ?_ h2);clear h1 h2 e0 hl;revert e;generalize ((p::ps).zip (u::us))=a;generalize ps.zip us=b;intro e
    induction ps with
    | nil=>rfl
    | cons q ps ih=>
      rw[List.filterMap_cons,List.filterMap_cons,e q (by simp),ih ⟨λz=>nd.1 (by simp[z]),(List.nodup_cons.mp nd.2).2⟩ λn hn=>e n (by simp[hn])]
 | [],_::_,hl,_=>by simp at hl
 | _::_,[],hl,_=>by simp at hl
noncomputable def jM(a:Arguments)(ps:List Str):Bool:=a.posonlyargs.isEmpty&&decide (a.args.map (·.arg)=ps)&&a.vararg.isNone&&a.kwonlyargs.isEmpty&&a.kwarg.isNone&&decide ps.Nodup
theorem xV{fd:FuncData}{ps:List Str}{us:List Value}(h:jM fd.params ps=true)(hd:fd.defaults = .none)(hl:us.length=ps.length):bindArgs fd ⟨us,[]⟩=pure (ps.zip us):=by
 unfold jM at h;simp only[abw,decide_eq_true_eq,List.isEmpty_iff,Option.isNone_iff_eq_none] at h;obtain⟨⟨⟨⟨⟨h1,h2⟩,h3⟩,h4⟩,h5⟩,nd⟩:=h;obtain⟨z1,z2⟩:=Dh hl nd;have e0:seqItems? Value.none=pure none:=Z;unfold bindArgs;simp only[h1,h2,h3,h4,h5,hd,e0,List.map_nil,List.nil_append,List.append_nil,pure_bind,Option.getD_none];rw[List.forIn_nil,pure_bind];dsimp only;rw[acK (by rw[hl];simp)];simp only[List.length_nil,Nat.zero_sub,List.drop_nil,Nat.sub_zero,abQ,z1,List.isEmpty_nil,Bool.not_true,Bool.false_eq_true,if_false,List.zip_nil_right,List.forIn_nil,pure_bind,z2,Array.toList_empty]
end L2
namespace L2
open PySem PySem.Spec PyProof.Rows PySem.W
theorem gD.qF{K:PySem.W.Frag}{x qual:Str}{st:Stmt}{f:Addr}{fd:FuncData}{ps:List Str}(F:gD K x qual st f fd)(h:jM (cu st) ps=true):Binds K fd ps []:=
 F.binds λ_ _ _ _ _ _ _ hl=>xV h rfl hl
theorem gD.bind1{K:PySem.W.Frag}{x qual a:Str}{st:Stmt}{f:Addr}{fd:FuncData}(F:gD K x qual st f fd)(h:jM (cu st) [a]=true)(s:Shared)(v:Value):BindsTo s fd ⟨[v],[]⟩ [(a,v)]:=by
 obtain⟨oc,od,kV,doc,pm,an,cdv,ct,osl,rfl,lk,hcd⟩:=F.ex;exact .of_eq (xV (ps:=[a]) h rfl rfl)
noncomputable def jB(K:PySem.W.Frag)(x:Str)(st:Stmt):Prop:=∃f fd,nsIn K mainGlobals x=some (some (.ref f))/\gD K x x st f fd
noncomputable def iV(K:PySem.W.Frag)(C:Addr)(m q:Str)(st:Stmt):Prop:=∃f fd,(findIn K (.ref C) m=some (some (.ref f))/\isFn K (.ref f)=true)/\gD K m q st f fd
noncomputable def Rx(K:PySem.W.Frag)(x:Str)(st:Stmt)(p:Addr):Prop:=∃f fd,nsIn K mainGlobals x=some (some (.ref f))/\FW K x x st p f fd/\K.lookup p=none
section
variable{K:PySem.W.Frag}{x m q:Str}{st:Stmt}{f p C c:Addr}{oc:Value}{od an:Option Addr}{osl:Array (Option Value)}{kV doc pm cdv ct:Value}
theorem Lr(a:nsIn K mainGlobals x=some (some (.ref f)))(l:K.lookup f=some ⟨oc,od,.func (PySem.W.fnOf x x (cu st) (cW st) (aK st) .none kV doc pm an cdv ct),osl⟩)(c:PySem.W.codeIn K cdv x=true)(k:PySem.W.keepIn K (.ref f)=true):jB K x st:=⟨_,_,a,Qn l c k⟩
theorem QB(a:findIn K (.ref C) m=some (some (.ref f)))(l:K.lookup f=some ⟨oc,od,.func (PySem.W.fnOf m q (cu st) (cW st) (aK st) .none kV doc pm an cdv ct),osl⟩)(c:PySem.W.codeIn K cdv q=true)(k:PySem.W.keepIn K (.ref f)=true)(n:isFn K (.ref f)=true):iV K C m q st:=⟨_,_,⟨a,n⟩,Qn l c k⟩
theorem ag6(a:nsIn K mainGlobals x=some (some (.ref f)))(l:K.lookup f=some ⟨oc,od,.func (PySem.W.fnOf x x (cu st) (cW st) (aK st) .none kV doc pm an (.ref c) ct),osl⟩)(cd:PySem.W.codeIn K (.ref c) x=true)(k:PySem.W.keepIn K (.ref f)=true)(h:codeHdIn K c p=true)(hp:K.lookup p=none):Rx K x st p:=⟨_,_,a,U3 l cd k h,hp⟩
theorem Rx.at(D:Rx K x st p):K.lookup p=none /\ ∃c,codeHdIn K c p=true:=by
 obtain⟨f,fd,_,F,h⟩:=D;obtain⟨_,_,_,_,_,_,c,_,_,_,_,_,hh⟩:=F.ex;exact⟨h,c,hh⟩
end
noncomputable def Vr(K:PySem.W.Frag)(C:Addr):List Str->Prop
 | []=>True
 | a::l=>findIn K (.ref C) a=some none/\Vr K C l
noncomputable def Rg(K:PySem.W.Frag):List Str->Prop
 | []=>True
 | a::l=>nsIn K mainGlobals a=some none/\Rg K l
noncomputable def acE(mg:Str->Option Value):List Str->Prop
 | []=>True
 | a::l=>mg a=none/\acE mg l
theorem Rg.mg{K:PySem.W.Frag}{h:Heap}{mg:Str->Option Value}(X:K.In h)(G:h.Ns mainGlobals mg):∀{l:List Str},Rg K l->acE mg l
 | [],_=>trivial
 | _::_,z=>⟨mg_none_of X G z.1,Rg.mg X G z.2⟩
structure Io(K:PySem.W.Frag)(x:Str)(C:Addr):Prop where
 a:nsIn K mainGlobals x=some (some (.ref C))
 pg:plainGet K C Str.empty=true
 hd:hasDictIn K C=true
 po:plainOver K C=true
 sa:findIn K (.ref C) "__setattr__" = some (some (.builtin "object.__setattr__"))
 ms:makesIn K C=true
 kp:keepIn K (.ref C)=true
theorem Io.cls{K:PySem.W.Frag}{x:Str}{C:Addr}(I:Io K x C):Cls K C:=⟨I.pg,I.hd,I.po,I.sa⟩
structure Vo(K:PySem.W.Frag)(x:Str)(C:Addr):Prop where
 a:nsIn K mainGlobals x=some (some (.ref C))
 cl:(clsIn K C).isSome=true
 ty:typeIn K (.ref C)=some (.type "type")
 bs:subIn K (.ref C) (.type "BaseException")=some true
structure XrI(K:PySem.W.Frag)(C:Addr):Prop where
 ga:findIn K (.ref C) "__getattribute__" = some (some (.builtin "BaseException.__getattribute__"))
 gk:findIn K (.ref C) "__getattr__" = some none
 mB:mroIn K C (.type "BaseException")=some true
 ca:findIn K (.ref C) "__class__" = some (some (.builtin "object.__class__"))
 mo:mroIn K C (.type "object")=some true
 ve:subIn K (.ref C) (.type "ValueError")=some true
 ex:excIn K C [.type "ValueError",.type "Exception",.type "BaseException",.type "object"] "ValueError.__new__" = true
structure XcI(K:PySem.W.Frag):Prop where
 cg:specialIn K (.builtin "object.__class__") "__get__" = some (some (.builtin "getset_descriptor.__get__"))
 ct:takesIn K (.builtin "object.__class__")=some true
structure Vz(P:Program)(w:World)(K:PySem.W.Frag)(mg:Str->Option Value)(base:Heap):Prop where
 h:∃h,K.In h/\h.Ns mainGlobals mg
section
variable{P:Program}{w:World}{K:PySem.W.Frag}{mg:Str->Option Value}{base:Heap}{x m q:Str}{st:Stmt}{p C D:Addr}{k:Nat}{ps:List Str}{sp:Sp}{h:Heap}{b:Bool}
theorem Vo.o{R:Addr}(I:Vo K x C)(X:K.In h)(G:h.Ns mainGlobals mg)(Q:yg K R C b):Xo K mg R C x b:=⟨mg_of X G I.a,⟨I.cl,I.ty,I.bs⟩,Q⟩
theorem Vo.r(I:Vo K x C)(X:K.In h)(G:h.Ns mainGlobals mg)(R:XrI K C)(c:XcI K):Xr K mg C x:=⟨mg_of X G I.a,⟨I.cl,I.ty,I.bs⟩,⟨R.ga,R.gk,R.mB,I.cl,R.ca,c.cg,c.ct,R.mo⟩,R.ex,R.ve⟩
variable(Y:Vz P w K mg base)
include Y
theorem Vz.fn(D:jB K x st)(ok:∀{f:Addr}{fd:FuncData},gD K x x st f fd->bO P w K mg base iy k f fd ps sp)(hp:jM (cu st) ps=true:=by kernel_rfl):FnAt P w K mg base k x ps sp:=by
 obtain⟨h,X,G⟩:=Y.h;obtain⟨f,fd,a,F⟩:=D;exact⟨f,fd,ok F,mg_of X G a,F.kp,F.qF hp⟩
theorem Vz.fnX(D:jB K x st)(ok:∀{f:Addr}{fd:FuncData},gD K x x st f fd->bO P w K mg base (pY P w) k f fd ps sp)(hp:jM (cu st) ps=true:=by kernel_rfl):zY P w K mg base k x ps sp:=by
 obtain⟨h,X,G⟩:=Y.h;obtain⟨f,fd,a,F⟩:=D;exact⟨f,fd,ok F,mg_of X G a,F.kp,F.qF hp⟩
theorem Vz.fnL(D:Rx K x st p)(ok:∀{f:Addr}{fd:FuncData},FW K x x st p f fd->bO P w K mg base iy k f fd ps sp)(hp:jM (cu st) ps=true:=by kernel_rfl):FnAt P w K mg base k x ps sp:=by
 obtain⟨h,X,G⟩:=Y.h;obtain⟨f,fd,a,F,_⟩:=D;exact⟨f,fd,ok F,mg_of X G a,F.kp,F.fun.qF hp⟩
theorem Vz.me(D:iV K C m q st)(ok:∀{f:Addr}{fd:FuncData},gD K m q st f fd->bO P w K mg base iy k f fd ps sp)(hp:jM (cu st) ps=true:=by kernel_rfl):MethAt P w K mg base k C m ps sp:=by
 obtain⟨f,fd,⟨a,n⟩,F⟩:=D;exact⟨f,fd,ok F,⟨a,n,F.kp⟩,F.qF hp⟩
theorem Vz.meX(D:iV K C m q st)(ok:∀{f:Addr}{fd:FuncData},gD K m q st f fd->bO P w K mg base (pY P w) k f fd ps sp)(hp:jM (cu st) ps=true:=by kernel_rfl):j9 P w K mg base k C m ps sp:=by
 obtain⟨f,fd,⟨a,n⟩,F⟩:=D;exact⟨f,fd,ok F,⟨a,n,F.kp⟩,F.qF hp⟩
theorem Vz.ma(I:Io K x C)(D:iV K C "__init__" q st)(ok:∀{f:Addr}{fd:FuncData},gD K "__init__" q st f fd->bO P w K mg base iy k f fd ps sp)(hp:jM (cu st) ps=true:=by kernel_rfl):qH P w K mg base k C x ps [] sp:=by
 obtain⟨h,X,G⟩:=Y.h;obtain⟨f,fd,⟨a,n⟩,F⟩:=D;exact⟨f,fd,[],ok F,⟨I.ms,a,n,I.kp⟩,mg_of X G I.a,F.qF hp,.nil⟩
theorem Vz.maX(I:Io K x C)(D:iV K C "__init__" q st)(ok:∀{f:Addr}{fd:FuncData},gD K "__init__" q st f fd->bO P w K mg base (pY P w) k f fd ps sp)(hp:jM (cu st) ps=true:=by kernel_rfl):mX P w K mg base k C x ps [] sp:=by
 obtain⟨h,X,G⟩:=Y.h;obtain⟨f,fd,⟨a,n⟩,F⟩:=D;exact⟨f,fd,[],ok F,⟨I.ms,a,n,I.kp⟩,mg_of X G I.a,F.qF hp,.nil⟩
end
end L2
namespace Tip
open PySem PyProof.Rows
noncomputable def j6:Bool->Keyed->Array Keyed->Nat->Nat->Nat->StateT SortSt Sem (Option Nat):=sortPriv% PySem.Builtin.gallop
noncomputable def pO(left:Bool)(key:Keyed)(arr:Array Keyed)(base i:Nat):StateT SortSt Sem (Option Bool):=do
 let x ←elem' arr (base+i)
 if left then lt' x key else return (←lt' key x).map (!·)
noncomputable def glB(left:Bool)(key:Keyed)(arr:Array Keyed)(base n lo hi:Nat):StateT SortSt Sem (Option Nat):=do
 let mut lo:=lo
 let mut hi:=hi
 for _ in [0:n] do
  if lo≥hi then break
  let m:=lo+(hi - lo) / 2
  let some more ←pO left key arr base m|return none
  if more then lo:=m+1 else hi:=m
 return some hi
theorem Hw(left:Bool)(key:Keyed)(arr:Array Keyed)(base n hint:Nat):j6 left key arr base n hint=(do
 let mut lastofs:=0
 let mut ofs:=1
 let some right ←pO left key arr base hint|return none
 if right then
  for _ in [0:n] do
   if ofs≥n - hint then break
   let some more ←pO left key arr base (hint+ofs)|return none
   if !more then break
   lastofs:=ofs
   ofs:=2*ofs+1
  glB left key arr base n (hint+lastofs+1) (hint+min ofs (n - hint))
 else
  for _ in [0:n] do
   if ofs≥hint+1 then break
   let some found ←pO left key arr base (hint - ofs)|return none
   if found then break
   lastofs:=ofs
   ofs:=2*ofs+1
  glB left key arr base n (hint+1 - min ofs (hint+1)) (hint - lastofs)):=Z
section
variable{prog:Program}{w:World}{A:Around}{E:Value->Shared->Prop}{s:Shared}{κ:SortKind}{a₀:Array Keyed}
structure uE(prog:Program)(w:World)(A:Around)(s:Shared)(κ:SortKind)(a₀:Array Keyed):Prop where
 ask:∀p∈a₀.toList,∀q∈a₀.toList,∀(E:Value->Shared->Prop)(Q:Bool->Shared->Prop),(∀b,Q b s)->wpAny (model prog w) A (keyLt' κ p.1 q.1) Q E s
theorem vD{st:SortSt}{p q:Keyed}{Q:Option Bool->SortSt->Prop}(C:uE prog w A s κ a₀)(hk:kindOf st=κ)(hp:p∈a₀.toList)(hq:q∈a₀.toList)(h:∀b,Q (some b) st):
 wpS (model prog w) A E s (lt' p q) Q st:=by
 rw[lt'_eq];refine aaG (wpS_get ?_);rw[hk];exact aaG (wpS_lift (wpAny_attempt (C.ask p hp q hq _ _ λb=>⟨Z,aaH (h b)⟩)))
theorem bU{st:SortSt}{arr:Array Keyed}{i:Nat}{Q:Keyed->SortSt->Prop}(hi:i<arr.size)(h:Q arr[i] st):wpS (model prog w) A E s (elem' arr i) Q st:=by
 rw[elem'_eq,getElem?_pos arr i hi];exact aaH h
theorem aX{α:Type}{c:Prop}[Decidable c]{x y:StateT SortSt Sem α}{Q:α->SortSt->Prop}{st:SortSt}(h1:c->wpS (model prog w) A E s x Q st)(h2:¬c->wpS (model prog w) A E s y Q st):wpS (model prog w) A E s (if c then x else y) Q st:=by
 by_cases hc:c
 .rw[acM hc];exact h1 hc
 .rw[acK hc];exact h2 hc
noncomputable def Of(a₀ a:Array Keyed):Prop:=∀p∈a.toList,p∈a₀.toList
theorem Of.get{a:Array Keyed}(h:Of a₀ a){i:Nat}(hi:i<a.size):a[i]∈a₀.toList:=h _ (by simp)
theorem lX{st:SortSt}{left:Bool}{key:Keyed}{arr:Array Keyed}{base i:Nat}{Q:Option Bool->SortSt->Prop}(C:uE prog w A s κ a₀)(hk:kindOf st=κ)(hkey:key∈a₀.toList)(yL:Of a₀ arr)(hi:base+i<arr.size)(h:∀b,Q (some b) st):wpS (model prog w) A E s (pO left key arr base i) Q st:=by
 unfold pO;refine aaG (bU hi ?_);cases left with
 | true=>exact vD C hk (yL.get hi) hkey h
 | false=>exact aaG (vD C hk hkey (yL.get hi) λb=>aaH (h _))
theorem I_{st:SortSt}{left:Bool}{key:Keyed}{arr:Array Keyed}{base n lo hi:Nat}{Q:Option Nat->SortSt->Prop}(C:uE prog w A s κ a₀)(hk:kindOf st=κ)(hkey:key∈a₀.toList)(yL:Of a₀ arr)(hn:base+n<=arr.size)(hlh:lo<=hi)(hhn:hi<=n)(h:∀k,k<=n->Q (some k) st):wpS (model prog w) A E s (glB left key arr base n lo hi) Q st:=by
 unfold glB;refine aaG (wpS_mono (wpS_forRange (I:=λ_ c st'=>st'=st /\ ∃lo hi,c=(none,lo,hi)/\lo<=hi/\hi<=n) (Q:=λc st'=>st'=st /\ ∃l k,c=(none,l,k)/\k<=n) ?_ ?_ ⟨Z,lo,hi,Z,hlh,hhn⟩) ?_)
 .rintro x c st' _ _ ⟨rfl,lo,hi,rfl,a1,a2⟩
  dsimp only;refine aX (λ_=>aaH ⟨Z,_,_,Z,a2⟩) (λz=>?_);refine aaG (lX C hk hkey yL (by lia) λb=>?_);dsimp only;exact aX (λ_=>aaH ⟨Z,_,_,Z,by lia,a2⟩) (λ_=>aaH ⟨Z,_,_,Z,by lia,by lia⟩)
 .rintro c st' ⟨rfl,l,k,rfl,_,a2⟩
  exact⟨Z,l,k,Z,a2⟩
 .rintro c st' ⟨rfl,l,k,rfl,a2⟩
  exact aaH (h k a2)
theorem iC{st:SortSt}{left:Bool}{key:Keyed}{arr:Array Keyed}{base n hint:Nat}{Q:Option Nat->SortSt->Prop}(C:uE prog w A s κ a₀)(hk:kindOf st=κ)(hkey:key∈a₀.toList)(yL:Of a₀ arr)(hn:base+n<=arr.size)(hh:hint<n)(h:∀k,k<=n->Q (some k) st):
 wpS (model prog w) A E s (j6 left key arr base n hint) Q st:=by
 rw[Hw];refine aaG (lX C hk hkey yL (by lia) λb=>?_);dsimp only;refine aX (λ_=>?_) (λ_=>?_)
 .refine aaG (wpS_mono (wpS_forRange (I:=λ_ c st'=>st'=st /\ ∃l o,c=(none,l,o)/\l<o/\hint+l<n) (Q:=λc st'=>st'=st /\ ∃l o,c=(none,l,o)/\l<o/\hint+l<n) ?_ (λ_ _ z=>z) ⟨Z,0,1,Z,by lia,by lia⟩) ?_)
  .rintro x c st' _ _ ⟨rfl,l,o,rfl,a1,a2⟩
   dsimp only;refine aX (λ_=>aaH ⟨Z,l,o,Z,a1,a2⟩) (λz=>?_);refine aaG (lX C hk hkey yL (by lia) λb=>?_);dsimp only;exact aX (λ_=>aaH ⟨Z,l,o,Z,a1,a2⟩) (λ_=>aaH ⟨Z,_,_,Z,by lia,by lia⟩)
  .rintro c st' ⟨rfl,l,o,rfl,a1,a2⟩
   exact I_ C hk hkey yL hn (by dsimp only;lia) (by dsimp only;lia) h
 .refine aaG (wpS_mono (wpS_forRange (I:=λ_ c st'=>st'=st /\ ∃l o,c=(none,l,o)/\l<o/\l<=hint) (Q:=λc st'=>st'=st /\ ∃l o,c=(none,l,o)/\l<o/\l<=hint) ?_ (λ_ _ z=>z) ⟨Z,0,1,Z,by lia,by lia⟩) ?_)
  .rintro x c st' _ _ ⟨rfl,l,o,rfl,a1,a2⟩
   dsimp only;refine aX (λ_=>aaH ⟨Z,l,o,Z,a1,a2⟩) (λz=>?_);refine aaG (lX C hk hkey yL (by lia) λb=>?_);dsimp only;exact aX (λ_=>aaH ⟨Z,l,o,Z,a1,a2⟩) (λ_=>aaH ⟨Z,_,_,Z,by lia,by lia⟩)
  .rintro c st' ⟨rfl,l,o,rfl,a1,a2⟩
   exact I_ C hk hkey yL hn (by dsimp only;lia) (by dsimp only;lia) h
structure pQ(st st':SortSt):Prop where
 k:kindOf st'=kindOf st
 a:arrOf st'=arrOf st
 p:pendingOf st'=pendingOf st
 f:failedOf st'=failedOf st
theorem pQ.refl(st:SortSt):pQ st st:=⟨Z,Z,Z,Z⟩
theorem pQ.trans{a b c:SortSt}(h:pQ a b)(g:pQ b c):pQ a c:=⟨g.k.trans h.k,g.a.trans h.a,g.p.trans h.p,g.f.trans h.f⟩
noncomputable def eY:Nat->StateT SortSt Sem Unit:=sortPriv% PySem.Builtin.setMinGallop
theorem tM(g:Nat):eY g=modify λs=>SortSt.mk' (kindOf s) (arrOf s) (pendingOf s) g (failedOf s):=Z
theorem pq{st:SortSt}{g:Nat}{Q:Unit->SortSt->Prop}(h:∀st',pQ st st'->Q () st'):wpS (model prog w) A E s (eY g) Q st:=by
 rw[tM];exact wpS_modify (h _ ⟨Z,Z,Z,Z⟩)
theorem fO(a:Array Keyed)(i j:Nat):(a.extract i j).toList=(a.toList.drop i).take (j - i):=by
 rw[Array.toList_extract,List.extract_eq_take_drop]
theorem xK(l:List Keyed)(i k:Nat):l.drop i=(l.drop i).take k++l.drop (i+k):=by
 rw[←List.drop_drop,List.take_append_drop]
end
noncomputable def wO:Array Keyed->Array Keyed->StateT SortSt Sem (Array Keyed):=sortPriv% PySem.Builtin.mergeLo
noncomputable def wQ:Array Keyed->Array Keyed->StateT SortSt Sem (Array Keyed):=sortPriv% PySem.Builtin.mergeHi
noncomputable abbrev lE(a b out:Array Keyed)(ia ib:Nat):Array Keyed:=out++a.extract ia a.size++b.extract ib b.size
noncomputable abbrev wR(a b out:Array Keyed)(ia ib:Nat):Array Keyed:=out++b.extract ib b.size++a.extract ia a.size
noncomputable abbrev S1:=Option (Array Keyed)×Array Keyed×Nat×Nat×Nat×Nat
noncomputable abbrev S2:=Option (Array Keyed)×Array Keyed×Nat×Nat×Nat×Nat×Nat
noncomputable def loC(a b:Array Keyed)(ia mg ac bc:Nat)(out:Array Keyed)(ib:Nat):StateT SortSt Sem (ForInStep S2):=do
 let out:=out.push (←elem' a ia)
 if ia+1+1==a.size then return .done (some (wR a b out (ia+1) ib),out,ia+1,ib,mg,ac,bc)
 if ac<7&&bc<7 then return .done (none,out,ia+1,ib,mg,ac,bc)
 return .yield (none,out,ia+1,ib,mg,ac,bc)
noncomputable def loB(a b:Array Keyed)(ib mg ac bc:Nat)(out:Array Keyed)(ia:Nat):StateT SortSt Sem (ForInStep S2):=do
 let out:=out.push (←elem' b ib)
 if ib+1==b.size then return .done (some (lE a b out ia (ib+1)),out,ia,ib+1,mg,ac,bc)
 let some k ←j6 true (←elem' a ia) b (ib+1) (b.size - (ib+1)) 0|return .done (some (lE a b out ia (ib+1)),out,ia,ib+1,mg,ac,bc)
 if k>0 then
  if ib+1+k==b.size then return .done (some (lE a b (out++b.extract (ib+1) (ib+1+k)) ia (ib+1+k)),out++b.extract (ib+1) (ib+1+k),ia,ib+1+k,mg,ac,k)
  else loC a b ia mg ac k (out++b.extract (ib+1) (ib+1+k)) (ib+1+k)
 else loC a b ia mg ac k out (ib+1)
noncomputable def loA(a b out:Array Keyed)(ia ib ac bc mg:Nat):StateT SortSt Sem (ForInStep S2):=do
 eY mg
 let some k ←j6 false (←elem' b ib) a ia (a.size - ia) 0|return .done (some (lE a b out ia ib),out,ia,ib,mg,ac,bc)
 if k>0 then
  if ia+k+1==a.size then return .done (some (wR a b (out++a.extract ia (ia+k)) (ia+k) ib),out++a.extract ia (ia+k),ia+k,ib,mg,k,bc)
  else if ia+k==a.size then return .done (some (lE a b (out++a.extract ia (ia+k)) (ia+k) ib),out++a.extract ia (ia+k),ia+k,ib,mg,k,bc)
  else loB a b ib mg k bc (out++a.extract ia (ia+k)) (ia+k)
 else loB a b ib mg k bc out ia
noncomputable def lo1(a b:Array Keyed)(mg:Nat)(c:S1):StateT SortSt Sem (ForInStep S1):=
 let out:=c.2.1;let ia:=c.2.2.1;let ib:=c.2.2.2.1;let ac:=c.2.2.2.2.1;let bc:=c.2.2.2.2.2
 do
 let some bWins ←lt' (←elem' b ib) (←elem' a ia)|return .done (some (lE a b out ia ib),out,ia,ib,ac,bc)
 if bWins then
  let out:=out.push (←elem' b ib)
  if ib+1==b.size then return .done (some (lE a b out ia (ib+1)),out,ia,ib+1,0,bc+1)
  if bc+1≥mg then return .done (none,out,ia,ib+1,0,bc+1)
  return .yield (none,out,ia,ib+1,0,bc+1)
 else
  let out:=out.push (←elem' a ia)
  if ia+1+1==a.size then return .done (some (wR a b out (ia+1) ib),out,ia+1,ib,ac+1,0)
  if ac+1≥mg then return .done (none,out,ia+1,ib,ac+1,0)
  return .yield (none,out,ia+1,ib,ac+1,0)
noncomputable abbrev S0:=Option (Array Keyed)×Array Keyed×Nat×Nat×Nat
noncomputable def loO(a b:Array Keyed)(c:S0):StateT SortSt Sem (ForInStep S0):=do
 let s ←forIn [0:a.size+b.size] ((none,c.2.1,c.2.2.1,c.2.2.2.1,0,0):S1) λ_ s=>lo1 a b c.2.2.2.2 s
 match s.1 with
 | some r=>pure (.done (some r,s.2.1,s.2.2.1,s.2.2.2.1,c.2.2.2.2))
 | none=>do
   rule "list.sort.gallop"
   let s ←forIn [0:a.size+b.size] ((none,s.2.1,s.2.2.1,s.2.2.2.1,c.2.2.2.2+1,s.2.2.2.2.1,s.2.2.2.2.2):S2) λ_ c=>
    if c.2.2.2.2.1>1 then loA a b c.2.1 c.2.2.1 c.2.2.2.1 c.2.2.2.2.2.1 c.2.2.2.2.2.2 (c.2.2.2.2.1 - 1) else loA a b c.2.1 c.2.2.1 c.2.2.2.1 c.2.2.2.2.2.1 c.2.2.2.2.2.2 c.2.2.2.2.1
   match s.1 with
   | some r=>pure (.done (some r,s.2.1,s.2.2.1,s.2.2.2.1,s.2.2.2.2.1))
   | none=>do
     eY (s.2.2.2.2.1+1)
     pure (.yield (none,s.2.1,s.2.2.1,s.2.2.2.1,s.2.2.2.2.1+1))
theorem Ej(a b:Array Keyed):wO a b=(do
 rule "list.sort.merge-lo"
 let out:Array Keyed:= #[←elem' b 0]
 if 1==b.size then return lE a b out 0 1
 if 0+1==a.size then return wR a b out 0 1
 let s ←forIn [0:a.size+b.size] ((none,out,0,1,gallopOf (←get)):S0) λ_ c=>loO a b c
 match s.1 with
 | some r=>pure r
 | none=>unsupported "internal:list.sort.merge-bound"):=by kernel_rfl
section
variable{a b out:Array Keyed}{ia ib k n:Nat}
noncomputable def Pm(a b out:Array Keyed)(ia ib:Nat):Prop:=(out.toList++(a.toList.drop ia++b.toList.drop ib)).Perm (a.toList++b.toList)
noncomputable def Mg(a b r:Array Keyed):Prop:=r.toList.Perm (a.toList++b.toList)
theorem Pm.swap(m:Pm a b out ia ib):Pm b a out ib ia:=(List.Perm.append_left _ List.perm_append_comm).trans (List.Perm.trans m List.perm_append_comm)
theorem Pm.oO(m:Pm a b out ia ib):Pm a b (out++b.extract ib (ib+k)) ia (ib+k):=by
 unfold Pm;rw[Array.toList_append,fO,show ib+k - ib=k by lia,List.append_assoc];refine List.Perm.trans (List.Perm.append_left _ ?_) m;refine List.Perm.trans ?_ (List.Perm.of_eq (congrArg (a.toList.drop ia ++ ·) (xK b.toList ib k).symm));rw[←List.append_assoc];exact List.Perm.trans (List.Perm.append_right _ List.perm_append_comm) (List.Perm.of_eq (List.append_assoc _ _ _))
theorem Pm.oU(m:Pm a b out ia ib):Pm a b (out++a.extract ia (ia+k)) (ia+k) ib:=m.swap.oO.swap
theorem N5(h:ib<b.size):out.push b[ib]=out++b.extract ib (ib+1):=by
 apply Array.toList_inj.mp;rw[Array.toList_push,Array.toList_append,fO];congr 1;rw[show ib+1 - ib=1 by lia,List.drop_eq_getElem_cons (by rw[aaI];exact h)];rfl
theorem Pm.wg(m:Pm a b out ia ib)(h:ib<b.size):Pm a b (out.push b[ib]) ia (ib+1):=by
 rw[N5 h];exact m.oO
theorem Pm.wj(m:Pm a b out ia ib)(h:ia<a.size):Pm a b (out.push a[ia]) (ia+1) ib:=(m.swap.wg h).swap
theorem Pm.done(m:Pm a b out ia ib):Mg a b (lE a b out ia ib):=by
 unfold Mg lE;rw[Array.toList_append,Array.toList_append,fO,fO,List.append_assoc,List.take_of_length_le (by rw[List.length_drop,aaI];exact aar _),List.take_of_length_le (by rw[List.length_drop,aaI];exact aar _)];exact m
theorem Pm.last(m:Pm a b out ia ib):Mg a b (wR a b out ia ib):=List.Perm.trans m.swap.done List.perm_append_comm
theorem Pm.size(m:Pm a b out ia ib)(h:ia<a.size):out.size<a.size+b.size:=by
 have:=List.Perm.length_eq m;simp only[aa_,List.length_drop,aaI] at this;lia
noncomputable def LI(a b:Array Keyed)(n:Nat){γ:Type}:Option (Array Keyed)×Array Keyed×Nat×Nat×γ->Prop
 | (none,out,ia,ib,_)=>Pm a b out ia ib/\ia+2<=a.size/\ib+1<=b.size/\n<=out.size
 | _=>False
noncomputable def LP(a b:Array Keyed)(n:Nat){γ:Type}:Option (Array Keyed)×Array Keyed×Nat×Nat×γ->Prop
 | (some r,_)=>Mg a b r
 | c=>LI a b n c
noncomputable def LQ(a b:Array Keyed)(m n:Nat){γ:Type}:ForInStep (Option (Array Keyed)×Array Keyed×Nat×Nat×γ)->Prop
 | .done c=>LP a b m c
 | .yield c=>LI a b n c
noncomputable def LR(a b:Array Keyed)(n:Nat){γ:Type}:ForInStep (Option (Array Keyed)×Array Keyed×Nat×Nat×γ)->Prop
 | .done c=>∃r t,c=(some r,t)/\Mg a b r
 | .yield c=>LI a b n c
end
section
variable{prog:Program}{w:World}{A:Around}{E:Value->Shared->Prop}{s:Shared}{κ:SortKind}{a₀ a b out:Array Keyed}{ia ib n m mg ac bc:Nat}{st st0:SortSt}
theorem Iv(m2:Pm a b out ia ib)(h1:ia+2<=a.size)(h2:ib+1<=b.size)(hm:m<=out.size)(hn:n<=out.size+1)(kp:pQ st0 st):
 wpS (model prog w) A E s (loC a b ia mg ac bc out ib) (λr st'=>pQ st0 st'/\LQ a b m n r) st:=by
 unfold loC;refine aaG (bU (by lia) ?_);have p:=m2.wj (show ia<a.size by lia);dsimp only;refine aX (λe=>aaH ⟨kp,p.last⟩) (λe=>?_);have e:¬ia+1+1=a.size:=by simpa using e
 have z:(out.push (a[ia]'(by lia))).size=out.size+1:=Array.size_push _;exact aX (λ_=>aaH ⟨kp,p,by lia,h2,by lia⟩) (λ_=>aaH ⟨kp,p,by lia,h2,by lia⟩)
theorem Iw(C:uE prog w A s κ a₀)(ha:Of a₀ a)(hb:Of a₀ b)(m2:Pm a b out ia ib)(h1:ia+2<=a.size)(h2:ib+1<=b.size)(hm:m<=out.size)(hn:n<=out.size+1)(kp:pQ st0 st)(hk:kindOf st=κ):
 wpS (model prog w) A E s (loB a b ib mg ac bc out ia) (λr st'=>pQ st0 st'/\LQ a b m n r) st:=by
 unfold loB;refine aaG (bU h2 ?_);have p:=m2.wg h2;have z:(out.push b[ib]).size=out.size+1:=Array.size_push _;dsimp only;generalize out.push b[ib]=afD at p z ⊢;refine aX (λe=>aaH ⟨kp,p.done⟩) (λe=>?_);have e:¬ib+1=b.size:=by simpa using e
 refine aaG (bU (by lia) (aaG (iC C hk (ha.get (by lia)) hb (by lia) (by lia) λk hk2=>?_)));dsimp only;refine aX (λ_=>aX (λe=>aaH ⟨kp,p.oO.done⟩) (λe=>?_)) (λ_=>Iv p h1 (by lia) (by lia) (by lia) kp);have e:¬ib+1+k=b.size:=by simpa using e
 exact Iv p.oO h1 (by lia) (by rw[Array.size_append];lia) (by rw[Array.size_append];lia) kp
theorem Iz(C:uE prog w A s κ a₀)(ha:Of a₀ a)(hb:Of a₀ b)(m2:Pm a b out ia ib)(h1:ia+2<=a.size)(h2:ib+1<=b.size)(hm:m<=out.size)(hn:n<=out.size+1)(kp:pQ st0 st)(hk:kindOf st0=κ):
 wpS (model prog w) A E s (loA a b out ia ib ac bc mg) (λr st'=>pQ st0 st'/\LQ a b m n r) st:=by
 unfold loA;refine aaG (pq λuF k4=>?_);have kp:=kp.trans k4;have hk:=kp.k.trans hk;refine aaG (bU h2 (aaG (iC C hk (hb.get h2) ha (by lia) (by lia) λk hk2=>?_)));dsimp only;refine aX (λ_=>aX (λe=>aaH ⟨kp,m2.oU.last⟩) (λe1=>aX (λe=>aaH ⟨kp,m2.oU.done⟩) (λe2=>?_))) (λ_=>Iw C ha hb m2 h1 h2 hm hn kp hk);have e1:¬ia+k+1=a.size:=by simpa using e1
 have e2:¬ia+k=a.size:=by simpa using e2
 exact Iw C ha hb m2.oU (by lia) h2 (by rw[Array.size_append];lia) (by rw[Array.size_append];lia) kp hk
theorem RP(C:uE prog w A s κ a₀)(ha:Of a₀ a)(hb:Of a₀ b)(m2:Pm a b out ia ib)(h1:ia+2<=a.size)(h2:ib+1<=b.size)(hm:m<=out.size+1)(hn:n<=out.size+1)(hk:kindOf st=κ):
 wpS (model prog w) A E s (lo1 a b mg (none,out,ia,ib,ac,bc)) (λr st'=>st'=st/\LQ a b m n r) st:=by
 unfold lo1;dsimp only;refine aaG (bU h2 (aaG (bU (by lia) (aaG (vD C hk (hb.get h2) (ha.get (by lia)) λt=>?_)))));dsimp only;refine aX (λ_=>aaG (bU h2 ?_)) (λ_=>aaG (bU (by lia) ?_))
 .have p:=m2.wg h2
  have z:(out.push b[ib]).size=out.size+1:=Array.size_push _;refine aX (λe=>aaH ⟨Z,p.done⟩) (λe=>?_);have e:¬ib+1=b.size:=by simpa using e
  exact aX (λ_=>aaH ⟨Z,p,h1,by lia,by lia⟩) (λ_=>aaH ⟨Z,p,h1,by lia,by lia⟩)
 .have p:=m2.wj (show ia<a.size by lia)
  have z:(out.push (a[ia]'(by lia))).size=out.size+1:=Array.size_push _;refine aX (λe=>aaH ⟨Z,p.last⟩) (λe=>?_);have e:¬ia+1+1=a.size:=by simpa using e
  exact aX (λ_=>aaH ⟨Z,p,by lia,h2,by lia⟩) (λ_=>aaH ⟨Z,p,by lia,h2,by lia⟩)
theorem RN(C:uE prog w A s κ a₀)(ha:Of a₀ a)(hb:Of a₀ b)(m2:Pm a b out ia ib)(h1:ia+2<=a.size)(h2:ib+1<=b.size)(hm:n<=out.size)(hk:kindOf st0=κ)(kp:pQ st0 st):
 wpS (model prog w) A E s (loO a b (none,out,ia,ib,mg)) (λr st'=>pQ st0 st'/\LR a b (n+1) r) st:=by
 unfold loO;dsimp only;refine aaG (wpS_mono (wpS_forRange (I:=λy c st2=>st2=st/\LI a b (n+y) c) (Q:=λc st2=>st2=st/\LP a b (n+1) c) ?_ ?_ ⟨Z,m2,h1,h2,hm⟩) ?_)
 .rintro y ⟨_|r,out,ia,ib,ac,bc⟩ _ _ _ ⟨rfl,h⟩
  .obtain⟨p,q1,q2,q3⟩:=h
   refine wpS_mono (RP (m:=n+1) (n:=n+(y+1)) C ha hb p q1 q2 (by lia) (by lia) (kp.k.trans hk)) λr st' h=>?_;cases r with
   | done c=>exact h
   | yield c=>exact h
  .exact h.elim
 .rintro⟨_|r,out,ia,ib,ac,bc⟩ _ ⟨rfl,h⟩
  .obtain⟨p,q1,q2,q3⟩:=h
   have:=p.size (by lia);lia
  .exact h.elim
 rintro⟨_|r,out,ia,ib,ac,bc⟩ _ ⟨rfl,h⟩
 .obtain⟨p,q1,q2,q3⟩:=h
  dsimp only;refine aaG (wpS_lift (wpAny_rule ⟨Z, ?_⟩));refine aaG (wpS_mono (wpS_forRange (I:=λy c st2=>pQ st0 st2/\LI a b (n+1+y) c) (Q:=λc st2=>pQ st0 st2/\LP a b (n+1) c) ?_ ?_ ⟨kp,p,q1,q2,q3⟩) ?_)
  .rintro y ⟨_|r,out,ia,ib,mg,ac,bc⟩ st2 _ _ ⟨k2,h⟩
   .obtain⟨p,q1,q2,q3⟩:=h
    dsimp only;refine wpS_mono (aX (λ_=>Iz (m:=n+1) (n:=n+1+(y+1)) C ha hb p q1 q2 (by lia) (by lia) k2 hk) (λ_=>Iz C ha hb p q1 q2 (by lia) (by lia) k2 hk)) λr st' h=>?_;cases r with
    | done c=>exact h
    | yield c=>exact h
   .exact h.elim
  .rintro⟨_|r,out,ia,ib,mg,ac,bc⟩ st2 ⟨k2,h⟩
   .obtain⟨p,q1,q2,q3⟩:=h
    have:=p.size (by lia);lia
   .exact h.elim
  rintro⟨_|r,out,ia,ib,mg,ac,bc⟩ st2 ⟨k2,h⟩
  .exact aaG (pq λuF k4=>aaH ⟨k2.trans k4,h⟩)
  .exact aaH ⟨k2,r,_,Z,h⟩
 .exact aaH ⟨kp,r,_,Z,h⟩
theorem Di{Q:Array Keyed->SortSt->Prop}(C:uE prog w A s κ a₀)(hk:kindOf st=κ)(ha:Of a₀ a)(hb:Of a₀ b)(ha1:1<=a.size)(hb1:1<=b.size)(h:∀r st',pQ st st'->Mg a b r->Q r st'):wpS (model prog w) A E s (wO a b) Q st:=by
 have p:Pm a b #[b[0]] 0 1:=Pm.wg (out:= #[]) (ib:=0) (ia:=0) (show Pm a b #[] 0 0 from .refl _) hb1;rw[Ej];refine aaG (wpS_lift (wpAny_rule ⟨Z, ?_⟩));refine aaG (bU hb1 ?_);dsimp only;refine aX (λe=>aaH (h _ _ (.refl _) p.done)) (λe1=>?_);refine aX (λe=>aaH (h _ _ (.refl _) p.last)) (λe2=>?_);have e1:¬1=b.size:=by simpa using e1
 have e2:¬1=a.size:=by simpa using e2
 refine aaG (wpS_get ?_);refine aaG (wpS_mono (wpS_forRange (I:=λy c st2=>pQ st st2/\LI a b y c) (Q:=λc st2=>pQ st st2 /\ ∃r t,c=(some r,t)/\Mg a b r) ?_ ?_ ⟨.refl _,p,by lia,by lia,Nat.zero_le _⟩) ?_)
 .rintro y ⟨_|r,out,ia,ib,mg⟩ st2 _ _ ⟨k2,h⟩
  .obtain⟨p,q1,q2,q3⟩:=h
   refine wpS_mono (RN (n:=y) C ha hb p q1 q2 q3 hk k2) λr st' h=>?_;cases r with
   | done c=>exact h
   | yield c=>exact h
  .exact h.elim
 .rintro⟨_|r,out,ia,ib,mg⟩ st2 ⟨k2,h⟩
  .obtain⟨p,q1,q2,q3⟩:=h
   have:=p.size (by lia);lia
  .exact h.elim
 rintro c st2 ⟨k2,r,t,rfl,hm⟩;exact aaH (h _ _ k2 hm)
end
noncomputable abbrev lF(a b out:Array Keyed)(na nb:Nat):Array Keyed:=a.extract 0 na++b.extract 0 nb++out.reverse
noncomputable abbrev rT(a b out:Array Keyed)(na nb:Nat):Array Keyed:=b.extract 0 nb++a.extract 0 na++out.reverse
noncomputable abbrev H1:=Option (Array Keyed)×Nat×Nat×Array Keyed×Nat×Nat
noncomputable abbrev H2:=Option (Array Keyed)×Nat×Nat×Array Keyed×Nat×Nat×Nat
noncomputable abbrev H0:=Option (Array Keyed)×Nat×Nat×Array Keyed×Nat
noncomputable def hiC(a b:Array Keyed)(na mg ac bc:Nat)(out:Array Keyed)(nb:Nat):StateT SortSt Sem (ForInStep H2):=do
 let out:=out.push (←elem' a (na - 1))
 if na - 1==0 then return .done (some (lF a b out (na - 1) nb),na - 1,nb,out,mg,ac,bc)
 if ac<7&&bc<7 then return .done (none,na - 1,nb,out,mg,ac,bc)
 return .yield (none,na - 1,nb,out,mg,ac,bc)
noncomputable def hiB(a b:Array Keyed)(nb mg ac bc:Nat)(out:Array Keyed)(na:Nat):StateT SortSt Sem (ForInStep H2):=do
 let out:=out.push (←elem' b (nb - 1))
 if nb - 1==1 then return .done (some (rT a b out na (nb - 1)),na,nb - 1,out,mg,ac,bc)
 let some t ←j6 true (←elem' a (na - 1)) b 0 (nb - 1) (nb - 1 - 1)|return .done (some (lF a b out na (nb - 1)),na,nb - 1,out,mg,ac,bc)
 if nb - 1 - t>0 then
  if t==1 then return .done (some (rT a b (out++(b.extract t (nb - 1)).reverse) na t),na,t,out++(b.extract t (nb - 1)).reverse,mg,ac,nb - 1 - t)
  else if t==0 then return .done (some (lF a b (out++(b.extract t (nb - 1)).reverse) na t),na,t,out++(b.extract t (nb - 1)).reverse,mg,ac,nb - 1 - t)
  else hiC a b na mg ac (nb - 1 - t) (out++(b.extract t (nb - 1)).reverse) t
 else hiC a b na mg ac (nb - 1 - t) out (nb - 1)
noncomputable def hiA(a b out:Array Keyed)(na nb ac bc mg:Nat):StateT SortSt Sem (ForInStep H2):=do
 eY mg
 let some t ←j6 false (←elem' b (nb - 1)) a 0 na (na - 1)|return .done (some (lF a b out na nb),na,nb,out,mg,ac,bc)
 if na - t>0 then
  if t==0 then return .done (some (lF a b (out++(a.extract t na).reverse) t nb),t,nb,out++(a.extract t na).reverse,mg,na - t,bc)
  else hiB a b nb mg (na - t) bc (out++(a.extract t na).reverse) t
 else hiB a b nb mg (na - t) bc out na
noncomputable def hi1(a b:Array Keyed)(mg:Nat)(c:H1):StateT SortSt Sem (ForInStep H1):=
 let na:=c.2.1;let nb:=c.2.2.1;let out:=c.2.2.2.1;let ac:=c.2.2.2.2.1;let bc:=c.2.2.2.2.2
 do
 let some aWins ←lt' (←elem' b (nb - 1)) (←elem' a (na - 1))|return .done (some (lF a b out na nb),na,nb,out,ac,bc)
 if aWins then
  let out:=out.push (←elem' a (na - 1))
  if na - 1==0 then return .done (some (lF a b out (na - 1) nb),na - 1,nb,out,ac+1,0)
  if ac+1≥mg then return .done (none,na - 1,nb,out,ac+1,0)
  return .yield (none,na - 1,nb,out,ac+1,0)
 else
  let out:=out.push (←elem' b (nb - 1))
  if nb - 1==1 then return .done (some (rT a b out na (nb - 1)),na,nb - 1,out,0,bc+1)
  if bc+1≥mg then return .done (none,na,nb - 1,out,0,bc+1)
  return .yield (none,na,nb - 1,out,0,bc+1)
noncomputable def hiO(a b:Array Keyed)(c:H0):StateT SortSt Sem (ForInStep H0):=do
 let s ←forIn [0:a.size+b.size] ((none,c.2.1,c.2.2.1,c.2.2.2.1,0,0):H1) λ_ s=>hi1 a b c.2.2.2.2 s
 match s.1 with
 | some r=>pure (.done (some r,s.2.1,s.2.2.1,s.2.2.2.1,c.2.2.2.2))
 | none=>do
   rule "list.sort.gallop"
   let s ←forIn [0:a.size+b.size] ((none,s.2.1,s.2.2.1,s.2.2.2.1,c.2.2.2.2+1,s.2.2.2.2.1,s.2.2.2.2.2):H2) λ_ c=>
    if c.2.2.2.2.1>1 then hiA a b c.2.2.2.1 c.2.1 c.2.2.1 c.2.2.2.2.2.1 c.2.2.2.2.2.2 (c.2.2.2.2.1 - 1) else hiA a b c.2.2.2.1 c.2.1 c.2.2.1 c.2.2.2.2.2.1 c.2.2.2.2.2.2 c.2.2.2.2.1
   match s.1 with
   | some r=>pure (.done (some r,s.2.1,s.2.2.1,s.2.2.2.1,s.2.2.2.2.1))
   | none=>do
     eY (s.2.2.2.2.1+1)
     pure (.yield (none,s.2.1,s.2.2.1,s.2.2.2.1,s.2.2.2.2.1+1))
theorem Ek(a b:Array Keyed):wQ a b=(do
 rule "list.sort.merge-hi"
 let out:Array Keyed:= #[←elem' a (a.size - 1)]
 if a.size - 1==0 then return lF a b out (a.size - 1) b.size
 if b.size==1 then return rT a b out (a.size - 1) b.size
 let s ←forIn [0:a.size+b.size] ((none,a.size - 1,b.size,out,gallopOf (←get)):H0) λ_ c=>hiO a b c
 match s.1 with
 | some r=>pure r
 | none=>unsupported "internal:list.sort.merge-bound"):=by kernel_rfl
section
variable{a b out:Array Keyed}{na nb k n t:Nat}
noncomputable def Ph(a b out:Array Keyed)(na nb:Nat):Prop:=(out.toList++(a.toList.take na++b.toList.take nb)).Perm (a.toList++b.toList)
theorem Ph.swap(m:Ph a b out na nb):Ph b a out nb na:=(List.Perm.append_left _ List.perm_append_comm).trans (List.Perm.trans m List.perm_append_comm)
theorem Ph.oU(m:Ph a b out na nb)(h:t<=na):Ph a b (out++(a.extract t na).reverse) t nb:=by
 unfold Ph;rw[Array.toList_append,Array.toList_reverse,fO,List.append_assoc];refine List.Perm.trans (List.Perm.append_left _ ?_) m
 have e:a.toList.take na=a.toList.take t++(a.toList.drop t).take (na - t):=by rw[List.take_drop,show t+(na - t)=na by lia];exact(show _=_ by
  have:=(List.take_append_drop t (a.toList.take na)).symm;rwa [List.take_take,Nat.min_eq_left h] at this)
 rw[e,←List.append_assoc];exact List.Perm.append_right _ ((List.Perm.append_right _ (List.reverse_perm _)).trans List.perm_append_comm)
theorem Ph.oO(m:Ph a b out na nb)(h:t<=nb):Ph a b (out++(b.extract t nb).reverse) na t:=(m.swap.oU h).swap
theorem NZ(h:na - 1<a.size)(h1:1<=na):out.push a[na - 1]=out++(a.extract (na - 1) na).reverse:=by
 apply Array.toList_inj.mp;rw[Array.toList_push,Array.toList_append,Array.toList_reverse,fO];congr 1;rw[show na - (na - 1)=1 by lia,List.drop_eq_getElem_cons (by rw[aaI];exact h)];rfl
theorem Ph.wj(m:Ph a b out na nb)(h:na - 1<a.size)(h1:1<=na):Ph a b (out.push a[na - 1]) (na - 1) nb:=by
 rw[NZ h h1];exact m.oU (Nat.sub_le _ _)
theorem Ph.wg(m:Ph a b out na nb)(h:nb - 1<b.size)(h1:1<=nb):Ph a b (out.push b[nb - 1]) na (nb - 1):=(m.swap.wj h h1).swap
theorem Ph.done(m:Ph a b out na nb):Mg a b (lF a b out na nb):=by
 unfold Mg lF;rw[Array.toList_append,Array.toList_append,fO,fO,Array.toList_reverse];exact List.perm_append_comm.trans ((List.Perm.append_right _ (List.reverse_perm _)).trans m)
theorem Ph.first(m:Ph a b out na nb):Mg a b (rT a b out na nb):=List.Perm.trans m.swap.done List.perm_append_comm
theorem Ph.size(m:Ph a b out na nb)(h:1<=na)(h2:na<=a.size):out.size<a.size+b.size:=by
 have:=List.Perm.length_eq m;simp only[aa_,ab_,aaI] at this;lia
noncomputable def Hd(a b:Array Keyed)(na nb:Nat):Prop:=1<=na/\2<=nb/\na<=a.size/\nb<=b.size
noncomputable def HI(a b:Array Keyed)(n:Nat){γ:Type}:Option (Array Keyed)×Nat×Nat×Array Keyed×γ->Prop
 | (none,na,nb,out,_)=>Ph a b out na nb/\Hd a b na nb/\n<=out.size
 | _=>False
noncomputable def HP(a b:Array Keyed)(n:Nat){γ:Type}:Option (Array Keyed)×Nat×Nat×Array Keyed×γ->Prop
 | (some r,_)=>Mg a b r
 | c=>HI a b n c
noncomputable def HQ(a b:Array Keyed)(m n:Nat){γ:Type}:ForInStep (Option (Array Keyed)×Nat×Nat×Array Keyed×γ)->Prop
 | .done c=>HP a b m c
 | .yield c=>HI a b n c
noncomputable def HR(a b:Array Keyed)(n:Nat){γ:Type}:ForInStep (Option (Array Keyed)×Nat×Nat×Array Keyed×γ)->Prop
 | .done c=>∃r t,c=(some r,t)/\Mg a b r
 | .yield c=>HI a b n c
end
section
variable{prog:Program}{w:World}{A:Around}{E:Value->Shared->Prop}{s:Shared}{κ:SortKind}{a₀ a b out:Array Keyed}{na nb n m mg ac bc:Nat}{st st0:SortSt}
theorem IK(p:Ph a b out na nb)(h:Hd a b na nb)(hm:m<=out.size)(hn:n<=out.size+1)(kp:pQ st0 st):
 wpS (model prog w) A E s (hiC a b na mg ac bc out nb) (λr st'=>pQ st0 st'/\HQ a b m n r) st:=by
 obtain⟨h1,h2,h3,h4⟩:=h;unfold hiC;have i:na - 1<a.size:=by lia
 refine aaG (bU i ?_);have p:=p.wj i h1;have z:(out.push a[na - 1]).size=out.size+1:=Array.size_push _;dsimp only;refine aX (λe=>aaH ⟨kp,p.done⟩) (λe=>?_);have e:¬na - 1=0:=by simpa using e
 have hd:Hd a b (na - 1) nb:=⟨by lia,h2,by lia,h4⟩;exact aX (λ_=>aaH ⟨kp,p,hd,by lia⟩) (λ_=>aaH ⟨kp,p,hd,by lia⟩)
theorem IV(C:uE prog w A s κ a₀)(ha:Of a₀ a)(hb:Of a₀ b)(p:Ph a b out na nb)(h:Hd a b na nb)(hm:m<=out.size)(hn:n<=out.size+1)(kp:pQ st0 st)(hk:kindOf st=κ):
 wpS (model prog w) A E s (hiB a b nb mg ac bc out na) (λr st'=>pQ st0 st'/\HQ a b m n r) st:=by
 obtain⟨h1,h2,h3,h4⟩:=h;unfold hiB;have i:nb - 1<b.size:=by lia
 have j:na - 1<a.size:=by lia
 refine aaG (bU i ?_);have p:=p.wg i (by lia);have z:(out.push b[nb - 1]).size=out.size+1:=Array.size_push _;dsimp only;generalize out.push b[nb - 1]=afD at p z ⊢;refine aX (λe=>aaH ⟨kp,p.first⟩) (λe=>?_);have e:¬nb - 1=1:=by simpa using e
 refine aaG (bU j (aaG (iC C hk (ha.get j) hb (by lia) (by lia) λt ht=>?_)));dsimp only;refine aX (λ_=>aX (λe=>aaH ⟨kp,(p.oO ht).first⟩) (λe1=>aX (λe=>aaH ⟨kp,(p.oO ht).done⟩) (λe2=>?_))) (λ_=>IK p ⟨h1,by lia,h3,by lia⟩ (by lia) (by lia) kp);have e1:¬t=1:=by simpa using e1
 have e2:¬t=0:=by simpa using e2
 exact IK (p.oO ht) ⟨h1,by lia,h3,by lia⟩ (by rw[Array.size_append];lia) (by rw[Array.size_append];lia) kp
theorem IW(C:uE prog w A s κ a₀)(ha:Of a₀ a)(hb:Of a₀ b)(p:Ph a b out na nb)(h:Hd a b na nb)(hm:m<=out.size)(hn:n<=out.size+1)(kp:pQ st0 st)(hk:kindOf st0=κ):
 wpS (model prog w) A E s (hiA a b out na nb ac bc mg) (λr st'=>pQ st0 st'/\HQ a b m n r) st:=by
 have h':=h;obtain⟨h1,h2,h3,h4⟩:=h';unfold hiA;have i:nb - 1<b.size:=by lia
 refine aaG (pq λuF k4=>?_);have kp:=kp.trans k4;have hk:=kp.k.trans hk;refine aaG (bU i (aaG (iC C hk (hb.get i) ha (by lia) (by lia) λt ht=>?_)));dsimp only;refine aX (λ_=>aX (λe=>aaH ⟨kp,(p.oU ht).done⟩) (λe1=>?_)) (λ_=>IV C ha hb p h hm hn kp hk);have e1:¬t=0:=by simpa using e1
 exact IV C ha hb (p.oU ht) ⟨by lia,h2,by lia,h4⟩ (by rw[Array.size_append];lia) (by rw[Array.size_append];lia) kp hk
theorem RV(C:uE prog w A s κ a₀)(ha:Of a₀ a)(hb:Of a₀ b)(p:Ph a b out na nb)(h:Hd a b na nb)(hm:m<=out.size+1)(hn:n<=out.size+1)(hk:kindOf st=κ):
 wpS (model prog w) A E s (hi1 a b mg (none,na,nb,out,ac,bc)) (λr st'=>st'=st/\HQ a b m n r) st:=by
 obtain⟨h1,h2,h3,h4⟩:=h;unfold hi1;dsimp only;have i:nb - 1<b.size:=by lia
 have j:na - 1<a.size:=by lia
 refine aaG (bU i (aaG (bU j (aaG (vD C hk (hb.get i) (ha.get j) λt=>?_)))));dsimp only;refine aX (λ_=>aaG (bU j ?_)) (λ_=>aaG (bU i ?_))
 .have p:=p.wj j h1
  have z:(out.push a[na - 1]).size=out.size+1:=Array.size_push _;refine aX (λe=>aaH ⟨Z,p.done⟩) (λe=>?_);have e:¬na - 1=0:=by simpa using e
  have hd:Hd a b (na - 1) nb:=⟨by lia,h2,by lia,h4⟩;exact aX (λ_=>aaH ⟨Z,p,hd,by lia⟩) (λ_=>aaH ⟨Z,p,hd,by lia⟩)
 .have p:=p.wg i (by lia)
  have z:(out.push b[nb - 1]).size=out.size+1:=Array.size_push _;refine aX (λe=>aaH ⟨Z,p.first⟩) (λe=>?_);have e:¬nb - 1=1:=by simpa using e
  have hd:Hd a b na (nb - 1):=⟨h1,by lia,h3,by lia⟩;exact aX (λ_=>aaH ⟨Z,p,hd,by lia⟩) (λ_=>aaH ⟨Z,p,hd,by lia⟩)
theorem RQ(C:uE prog w A s κ a₀)(ha:Of a₀ a)(hb:Of a₀ b)(p:Ph a b out na nb)(h:Hd a b na nb)(hm:n<=out.size)(hk:kindOf st0=κ)(kp:pQ st0 st):
 wpS (model prog w) A E s (hiO a b (none,na,nb,out,mg)) (λr st'=>pQ st0 st'/\HR a b (n+1) r) st:=by
 unfold hiO;dsimp only;refine aaG (wpS_mono (wpS_forRange (I:=λy c st2=>st2=st/\HI a b (n+y) c) (Q:=λc st2=>st2=st/\HP a b (n+1) c) ?_ ?_ ⟨Z,p,h,hm⟩) ?_)
 .rintro y ⟨_|r,na,nb,out,ac,bc⟩ _ _ _ ⟨rfl,h⟩
  .obtain⟨p,q,q3⟩:=h
   refine wpS_mono (RV (m:=n+1) (n:=n+(y+1)) C ha hb p q (by lia) (by lia) (kp.k.trans hk)) λr st' h=>?_;cases r with
   | done c=>exact h
   | yield c=>exact h
  .exact h.elim
 .rintro⟨_|r,na,nb,out,ac,bc⟩ _ ⟨rfl,h⟩
  .obtain⟨p,q,q3⟩:=h
   have:=p.size q.1 q.2.2.1;lia
  .exact h.elim
 rintro⟨_|r,na,nb,out,ac,bc⟩ _ ⟨rfl,h⟩
 .obtain⟨p,q,q3⟩:=h
  dsimp only;refine aaG (wpS_lift (wpAny_rule ⟨Z, ?_⟩));refine aaG (wpS_mono (wpS_forRange (I:=λy c st2=>pQ st0 st2/\HI a b (n+1+y) c) (Q:=λc st2=>pQ st0 st2/\HP a b (n+1) c) ?_ ?_ ⟨kp,p,q,q3⟩) ?_)
  .rintro y ⟨_|r,na,nb,out,mg,ac,bc⟩ st2 _ _ ⟨k2,h⟩
   .obtain⟨p,q,q3⟩:=h
    dsimp only;refine wpS_mono (aX (λ_=>IW (m:=n+1) (n:=n+1+(y+1)) C ha hb p q (by lia) (by lia) k2 hk) (λ_=>IW C ha hb p q (by lia) (by lia) k2 hk)) λr st' h=>?_;cases r with
    | done c=>exact h
    | yield c=>exact h
   .exact h.elim
  .rintro⟨_|r,na,nb,out,mg,ac,bc⟩ st2 ⟨k2,h⟩
   .obtain⟨p,q,q3⟩:=h
    have:=p.size q.1 q.2.2.1;lia
   .exact h.elim
  rintro⟨_|r,na,nb,out,mg,ac,bc⟩ st2 ⟨k2,h⟩
  .exact aaG (pq λuF k4=>aaH ⟨k2.trans k4,h⟩)
  .exact aaH ⟨k2,r,_,Z,h⟩
 .exact aaH ⟨kp,r,_,Z,h⟩
theorem Dj{Q:Array Keyed->SortSt->Prop}(C:uE prog w A s κ a₀)(hk:kindOf st=κ)(ha:Of a₀ a)(hb:Of a₀ b)(ha1:1<=a.size)(hb1:1<=b.size)(h:∀r st',pQ st st'->Mg a b r->Q r st'):wpS (model prog w) A E s (wQ a b) Q st:=by
 have i:a.size - 1<a.size:=by lia
 have p:Ph a b #[a[a.size - 1]] (a.size - 1) b.size:=by
  refine Ph.wj (out:= #[]) (na:=a.size) ?_ i ha1;unfold Ph;rw[List.take_of_length_le (by rw[aaI];exact aar _),List.take_of_length_le (by rw[aaI];exact aar _)];exact .refl _
 rw[Ek];refine aaG (wpS_lift (wpAny_rule ⟨Z, ?_⟩));refine aaG (bU i ?_);dsimp only;refine aX (λe=>aaH (h _ _ (.refl _) p.done)) (λe1=>?_);refine aX (λe=>aaH (h _ _ (.refl _) p.first)) (λe2=>?_);have e1:¬a.size - 1=0:=by simpa using e1
 have e2:¬b.size=1:=by simpa using e2
 refine aaG (wpS_get ?_);refine aaG (wpS_mono (wpS_forRange (I:=λy c st2=>pQ st st2/\HI a b y c) (Q:=λc st2=>pQ st st2 /\ ∃r t,c=(some r,t)/\Mg a b r) ?_ ?_ ⟨.refl _,p,⟨by lia,by lia,by lia,aar _⟩,Nat.zero_le _⟩) ?_)
 .rintro y ⟨_|r,na,nb,out,mg⟩ st2 _ _ ⟨k2,h⟩
  .obtain⟨p,q,q3⟩:=h
   refine wpS_mono (RQ (n:=y) C ha hb p q q3 hk k2) λr st' h=>?_;cases r with
   | done c=>exact h
   | yield c=>exact h
  .exact h.elim
 .rintro⟨_|r,na,nb,out,mg⟩ st2 ⟨k2,h⟩
  .obtain⟨p,q,q3⟩:=h
   have:=p.size q.1 q.2.2.1;lia
  .exact h.elim
 rintro c st2 ⟨k2,r,t,rfl,hm⟩;exact aaH (h _ _ k2 hm)
end
noncomputable def crL(lo nrem a:Nat):StateT SortSt Sem (Option (Option Nat)×Nat):=
 forIn [a:nrem] ((none,a):Option (Option Nat)×Nat) λ_ c=>do
  match ←ltAt' (lo+c.2) (lo+c.2 - 1) with
  | some t=>if t=true then pure (.done (none,c.2)) else pure (.yield (none,c.2+1))
  | _=>pure (.done (some none,c.2))
noncomputable def crR(lo nrem n:Nat):StateT SortSt Sem (Option Nat):=do
 reverseSlice' lo (lo+n)
 let s ←crL lo nrem n
 match s.1 with
 | some r=>pure r
 | none=>pure (some s.2)
noncomputable def crB(lo n q:Nat):StateT SortSt Sem (ForInStep (Option (Option Nat)×Nat×Nat)):=do
 match ←ltAt' (lo+n) (lo+n - 1) with
 | some t=>
   if t=true then
    if q>0 then do
     reverseSlice' (lo+n - (q+1)) (lo+n)
     pure (.yield (none,n+1,0))
    else pure (.yield (none,n+1,0))
   else do
    match ←ltAt' (lo+n - 1) (lo+n) with
    | some t=>if t=true then pure (.done (none,n,q)) else pure (.yield (none,n+1,q+1))
    | _=>pure (.done (some none,n,q))
 | _=>pure (.done (some none,n,q))
noncomputable def crD(lo nrem n:Nat):StateT SortSt Sem (Option Nat):=do
 rule "list.sort.descending-run"
 let s ←forIn [n+1:nrem] ((none,n+1,0):Option (Option Nat)×Nat×Nat) λ_ c=>crB lo c.2.1 c.2.2
 match s.1 with
 | some r=>pure r
 | none=>
   if s.2.2>0 then do
    reverseSlice' (lo+s.2.1 - (s.2.2+1)) (lo+s.2.1)
    crR lo nrem s.2.1
   else crR lo nrem s.2.1
theorem countRun'_eq(lo nrem:Nat):countRun' lo nrem=(do
 let s ←crL lo nrem 1
 match s.1 with
 | some r=>pure r
 | none=>
   if (s.2==nrem)=true then pure (some s.2) else
   if s.2>1 then do
    match ←ltAt' lo (lo+s.2 - 1) with
    | some t=>if t=true then pure (some s.2) else do
      reverseSlice' lo (lo+s.2)
      crD lo nrem s.2
    | _=>pure none
   else crD lo nrem s.2):=by kernel_rfl
noncomputable def bsB(lo k:Nat):StateT SortSt Sem (ForInStep (Option Bool×Unit)):=do
 let s ←forIn [0:k] ((none,0,k):Option Bool×Nat×Nat) λ_ c=>
  if c.2.1≥c.2.2 then pure (.done (none,c.2.1,c.2.2)) else do
   match ←ltAt' (lo+k) (lo+(c.2.1+c.2.2) / 2) with
   | some t=>if t=true then pure (.yield (none,c.2.1,(c.2.1+c.2.2) / 2)) else pure (.yield (none,(c.2.1+c.2.2) / 2+1,c.2.2))
   | _=>pure (.done (some false,c.2.1,c.2.2))
 match s.1 with
 | some r=>pure (.done (some r,()))
 | none=>do
   moveDown' (lo+k) (lo+s.2.1)
   pure (.yield (none,()))
theorem FN(lo n ok:Nat):binarySort' lo n ok=(do
 let s ←forIn [max ok 1:n] ((none,()):Option Bool×Unit) λk _=>bsB lo k
 match s.1 with
 | some r=>pure r
 | none=>pure true):=by kernel_rfl
theorem El(i:Nat):mergeAt' i=(do
 let s ←get
 match (pendingOf s)[i]?,(pendingOf s)[i+1]? with
 | some (sa,na,power),some (sb,nb,_)=>do
   set (SortSt.mk' (kindOf s) (arrOf s) (((pendingOf s).setIfInBounds i (sa,na+nb,power)).eraseIdxIfInBounds (i+1)) (gallopOf s) (failedOf s))
   match ←j6 false (←elem' (arrOf s) sb) (arrOf s) sa na 0 with
   | some k=>
     if (na - k==0)=true then pure true else do
      match ←j6 true (←elem' (arrOf s) (sa+k+(na - k) - 1)) (arrOf s) sb nb (nb - 1) with
      | some n2=>
        if (n2==0)=true then pure true else do
         let merged ←if na - k<=n2 then wO ((arrOf s).extract (sa+k) sb) ((arrOf s).extract sb (sb+n2)) else wQ ((arrOf s).extract (sa+k) sb) ((arrOf s).extract sb (sb+n2))
         modify λs=>setArr s (merged.toList.zipIdx.foldl (λa x=>a.setIfInBounds (sa+k+x.2) x.1) (arrOf s))
         return (failedOf (←get)).isNone
      | _=>pure false
   | _=>pure false
 | _,_=>unsupported "internal:list.sort.pending"):=by kernel_rfl
section
variable{prog:Program}{w:World}{A:Around}{E:Value->Shared->Prop}{s:Shared}{κ:SortKind}{a₀:Array Keyed}{pd:Array (Nat×Nat×Nat)}{st:SortSt}
structure SB(κ:SortKind)(a₀:Array Keyed)(pd:Array (Nat×Nat×Nat))(st:SortSt):Prop where
 perm:(arrOf st).Perm a₀
 kind:kindOf st=κ
 failed:failedOf st=none
 pend:pendingOf st=pd
theorem SB.size(h:SB κ a₀ pd st):(arrOf st).size=a₀.size:=h.perm.size_eq
theorem SB.set(h:SB κ a₀ pd st){xs:Array Keyed}(hp:xs.Perm (arrOf st)):SB κ a₀ pd (setArr st xs):=⟨hp.trans h.perm,h.kind,h.failed,h.pend⟩
theorem SB.of(h:SB κ a₀ pd st):Of a₀ (arrOf st):=λ_ hp=>(Array.perm_iff_toList_perm.mp h.perm).mem_iff.mp hp
theorem wpS_ltAt{i j:Nat}{Q:Option Bool->SortSt->Prop}(C:uE prog w A s κ a₀)(hB:SB κ a₀ pd st)(hi:i<a₀.size)(hj:j<a₀.size)(h:∀b,Q (some b) st):wpS (model prog w) A E s (ltAt' i j) Q st:=by
 rw[ltAt'_eq];have hi:i<(arrOf st).size:=by rw[hB.size];exact hi
 have hj:j<(arrOf st).size:=by rw[hB.size];exact hj
 exact aaG (wpS_get (aaG (bU hi (aaG (bU hj (vD C hB.kind (hB.of.get hi) (hB.of.get hj) h))))))
theorem vd{i j:Nat}{Q:PUnit->SortSt->Prop}(hB:SB κ a₀ pd st)(h:∀st',SB κ a₀ pd st'->Q ⟨⟩ st'):wpS (model prog w) A E s (reverseSlice' i j) Q st:=by
 rw[reverseSlice'_eq];exact wpS_modify (h _ (hB.set (mirror_perm _ _ _ _)))
theorem Jb{lo nrem a:Nat}{Q:Option (Option Nat)×Nat->SortSt->Prop}(C:uE prog w A s κ a₀)(hn:lo+nrem<=a₀.size)(ha:a<=nrem)(hB:SB κ a₀ pd st)(h:∀m,a<=m->m<=nrem->Q (none,m) st):wpS (model prog w) A E s (crL lo nrem a) Q st:=by
 refine wpS_forRange (I:=λx c st'=>st'=st/\c=(none,x)) ?_ ?_ ⟨Z,Z⟩
 .rintro x c st' x1 xn ⟨rfl,rfl⟩
  refine aaG (wpS_ltAt C hB (by dsimp only;lia) (by dsimp only;lia) λb=>?_);exact aX (λ_=>aaH (h x x1 (by lia))) (λ_=>aaH ⟨Z,Z⟩)
 .rintro c st' ⟨rfl,rfl⟩
  rw[show max a nrem=nrem by lia];exact h nrem ha (aar _)
theorem Ja{lo nrem n:Nat}{Q:Option Nat->SortSt->Prop}(C:uE prog w A s κ a₀)(hn:lo+nrem<=a₀.size)(n1:1<=n)(n2:n<=nrem)(hB:SB κ a₀ pd st)(h:∀m st',SB κ a₀ pd st'->1<=m->m<=nrem->Q (some m) st'):wpS (model prog w) A E s (crR lo nrem n) Q st:=
 aaG (vd hB λst' hB'=>aaG (Jb C hn n2 hB' λm m1 m2=>aaH (h m st' hB' (by lia) m2)))
theorem Jc{lo nrem n:Nat}{Q:Option Nat->SortSt->Prop}(C:uE prog w A s κ a₀)(hn:lo+nrem<=a₀.size)(n2:n+1<=nrem)(hB:SB κ a₀ pd st)(h:∀m st',SB κ a₀ pd st'->1<=m->m<=nrem->Q (some m) st'):wpS (model prog w) A E s (crD lo nrem n) Q st:=by
 unfold crD;refine aaG (wpS_lift (wpAny_rule ⟨Z, ?_⟩));refine aaG (wpS_mono (wpS_forRange (I:=λx c st'=>SB κ a₀ pd st' /\ ∃q,c=(none,x,q)) (Q:=λc st'=>SB κ a₀ pd st' /\ ∃x q,c=(none,x,q)/\n+1<=x/\x<=nrem) ?_ ?_ ⟨hB,0,Z⟩) ?_)
 .rintro x c st' x1 xn ⟨hB',q,rfl⟩
  dsimp only;unfold crB;refine aaG (wpS_ltAt C hB' (by lia) (by lia) λb=>?_);dsimp only;refine aX (λ_=>aX (λ_=>aaG (vd hB' λst2 hB2=>aaH ⟨hB2,_,Z⟩)) (λ_=>aaH ⟨hB',_,Z⟩)) (λ_=>?_);refine aaG (wpS_ltAt C hB' (by lia) (by lia) λb=>?_);exact aX (λ_=>aaH ⟨hB',x,_,Z,x1,by lia⟩) (λ_=>aaH ⟨hB',_,Z⟩)
 .rintro c st' ⟨hB',q,rfl⟩
  rw[show max (n+1) nrem=nrem by lia];exact⟨hB',nrem,q,Z,n2,aar _⟩
 .rintro c st' ⟨hB',x,q,rfl,x1,x2⟩
  exact aX (λ_=>aaG (vd hB' λst2 hB2=>Ja C hn (by dsimp only;lia) x2 hB2 h)) (λ_=>Ja C hn (by dsimp only;lia) x2 hB' h)
theorem wpS_countRun{lo nrem:Nat}{Q:Option Nat->SortSt->Prop}(C:uE prog w A s κ a₀)(hn:lo+nrem<=a₀.size)(h1:1<=nrem)(hB:SB κ a₀ pd st)(h:∀m st',SB κ a₀ pd st'->1<=m->m<=nrem->Q (some m) st'):wpS (model prog w) A E s (countRun' lo nrem) Q st:=by
 rw[countRun'_eq];refine aaG (Jb C hn h1 hB λm m1 m2=>?_);dsimp only;refine aX (λ_=>aaH (h m _ hB m1 m2)) (λe=>?_);have e:¬m=nrem:=λz=>e (beq_iff_eq.mpr z);refine aX (λ_=>aaG (wpS_ltAt C hB (by lia) (by lia) λb=>?_)) (λ_=>Jc C hn (by lia) hB h);exact aX (λ_=>aaH (h m _ hB m1 m2)) (λ_=>aaG (vd hB λst2 hB2=>Jc C hn (by lia) hB2 h))
theorem Dl{lo n ok:Nat}{Q:Bool->SortSt->Prop}(C:uE prog w A s κ a₀)(hn:lo+n<=a₀.size)(hB:SB κ a₀ pd st)(h:∀st',SB κ a₀ pd st'->Q true st'):wpS (model prog w) A E s (binarySort' lo n ok) Q st:=by
 rw[FN];refine aaG (wpS_mono (wpS_forRange (I:=λ_ c st'=>c=(none,())/\SB κ a₀ pd st') (Q:=λc st'=>c=(none,())/\SB κ a₀ pd st') ?_ (λ_ _ z=>z) ⟨Z,hB⟩) ?_)
 .rintro k c st' _ kn ⟨rfl,hB'⟩
  unfold bsB;refine aaG (wpS_mono (wpS_forRange (I:=λ_ c st2=>st2=st' /\ ∃l r,c=(none,l,r)/\r<=k) (Q:=λc st2=>st2=st' /\ ∃l r,c=(none,l,r)/\r<=k) ?_ (λ_ _ z=>z) ⟨Z,0,k,Z,aar _⟩) ?_)
  .rintro x c st2 _ _ ⟨rfl,l,r,rfl,rk⟩
   refine aX (λ_=>aaH ⟨Z,l,r,Z,rk⟩) (λz=>?_);dsimp only at z ⊢;refine aaG (wpS_ltAt C hB' (by lia) (by lia) λb=>?_);exact aX (λ_=>aaH ⟨Z,_,_,Z,by lia⟩) (λ_=>aaH ⟨Z,_,_,Z,rk⟩)
  .rintro c st2 ⟨rfl,l,r,rfl,_⟩
   refine aaG ?_;rw[moveDown'_eq];exact wpS_modify (aaH ⟨Z,hB'.set (bubble_perm _ _ _)⟩)
 .rintro c st' ⟨rfl,hB'⟩
  exact aaH (h st' hB')
theorem NT(b:Nat)(m:List Keyed):∀(n:Nat)(xs:Array Keyed),b+n+m.length<=xs.size->((m.zipIdx n).foldl (λa x=>a.setIfInBounds (b+x.2) x.1) xs).toList=xs.toList.take (b+n)++(m++xs.toList.drop (b+n+m.length)):=by
 induction m with
 | nil=>intro n xs h;simp
 | cons p m ih=>
   intro n xs h;rw[acw] at h;have hl:b+n<xs.toList.length:=by rw[aaI];lia
   rw[List.zipIdx_cons,List.foldl_cons,ih (n+1) _ (by rw[Array.size_setIfInBounds];lia),Array.toList_setIfInBounds,acw,List.drop_set_of_lt (by lia),show b+(n+1)=b+n+1 by lia,abU,List.take_set_of_le (aar _),List.getElem?_set_self hl,show b+n+1+m.length=b+n+(m.length+1) by lia];simp
theorem NQ{b n:Nat}{m:List Keyed}{xs:Array Keyed}(hb:b+n<=xs.size)(hp:m.Perm ((xs.toList.drop b).take n)):((m.zipIdx).foldl (λa x=>a.setIfInBounds (b+x.2) x.1) xs).Perm xs:=by
 have hl:m.length=n:=by rw[hp.length_eq,ab_,List.length_drop,aaI];lia
 refine Array.perm_iff_toList_perm.mpr ?_;rw[NT b m 0 xs (by lia),hl,Nat.add_zero];refine List.Perm.trans ?_ (List.Perm.of_eq (List.take_append_drop b xs.toList));rw[xK xs.toList b n];exact List.Perm.append_left _ (List.Perm.append_right _ hp)
theorem RM{σ:Type}{M:Model}{A:Around}{E:Value->Shared->Prop}{s:Shared}{x:σ}{Q:PUnit->σ->Prop}{st:σ}(h:Q ⟨⟩ x):wpS M A E s (set x:StateT σ Sem PUnit) Q st:=by
 unfold wpS;rw[StateT.run_set];exact aaE ⟨Z,h⟩
theorem Dk{i sa na pw sb nb pw2:Nat}{Q:Bool->SortSt->Prop}(C:uE prog w A s κ a₀)(hB:SB κ a₀ pd st)(h1:pd[i]? = some (sa,na,pw))(h2:pd[i+1]? = some (sb,nb,pw2))(hsb:sa+na=sb)(na1:1<=na)(nb1:1<=nb)(hz:sb+nb<=a₀.size)(h:∀st',SB κ a₀ ((pd.setIfInBounds i (sa,na+nb,pw)).eraseIdxIfInBounds (i+1)) st'->Q true st'):wpS (model prog w) A E s (mergeAt' i) Q st:=by
 rw[El];refine aaG (wpS_get ?_);rw[hB.pend,h1,h2];dsimp only;have sz:(arrOf st).size=a₀.size:=hB.size;refine aaG (RM ?_);have Qf:SB κ a₀ ((pd.setIfInBounds i (sa,na+nb,pw)).eraseIdxIfInBounds (i+1)) (SortSt.mk' (kindOf st) (arrOf st) ((pd.setIfInBounds i (sa,na+nb,pw)).eraseIdxIfInBounds (i+1)) (gallopOf st) (failedOf st)):=⟨hB.perm,hB.kind,hB.failed,Z⟩;have hA1:arrOf (SortSt.mk' (kindOf st) (arrOf st) ((pd.setIfInBounds i (sa,na+nb,pw)).eraseIdxIfInBounds (i+1)) (gallopOf st) (failedOf st))=arrOf st:=Z;generalize (pd.setIfInBounds i (sa,na+nb,pw)).eraseIdxIfInBounds (i+1)=pd1 at Qf hA1 h ⊢;generalize SortSt.mk' (kindOf st) (arrOf st) pd1 (gallopOf st) (failedOf st)=st1 at Qf hA1 ⊢;have of:=hB.of;have zb:sb<(arrOf st).size:=by lia
 refine aaG (bU zb (aaG (iC C Qf.kind (of.get zb) of (by lia) (by lia) λk k1=>?_)));dsimp only;refine aX (λe=>aaH (h st1 Qf)) (λe=>?_);have ek:k<na:=by have:¬na - k=0:=λz=>e (beq_iff_eq.mpr z);lia
 have zc:sa+k+(na - k) - 1<(arrOf st).size:=by lia
 refine aaG (bU zc (aaG (iC C Qf.kind (of.get zc) of (by lia) (by lia) λn2 l1=>?_)));dsimp only;refine aX (λe=>aaH (h st1 Qf)) (λe=>?_);have e2:¬n2=0:=λz=>e (beq_iff_eq.mpr z);have xz:((arrOf st).extract (sa+k) sb).size=sb - (sa+k):=by rw[Array.size_extract,Nat.min_eq_left (by lia)]
 have yz:((arrOf st).extract sb (sb+n2)).size=n2:=by rw[Array.size_extract,Nat.min_eq_left (by lia)];lia
 have sub:∀i j,Of a₀ ((arrOf st).extract i j):=λi j p hp=>of p (by rw[fO] at hp;exact List.mem_of_mem_drop (List.mem_of_mem_take hp))
 have fin:∀r st2,pQ st1 st2->Mg ((arrOf st).extract (sa+k) sb) ((arrOf st).extract sb (sb+n2)) r->wpS (model prog w) A E s (do
  modify λs=>setArr s (List.foldl (λa x=>a.setIfInBounds (sa+k+x.2) x.1) (arrOf s) r.toList.zipIdx)
  return (failedOf (←get)).isNone) Q st2:=λr st2 k2 mg=>by
  refine aaG (wpS_modify (aaG (wpS_get ?_)));have hf:failedOf (setArr st2 (List.foldl (λa x=>a.setIfInBounds (sa+k+x.2) x.1) (arrOf st2) r.toList.zipIdx))=none:=k2.f.trans Qf.failed;rw[hf];have hA2:arrOf st2=arrOf st:=k2.a.trans hA1;refine aaH (h _ ⟨?_,k2.k.trans Qf.kind,hf,k2.p.trans Qf.pend⟩);refine Array.Perm.trans ?_ hB.perm;rw[←hA2];refine NQ (n:=na - k+n2) (by rw[hA2];lia) (List.Perm.trans mg (List.Perm.of_eq ?_));rw[hA2,fO,fO,List.take_add,List.drop_drop,show sb+n2 - sb=n2 by lia,show sa+k+(na - k)=sb by lia,show sb - (sa+k)=na - k by lia]
 exact aX (λ_=>aaG (Di C Qf.kind (sub _ _) (sub _ _) (by lia) (by lia) fin)) (λ_=>aaG (Dj C Qf.kind (sub _ _) (sub _ _) (by lia) (by lia) fin))
end
noncomputable def srP(lo n:Nat):StateT SortSt Sem (ForInStep (Option Unit×Nat)):=do
 modify λs=>setPending s ((pendingOf s).push (lo,n,0))
 pure (.yield (none,lo+n))
noncomputable def srC(pw:Nat):StateT SortSt Sem (ForInStep (Option Unit×Unit)):=do
 let st ←get
 match (if (pendingOf st).size>1 then (pendingOf st)[(pendingOf st).size - 2]? else none) with
 | some (_,_,older)=>if older<=pw then pure (.done (none,())) else do
   if (!(←mergeAt' ((pendingOf st).size - 2)))=true then pure (.done (some (),())) else pure (.yield (none,()))
 | _=>pure (.done (none,()))
noncomputable def srM(size lo n:Nat):StateT SortSt Sem (ForInStep (Option Unit×Nat)):=do
 let st ←get
 match (pendingOf st).back? with
 | some (s1,n1,_)=>do
   let s ←forIn [0:size] ((none,()):Option Unit×Unit) λ_ _=>srC (power' size (2*s1+n1) (2*s1+n1+n1+n) size)
   match s.1 with
   | some r=>pure (.done (some r,lo))
   | none=>do
     modify λs=>setPending s ((pendingOf s).modify ((pendingOf s).size - 1) λx=>match x with |(st,len,_)=>(st,len,power' size (2*s1+n1) (2*s1+n1+n1+n) size))
     srP lo n
 | _=>srP lo n
noncomputable def srB(size mr:Nat)(lo:Nat):StateT SortSt Sem (ForInStep (Option Unit×Nat)):=
 if lo≥size then pure (.done (none,lo)) else do
  match ←countRun' lo (size - lo) with
  | some n=>
    if n<mr then do
     rule "list.sort.binary-insertion"
     if (!(←binarySort' lo (min (size - lo) mr) n))=true then pure (.done (some (),lo)) else srM size lo (min (size - lo) mr)
    else srM size lo n
  | _=>pure (.done (some (),lo))
noncomputable def srI(p:Array (Nat×Nat×Nat)):Nat:=if Option.any (λx=>decide (x<p[p.size - 2+1]?.elim 0 λx=>x.2.1)) (if p.size - 2>0 then Option.map (λx=>x.2.1) p[p.size - 2 - 1]? else none)=true then p.size - 2 - 1 else p.size - 2
noncomputable def srF:StateT SortSt Sem (ForInStep (Option Unit×Unit)):=do
 let st ←get
 if (pendingOf st).size<=1 then pure (.done (none,())) else do
  if (!(←mergeAt' (srI (pendingOf st))))=true then pure (.done (some (),())) else pure (.yield (none,()))
theorem sortRuns'_eq:sortRuns'=(do
 let st ←get
 let s ←forIn [0:(arrOf st).size] ((none,0):Option Unit×Nat) λ_ c=>srB (arrOf st).size (minRun' (arrOf st).size (arrOf st).size 0) c.2
 match s.1 with
 | some r=>pure r
 | none=>do
   let s ←forIn [0:(arrOf st).size] ((none,()):Option Unit×Unit) λ_ _=>srF
   match s.1 with
   | some r=>pure r
   | none=>pure ()):=by kernel_rfl
section
variable{prog:Program}{w:World}{A:Around}{E:Value->Shared->Prop}{s:Shared}{κ:SortKind}{a₀:Array Keyed}{st:SortSt}{e lo n:Nat}
noncomputable def Rn:List (Nat×Nat×Nat)->Nat->Nat->Prop
 | [],a,e=>a=e
 | (s,n,_)::r,a,e=>s=a/\1<=n/\Rn r (a+n) e
theorem Rn.le:∀{l:List (Nat×Nat×Nat)}{a e:Nat},Rn l a e->a<=e
 | [],_,_,h=>Nat.le_of_eq h
 | _::_,_,_,h=>acH (Nat.le_add_right _ _) (Rn.le h.2.2)
theorem Rn.app{r:List (Nat×Nat×Nat)}:∀{l:List (Nat×Nat×Nat)}{a e:Nat},Rn (l++r) a e ↔ ∃m,Rn l a m/\Rn r m e
 | [],a,e=>⟨λh=>⟨a,Z,h⟩,λ⟨m,h1,h2⟩=>(show a=m from h1)▸h2⟩
 | (s,n,_)::l,a,e=>⟨λ⟨h1,h2,h3⟩=>(Rn.app.mp h3).elim λm ⟨m1,m2⟩=>⟨m,⟨h1,h2,m1⟩,m2⟩,λ⟨m,⟨h1,h2,h3⟩,m2⟩=>⟨h1,h2,Rn.app.mpr ⟨m,h3,m2⟩⟩⟩
theorem Rn.modify{f:Nat×Nat×Nat->Nat×Nat×Nat}(hf:∀x,(f x).1=x.1/\(f x).2.1=x.2.1)(l:List (Nat×Nat×Nat)):∀(i a e:Nat),Rn l a e->Rn (l.modify i f) a e:=by
 induction l with
 | nil=>intro i a e h;cases i<;>exact h
 | cons t r ih=>
   intro i a e h;obtain⟨h1,h2,h3⟩:=h;cases i with
   | zero=>
     rw[List.modify_zero_cons];obtain⟨q1,q2⟩:=hf t;exact⟨q1.trans h1,by rw[q2];exact h2,by rw[q2];exact h3⟩
   | succ i=>
     rw[List.modify_succ_cons];exact⟨h1,h2,ih i _ _ h3⟩
noncomputable def RI(κ:SortKind)(a₀:Array Keyed)(e:Nat)(st:SortSt):Prop:=SB κ a₀ (pendingOf st) st/\Rn (pendingOf st).toList 0 e
theorem vC{i:Nat}{Q:Bool->SortSt->Prop}(C:uE prog w A s κ a₀)(hR:RI κ a₀ e st)(he:e<=a₀.size)(hi:i+1<(pendingOf st).size)(h:∀st',RI κ a₀ e st'->Q true st'):wpS (model prog w) A E s (mergeAt' i) Q st:=by
 obtain⟨hB,hr⟩:=hR;have hl:(pendingOf st).toList.length=(pendingOf st).size:=aaI;generalize pendingOf st=pd at hB hr hi hl
 obtain⟨pre,⟨sa,na,pw⟩,⟨sb,nb,pw2⟩,post,el,pl⟩:∃pre p q post,pd.toList=pre++p::q::post/\pre.length=i:=
  ⟨pd.toList.take i,pd.toList[i],pd.toList[i+1],pd.toList.drop (i+2),by rw[←List.drop_eq_getElem_cons,←List.drop_eq_getElem_cons,List.take_append_drop],by rw[ab_];lia⟩
 rw[el] at hr;obtain⟨m,r1,e1,n1,e2,n2,r3⟩:=Rn.app.mp hr;subst e1;have le3:=Rn.le r3;have h1:pd[i]? = some (sa,na,pw):=by rw[←Array.getElem?_toList,el,aa' (by lia),pl,Nat.sub_self];rfl
 have h2:pd[i+1]? = some (sb,nb,pw2):=by rw[←Array.getElem?_toList,el,aa' (by lia),pl,show i+1 - i=1 by lia];rfl
 refine Dk C hB h1 h2 e2.symm n1 n2 (by lia) λst' hB'=>h st' ?_
 have ep:((pd.setIfInBounds i (sa,na+nb,pw)).eraseIdxIfInBounds (i+1)).toList=pre++(sa,na+nb,pw)::post:=by
  rw[Array.toList_eraseIdxIfInBounds,Array.toList_setIfInBounds,el,List.set_append_right _ _ (by lia),pl,Nat.sub_self,List.eraseIdx_append_of_length_le (by lia),pl,show i+1 - i=1 by lia];rfl
 unfold RI;rw[hB'.pend,ep];exact⟨hB',Rn.app.mpr ⟨sa,r1,Z,by lia,by rw[←Nat.add_assoc];exact r3⟩⟩
theorem Ir{Q:ForInStep (Option Unit×Nat)->SortSt->Prop}(hR:RI κ a₀ lo st)(n1:1<=n)(h:∀st',RI κ a₀ (lo+n) st'->Q (.yield (none,lo+n)) st'):wpS (model prog w) A E s (srP lo n) Q st:=by
 unfold srP;refine aaG (wpS_modify (aaH (h _ ⟨⟨hR.1.perm,hR.1.kind,hR.1.failed,Z⟩, ?_⟩)));show Rn ((pendingOf st).push _).toList _ _;rw[Array.toList_push];exact Rn.app.mpr ⟨lo,hR.2,Z,n1,Z⟩
theorem Iu{Q:ForInStep (Option Unit×Nat)->SortSt->Prop}(C:uE prog w A s κ a₀)(hR:RI κ a₀ lo st)(hlo:lo<=a₀.size)(n1:1<=n)(h:∀st',RI κ a₀ (lo+n) st'->Q (.yield (none,lo+n)) st'):wpS (model prog w) A E s (srM a₀.size lo n) Q st:=by
 unfold srM;refine aaG (wpS_get ?_);cases hb:(pendingOf st).back? with
 | none=>exact Ir hR n1 h
 | some t=>
   obtain⟨s1,n1',pw⟩:=t;dsimp only;generalize power' a₀.size (2*s1+n1') (2*s1+n1'+n1'+n) a₀.size=pwr;refine aaG (wpS_mono (wpS_forRange (I:=λ_ c uF=>c=(none,())/\RI κ a₀ lo uF) (Q:=λc uF=>c=(none,())/\RI κ a₀ lo uF) ?_ (λ_ _ z=>z) ⟨Z,hR⟩) ?_)
   .rintro y c uF _ _ ⟨rfl,h4⟩
    unfold srC;refine aaG (wpS_get ?_);cases hg:(if (pendingOf uF).size>1 then (pendingOf uF)[(pendingOf uF).size - 2]? else none) with
    | none=>exact aaH ⟨Z,h4⟩
    | some t=>
      have gt:(pendingOf uF).size>1:=by
       by_cases g:(pendingOf uF).size>1
       .exact g
       .rw[acK g] at hg;cases hg
      exact aX (λ_=>aaH ⟨Z,h4⟩) (λ_=>aaG (vC C h4 hlo (by lia) λSX h5=>aaH ⟨Z,h5⟩))
   .rintro c uF ⟨rfl,h4⟩
    refine aaG (wpS_modify (Ir ⟨⟨h4.1.perm,h4.1.kind,h4.1.failed,Z⟩, ?_⟩ n1 h));show Rn ((pendingOf uF).modify _ _).toList _ _;rw[Array.toList_modify];exact Rn.modify (f:=λx=>(x.1,x.2.1,pwr)) (λx=>⟨Z,Z⟩) _ _ _ _ h4.2
theorem wpS_sortRuns{Q:Unit->SortSt->Prop}(C:uE prog w A s κ a₀)(hB:SB κ a₀ #[] st)(h:∀st',(arrOf st').Perm a₀->failedOf st'=none->Q () st'):wpS (model prog w) A E s sortRuns' Q st:=by
 rw[sortRuns'_eq];refine aaG (wpS_get ?_);rw[hB.size];generalize minRun' a₀.size a₀.size 0=mr;refine aaG (wpS_mono (wpS_forRange (I:=λ_ c st'=>∃lo,c=(none,lo)/\lo<=a₀.size/\RI κ a₀ lo st') (Q:=λc st'=>∃lo,c=(none,lo)/\lo<=a₀.size/\RI κ a₀ lo st') ?_ (λ_ _ z=>z) ⟨0,Z,Nat.zero_le _,by unfold RI;rw[hB.pend];exact⟨hB,Z⟩⟩) ?_)
 .rintro x c st' _ _ ⟨lo,rfl,x2,hR⟩
  dsimp only;unfold srB;refine aX (λ_=>aaH ⟨lo,Z,x2,hR⟩) (λge=>?_);refine aaG (wpS_countRun C (by lia) (by lia) hR.1 λm st2 hB2 m1 m2=>?_);have UL:RI κ a₀ lo st2:=by unfold RI;rw[hB2.pend];exact⟨hB2,hR.2⟩
  refine aX (λlt=>?_) (λ_=>Iu C UL x2 m1 λst3 h3=>⟨lo+m,Z,by lia,h3⟩);refine aaG (wpS_lift (wpAny_rule ⟨Z,aaG (Dl C (by lia) hB2 λst3 hB3=>?_)⟩));have hR3:RI κ a₀ lo st3:=by unfold RI;rw[hB3.pend];exact⟨hB3,hR.2⟩
  exact Iu C hR3 x2 (by lia) λuF h4=>⟨_,Z,by lia,h4⟩
 .rintro c st' ⟨lo,rfl,x2,hR⟩
  dsimp only;refine aaG (wpS_mono (wpS_forRange (I:=λ_ c uF=>c=(none,())/\RI κ a₀ lo uF) (Q:=λc uF=>c=(none,())/\RI κ a₀ lo uF) ?_ (λ_ _ z=>z) ⟨Z,hR⟩) ?_)
  .rintro y c uF _ _ ⟨rfl,h4⟩
   unfold srF;refine aaG (wpS_get (aX (λ_=>aaH ⟨Z,h4⟩) (λl1=>aaG (vC C h4 x2 ?_ λSX h5=>aaH ⟨Z,h5⟩))));have hix:∀(c:Prop)[Decidable c],(if c then (pendingOf uF).size - 2 - 1 else (pendingOf uF).size - 2)+1<(pendingOf uF).size:=λc _=>by split<;>lia
   exact hix _
  .rintro c uF ⟨rfl,h4⟩
   exact aaH (h uF h4.1.perm h4.1.failed)
end
section
variable{prog:Program}{w:World}{A:Around}{E:Value->Shared->Prop}{s:Shared}{κ:SortKind}
theorem X8{vs:List Value}{xs:Array Keyed}(hp:xs.Perm (pairsOf vs)):(xs.map (·.2)).toList.Perm vs:=by
 have:=(Array.perm_iff_toList_perm.mp hp).map Prod.snd;rwa [pairsOf_toList,List.map_snd_zip (aar _),←Array.toList_map] at this
theorem yI{a:Addr}{vs:List Value}{n:Nat}{P:PySem.Fin->Shared->Prop}(ho:s.heap.get? a=some (seqObj "list" vs.toArray n))(hz:vs.length<=sizeLine)(hk:2<=vs.length -> ∀h':Heap,(∀b o,b≠a->s.heap.get? b=some o->h'.get? b=some o)->(∀(Q:SortKind->Shared->Prop)(E:Value->Shared->Prop),Q κ {s with heap:=h'}->wpAny (model prog w) A (keyKind' vs.toArray) Q E {s with heap:=h'})/\uE prog w A {s with heap:=h'} κ (pairsOf vs))(h:∀out:List Value,out.Perm vs->P (.done (.ret .none)) {s with heap:=sortedHeap s.heap a vs out.toArray}):
 wpAny (model prog w) A (Builtin.«list.sort» ⟨[.ref a],[]⟩) P E s:=by
 rw[list_sort_plain];have ha:a<s.heap.objs.size:=aaq ho;refine aas (listItems_at ho rfl ?_);refine aas (listUpdate_at ho rfl ?_ (by rw[aa5];exact hz) (Nat.zero_le _));obtain⟨e1,ho1⟩:∃e1,(s.heap.update a (Obj.mapSeq λ_=> #[])).get? a=some (seqObj "list" #[] e1):=⟨_,get?_update_seq ho (λ_=> #[])⟩;refine aas (seqEpoch_at ho1 rfl ?_);refine aas (wpAny_newTuple ?_ (by show vs.length<=_;exact hz));refine aas (wpAny_newList ?_ (Nat.zero_le _));refine wpAny_holding ?_
 have keep:∀b o,b≠a->s.heap.get? b=some o->(((s.heap.update a (Obj.mapSeq λ_=> #[])).push (seqObj "tuple" vs.toArray 0)).push (seqObj "list" #[] 0)).get? b=some o:=λb o nb e=>by
  refine aai _ (aai _ ?_);rw[Heap.get?_update_ne _ _ _ _ nb];exact e
 have ho6:(((s.heap.update a (Obj.mapSeq λ_=> #[])).push (seqObj "tuple" vs.toArray 0)).push (seqObj "list" #[] 0)).get? a=some (seqObj "list" #[] e1):=aai _ (aai _ ho1);show wpAny (model prog w) A _ P E {s with heap:=((s.heap.update a (Obj.mapSeq λ_=> #[])).push (seqObj "tuple" vs.toArray 0)).push (seqObj "list" #[] 0)};dsimp only;have hsz:vs.toArray.size=vs.length:=by simp
 have fin:∀st':SortSt,(arrOf st').Perm (pairsOf vs)->P (.done (.ret .none)) {s with heap:=sortedHeap s.heap a vs ((arrOf st').map (·.2))}:=by
  intro st' hp;have:=h _ (X8 hp);rwa [Array.toArray_toList] at this
 by_cases h2:vs.toArray.size<2
 .rw[acM h2,acM h2]
  refine aas (aaE ?_);rw[StateT.run_pure];refine aas (aaE ?_);dsimp only;refine aas (seqEpoch_at ho6 rfl ?_);refine aas (listUpdate_at ho6 rfl ?_ (Nat.zero_le _) (by rw[Array.size_map];show (pairsOf vs).size<=_;rw[pairsOf_size];lia));simp only[bne_self_eq_false,Bool.false_eq_true,if_false];exact aaE (fin (SortSt.mk' general' (vs.toArray.zip vs.toArray) #[] 7 none) (Array.Perm.refl _))
 .rw[acK h2,acK h2]
  obtain⟨kk,kc⟩:=hk (by lia) _ keep;refine aas (kk _ _ ?_)
  refine aas (wpAny_mono (wpS_sortRuns (a₀:=pairsOf vs) (st:=SortSt.mk' κ (vs.toArray.zip vs.toArray) #[] 7 none)
   (Q:=λ_ st'=>(arrOf st').Perm (pairsOf vs)/\failedOf st'=none)
   kc ⟨Array.Perm.refl _,Z,Z,Z⟩ λst' a1 a2=>⟨a1,a2⟩) ?_ λ_ _ e=>e)
  rintro⟨⟨⟩,st'⟩ s' ⟨rfl,hp,hf⟩;dsimp only;refine aas (seqEpoch_at ho6 rfl ?_);refine aas (listUpdate_at ho6 rfl ?_ (Nat.zero_le _) (acH (Nat.le_of_eq ((Array.size_map ..).trans (hp.size_eq.trans (pairsOf_size _)))) (Nat.le_succ_of_le hz)));rw[hf];simp only[bne_self_eq_false,Bool.false_eq_true,if_false];exact aaE (fin st' hp)
theorem Gq{l:Addr}{vs:List Value}{Q:Value->Shared->Prop}(hl:s.heap.IsList l vs.toArray)(hz:vs.length<=sizeLine)(hk:2<=vs.length -> ∀h':Heap,(∀b o,s.heap.get? b=some o->h'.get? b=some o)->(∀(Q:SortKind->Shared->Prop)(E:Value->Shared->Prop),Q κ {s with heap:=h'}->wpAny (model prog w) A.in1.in1 (keyKind' vs.toArray) Q E {s with heap:=h'})/\uE prog w A.in1.in1 {s with heap:=h'} κ (pairsOf vs))(h:∀(h':Heap)(D:Addr)(c:Nat)(out:List Value),(∀b o,s.heap.get? b=some o->h'.get? b=some o)->s.heap.objs.size<=D->h'.get? D=some (seqObj "list" out.toArray c)->out.Perm vs->Q (.ref D) {s with heap:=h'}):
 wpAny (model prog w) A (call (.builtin "sorted") [.ref l]) Q E s:=by
 refine Calls.call_function_entry kind_sorted plain_sorted entry_sorted (args_sorted1 _) ?_;unfold Builtin.«sorted»;refine aas (m:=checkCount "sorted" 1 1 _) (aaE ?_);refine aas (collect_list hl ?_ hz);refine aas (wpAny_newList ?_ hz)
 have hsz:((s.heap.push (seqObj "list" #[] 0)).update s.heap.objs.size (Obj.mapSeq (· ++ vs.toArray))).objs.size=s.heap.objs.size+1:=by
  rw[Heap.size_update,size_push']
 have hoL:(((s.heap.push (seqObj "list" #[] 0)).update s.heap.objs.size (Obj.mapSeq (· ++ vs.toArray))).push (seqObj "list" vs.toArray 0)).get? (s.heap.objs.size+1)=some (seqObj "list" vs.toArray 0):=by
  rw[←hsz];exact aaj _ rfl
 have keep:∀b o,s.heap.get? b=some o->(((s.heap.push (seqObj "list" #[] 0)).update s.heap.objs.size (Obj.mapSeq (· ++ vs.toArray))).push (seqObj "list" vs.toArray 0)).get? b=some o:=λb o q=>by
  have hlt:b<s.heap.objs.size:=aaq q;rw[Heap.get?_push_ne _ _ _ (by rw[hsz];exact abe (Nat.lt_succ_of_lt hlt)),Heap.get?_update_ne _ _ _ _ (abe hlt),Heap.get?_push_ne _ _ _ (abe hlt)];exact q
 show wpAny _ _ _ _ _ {s with heap:=((s.heap.push (seqObj "list" #[] 0)).update s.heap.objs.size (Obj.mapSeq (· ++ vs.toArray))).push (seqObj "list" vs.toArray 0)};rw[hsz];generalize ((s.heap.push (seqObj "list" #[] 0)).update s.heap.objs.size (Obj.mapSeq (· ++ vs.toArray))).push (seqObj "list" vs.toArray 0)=h1 at keep hoL ⊢;have nD:∀b o,s.heap.get? b=some o->b≠s.heap.objs.size+1:=λb o e=>abe (Nat.lt_succ_of_lt (aaq e));refine aas (wpAny_holding (wpAny_call_entry slot_list_sort ⟨_,hoL,Z⟩ entry_list_sort (yI (s:={s with heap:=h1}) hoL hz (λh2 h' kp=>hk h2 h' λb o e=>kp b o (nD b o e) (keep b o e)) λout p1=>⟨_,Z, ?_⟩) (args_list_sort _)));refine aaE ⟨_,Z, ?_⟩;obtain⟨e1,ho1⟩:∃e1,(h1.update (s.heap.objs.size+1) (Obj.mapSeq λ_=> #[])).get? (s.heap.objs.size+1)=some (seqObj "list" #[] e1):=⟨_,get?_update_seq hoL (λ_=> #[])⟩;have ho2:(((h1.update (s.heap.objs.size+1) (Obj.mapSeq λ_=> #[])).push (seqObj "tuple" vs.toArray 0)).push (seqObj "list" #[] 0)).get? (s.heap.objs.size+1)=some (seqObj "list" #[] e1):=aai _ (aai _ ho1);refine h (sortedHeap h1 (s.heap.objs.size+1) vs out.toArray) _ _ out (λb o e=>?_) (Nat.le_succ _) (by unfold sortedHeap;exact get?_update_seq ho2 (λ_=>out.toArray)) p1;unfold sortedHeap;rw[Heap.get?_update_ne _ _ _ _ (nD b o e)];refine aai _ (aai _ ?_);rw[Heap.get?_update_ne _ _ _ _ (nD b o e)];exact keep b o e
end
end Tip
namespace L2
open PySem PySem.Spec PyProof.Rows PySem.W
section
variable{X:Cx}
theorem JB{prog:Program}{w:World}{A:Around}{s:Shared}{Q:Bool->Shared->Prop}(h:∀b,Q b s)(fin:Bool):∀(xs ys:List Value)(ns ms:List Int)(i:Nat),IntsAre xs ns->IntsAre ys ms->KatLex prog w A true fin Q (xs.zip ys) i s
 | _,_,[],[],i,.nil,.nil=>h fin
 | _,_,_::_,[],_,.cons _ _ _,.nil=>h fin
 | _,_,[],_::_,_,.nil,.cons _ _ _=>h fin
 | _,_,n::ns,m::ms,i,.cons _ t hx,.cons _ u hy=>by
   rw[List.zip_cons_cons];refine kat_cons (wpAny_eqBool_int ?_);cases (n==m) with
   | true=>exact kat_yes (JB h fin _ _ ns ms (i+1) hx hy)
   | false=>
     refine kat_no ?_;cases (true&&i==0) with
     | true=>exact oneLt_int (h _)
     | false=>exact kat_one _ _ (lt_int (show W.BoolBack Q (.bool (decide (n<m))) s from h _))
noncomputable def Q9(h:Heap)(vs:List Value):Prop:=∀v∈vs,∃a its ns,v = .ref a/\IsTup h a its.toArray/\IntsAre its ns/\1<=ns.length
theorem M7{prog:Program}{w:World}{A:Around}{s:Shared}{vs:List Value}{h0:Heap}(T:Q9 h0 vs)(kp:∀b o,h0.get? b=some o->s.heap.get? b=some o):Tip.uE prog w A s (tuples' true) (pairsOf vs):=by
 refine⟨λp hp q hq E Q h=>?_⟩;rw[pairsOf_toList] at hp hq;obtain⟨_,mp⟩:=mem_zip_self hp;obtain⟨_,mq⟩:=mem_zip_self hq;obtain⟨a,its,ns,ep,⟨oa,ea,ca,n1,da⟩,ia,_⟩:=T _ mp;obtain⟨b,jts,ms,eq,⟨ob,eb,cb,n2,db⟩,ib,_⟩:=T _ mq;rw[ep,eq];refine kat_lt (kp _ _ ea) da (kp _ _ eb) db ?_;rw[show its.toArray.toList=its by simp,show jts.toArray.toList=jts by simp];exact JB h _ its jts ns ms 0 ia ib
theorem Dq{h0 h1:Heap}(kp:∀b o,h0.get? b=some o->h1.get? b=some o):∀{vs:List Value},Q9 h0 vs -> ∃fs,KatTups h1 vs fs/\fs.length=vs.length /\ ∀f∈fs,∃n t,f=Value.int n t
 | [],_=>⟨[],trivial,Z,λ_ z=>acP z (by simp)⟩
 | v::vs,T=>by
   obtain⟨fs,t1,t2,t3⟩:=Dq kp (vs:=vs) λu hu=>T u (aby _ hu);obtain⟨a,its,ns,rfl,⟨o,e,c,n,d⟩,ia,la⟩:=T v (List.mem_cons_self ..)
   match its,ns,ia,la,d with
   | _,_,.nil,la,d=>simp at la
   | _,_,.cons m t r,la,d=>
     refine⟨_::fs,KatTups.cons (kp _ _ e) c d rfl t1,by simp[t2],λf hf=>?_⟩;rcases List.mem_cons.mp hf with rfl|hf
     .exact⟨_,_,Z⟩
     .exact t3 f hf
theorem Kc{ys:List V}{us out:List Value}(r:Vals ys us)(p:out.Perm us):∃zs,Vals zs out/\zs.Perm ys:=by
 induction p generalizing ys with
 | nil=>cases r;exact⟨[],.nil,.refl _⟩
 | cons x p ih=>
   cases r with
   | cons rx rt=>
     obtain⟨zs,z1,z2⟩:=ih rt;exact⟨_::zs,.cons rx z1,.cons _ z2⟩
 | swap x y l=>
   cases r with
   | cons rx rt=>
     cases rt with
     | cons ry rl=>exact⟨_,.cons ry (.cons rx rl),.swap _ _ _⟩
 | trans p q ih1 ih2=>
   obtain⟨zs,z1,z2⟩:=ih2 r;obtain⟨ws,w1,w2⟩:=ih1 z1;exact⟨ws,w1,w2.trans z2⟩
theorem zJ:∀{ns:List Int}{vs:List Value},Vals (ns.map V.int) vs->IntsAre vs ns
 | [],_,.nil=> .nil
 | n::ns,_,.cons ⟨t,e⟩ r=>by subst e;exact .cons n t (zJ r)
noncomputable def GC(K:PySem.W.Frag):List V->Hp->VK->Prop:=λxs H Q=>∃(p:Addr) (ys:List V),xs=[.ref p]/\bH K H p ys/\(∀y∈ys,∃(a:Addr) (ns:List Int),y = .ref a/\cH K H a (ns.map V.int)/\1<=ns.length) /\
 ∀l zs,H l=none->zs.Perm ys->Q (.ref l) (upd H l (.lst zs))
theorem Ie:jy X (.builtin "sorted") (GC X.K):=by
 intro pins s σ H xs us Q I r h;obtain⟨p,ys,rfl,hq,ht,q⟩:=h;obtain⟨u,rfl,rx⟩:=vals1 r;cases rx;obtain⟨its,rv,pl,hz⟩:=I.list hq;have hlen:its.length=ys.length:=by rw[←rv.length]
 have T:Q9 s.heap its:=λv hv=>by
  obtain⟨i,hi,e⟩:=acC hv;have hy:i<ys.length:=by lia
  obtain⟨v',hv',ry⟩:=rv.get (i:=i) (x:=ys[i]) (by rw[aad hy]);rw[aad hi,e] at hv';cases hv';obtain⟨a,ns,e1,sq,hl⟩:=ht _ (List.getElem_mem hy);rw[e1] at ry;cases ry;obtain⟨jts,rj,tj,_⟩:=I.tuple sq;exact⟨a,jts,_,Z,tj,zJ rj,hl⟩
 refine Tip.Gq (κ:=tuples' true) pl.isList (by lia) (λh2 h' kp=>⟨λQ E hQ=>?_,M7 T kp⟩) λh' D c out kp hD hd hp=>?_
 .obtain⟨fs,t1,t2,t3⟩:=Dq (h1:=h') kp T
  exact kat_kind (T:= .type "int") t1 (by lia) (λv hv=>by obtain⟨n,t,rfl⟩:=t3 v hv;exact .now) rfl hQ
 obtain⟨zs,z1,z2⟩:=Kc rv hp;have hzl:zs.length<=sizeLine:=by rw[z2.length_eq];lia
 exact⟨.ref D,_,I.laid (t':=s.toks) kp hD (show cP X.prog X.w _ h' _ (.lst zs) from ⟨hzl,out,c,z1,hd⟩),Z,q D zs (I.hok.fresh hD) z2⟩
theorem Fz{K:PySem.W.Frag}(hK:X.K=K):jy X (.builtin "sorted") (GC K):=by subst hK;exact Ie
end
end L2
namespace Prf
open PySem L2
noncomputable def top(i:Nat):Stmt:=PySem.Challenge.pw_fewnotes_k86_whole_played.main.body.getD i (.Pass ⟨0,0,0,0⟩)
noncomputable abbrev qp:Stmt:=top 9
noncomputable abbrev qt:Stmt:=top 10
noncomputable abbrev tV:Stmt:=top 13
noncomputable abbrev n_:Stmt:=inClass (top 17) 0
noncomputable abbrev jK:Stmt:=inClass (top 17) 1
noncomputable abbrev jH:Stmt:=inClass (top 17) 2
noncomputable abbrev jJ:Stmt:=inClass (top 17) 3
noncomputable abbrev tX:Stmt:=inClass (top 17) 4
noncomputable abbrev mG:Stmt:=inClass (top 17) 5
noncomputable abbrev nZ:Stmt:=inClass (top 17) 6
noncomputable abbrev gF:Stmt:=inClass (top 17) 7
noncomputable abbrev bQ:Stmt:=inClass (top 18) 0
noncomputable abbrev mF:Stmt:=inClass (top 18) 1
noncomputable abbrev iD:Stmt:=inClass (top 18) 2
noncomputable abbrev kY:Stmt:=inClass (top 18) 3
noncomputable abbrev nY:Stmt:=inClass (top 18) 6
noncomputable abbrev jF:Stmt:=inClass (top 18) 7
noncomputable abbrev mD:Stmt:=inClass (top 18) 8
noncomputable abbrev jq:Stmt:=inClass (top 18) 9
noncomputable abbrev jo:Stmt:=inClass (top 18) 10
noncomputable abbrev jG:Stmt:=inClass (top 18) 11
noncomputable abbrev jm:Stmt:=top 19
noncomputable abbrev tR:Stmt:=top 21
noncomputable abbrev kW:Stmt:=top 23
noncomputable abbrev mC:Stmt:=top 24
noncomputable abbrev Nv:Stmt:=top 25
noncomputable abbrev nW:Stmt:=top 26
noncomputable abbrev k_:Stmt:=inClass (top 28) 0
noncomputable abbrev kZ:Stmt:=inClass (top 28) 1
noncomputable abbrev iG:Stmt:=inClass (top 28) 2
noncomputable abbrev iH:Stmt:=inClass (top 28) 3
noncomputable abbrev lu:Stmt:=inClass (top 28) 4
noncomputable abbrev vX:Stmt:=top 29
noncomputable abbrev Az:Stmt:=top 31
noncomputable abbrev Bg:Stmt:=top 32
noncomputable abbrev rB:Stmt:=top 33
noncomputable abbrev Bd:Stmt:=top 34
noncomputable abbrev vY:Stmt:=top 35
noncomputable abbrev Bf:Stmt:=top 36
noncomputable abbrev A_:Stmt:=top 37
noncomputable abbrev Gx:Stmt:=top 38
noncomputable abbrev tW:Stmt:=top 39
noncomputable abbrev g8:Stmt:=top 40
noncomputable abbrev vZ:Stmt:=top 41
noncomputable abbrev DR:Stmt:=top 42
structure pR(mg:Str->Option Value):Prop where
 Cw:mg "ValueError" = none
 J1:mg "all" = none
 xZ:mg "bool" = none
 Ww:mg "enumerate" = none
 FP:mg "int" = none
 bK:mg "isinstance" = none
 d_:mg "len" = none
 fQ:mg "list" = none
 ajy:mg "max" = none
 Wv:mg "min" = none
 i_:mg "range" = none
 Q7:mg "sorted" = none
 acq:mg "str" = none
 ajx:mg "sum" = none
 vq:mg "tuple" = none
 acp:mg "zip" = none
theorem DN:bh ["value"] ["value"] (aK qp):=⟨Z,Z,Z,by decide +kernel,Z,by decide +kernel,by decide +kernel⟩
theorem DP:bh ["value","count"] ["value","count"] (aK qt):=⟨Z,Z,Z,by decide +kernel,Z,by decide +kernel,by decide +kernel⟩
theorem Gu:bh ["row"] ["row"] (aK tV):=⟨Z,Z,Z,by decide +kernel,Z,by decide +kernel,by decide +kernel⟩
theorem Ay:bh ["self","rows"] ["self","rows"] (aK n_):=⟨Z,Z,Z,by decide +kernel,Z,by decide +kernel,by decide +kernel⟩
theorem m7:bh ["self","other"] ["self"] (aK jK):=⟨Z,Z,Z,by decide +kernel,Z,by decide +kernel,by decide +kernel⟩
theorem m6:bh ["self","row"] ["self"] (aK jH):=⟨Z,Z,Z,by decide +kernel,Z,by decide +kernel,by decide +kernel⟩
theorem jk:bh ["self","done"] ["self"] (aK jJ):=⟨Z,Z,Z,by decide +kernel,Z,by decide +kernel,by decide +kernel⟩
theorem Gw:bh ["self","row"] ["self","row"] (aK tX):=⟨Z,Z,Z,by decide +kernel,Z,by decide +kernel,by decide +kernel⟩
theorem kJ:bh ["self","row","left","right"] ["self","row"] (aK mG):=⟨Z,Z,Z,by decide +kernel,Z,by decide +kernel,by decide +kernel⟩
theorem Ax:bh ["self","box","number"] ["self","box","number"] (aK nZ):=⟨Z,Z,Z,by decide +kernel,Z,by decide +kernel,by decide +kernel⟩
theorem fX:bh ["self","part","left","right"] ["self","part"] (aK gF):=⟨Z,Z,Z,by decide +kernel,Z,by decide +kernel,by decide +kernel⟩
theorem kj:bh ["self","program","cells","one"] ["self","program","cells"] (aK bQ):=⟨Z,Z,Z,by decide +kernel,Z,by decide +kernel,by decide +kernel⟩
theorem kh:bh ["self","hand","one","touch"] ["self","hand"] (aK mF):=⟨Z,Z,Z,by decide +kernel,Z,by decide +kernel,by decide +kernel⟩
theorem dF:bh ["self","one","row","cell","read","written"] ["self","one"] (aK iD):=⟨Z,Z,Z,by decide +kernel,Z,by decide +kernel,by decide +kernel⟩
theorem vU:bh ["self"] ["self"] (aK kY):=⟨Z,Z,Z,by decide +kernel,Z,by decide +kernel,by decide +kernel⟩
theorem Aw:bh ["self","hand"] ["self","hand"] (aK nY):=⟨Z,Z,Z,by decide +kernel,Z,by decide +kernel,by decide +kernel⟩
theorem uU:bh ["self"] ["self"] (aK jF):=⟨Z,Z,Z,by decide +kernel,Z,by decide +kernel,by decide +kernel⟩
theorem pZ:bh ["self","other"] ["self"] (aK mD):=⟨Z,Z,Z,by decide +kernel,Z,by decide +kernel,by decide +kernel⟩
theorem tQ:bh ["self","hand"] ["self","hand"] (aK jq):=⟨Z,Z,Z,by decide +kernel,Z,by decide +kernel,by decide +kernel⟩
theorem lK:bh ["self","hands"] ["self"] (aK jo):=⟨Z,Z,Z,by decide +kernel,Z,by decide +kernel,by decide +kernel⟩
theorem uV:bh ["self","other"] ["self","other"] (aK jG):=⟨Z,Z,Z,by decide +kernel,Z,by decide +kernel,by decide +kernel⟩
theorem tO:bh ["cells","count"] ["cells","count"] (aK jm):=⟨Z,Z,Z,by decide +kernel,Z,by decide +kernel,by decide +kernel⟩
theorem Gs:bh ["value"] ["value"] (aK tR):=⟨Z,Z,Z,by decide +kernel,Z,by decide +kernel,by decide +kernel⟩
theorem vR:bh ["record"] ["record"] (aK kW):=⟨Z,Z,Z,by decide +kernel,Z,by decide +kernel,by decide +kernel⟩
theorem yE:bh ["counts","note"] ["counts","note"] (aK mC):=⟨Z,Z,Z,by decide +kernel,Z,by decide +kernel,by decide +kernel⟩
theorem Xn:bh ["done","touch"] ["done","touch"] (aK Nv):=⟨Z,Z,Z,by decide +kernel,Z,by decide +kernel,by decide +kernel⟩
theorem mj:bh ["record","firsts","note"] ["record"] (aK nW):=⟨Z,Z,Z,by decide +kernel,Z,by decide +kernel,by decide +kernel⟩
theorem vV:bh ["self","works","record"] ["self","works","record"] (aK k_):=⟨Z,Z,Z,by decide +kernel,Z,by decide +kernel,by decide +kernel⟩
theorem jD:bh ["self","hand","holding","touch"] ["self","hand"] (aK kZ):=⟨Z,Z,Z,by decide +kernel,Z,by decide +kernel,by decide +kernel⟩
theorem q_:bh ["self","hand"] ["self","hand"] (aK iG):=⟨Z,Z,Z,by decide +kernel,Z,by decide +kernel,by decide +kernel⟩
theorem jX:bh ["self","hand","touch"] ["self","hand"] (aK iH):=⟨Z,Z,Z,by decide +kernel,Z,by decide +kernel,by decide +kernel⟩
theorem vW:bh ["self"] ["self"] (aK lu):=⟨Z,Z,Z,by decide +kernel,Z,by decide +kernel,by decide +kernel⟩
theorem jC:bh ["works","record","choose","replay","order","free","hand"] ["works","record","choose"] (aK vX):=⟨Z,Z,Z,by decide +kernel,Z,by decide +kernel,by decide +kernel⟩
theorem nU:bh ["script","stir","cell","great"] ["script"] (aK Az):=⟨Z,Z,Z,by decide +kernel,Z,by decide +kernel,by decide +kernel⟩
theorem rA:bh ["reel","many","rest","told","stir"] ["reel","many"] (aK Bg):=⟨Z,Z,Z,by decide +kernel,Z,by decide +kernel,by decide +kernel⟩
theorem zq:bh ["found","due"] ["found","due"] (aK rB):=⟨Z,Z,Z,by decide +kernel,Z,by decide +kernel,by decide +kernel⟩
theorem rm:bh ["reel","counts","able","hand","other"] ["reel","counts"] (aK Bd):=⟨Z,Z,Z,by decide +kernel,Z,by decide +kernel,by decide +kernel⟩
theorem pF:bh ["reel","counts","some","k","note"] ["reel","counts"] (aK vY):=⟨Z,Z,Z,by decide +kernel,Z,by decide +kernel,by decide +kernel⟩
theorem jE:bh ["loads","counts","some","gone","waiting","held","hand","k","other","m"] ["loads","counts","some","gone"] (aK Bf):=⟨Z,Z,Z,by decide +kernel,Z,by decide +kernel,by decide +kernel⟩
theorem Nr:bh ["free","rule","at"] ["free","rule","at"] (aK A_):=⟨Z,Z,Z,by decide +kernel,Z,by decide +kernel,by decide +kernel⟩
theorem mz:bh ["loads","counts","some","rule","gone","order","lists","free","k"] ["loads","counts","some","rule"] (aK Gx):=⟨Z,Z,Z,by decide +kernel,Z,by decide +kernel,by decide +kernel⟩
theorem qm:bh ["seen","free","rule","handed","works","k","hand"] ["seen","free","rule","handed","works"] (aK tW):=⟨Z,Z,Z,by decide +kernel,Z,by decide +kernel,by decide +kernel⟩
theorem dz:bh ["works","record","rule","loads","seen","caught","told","before","handed","e","order","lists","refused","above"] ["works","record","rule","loads"] (aK g8):=⟨Z,Z,Z,by decide +kernel,Z,by decide +kernel,by decide +kernel⟩
theorem gR:bh ["reel","loads","hands","order","k","size","works"] ["reel","loads"] (aK vZ):=⟨Z,Z,Z,by decide +kernel,Z,by decide +kernel,by decide +kernel⟩
theorem jh:bh ["script","reel","k","often","far","told","rule","most","loads","counts","some","works"] ["script"] (aK DR):=⟨Z,Z,Z,by decide +kernel,Z,by decide +kernel,by decide +kernel⟩
structure eU(K:PySem.W.Frag)(C:Addr):Prop where
 cls:Cls K C
 oF:eE K C "rows"
 rP:eE K C "at"
 iK:eE K C "in_boxes"
 lN:eE K C "sayings"
 iY:eE K C "state"
structure cT(K:PySem.W.Frag)(C:Addr):Prop where
 cls:Cls K C
 pK:eE K C "program"
 iJ:eE K C "numbers"
 jY:eE K C "hands"
 rN:eE K C "turns"
structure iW(K:PySem.W.Frag)(C:Addr):Prop where
 cls:Cls K C
 rO:eE K C "record"
 Ef:eE K C "firsts"
 BK:eE K C "stage"
 gM:eE K C "progress"
section
variable{P:Program}{w:World}{K:PySem.W.Frag}{mg:Str->Option Value}{base:Heap}
theorem vp{α β:Type}(p:α->Bool)(g:α->β):∀l:List α,(List.range l.length).filterMap (λi=>(l[i]?).bind λx=>if p x then some (g x) else none)=(l.filter p).map g
 | []=>rfl
 | x::l=>by
   have ih:=vp p g l;rw[acw,List.range_succ_eq_map,List.filterMap_cons,List.filterMap_map,acv];cases q:p x
   .simp[q];exact ih
   .simp[q];exact ih
theorem U6(x y:Int):PyData.eqv (.int x) (.int y)=decide (x=y):=by
 simp only[PyData.eqv];rw[Bool.eq_iff_iff];simp
theorem gB{H:Hp}{a:Addr}{ns:List Int}(h:H a=some (.lst (ns.map V.int))):Dat H (.ref a) (.list (ns.map PyData.int)):=oM h (aP.ints ns)
theorem shaped_ints(ns:List Int):SeqAt.shaped (.list (ns.map PyData.int))=true:=uG PyData.int 0 (by decide) (λ_ _=>rfl) (λ_ _=>by show 0<=0;decide)
noncomputable abbrev Nt:=Int×Int×Int×Int
noncomputable def nD(x:Nt):PyData:= .tuple [.int x.1,.int x.2.1,.int x.2.2.1,.int x.2.2.2]
noncomputable def nV(x:Nt):List V:=[.int x.1,.int x.2.1,.int x.2.2.1,.int x.2.2.2]
theorem mR(x:Nt):C_ (nD x)=true:=Z
theorem QD{H:Hp}{v:V}{d:PyData}(h:Dat H v d):aP H [v] [d]:=by
 simp only[aP,and_true];exact h
theorem QF{H:Hp}{t:Addr}{x:Nt}(h:H t=some (.tup (nV x))):Dat H (.ref t) (nD x):=by
 simp only[nD,Dat];exact⟨t,_,Z,h,by simp only[nV,aP,Dat,and_self]⟩
theorem HW{H:Hp}{v:V}{x:Nt}(h:Dat H v (nD x)):∃t,v = .ref t/\H t=some (.tup (nV x)):=by
 simp only[nD,Dat] at h;obtain⟨t,vs,e,q,d⟩:=h
 match vs,d with
 | [a,b,c,z],d=>
   simp only[aP,Dat,and_true] at d;obtain⟨rfl,rfl,rfl,rfl⟩:=d;exact⟨t,e,q⟩
 | [],d=>simp only[aP] at d
 | [_],d=>simp only[aP,and_false] at d
 | [_,_],d=>simp only[aP,and_false] at d
 | [_,_,_],d=>simp only[aP,and_false] at d
 | _::_::_::_::_::_,d=>simp only[aP,and_false] at d
noncomputable def m9(H:Hp)(a:Addr)(ns:List Nt):Prop:=∃vs,H a=some (.lst vs)/\aP H vs (ns.map nD)
theorem m9.same{H H':Hp}{a:Addr}{ns:List Nt}(h:m9 H a ns)(k:Same H H'):m9 H' a ns:=by
 obtain⟨vs,e,d⟩:=h;exact⟨vs,k _ _ e,aP.keep k.tups _ (cZ _ mR ns) d⟩
theorem vh{H:Hp}{vs:List V}{ns:List Nt}{i:Nat}{v:V}(d:aP H vs (ns.map nD))(e:vs[i]? = some v):∃x t,ns[i]? = some x/\v = .ref t/\H t=some (.tup (nV x)):=by
 obtain⟨q,eq,dq⟩:=d.get e;rw[aah] at eq;cases ex:ns[i]? with
 | none=>rw[ex] at eq;cases eq
 | some x=>
   rw[ex] at eq;cases eq;obtain⟨t,rfl,ht⟩:=HW dq;exact⟨x,t,Z,Z,ht⟩
noncomputable def gI(cs:List Int)(h:Int):Int:=(cs[h.toNat]?).getD 0
theorem gO{cs:List Int}{h:Int}(h0:0<=h)(h1:h<cs.length):Ij (cs.map V.int) h=some (.int (gI cs h)):=by
 obtain⟨m,rfl⟩:=acF h0;have:m<cs.length:=by lia
 refine d7 ?_;simp[gI,this]
theorem Cd{cs:List Int}{i:Nat}{c:Int}(h:cs[i]? = some c):gI cs i=c:=by simp[gI,h]
theorem Ux{n:Nat}{i:Int}(h0:0<=i)(h1:i<n):Hs n i=some i.toNat:=by unfold Hs;rw[acM h0,acM h1]
theorem HB{cs:List Int}{h k v:Int}(h0:0<=h)(h1:h<cs.length)(k0:0<=k):gI (cs.set h.toNat v) k=if k=h then v else gI cs k:=by
 unfold gI;rw[List.getElem?_set]
 by_cases e:k=h
 .subst e
  have:k.toNat<cs.length:=by lia
  simp[this]
 .have:¬h.toNat=k.toNat:=by lia
  simp[e,this]
noncomputable def FT(cs:List Int)(x:Nt):Prop:=(0<=x.1/\x.1<cs.length)/\(0<=x.2.1/\x.2.1<gI cs x.1)/\(0<=x.2.2.1/\x.2.2.1<cs.length)/\(0<=x.2.2.2/\x.2.2.2<gI cs x.2.2.1)/\x.1≠x.2.2.1
noncomputable def yV(cs:List Int):Prop:=cs.length<=8 /\ ∀c∈cs,0<=c/\c<=300
theorem yV.gI{cs:List Int}(h:yV cs)(i:Int):0<=gI cs i/\gI cs i<=300:=by
 unfold Prf.gI;cases e:cs[i.toNat]? with
 | none=>simp
 | some c=>exact h.2 c (aaK e)
theorem Gr(ns:List Nt):SeqAt.shaped (.list (ns.map nD))=true:=
 uG nD 1 (by decide) (λ_ _=>rfl) (λ_ _=>by show (max 0 (max 0 (max 0 (max 0 0))))+1<=1;decide)
noncomputable def RecAt(H:Hp)(t c a:Addr)(cs:List Int)(ns:List Nt):Prop:=H t=some (.tup [.ref c,.ref a])/\H c=some (.lst (cs.map V.int))/\m9 H a ns
theorem RecAt.same{H H':Hp}{t c a:Addr}{cs:List Int}{ns:List Nt}(h:RecAt H t c a cs ns)(k:Same H H'):RecAt H' t c a cs ns:=⟨k _ _ h.1,k _ _ h.2.1,h.2.2.same k⟩
noncomputable def yh(cs:List Int)(ns:List Nt):Prop:=yV cs/\ns.length<=100 /\ ∀x∈ns,FT cs x
noncomputable def M127:Int:=170141183460469231731687303715884105727
theorem Vl:Builtin.Int.intBits M127<=127:=PySem.intBits_le_iff.mpr (by decide)
theorem J0{t:Int}(h0:0<=t)(h1:t<M127):Builtin.Int.intBits t<=127:=PySem.intBits_le_of_natAbs (y:=M127) (by unfold M127 at h1 ⊢;lia) Vl
theorem Pk{t:Int}(h0:0<=t)(h1:t<M127):IntMulOk t t:=IntMulOk.of_le (J0 h0 h1) (J0 h0 h1) (by lia)
noncomputable def eX(H:Hp)(r:Addr):Prop:=∃(g c:Addr) (gs cs:List Int) (p t:Int),H r=some (.lst [.ref g,.ref c,.int p,.int t])/\H g=some (.lst (gs.map V.int))/\H c=some (.lst (cs.map V.int))/\0<cs.length/\cs.length<=100/\gs.length<=100/\(∀x∈gs,0<=x)/\0<=p/\0<=t/\t<M127/\g≠r/\c≠r
theorem eX.ne{H:Hp}{r p:Addr}(h:eX H r)(hp:H p=none):p≠r:=by
 obtain⟨g,c,gs,cs,_,t,e1,_⟩:=h;exact(ao e1 hp).symm
theorem eX.at{H:Hp}{r:Addr}(h:eX H r):∃o,H r=some o:=by
 obtain⟨g,c,gs,cs,p,t,e1,_⟩:=h;exact⟨_,e1⟩
theorem eX.tups{H H':Hp}{r:Addr}(h:eX H r)(k:Kp r H H'):∀a xs,H a=some (HO.tup xs)->H' a=some (HO.tup xs):=by
 obtain⟨g,c,gs,cs,p,t,e1,_⟩:=h;exact k.tups e1
noncomputable def Off(H:Hp)(r x:Addr):Prop:=∀(g c:Addr)(u v:V),H r=some (.lst [.ref g,.ref c,u,v])->x≠g/\x≠c
noncomputable def KR(r:Addr)(H H':Hp):Prop:=Kp r H H' /\ ∀x o,H x=some o->x≠r->Off H r x->Off H' r x
theorem KR.tups{r:Addr}{H H':Hp}(k:KR r H H')(R:eX H r):∀a xs,H a=some (HO.tup xs)->H' a=some (HO.tup xs):=R.tups k.1
theorem eX.off{H:Hp}{r x:Addr}(R:eX H r)(hx:H x=none):Off H r x:=λg c u v e=>by
 obtain⟨g',c',gs,cs,p,t,e1,e2,e3,_⟩:=R;rw[e1] at e;cases e;exact⟨λz=>(by rw[z,e2] at hx;cases hx),λz=>(by rw[z,e3] at hx;cases hx)⟩
theorem Off.same{H H':Hp}{r x:Addr}(R:eX H r)(k:Same H H')(f:Off H r x):Off H' r x:=λg c u v e2=>by
 obtain⟨g',c',gs,cs,p,t,e1,_⟩:=R;rw[k _ _ e1] at e2;cases e2;exact f _ _ _ _ e1
theorem eX.set{H:Hp}{r x:Addr}{o:HO}(R:eX H r)(n:x≠r)(f:Off H r x):eX (upd H x o) r:=by
 obtain⟨g,c,gs,cs,p,t,e1,e2,e3,q⟩:=R;obtain⟨n1,n2⟩:=f _ _ _ _ e1;exact⟨g,c,gs,cs,p,t,by rw[aC n.symm];exact e1,by rw[aC n1.symm];exact e2,by rw[aC n2.symm];exact e3,q⟩
theorem Off.set{H:Hp}{r x y:Addr}{o:HO}(n:x≠r)(f:Off H r y):Off (upd H x o) r y:=λg c u v e=>f g c u v (by rw[aC n.symm] at e;exact e)
theorem Kp.new{H H':Hp}{r p:Addr}(k:Kp r H H')(hp:H' p=none)(hr:∃o,H' r=some o):H p=none:=by
 cases e:H p with
 | none=>rfl
 | some o=>
   by_cases n:p=r
   .subst n
    obtain⟨o',ho⟩:=hr;rw[hp] at ho;cases ho
   .rw[k _ _ e n] at hp
    cases hp
theorem Cj{ns:List Int}(h:ns.length<=63):oN (ns.map V.int) none (some 63)=ns.map V.int:=by
 unfold oN;rw[HT.v7,show (some (63:Int))=some ((63:Nat):Int) from rfl,HT.Bh,aac,List.drop_zero,Nat.min_eq_right h,Nat.sub_zero,List.take_of_length_le (by simp)]
noncomputable def Ji(K:PySem.W.Frag):Sp:=λvs H Q _=>∃(a:Addr) (ns:List Int),vs=[.ref a]/\bH K H a (ns.map V.int)/\ns.length<=63 /\ ∀(r:Addr)(H':Hp),H r=none->eX H' r->Same H H'->Q (.ref r) H'
theorem Ox{f:Addr}{fd:FuncData}(F:gD K "_law_reel" "_law_reel" Az f fd)(Bt:pR mg):bO P w K mg base iy 1 f fd ["script"] (Ji K):=by
 refine F.ok nU (λvs H Q E h=>?_) (λcdv A outer s H vs Q E hr h=>?_)
 .obtain⟨a,ns,rfl,_⟩:=h
  rfl
 .obtain⟨a,ns,rfl,hs,hlen,k⟩:=h
  refine⟨_,(aB (bA (i:=1) nU.nd rfl (Or.inl rfl) (bM lB aD aD))
   (aB (mJ PassesOwn.never rfl (cI (K:=K) rfl (lM (qY (K:=K) rfl) (pv 0) pI (pH aD))) (bJ (i:=2) nU.nd rfl (Or.inl rfl))
   (aH (bA (i:=1) nU.nd rfl (Or.inl rfl) (bM lD (bM iI (bM iI (bM Ju (pv 1) (pv 1)) (bM lD (pv 2) aD)) aD) (bM oE (bM Bu (bM lB aD aD) (bM lB aD aD)) aD)))))
   (aB (mH (i:=3) rfl nU.nd rfl (Or.inl rfl) (N:=["cell"]) (own:=["cell"]) (caps:=[]) (bw.of (by kernel_rfl)) (cI (K:=K) rfl (lM (qY (K:=K) rfl) (pv 0) pI (pH aD))) (λ_ _ _ _=>(bJ (i:=0) (show List.Nodup (["cell"]:List Str) by decide +kernel) rfl (Or.inl rfl))) (λ_ _ _ _=>(pG (bB V3 (pv 0) (bM lB aD aD) (bC _)))) (λ_ _ _ _=>(bM oE (pv 0) (bM lB aD aD))))
   (aH (bG (cR (aj (pv 3) (aj (bM Bv (dY rfl (N:=["cell"]) (own:=["cell"]) (caps:=[]) (bw.of (by kernel_rfl)) (cI (K:=K) rfl (lM (qY (K:=K) rfl) (pv 0) pI (pH aD))) (λ_ _ _ _=>(bJ (i:=0) (show List.Nodup (["cell"]:List Str) by decide +kernel) rfl (Or.inl rfl))) (λ_ _ _ _=>dG) (λ_ _ _ _=>(bM lD (pv 0) aD))) (cR (aj aD aA))) (aj aD (aj (pv 1) aA)))))))))), ?_⟩
  refine⟨_,_,Z,Z,(by show CZ 3 60;exact⟨by decide,by decide,by decide⟩), ?_⟩;refine⟨_,Z,_,Z,_,_,Z,hs,λp hp=>?_⟩;rw[Cj hlen];have s1:=aF (o:=HO.lst (ns.map V.int)) hp;have cp1:CZ 2 64:=⟨by decide,by decide,by decide⟩;have cp2:CZ 2 63:=⟨by decide,by decide,by decide⟩;have cp3:CZ 10 18:=⟨by decide,by decide,by decide⟩
  refine⟨p,Z,⟨_,bH.of ak⟩,oK (K:=K) (a:=p) (xs:=ns.map V.int) (λi σ H2=>∃(t:Int) (v:Option V),σ=[some (.ref a),some (.int t),v,none]/\H2=upd H p (.lst (ns.map V.int))/\0<=t/\t<M127)
   ⟨_,none,Z,Z,by decide,by decide⟩ (λi σ H2 _ ⟨_,_,_,e,_⟩=>by rw[e];exact bH.of ak) ?_ ?_⟩
  .rintro i y σ H2 hi ⟨t,v,rfl,rfl,t0,t1⟩
   obtain⟨z,rfl⟩:∃z,y=V.int z:=by
    rw[aah] at hi;cases e:ns[i]? with
    | none=>rw[e] at hi;cases hi
    | some z=>rw[e] at hi;exact⟨z,(aa6 hi).symm⟩
   refine⟨_,Z,_,Z,_,_,Z,Z,Pk t0 t1,_,Z,_,_,Z,Z,(by show (0:Int)<1000000000000000003;decide),_,_,Z,Z,_,_,Z,Z, ?_⟩;refine⟨_,_,Z,Z,cp1,_,_,Z,Z,cp2,_,_,Z,Z,.inr ⟨by decide,by decide⟩,_,_,Z,Z,_,_,Z,Z,(by show (0:Int)<2 ^ Int.toNat 64*2 ^ Int.toNat 63 - 1;decide), ?_⟩;refine⟨_,_,Z,Z, ?_, ?_⟩
   .exact Int.emod_nonneg _ (by decide)
   .exact Int.emod_lt_of_pos _ (by decide)
  .rintro σ H2 ⟨t,v,rfl,rfl,t0,t1⟩
   have hs1:=s1.seq hs;refine⟨_,Z,_,Z,_,_,Z,hs1,λp2 hp2=>?_⟩;rw[Cj hlen];have s2:=aF (o:=HO.lst (ns.map V.int)) hp2;refine⟨p2,Z,⟨_,bH.of ak⟩,λD hD=>?_⟩;refine lU (K:=K) (λi=>(ns[i]?).bind λz=>if decide (z≥10 ^ (18:Int).toNat) then some (V.int (z - 10 ^ (18:Int).toNat)) else none) hD (bH.of ak) (by rw[aac];lia) (λi v H3 G F hi s3 kG kF=>?_) (λH3 s3 e3=>?_)
   .rw[aah] at hi
    cases e:ns[i]? with
    | none=>rw[e] at hi;cases hi
    | some z=>
      rw[e] at hi;cases hi;simp only[e,acJ] at kG kF;refine⟨_,Z,_,_,Z,Z,cp3,_,_,Z,Z,_,Z, ?_⟩;refine cO (λw=>?_) (λw=>?_)
      .exact⟨_,Z,_,_,Z,Z,cp3,_,_,Z,Z,kF _ H3 (Same.refl _) (by rw[acM w])⟩
      .exact kG H3 (Same.refl _) (by rw[acK w])
   rw[aac,vp (λz:Int=>decide (z≥10 ^ (18:Int).toNat)) (λz=>V.int (z - 10 ^ (18:Int).toNat))] at e3;have e3':H3 D=some (.lst (((ns.filter λz=>decide (z≥10 ^ (18:Int).toNat)).map λz=>z - 10 ^ (18:Int).toNat).map V.int)):=by rw[e3,abZ];rfl
   have s13:=(s1.trans s2).trans s3;refine⟨_,Z,_,Z,_,Z,_,_,Z,s13.seq hs,λp3 hp3=>?_⟩;rw[Cj hlen];have s4:=aF (o:=HO.lst (ns.map V.int)) hp3;refine⟨p3,Z,⟨_,bH.of ak⟩,λD2 hD2=>?_⟩;refine lU (K:=K) (λi=>(ns[i]?).map λz=>V.int (z % 1000003)) hD2 (bH.of ak) (by rw[aac];lia) (λi v H5 G F hi s5 kG kF=>?_) (λH5 s5 e5=>?_)
   .rw[aah] at hi
    cases e:ns[i]? with
    | none=>rw[e] at hi;cases hi
    | some z=>
      rw[e] at hi;cases hi;exact⟨_,Z,_,_,Z,Z,(by show (0:Int)<1000003;decide),kF _ H5 (Same.refl _) (by rw[e];rfl)⟩
   rw[aac,JQ] at e5;refine⟨(by show 1<=sizeLine;decide),λp4 hp4=>?_⟩;have s6:=aF (o:=HO.lst [V.int 41]) hp4;refine⟨D2,p4,_,_,Z,Z,s6 _ _ e5,ak,by rw[sizeLine_eq,aac];simp only[abT];lia,λc hc=>?_⟩;have s7:=aF (o:=HO.lst (ns.map (λz=>V.int (z % 1000003))++[V.int 41])) hc;have s47:=(s4.trans s5).trans (s6.trans s7);refine⟨_,Z,(by show 4<=sizeLine;decide),λr hr'=>?_⟩;have s8:=aF (o:=HO.lst [V.ref D,V.ref c,V.int 0,V.int t]) hr';have eD:=s47 _ _ e3';have nDr:D≠r:=ao eD hr';have Ys:c≠r:=ao ak hr';have fl:(ns.filter λz=>decide (z≥10 ^ (18:Int).toNat)).length<=ns.length:=List.length_filter_le _ _;refine k r _ ((s13.trans s47).free hr') ⟨D,c,_,ns.map (· % 1000003)++[41],0,t,ak,s8 _ _ eD, ?_,by simp,by simp;lia,by rw[aac];lia,λx hx=>?_,by decide,t0,t1,nDr,Ys⟩ ((s13.trans s47).trans s8)
   .refine s8 _ _ ?_
    rw[ak,abo,abZ];rfl
   .obtain⟨z,hz,rfl⟩:=abG.mp hx
    have:=aaO (ace.mp hz).2;lia
noncomputable def qU(K:PySem.W.Frag):Sp:=λvs H Q _=>∃(r:Addr) (m:Int),vs=[.ref r,.int m]/\eX H r/\0<m/\m<1329227995784915872903807060280344576 /\ ∀(z:Int)(H':Hp),0<=z->z<m->eX H' r->KR r H H'->Q (.int z) H'
theorem O1{f:Addr}{fd:FuncData}(F:gD K "_law_draw" "_law_draw" Bg f fd)(Bt:pR mg):bO P w K mg base iy 1 f fd ["reel","many"] (qU K):=by
 refine F.ok rA (λvs H Q E h=>?_) (λcdv A outer s H vs Q E hr h=>?_)
 .obtain⟨r,m,rfl,_⟩:=h
  rfl
 .obtain⟨r,m,rfl,⟨g,c,gs,cs,p,t,hR,hG,hC,c0,c1,g1,YT,p0,t0,t1,ngr,Ys⟩,m0,m1,k⟩:=h
  have uY:=hr.units
  refine⟨_,(aB (cA (bB (Jt (K:=K) rfl uY) (aQ (aZ (K:=K) rfl) (pv 0) aD (λ_ _=>rfl)) (cR aA) (bC _)) (aB (bA (i:=2) rA.nd rfl (Or.inl rfl) (aQ (aZ (K:=K) rfl) (aQ (aZ (K:=K) rfl) (pv 0) aD (λ_ _=>rfl)) aD (λ_ _=>rfl)))
   (aB (qu (bM Bv (bM wD (cR (aj (bM DY (pv 2) (pv 1)) aA)) (cL uw (by rfl) Bt.FP xU (aj (dZ V3 (pv 2) (pv 1) (bC _)) aA))) (lM (qY (K:=K) rfl) (aQ (aZ (K:=K) rfl) (pv 0) aD (λ_ _=>rfl)) (pH aD) pI)) (t_ (pv 0) aD set_list))
   (aH (bG (bM lD (pv 2) (pv 1)))))) bL)
   (aB (qu (bM iI (aQ (aZ (K:=K) rfl) (pv 0) aD (λ_ _=>rfl)) aD) (t_ (pv 0) aD set_list))
   (aB (bA (i:=3) rA.nd rfl (Or.inl rfl) (aQ (aZ (K:=K) rfl) (aQ (aZ (K:=K) rfl) (pv 0) aD (λ_ _=>rfl)) (bM lD (aQ (aZ (K:=K) rfl) (pv 0) aD (λ_ _=>rfl)) (aO (aW (K:=K) rfl) (by rfl) Bt.d_ cQ (aj (aQ (aZ (K:=K) rfl) (pv 0) aD (λ_ _=>rfl)) aA))) (λ_ _=>rfl)))
   (aB (bA (i:=4) rA.nd rfl (Or.inl rfl) (bM iI (bM iI (bM Ju (aQ (aZ (K:=K) rfl) (pv 0) aD (λ_ _=>rfl)) (aQ (aZ (K:=K) rfl) (pv 0) aD (λ_ _=>rfl))) (bM Bu (bM iI (pv 3) aD) aD)) (bM Bu (aQ (aZ (K:=K) rfl) (pv 0) aD (λ_ _=>rfl)) aD)))
   (aB (qu (bM lD (pv 4) (bM oE (bM Bu (bM lB aD aD) (bM lB aD aD)) aD)) (t_ (pv 0) aD set_list))
   (aH (bG (bM lD (bM DY (aQ (aZ (K:=K) rfl) (pv 0) aD (λ_ _=>rfl)) (bM lB aD aD)) (pv 1))))))))), ?_⟩
  refine⟨_,Z,_,_,_,_,Z,Z,bH.of hR,Z,(by show 0<=sizeLine;decide),λq hq=>?_⟩;have s1:=aF (o:=HO.lst []) hq;have ZW:=s1 _ _ hR;have hG1:=s1 _ _ hG;have hC1:=s1 _ _ hC;refine⟨_,_,gB hG1,gB (ns:=[]) ak,shaped_ints _,shaped_ints _,_,Z, ?_⟩;rw[acM rfl,Qu PyData.int U6];refine cO (λw=>?_) (λ_=>?_)
  .have w:gs≠[]:=by simpa using w
   obtain⟨x,xs,rfl⟩:∃x xs,gs=x::xs:=by
    cases gs with
    | nil=>exact acP rfl w
    | cons x xs=>exact⟨x,xs,Z⟩
   have x0:=YT x (by simp);refine⟨_,Z,_,_,_,_,Z,Z,bH.of ZW,Z,_,_,_,_,Z,Z,bH.of hG1,(by show Ij (V.int x::xs.map V.int) 0=some (V.int x);simp[Ij,Hs]), ?_⟩;refine⟨_,Z,_,Z,_,_,Z,Z,⟨m0,m1⟩,(by show 1<=sizeLine;decide),λq2 hq2=>?_⟩;have s2:=aF (o:=HO.lst [V.int (x / m)]) hq2;refine⟨_,Z,_,Z,_,_,Z,Z,Or.inr ⟨_,Z,q2,_,_,Z,Z,ak, ?_, ?_, ?_,λq3 YJ=>?_⟩⟩
   .split<;>decide
   .split<;>decide
   .rw[sizeLine_eq];split<;>simp
   have s3:=aF (o:=HO.lst (List.replicate (if decide (x≥m)=true then (1:Int) else 0).toNat [V.int (x / m)]).flatten) YJ;have Bj:=s2.trans s3;refine⟨_,Z,_,_,_,_,Z,Z,bH.of (Bj _ _ ZW),Z,_,Z,g,_,Z,bH.of (Bj _ _ hG1),λq4 hq4=>?_⟩;rw[show oN ((x::xs).map V.int) (some 1) none=xs.map V.int from Fp _ 1];have s4:=aF (o:=HO.lst (xs.map V.int)) hq4;have fl:(List.replicate (if decide (x≥m)=true then (1:Int) else 0).toNat [V.int (x / m)]).flatten.length<=1:=by split<;>simp
   have xl:xs.length<=100:=by have:(x::xs).length<=100:=g1;simp at this;lia
   refine⟨q3,q4,_,_,Z,Z,s4 _ _ ak,ak,by rw[sizeLine_eq,aac];exact acH (Nat.add_le_add fl xl) (by decide),λq5 Mr=>?_⟩;have s5:=aF (o:=HO.lst ((List.replicate (if decide (x≥m)=true then (1:Int) else 0).toNat [V.int (x / m)]).flatten++xs.map V.int)) Mr;have s25:=(Bj.trans s4).trans s5;have hR5:=s25 _ _ ZW;refine⟨_,Z,_,_,_,_,Z,Z,hR5,Z, ?_⟩;have kr:Kp r (upd (upd (upd (upd (upd H q (HO.lst [])) q2 (HO.lst [V.int (x / m)])) q3 (HO.lst (List.replicate (if decide (x≥m)=true then (1:Int) else 0).toNat [V.int (x / m)]).flatten)) q4 (HO.lst (xs.map V.int))) q5 (HO.lst ((List.replicate (if decide (x≥m)=true then (1:Int) else 0).toNat [V.int (x / m)]).flatten++xs.map V.int))) _:=Kp.set (o:= .lst [.ref q5,.ref c,.int p,.int t]);have nq5:q5≠r:=(ao ((Bj.trans s4) _ _ ZW) Mr).symm
   have eq5:(List.replicate (if decide (x≥m)=true then (1:Int) else 0).toNat [V.int (x / m)]).flatten++xs.map V.int=((if decide (x≥m)=true then [x / m] else [])++xs).map V.int:=by
    split<;>simp
   refine⟨_,Z,_,Z,_,_,Z,Z,m0, ?_⟩
   refine k _ _ (Int.emod_nonneg _ (by lia)) (Int.emod_lt_of_pos _ m0) ⟨q5,c,(if decide (x≥m)=true then [x / m] else [])++xs,cs,p,t,ak, ?_,kr _ _ (s25 _ _ hC1) Ys,c0,c1, ?_,λy hy=>?_,p0,t0,t1,nq5,Ys⟩ ⟨(Kp.of_same (s1.trans s25)).trans kr,λy o ey ny f g' c' u v e=>by
    rw[ak] at e;cases e;exact⟨ao ((s1.trans (Bj.trans s4)) _ _ ey) Mr,(f _ _ _ _ hR).2⟩⟩
   .refine kr _ _ ?_ nq5
    rw[ak,eq5]
   .rw[aa_]
    have:(if decide (x≥m)=true then [x / m] else []).length<=1:=by split<;>simp
    have:(x::xs).length<=100:=g1;simp only[acw] at this;lia
   .rcases abF.mp hy with hy|hy
    .split at hy
     .have:y=x / m:=by simpa using hy
      rw[this];exact Int.ediv_nonneg x0 (by lia)
     .cases hy
    .exact YT y (by simp[hy])
  .have cp1:CZ 2 64:=⟨by decide,by decide,by decide⟩
   have cp2:CZ 2 63:=⟨by decide,by decide,by decide⟩;have cp4:CZ 2 40:=⟨by decide,by decide,by decide⟩;refine⟨_,Z,_,_,_,_,Z,Z,bH.of ZW,Z,_,_,Z,Z,_,Z,_,_,_,_,Z,Z,ZW,Z, ?_⟩;have kr:Kp r (upd H q (HO.lst [])) (upd (upd H q (HO.lst [])) r (.lst [.ref g,.ref c,.int (p+1),.int t])):=Kp.set;have UL:(upd (upd H q (HO.lst [])) r (.lst [.ref g,.ref c,.int (p+1),.int t])) r=some (.lst [.ref g,.ref c,.int (p+1),.int t]):=ak;have hC2:=kr _ _ hC1 Ys;have i0:0<=(p+1) % (cs.length:Int):=Int.emod_nonneg _ (by lia);have i1:(p+1) % (cs.length:Int)<cs.length:=Int.emod_lt_of_pos _ (by lia);refine⟨_,Z,_,_,_,_,Z,Z,bH.of UL,Z,_,Z,_,_,_,_,Z,Z,bH.of UL,Z,_,Z,_,_,_,_,Z,Z,bH.of UL,Z,c,_,Z,.inl (bH.of hC2),_,_,Z,Z,by rw[aac];lia,_,_,_,_,Z,Z,bH.of hC2,by rw[aac];exact gO i0 i1, ?_⟩;generalize gI cs ((p+1) % (cs.length:Int))=told;refine⟨_,Z,_,_,_,_,Z,Z,bH.of UL,Z,_,Z,_,_,_,_,Z,Z,bH.of UL,Z,_,_,Z,Z,Pk t0 t1,_,Z,_,_,Z,Z,_,_,Z,Z,.inr ⟨by decide,by decide⟩,_,_,Z,Z,_,Z,_,_,_,_,Z,Z,bH.of UL,Z,_,_,Z,Z,.inr ⟨by decide,by decide⟩,_,_,Z,Z, ?_⟩;refine⟨_,Z,_,_,Z,Z,cp1,_,_,Z,Z,cp2,_,_,Z,Z,.inr ⟨by decide,by decide⟩,_,_,Z,Z,_,_,Z,Z,(by show (0:Int)<2 ^ Int.toNat 64*2 ^ Int.toNat 63 - 1;decide),_,Z,_,_,_,_,Z,Z,UL,Z, ?_⟩;refine⟨_,Z,_,_,_,_,Z,Z,bH.of ak,Z,_,_,Z,Z,cp4,_,_,Z,Z,⟨by decide,by decide⟩,_,Z,_,_,Z,Z,m0, ?_⟩
   refine k _ _ (Int.emod_nonneg _ (by lia)) (Int.emod_lt_of_pos _ m0) ⟨g,c,gs,cs,p+1,_,ak, ?_, ?_,c0,c1,g1,YT,by lia,Int.emod_nonneg _ (by decide),Int.emod_lt_of_pos _ (by decide),ngr,Ys⟩ ⟨((Kp.of_same s1).trans kr).trans Kp.set,λy o ey ny f g' c' u v e=>by
    rw[ak] at e;cases e;exact f _ _ _ _ hR⟩
   .rw[aC ngr];exact kr _ _ hG1 ngr
   .rw[aC Ys];exact hC2
noncomputable def uO(i:Int)(n:Nat):Prop:=0<=i/\i<(n:Int)
instance (i:Int) (n:Nat):Decidable (uO i n):=inferInstanceAs (Decidable (_/\_))
noncomputable def Xf(K:PySem.W.Frag):Sp:=λvs H Q _=>∃i:Int,vs=[.int i]/\Q (.bl true) H
theorem D_{f:Addr}{fd:FuncData}(F:gD K "is_whole" "is_whole" qp f fd)(Bt:pR mg):bO P w K mg base iy 1 f fd ["value"] (Xf K):=by
 refine F.ok DN (λvs H Q E h=>?_) (λcdv A outer s H vs Q E hr h=>?_)
 .obtain⟨i,rfl,_⟩:=h
  rfl
 .obtain⟨i,rfl,k⟩:=h
  refine⟨_,(aH (bG (jt (aO (cD (K:=K) (cv:= .ty "int") (c:= .type "int") rfl rfl) (by rfl) Bt.bK bF (aj (pv 0) (aj (dH (v:= .ty "int") (by rfl) Bt.FP xU rfl) aA))) (jr (GK (aO (cD (K:=K) (cv:= .ty "bool") (c:= .type "bool") rfl rfl) (by rfl) Bt.bK bF (aj (pv 0) (aj (dH (v:= .ty "bool") (by rfl) Bt.xZ su rfl) aA)))))))), ?_⟩;refine⟨_,Z,_,_,true,Z,.int i,uN K,true,Z, ?_⟩;refine fM ?_;exact⟨_,Z,_,_,false,Z,.int i,mQ K,false,Z,k⟩
noncomputable def qW(K:PySem.W.Frag):Sp:=λvs H Q _=>∃(i:Int) (n:Nat),vs=[.int i,.int n]/\Q (.bl (decide (uO i n))) H
theorem Ea{f:Addr}{fd:FuncData}(F:gD K "is_below" "is_below" qt f fd)(qJ:FnAt P w K mg base 1 "is_whole" ["value"] (Xf K)):bO P w K mg base iy 2 f fd ["value","count"] (qW K):=by
 refine F.ok DP (λvs H Q E h=>?_) (λcdv A outer s H vs Q E hr h=>?_)
 .obtain⟨i,n,rfl,_⟩:=h
  rfl
 .obtain⟨i,n,rfl,k⟩:=h
  refine⟨_,(aH (bG (jt (bT qJ (hr.mono (by decide)) (by rfl) (aj (pv 0) aA)) (jr (Ol V1 uI aD (pv 0) (pv 1)))))), ?_⟩;refine⟨_,Z,i,Z,true,Z, ?_⟩;refine fM ?_;refine⟨_,Z,_,_,Z,Z,_,Z, ?_⟩;refine cO (λh0=>?_) (λh0=>?_)
  .refine⟨_,Z,_,_,Z,Z, ?_⟩
   have e:decide (uO i n)=decide (i<(n:Int)):=by
    have h0:=aaO h0;rw[Bool.eq_iff_iff,decide_eq_true_iff,decide_eq_true_iff];exact⟨λz=>z.2,λz=>⟨h0,z⟩⟩
   show Q (.bl (decide (i<(n:Int)))) H;rw[←e];exact k
  .have e:decide (uO i n)=false:=aaN λz=>h0 (aaL z.1)
   rw[←e];exact k
noncomputable def hF(r:Addr)(n:Int)(b sy:Addr)(st:Str):List (Str×V):=[("rows",.ref r),("at",.int n),("in_boxes",.ref b),("sayings",.ref sy),("state",.str st)]
structure nJ where
 (h hx r b sy:Addr)
structure mZ(CH:Addr)(H:Hp)(A:nJ)(s:bI):Prop where
 h:H A.h=some (.ins CH A.hx (hF A.r s.pos A.b A.sy s.st))
 b:H A.b=some (.lst (s.bs.map V.int))
 y:H A.sy=some (.lst (s.sy.map V.int))
 K3:A.b≠A.sy
 bl:s.bs.length=8
noncomputable def KH(A:nJ)(H H':Hp):Prop:=∀x o,H x=some o->x≠A.h->x≠A.b->x≠A.sy->H' x=some o
theorem KH.of_same{A:nJ}{H H':Hp}(k:Same H H'):KH A H H':=λx o e _ _ _=>k _ _ e
theorem KH.trans{A:nJ}{H H1 H2:Hp}(a:KH A H H1)(b:KH A H1 H2):KH A H H2:=λx o e n1 n2 n3=>b x o (a x o e n1 n2 n3) n1 n2 n3
theorem KH.qj{A:nJ}{H:Hp}{o:HO}:KH A H (upd H A.h o):=λx u e n _ _=>by rw[aC n];exact e
theorem KH.Nq{A:nJ}{H:Hp}{o:HO}:KH A H (upd H A.b o):=λx u e _ n _=>by rw[aC n];exact e
theorem KH.Xl{A:nJ}{H:Hp}{o:HO}:KH A H (upd H A.sy o):=λx u e _ _ n=>by rw[aC n];exact e
theorem mZ.Us{CH:Addr}{H:Hp}{A:nJ}{s:bI}(c:mZ CH H A s):A.h≠A.b:=cY c.h c.b (by intro z;cases z)
theorem mZ.V8{CH:Addr}{H:Hp}{A:nJ}{s:bI}(c:mZ CH H A s):A.h≠A.sy:=cY c.h c.y (by intro z;cases z)
theorem mZ.same{CH:Addr}{H H':Hp}{A:nJ}{s:bI}(c:mZ CH H A s)(k:Same H H'):mZ CH H' A s:=⟨k _ _ c.h,k _ _ c.b,k _ _ c.y,c.K3,c.bl⟩
theorem mZ.tup{CH:Addr}{H H':Hp}{A:nJ}{s:bI}(c:mZ CH H A s)(k:KH A H H'):∀x xs,H x=some (.tup xs)->H' x=some (.tup xs):=λx xs e=>k _ _ e (cY e c.h (by intro z;cases z)) (cY e c.b (by intro z;cases z)) (cY e c.y (by intro z;cases z))
theorem mZ.qj{CH:Addr}{H:Hp}{A:nJ}{s:bI}(c:mZ CH H A s)(n:Nat)(st:Str):mZ CH (upd H A.h (.ins CH A.hx (hF A.r n A.b A.sy st))) A {s with pos:=n,st:=st}:=
 ⟨ak,by rw[aC c.Us.symm];exact c.b,by rw[aC c.V8.symm];exact c.y,c.K3,c.bl⟩
theorem mZ.Nq{CH:Addr}{H:Hp}{A:nJ}{s:bI}(c:mZ CH H A s)(bs:List Int)(l:bs.length=8):mZ CH (upd H A.b (.lst (bs.map V.int))) A {s with bs:=bs}:=
 ⟨by rw[aC c.Us];exact c.h,ak,by rw[aC c.K3.symm];exact c.y,c.K3,l⟩
theorem mZ.Xl{CH:Addr}{H:Hp}{A:nJ}{s:bI}(c:mZ CH H A s)(ys:List Int):mZ CH (upd H A.sy (.lst (ys.map V.int))) A {s with sy:=ys}:=
 ⟨by rw[aC c.V8];exact c.h,by rw[aC c.K3];exact c.b,ak,c.K3,c.bl⟩
theorem v9(r b sy:Addr)(n m:Int)(st:Str):bZ "at" (.int m) (hF r n b sy st)=hF r m b sy st:=by rfl
theorem Bk(r b sy:Addr)(n:Int)(st st':Str):bZ "state" (.str st') (hF r n b sy st)=hF r n b sy st':=by rfl
theorem Ce(n:Nat):(List.range n).filterMap (λ_=>some (V.int 0))=(List.replicate n 0).map V.int:=by
 induction n with
 | zero=>rfl
 | succ n ih=>rw[dJ,ih,List.replicate_succ',abo];rfl
theorem JD{H H':Hp}{o p:Addr}(h:Kp o H H')(ne:p≠o)(n:H' p=none):H p=none:=by
 cases e:H p with
 | none=>rfl
 | some u=>rw[h _ _ e ne] at n;cases n
theorem aco:∀b:Fin 8,Builtin.Str.occurrences (Str.ofString "abcdefgh") (yC b.val) 0 (Str.ofString "abcdefgh").length 1=[b.val]:=by decide +kernel
theorem Q5{b:Nat}(h:b<8):Builtin.Str.occurrences (Str.ofString "abcdefgh") (yC b) 0 (Str.ofString "abcdefgh").length 1=[b]:=aco ⟨b,h⟩
noncomputable def vf(CH:Addr)(K:PySem.W.Frag):Sp:=λvs H Q _=>∃(a r dx:Addr),vs=[.ref a,.ref r]/\H a=some (.ins CH dx []) /\ ∀(b sy:Addr)(H':Hp),H b=none->H sy=none->b≠sy ->
 H' a=some (.ins CH dx (hF r 0 b sy "waits"))->H' b=some (.lst ((List.replicate 8 0).map V.int))->H' sy=some (.lst [])->Kp a H H'->Q .non H'
theorem OD{au:Addr}{f:Addr}{fd:FuncData}(F:gD K "__init__" "Hand.__init__" n_ f fd)(aG:eU K au)(gj:Gv mg "BOXES" (.str "abcdefgh")):bO P w K mg base iy 1 f fd ["self","rows"] (vf au K):=by
 refine F.ok Ay (λvs H Q E h=>?_) (λcdv A outer s H vs Q E hr h=>?_)
 .obtain⟨a,r,dx,rfl,_⟩:=h
  rfl
 .obtain⟨a,r,dx,rfl,ha,k⟩:=h
  refine⟨_,(aB (cM (K:=K) rfl (pv 0) (pv 1) rfl)
   (aB (cM (K:=K) rfl (pv 0) aD rfl)
   (aB (cM (K:=K) rfl (pv 0) (dY rfl (N:=["box"]) (own:=["box"]) (caps:=[]) (bw.of (by kernel_rfl)) (XQ (g_ (by rfl) gj.choose_spec.1 gj.choose_spec.2)) (λ_ _ _ _=>(bJ (i:=0) (show List.Nodup (["box"]:List Str) by decide +kernel) rfl (Or.inl rfl))) (λ_ _ _ _=>dG) (λ_ _ _ _=>aD)) rfl)
   (aB (cM (K:=K) rfl (pv 0) (cR aA) rfl)
   (aH (cM (K:=K) rfl (pv 0) cB rfl)))))), ?_⟩
  refine⟨_,Z,_,Z,a,au,dx,[],Z,ha,aG.cls,aG.oF,by decide, ?_⟩;refine⟨_,Z,a,au,dx,_,Z,ak,aG.cls,aG.rP,(by show 1<1000;decide), ?_⟩;refine⟨_,Z,λD hD=>?_⟩;refine Ly (λ_=>some (.int 0)) hD (by decide) (λi c H1 G F hi s1 kG kF=>kF _ H1 (Same.refl _) rfl) (λH1 s1 e1=>?_);rw[Ce] at e1;refine⟨_,Z,a,au,dx,_,Z,s1 _ _ ak,aG.cls,aG.iK,(by show 2<1000;decide), ?_⟩;have ZM:a≠D:=ao ak hD;refine⟨(by show 0<=sizeLine;decide),λq hq=>?_⟩;have ZL:a≠q:=ao ak hq;refine⟨_,Z,a,au,dx,_,Z,(by rw[aC ZL];exact ak),aG.cls,aG.lN,(by show 3<1000;decide), ?_⟩;refine⟨_,Z,a,au,dx,_,Z,ak,aG.cls,aG.iY,(by show 4<1000;decide), ?_⟩;have hD0:H D=none:=by rw[aC ZM.symm,aC ZM.symm] at hD;exact hD
  have nDq:D≠q:=by
   intro e;rw[←e,aC ZM.symm,e1] at hq;cases hq
  have hq0:H q=none:=by
   rw[aC ZL.symm] at hq;cases e:H q with
   | none=>rfl
   | some o=>
     have:=s1 q o (by rw[aC ZL.symm,aC ZL.symm];exact e);rw[this] at hq;cases hq
  refine k D q _ hD0 hq0 nDq ?_ ?_ ?_ ?_
  .rw[ak];rfl
  .rw[aC ZM.symm,aC ZM.symm,aC nDq,aC ZM.symm,e1];rfl
  .rw[aC ZL.symm,aC ZL.symm,ak]
  .intro x o e n
   have nq:x≠q:=ao e hq0;rw[aC n,aC n,aC nq,aC n];exact s1 x o (by rw[aC n,aC n];exact e)
theorem Wy{x:V}{l:List V}:Ij (x::l) 0=some x:=d7 (j:=0) rfl
theorem acs{x y z:V}{l:List V}:Ij (x::y::z::l) 2=some z:=d7 (j:=2) rfl
noncomputable def Fw(r:Rw):V:=if touch r then .int (Fx r) else .non
noncomputable def vN(K:PySem.W.Frag):Sp:=λvs H Q _=>∃(v:V) (r:Rw),vs=[v]/\Dat H v (uH r) /\ ∀H',Same H H'->Q (Fw r) H'
theorem KQ{f:Addr}{fd:FuncData}(F:gD K "cell_of" "cell_of" tV f fd):bO P w K mg base iy 1 f fd ["row"] (vN K):=by
 refine F.ok Gu (λvs H Q E h=>?_) (λcdv A outer s H vs Q E hr h=>?_)
 .obtain⟨v,r,rfl,_⟩:=h
  rfl
 .obtain⟨v,r,rfl,d,k⟩:=h
  obtain⟨t,ws,rfl,ht,ps⟩:=J3 d
  refine⟨_,(aB (cA (bB eF (aQ (aU (K:=K) rfl) (pv 0) aD (λ_ _=>rfl)) cB (bC _)) (aH (bG (aQ (aU (K:=K) rfl) (pv 0) aD (λ_ _=>rfl)))) bL)
   (aH (bG (jN (bB (GP (K:=K) rfl) (aQ (aU (K:=K) rfl) (pv 0) aD (λ_ _=>rfl)) (fj (aj cB (aj cB aA))) (by with_unfolding_all rfl)) (aQ (aU (K:=K) rfl) (pv 0) aD (λ_ _=>rfl)) gK)))), ?_⟩
  have cs:(∃c e,r = .store c e) \/ ∃(x:Str) (ys:List V),ws = .str x::ys/\x≠Str.ofString "store" /\ (x=Str.ofString "load" \/ x=Str.ofString "swap" -> ∃y z,ys=y :: .int (Fx r)::z/\touch r=true)/\(x≠Str.ofString "load" -> x≠Str.ofString "swap" -> touch r=false):=by
   cases r with
   | store c e=>exact .inl ⟨c,e,Z⟩
   | load b c=>exact .inr ⟨_,_,ps,by decide +kernel,λ_=>⟨_,_,Z,Z⟩,λz=>acP rfl z⟩
   | swap b c e=>
     obtain⟨x,e1,_⟩:=ps;exact .inr ⟨_,_,e1,by decide +kernel,λ_=>⟨_,_,Z,Z⟩,λ_ z=>acP rfl z⟩
   | yJ b e=>
     obtain⟨x,e1,_⟩:=ps;exact .inr ⟨_,_,e1,by decide +kernel,λz=>acP z (by decide +kernel),λ_ _=>rfl⟩
   | say e=>
     obtain⟨x,e1,_⟩:=ps;exact .inr ⟨_,_,e1,by decide +kernel,λz=>acP z (by decide +kernel),λ_ _=>rfl⟩
   | go n=>exact .inr ⟨_,_,ps,by decide +kernel,λz=>acP z (by decide +kernel),λ_ _=>rfl⟩
   | Ad q e f n=>
     obtain⟨x,y,e1,_⟩:=ps;exact .inr ⟨_,_,e1,by decide +kernel,λz=>acP z (by decide +kernel),λ_ _=>rfl⟩
  rcases cs with ⟨c,e,rfl⟩|⟨x,ys,rfl,nx,h1,h2⟩
  .obtain⟨x,rfl,_⟩:=ps
   refine⟨_,Z,_,_,_,_,Z,Z,cH.of ht,Z,Z,_,Z, ?_⟩;refine cO (λ_=>?_) (λz=>acP (aaL rfl) z);exact⟨_,Z,_,_,_,_,Z,Z,cH.of ht,Z,k H (Same.refl _)⟩
  refine⟨_,Z,_,_,_,_,Z,Z,cH.of ht,Wy,Z,_,Z, ?_⟩;refine cO (λz=>acP (by simpa using aaO z) nx) (λ_=>?_);refine⟨_,Z,_,_,_,_,Z,Z,cH.of ht,Wy,(by show 2<=sizeLine;decide),λp hp=>?_⟩;have sp:=aF (o:=HO.tup [V.str (Str.ofString "load"),V.str (Str.ofString "swap")]) hp;refine⟨p,_,Z,.inr (cH.of ak),Z,Z,_,Z, ?_⟩
  by_cases z:x=Str.ofString "load" \/ x=Str.ofString "swap"
  .obtain⟨y,w',rfl,tr⟩:=h1 z
   refine cO (λ_=>?_) (λq=>acP ?_ q)
   .refine⟨_,Z,_,_,_,_,Z,Z,cH.of (sp _ _ ht),acs, ?_⟩
    have:=k _ sp;unfold Fw at this;rw[acM tr] at this;exact this
   .rcases z with rfl|rfl<;>decide +kernel
  .have n1:x≠Str.ofString "load" :=λq=>z (.inl q)
   have n2:x≠Str.ofString "swap" :=λq=>z (.inr q);have tr:=h2 n1 n2;refine cO (λq=>acP q ?_) (λ_=>?_)
   .simp[inV,Ms,n1.symm,n2.symm]
   .have:=k _ sp
    unfold Fw at this;rw[acK (by rw[tr];decide)] at this;exact this
noncomputable def Fb:Ge->Nat
 | .one _=>1
 | .two _ _ _=>2
noncomputable def vK(CH:Addr)(n:Nat)(K:PySem.W.Frag):Sp:=λvs H Q _=>∃(A:nJ) (s:bI) (v:V) (e:Ge),vs=[.ref A.h,v]/\mZ CH H A s/\Dat H v (qC e)/\u5 e/\Fb e<=n/\Q (.int (vx s.bs e)) H
theorem Uc{au:Addr}{f:Addr}{fd:FuncData}(F:gD K "value_of" "Hand.value_of" gF f fd):bO P w K mg base iy 1 f fd ["self","part"] (vK au 0 K):=by
 refine F.ok fX (λvs H Q E h=>?_) (λcdv A outer s H vs Q E hr h=>?_)
 .obtain⟨A,s,v,e,rfl,_,_,_,z,_⟩:=h
  cases e<;>simp[Fb] at z
 .obtain⟨A,s,v,e,rfl,_,_,_,z,_⟩:=h
  cases e<;>simp[Fb] at z
theorem Jv{au:Addr}{n:Nat}{f:Addr}{fd:FuncData}(F:gD K "value_of" "Hand.value_of" gF f fd)(bW:MethAt P w K mg base (n+1) au "value_of" ["self","part"] (vK au n K))(aG:eU K au)(gj:Gv mg "BOXES" (.str "abcdefgh"))(iw:Gv mg "ROUND" (.int 1000)):bO P w K mg base iy (n+1+1) f fd ["self","part"] (vK au (n+1) K):=by
 refine F.ok fX (λvs H Q E h=>?_) (λcdv A outer s H vs Q E hr h=>?_)
 .obtain⟨A,s,v,e,rfl,_⟩:=h
  rfl
 .obtain⟨B,z,v,e,rfl,c,d,eo,dp,k⟩:=h
  refine⟨_,(aB (cA (bB eF (aQ (aU (K:=K) rfl) (pv 1) aD (λ_ _=>rfl)) cB (bC _)) (aH (bG (bM lD (aQ (aU (K:=K) rfl) (pv 1) aD (λ_ _=>rfl)) (g_ (by rfl) iw.choose_spec.1 iw.choose_spec.2)))) bL)
   (aB (cA (bB eF (aQ (aU (K:=K) rfl) (pv 1) aD (λ_ _=>rfl)) cB (bC _)) (aH (bG (aQ (aZ (K:=K) rfl) (aY (K:=K) rfl (pv 0) rfl) (Bl (K:=K) rfl PySem.F.plainAttrs_str PySem.F.slot_str_index PySem.F.type_str_index zy (g_ (by rfl) gj.choose_spec.1 gj.choose_spec.2) (aj (aQ (aU (K:=K) rfl) (pv 1) aD (λ_ _=>rfl)) aA)) (λ_ _=>rfl)))) bL)
   (aB (bA (i:=2) fX.nd rfl (Or.inl rfl) (cC bW aG.cls (hr.mono (aar _)) (pv 0) (aj (aQ (aU (K:=K) rfl) (pv 1) aD (λ_ _=>rfl)) aA)))
   (aB (bA (i:=3) fX.nd rfl (Or.inl rfl) (cC bW aG.cls (hr.mono (aar _)) (pv 0) (aj (aQ (aU (K:=K) rfl) (pv 1) aD (λ_ _=>rfl)) aA)))
   (aH (bG (bM lD (jN (bB eF (aQ (aU (K:=K) rfl) (pv 1) aD (λ_ _=>rfl)) cB (bC _)) (bM iI (pv 2) (pv 3)) (bM oE (pv 2) (pv 3))) (g_ (by rfl) iw.choose_spec.1 iw.choose_spec.2)))))))), ?_⟩
  match e,d,eo,dp,k with
  | .one (.num m),d,eo,dp,k=>
    obtain⟨t,rfl,ht⟩:=Wx (x:= .num m) d;refine⟨_,Z,_,_,_,_,Z,Z,cH.of ht,Z,Z,_,Z, ?_⟩;refine cO (λ_=>?_) (λz=>acP (aaL rfl) z);exact⟨_,Z,_,_,_,_,Z,Z,cH.of ht,Z,_,_,Z,Z,(by show (0:Int)<1000;decide),k⟩
  | .one (.box b),d,eo,dp,k=>
    obtain⟨t,rfl,ht⟩:=Wx (x:= .box b) d;refine⟨_,Z,_,_,_,_,Z,Z,cH.of ht,Z,Z,_,Z, ?_⟩;refine cO (λz=>acP (aaO z) (by decide)) (λ_=>?_);refine⟨_,Z,_,_,_,_,Z,Z,cH.of ht,Z,Z,_,Z, ?_⟩;refine cO (λ_=>?_) (λz=>acP (aaL rfl) z);have hb:b<8:=eo;refine⟨_,Z,B.h,au,B.hx,_,_,Z,c.h,aG.cls,aG.iK,Z,Z,_,Z,_,_,_,_,Z,Z,cH.of ht,Z,_,_,b,[],Z,Z,Q5 hb,_,_,_,_,Z,Z,bH.of c.b,d7 (v:= .int ((z.bs[b]?).getD 0)) ?_,k⟩;have hl:b<z.bs.length:=by rw[c.bl];exact hb
    rw[aah,aad hl];rfl
  | .two p x y,d,eo,dp,k=>
    obtain⟨t,u,w',rfl,ht,du,dw⟩:=Zn d;have e1:u5 (.one x)/\u5 (.one y):=eo
    have dn:1<=n:=by
     have:2<=n+1:=dp;lia
    have np:∀q:Bool,(Str.ofString "number")≠(if q then Str.ofString "plus" else Str.ofString "minus"):=by decide +kernel
    have nb:∀q:Bool,(Str.ofString "box")≠(if q then Str.ofString "plus" else Str.ofString "minus"):=by decide +kernel
    refine⟨_,Z,_,_,_,_,Z,Z,cH.of ht,Z,Z,_,Z, ?_⟩;refine cO (λz=>acP (by simpa using (aaO z).symm) (np p)) (λ_=>?_);refine⟨_,Z,_,_,_,_,Z,Z,cH.of ht,Z,Z,_,Z, ?_⟩;refine cO (λz=>acP (by simpa using (aaO z).symm) (nb p)) (λ_=>?_);refine⟨_,Z,B.h,B.hx,_,Z,c.h,Z,_,Z,_,_,_,_,Z,Z,cH.of ht,Z,B,z,u,.one x,Z,c,du,e1.1,dn, ?_⟩;refine⟨_,Z,B.h,B.hx,_,Z,c.h,Z,_,Z,_,_,_,_,Z,Z,cH.of ht,Z,B,z,w',.one y,Z,c,dw,e1.2,dn, ?_⟩;refine⟨_,Z,_,_,_,_,Z,Z,cH.of ht,Z,Z,_,Z, ?_⟩;cases p with
    | true=>
      refine cO (λ_=>?_) (λz=>acP (aaL rfl) z);exact⟨_,Z,_,Z,_,_,Z,Z,_,_,Z,Z,(by show (0:Int)<1000;decide),k⟩
    | false=>
      refine cO (λz=>acP (aaO z) (by decide)) (λ_=>?_);exact⟨_,Z,_,Z,_,_,Z,Z,_,_,Z,Z,(by show (0:Int)<1000;decide),k⟩
theorem Lq(e:Ge):Fb e<=2:=by cases e<;>simp[Fb]
noncomputable def Ao(CH:Addr)(K:PySem.W.Frag):Sp:=λvs H Q _=>∃(A:nJ) (s:bI) (v:V) (q:Bool) (e f:Ge) (n:Nat),vs=[.ref A.h,v]/\mZ CH H A s/\Dat H v (uH (.Ad q e f n))/\u5 e/\u5 f/\Q (.bl (um s.bs (.Ad q e f n))) H
theorem Oz{au:Addr}{f:Addr}{fd:FuncData}(F:gD K "holds" "Hand.holds" mG f fd)(bW:MethAt P w K mg base 3 au "value_of" ["self","part"] (vK au 2 K))(aG:eU K au):bO P w K mg base iy 4 f fd ["self","row"] (Ao au K):=by
 refine F.ok kJ (λvs H Q E h=>?_) (λcdv A outer s H vs Q E hr h=>?_)
 .obtain⟨A,s,v,q,e,f,n,rfl,_⟩:=h
  rfl
 .obtain⟨B,z,v,q,e,f,n,rfl,c,d,o1,o2,k⟩:=h
  refine⟨_,(aB (bA (i:=2) kJ.nd rfl (Or.inl rfl) (cC bW aG.cls (hr.mono (by decide)) (pv 0) (aj (aQ (aU (K:=K) rfl) (pv 1) aD (λ_ _=>rfl)) aA)))
   (aB (bA (i:=3) kJ.nd rfl (Or.inl rfl) (cC bW aG.cls (hr.mono (by decide)) (pv 0) (aj (aQ (aU (K:=K) rfl) (pv 1) aD (λ_ _=>rfl)) aA)))
   (aH (bG (jN (bB eF (aQ (aU (K:=K) rfl) (pv 1) aD (λ_ _=>rfl)) cB (bC _)) (dZ eF (pv 2) (pv 3) (bC _)) (dZ uI (pv 2) (pv 3) (bC _))))))), ?_⟩
  obtain⟨t,ws,rfl,ht,x,y,rfl,dx,dy⟩:=J3 d;refine⟨_,Z,B.h,B.hx,_,Z,c.h,Z,_,Z,_,_,_,_,Z,Z,cH.of ht,Z,B,z,x,e,Z,c,dx,o1,Lq e, ?_⟩;refine⟨_,Z,B.h,B.hx,_,Z,c.h,Z,_,Z,_,_,_,_,Z,Z,cH.of ht,Z,B,z,y,f,Z,c,dy,o2,Lq f, ?_⟩;refine⟨_,Z,_,_,_,_,Z,Z,cH.of ht,Z,Z,_,Z, ?_⟩;cases q with
  | true=>
    refine cO (λ_=>?_) (λz=>acP (aaL rfl) z);refine⟨_,Z,_,Z,Z, ?_⟩
    have:decide (V.int (vx z.bs e)=V.int (vx z.bs f))=um z.bs (.Ad true e f n):=by
     show _=decide (vx z.bs e=vx z.bs f);rw[Bool.eq_iff_iff,decide_eq_true_iff,decide_eq_true_iff];exact⟨λz=>V.int.inj z,λz=>by rw[z]⟩
    rw[this];exact k
  | false=>
    refine cO (λz=>acP (aaO z) (by decide)) (λ_=>?_);exact⟨_,Z,_,Z,_,_,Z,Z,k⟩
noncomputable def Ai(CH:Addr)(K:PySem.W.Frag):Sp:=λvs H Q _=>∃(A:nJ) (s:bI) (b:Nat) (i:Int),vs=[.ref A.h,.str (yC b),.int i]/\mZ CH H A s/\b<8/\Q .non (upd H A.b (.lst ((s.bs.set b i).map V.int)))
theorem Ug{au:Addr}{f:Addr}{fd:FuncData}(F:gD K "take" "Hand.take" nZ f fd)(aG:eU K au)(gj:Gv mg "BOXES" (.str "abcdefgh")):bO P w K mg base iy 1 f fd ["self","box","number"] (Ai au K):=by
 refine F.ok Ax (λvs H Q E h=>?_) (λcdv A outer s H vs Q E hr h=>?_)
 .obtain⟨A,s,b,i,rfl,_⟩:=h
  rfl
 .obtain⟨B,z,b,i,rfl,c,hb,k⟩:=h
  refine⟨_,(aH (qu (pv 2) (t_ (aY (K:=K) rfl (pv 0) rfl) (Bl (K:=K) rfl PySem.F.plainAttrs_str PySem.F.slot_str_index PySem.F.type_str_index zy (g_ (by rfl) gj.choose_spec.1 gj.choose_spec.2) (aj (pv 1) aA)) set_list))), ?_⟩;refine⟨_,Z,_,Z,B.h,au,B.hx,_,_,Z,c.h,aG.cls,aG.iK,Z,Z,_,Z,_,_,b,[],Z,Z,Q5 hb, ?_⟩;rw[List.map_set] at k;exact⟨B.b,_,_,b,Z,Z,c.b,(by rw[aac,c.bl];unfold Hs;rw[acM (by lia),acM (by lia)];simp),k⟩
noncomputable def Xg(CH:Addr)(K:PySem.W.Frag):Sp:=λvs H Q _=>∃(A:nJ) (s:bI) (v:V) (r:Rw) (m:Nat),vs=[.ref A.h,v]/\mZ CH H A s/\Dat H v (uH r)/\Gy m r/\touch r=false/\s.sy.length<1000000 /\ ∀H',mZ CH H' A (p7 s r)->KH A H H'->Q .non H'
theorem aa1{au:Addr}{f:Addr}{fd:FuncData}(F:gD K "do" "Hand.do" tX f fd)(bW:MethAt P w K mg base 3 au "value_of" ["self","part"] (vK au 2 K))(oZ:MethAt P w K mg base 1 au "take" ["self","box","number"] (Ai au K))(CJ:MethAt P w K mg base 4 au "holds" ["self","row"] (Ao au K))(aG:eU K au):bO P w K mg base iy 5 f fd ["self","row"] (Xg au K):=by
 refine F.ok Gw (λvs H Q E h=>?_) (λcdv A outer s H vs Q E hr h=>?_)
 .obtain⟨A,s,v,r,m,rfl,_⟩:=h
  rfl
 .obtain⟨B,z,v,r,m,rfl,c,d,ro,tr,sl,k⟩:=h
  refine⟨_,(aB (wz (K:=K) rfl (pv 0) aD BW)
   (aH (cA (bB eF (aQ (aU (K:=K) rfl) (pv 1) aD (λ_ _=>rfl)) cB (bC _)) (aH (cF (cC oZ aG.cls (hr.mono (by decide)) (pv 0) (aj (aQ (aU (K:=K) rfl) (pv 1) aD (λ_ _=>rfl)) (aj (cC bW aG.cls (hr.mono (by decide)) (pv 0) (aj (aQ (aU (K:=K) rfl) (pv 1) aD (λ_ _=>rfl)) aA)) aA))))) (aH (cA (bB eF (aQ (aU (K:=K) rfl) (pv 1) aD (λ_ _=>rfl)) cB (bC _)) (aH (cF (dB (K:=K) rfl (aY (K:=K) rfl (pv 0) rfl) (aj (cC bW aG.cls (hr.mono (by decide)) (pv 0) (aj (aQ (aU (K:=K) rfl) (pv 1) aD (λ_ _=>rfl)) aA)) aA)))) (aH (cA (PW.pt (rE (bB eF (aQ (aU (K:=K) rfl) (pv 1) aD (λ_ _=>rfl)) cB (bC _)) (oh (gq (dR (cC CJ aG.cls (hr.mono (by decide)) (pv 0) (aj (pv 1) aA))))))) (aH (cM (K:=K) rfl (pv 0) (aQ (aU (K:=K) rfl) (pv 1) (Ob Gi aD) (λ_ _=>rfl)) rfl)) bL))))))), ?_⟩
  refine⟨_,Z,B.h,au,B.hx,_,_,Z,c.h,aG.cls,aG.rP,Z,_,_,Z,Z,B.hx,_,c.h,(by show 5<1000;decide), ?_⟩;rw[v9];have c1:=c.qj (z.pos+1) z.st;have k1:KH B H (upd H B.h (.ins au B.hx (hF B.r ((z.pos+1:Nat):Int) B.b B.sy z.st))):=KH.qj;have d1:=d.keep (c.tup k1) _ (Qc r);dsimp only;rw[show ((z.pos:Nat):Int)+1=((z.pos+1:Nat):Int) by lia];generalize (upd H B.h (.ins au B.hx (hF B.r ((z.pos+1:Nat):Int) B.b B.sy z.st)))=H1 at c1 k1 d1 ⊢;obtain⟨t,ws,rfl,ht,ps⟩:=J3 d1;cases r with
  | load b cc=>cases tr
  | store cc e=>cases tr
  | swap b cc e=>cases tr
  | yJ b e=>
    obtain⟨x,rfl,dx⟩:=ps;refine⟨_,Z,_,_,_,_,Z,Z,cH.of ht,Z,Z,_,Z, ?_⟩;refine cO (λ_=>?_) (λz=>acP (aaL rfl) z);refine⟨_,Z,B.h,B.hx,_,Z,c1.h,Z,_,Z,_,_,_,_,Z,Z,cH.of ht,Z,_,Z,B.h,B.hx,_,Z,c1.h,Z,_,Z,_,_,_,_,Z,Z,cH.of ht,Z,B,_,x,e,Z,c1,dx,ro.2,Lq e, ?_⟩;exact⟨B,_,b,_,Z,c1,ro.1,k _ (c1.Nq _ (by rw[ab5];exact c1.bl)) (k1.trans KH.Nq)⟩
  | say e=>
    obtain⟨x,rfl,dx⟩:=ps;refine⟨_,Z,_,_,_,_,Z,Z,cH.of ht,Z,Z,_,Z, ?_⟩;refine cO (λz=>acP (aaO z) (by decide)) (λ_=>?_);refine⟨_,Z,_,_,_,_,Z,Z,cH.of ht,Z,Z,_,Z, ?_⟩;refine cO (λ_=>?_) (λz=>acP (aaL rfl) z);refine⟨_,Z,B.h,au,B.hx,_,_,Z,c1.h,aG.cls,aG.lN,Z,.inl ⟨Z,_,bH.of c1.y⟩,_,Z,B.h,B.hx,_,Z,c1.h,Z,_,Z,_,_,_,_,Z,Z,cH.of ht,Z,B,_,x,e,Z,c1,dx,ro,Lq e, ?_⟩;refine⟨_,_,_,Z,Z,c1.y,(by rw[aac,sizeLine_eq];show z.sy.length<_;lia), ?_⟩;have:=k _ (c1.Xl (z.sy++[vx z.bs e])) (k1.trans KH.Xl);rw[abo] at this;exact this
  | go n=>
    obtain rfl:=ps;refine⟨_,Z,_,_,_,_,Z,Z,cH.of ht,Z,Z,_,Z, ?_⟩;refine cO (λz=>acP (aaO z) (by decide)) (λ_=>?_);refine⟨_,Z,_,_,_,_,Z,Z,cH.of ht,Z,Z,_,Z, ?_⟩;refine cO (λz=>acP (aaO z) (by decide)) (λ_=>?_);refine⟨_,Z,_,_,_,_,Z,Z,cH.of ht,Z,Z,_,Z, ?_⟩;refine cO (λ_=>?_) (λz=>acP (aaL rfl) z);refine fM ?_;refine⟨_,Z,_,Z,_,_,_,_,Z,Z,cH.of ht,Z,_,Z,B.h,au,B.hx,_,Z,c1.h,aG.cls,aG.rP,(by show 5<1000;decide), ?_⟩;rw[v9];exact k _ (c1.qj n z.st) (k1.trans KH.qj)
  | Ad q e f n=>
    obtain⟨x,y,rfl,dx,dy⟩:=ps;refine⟨_,Z,_,_,_,_,Z,Z,cH.of ht,Z,Z,_,Z, ?_⟩;refine cO (λz=>acP (aaO z) (by decide)) (λ_=>?_);refine⟨_,Z,_,_,_,_,Z,Z,cH.of ht,Z,Z,_,Z, ?_⟩;refine cO (λz=>acP (aaO z) (by decide)) (λ_=>?_);refine⟨_,Z,_,_,_,_,Z,Z,cH.of ht,Z,Z,_,Z, ?_⟩;refine cO (λz=>acP (aaO z) (by decide)) (λ_=>?_);refine⟨_,Z,B.h,B.hx,_,Z,c1.h,Z,_,Z,B,_,_,q,e,f,n,Z,c1,d1,ro.1,ro.2,_,Z, ?_⟩;cases hh:um z.bs (.Ad q e f n) with
    | true=>
      refine dU ?_;refine k _ ?_ k1;show mZ au H1 B {z with pos:=if um z.bs (.Ad q e f n) then z.pos+1 else n};rw[hh];exact c1
    | false=>
      refine fM ?_;refine⟨_,Z,_,Z,_,_,_,_,Z,Z,cH.of ht,Z,_,Z,B.h,au,B.hx,_,Z,c1.h,aG.cls,aG.rP,(by show 5<1000;decide), ?_⟩;rw[v9];refine k _ ?_ (k1.trans KH.qj);show mZ au _ B {z with pos:=if um z.bs (.Ad q e f n) then z.pos+1 else n};rw[hh];exact c1.qj n z.st
noncomputable def dO(H:Hp)(r:Addr)(m:Nat)(rws:List Rw):Prop:=∃ts,H r=some (.lst ts)/\aP H ts (rws.map uH)/\(∀x∈rws,Gy m x)/\rws.length<=1000
theorem Et(rws:List Rw):qw (rws.map uH)=true:=cZ uH Qc rws
theorem dO.keep{H H':Hp}{r:Addr}{m:Nat}{rws:List Rw}(h:dO H r m rws)(k:∀o,H r=some o->H' r=some o)(t:∀x xs,H x=some (.tup xs)->H' x=some (.tup xs)):dO H' r m rws:=by
 obtain⟨ts,e,d,q⟩:=h;exact⟨ts,k _ e,d.keep t _ (Et rws),q⟩
theorem dO.same{H H':Hp}{r:Addr}{m:Nat}{rws:List Rw}(h:dO H r m rws)(k:Same H H'):dO H' r m rws:=h.keep (λo e=>k _ _ e) k.tups
noncomputable def Am(CH:Addr)(K:PySem.W.Frag):Sp:=λvs H Q _=>∃(A:nJ) (s:bI) (m:Nat),vs=[.ref A.h]/\mZ CH H A s/\dO H A.r m s.rws/\A.r≠A.b/\A.r≠A.sy/\s.sy.length<900000 /\ ∀H',mZ CH H' A (lead s)->KH A H H'->Q .non H'
theorem Ui{au:Addr}{f:Addr}{fd:FuncData}(F:gD K "lead_on" "Hand.lead_on" jJ f fd)(uz:FnAt P w K mg base 1 "cell_of" ["row"] (vN K))(Mj:MethAt P w K mg base 5 au "do" ["self","row"] (Xg au K))(aG:eU K au)(fG:Gv mg "MOST_UNTOUCHING" (.int 60))(Bt:pR mg):bO P w K mg base iy 6 f fd ["self"] (Am au K):=by
 refine F.ok jk (λvs H Q E h=>?_) (λcdv A outer s H vs Q E hr h=>?_)
 .obtain⟨A,s,m,rfl,_⟩:=h
  rfl
 .obtain⟨B,s,m,rfl,c,R,nrb,nry,sl,k⟩:=h
  refine⟨_,(aB (bA (i:=1) jk.nd rfl (Or.inl rfl) aD)
   (aB (wu PassesOwn.never (PW.pt (v8 (bB uI (aY (K:=K) rfl (pv 0) rfl) (aO (aW (K:=K) rfl) (by rfl) Bt.d_ cQ (aj (aY (K:=K) rfl (pv 0) rfl) aA)) (bC _)) (rF (bB wI (bT uz (hr.mono (by decide)) (by rfl) (aj (aQ (aZ (K:=K) rfl) (aY (K:=K) rfl (pv 0) rfl) (aY (K:=K) rfl (pv 0) rfl) (λ_ _=>rfl)) aA)) gK (bC _))))) (aB (cA (bB eF (pv 1) (g_ (by rfl) fG.choose_spec.1 fG.choose_spec.2) (bC _)) (aB (cM (K:=K) rfl (pv 0) cB rfl)
   (aH Tr)) bL)
   (aB (cF (cC Mj aG.cls (hr.mono (by decide)) (pv 0) (aj (aQ (aZ (K:=K) rfl) (aY (K:=K) rfl (pv 0) rfl) (aY (K:=K) rfl (pv 0) rfl) (λ_ _=>rfl)) aA)))
   (aH (XJ (i:=1) jk.nd rfl (Or.inl rfl) aD BW)))))
   (aH (cM (K:=K) rfl (pv 0) (jN (bB uI (aY (K:=K) rfl (pv 0) rfl) (aO (aW (K:=K) rfl) (by rfl) Bt.d_ cQ (aj (aY (K:=K) rfl (pv 0) rfl) aA)) (bC _)) cB cB) rfl)))), ?_⟩
  have nrh:B.r≠B.h:=by
   obtain⟨ts,e,_⟩:=R;exact cY e c.h (by intro z;cases z)
  refine⟨λn σ H1=>∃(d:Nat) (z:bI),σ=[some (.ref B.h),some (.int d)]/\d<=60/\n=60 - d/\mZ au H1 B z/\KH B H H1/\led (60 - d) z=lead s/\z.rws=s.rws/\z.sy.length<=s.sy.length+d,
   ⟨60,0,s,Z,by decide,Z,c,KH.of_same (Same.refl _),Z,Z,aar _⟩,λn σ H1 hσ=>?_⟩
  obtain⟨d,z,rfl,d60,rfl,c1,k1,hl,zr,zs⟩:=hσ
  have R1:dO H1 B.r m z.rws:=by
   rw[zr];exact R.keep (λo e=>k1 _ _ e nrh nrb nry) (c.tup k1)
  obtain⟨ts,hts,Z6,ro,rl⟩:=R1;have ln:ts.length=z.rws.length:=by rw[Z6.length,aac]
  refine⟨_,Z,B.h,au,B.hx,_,_,Z,c1.h,aG.cls,aG.rP,Z,_,Z,B.h,au,B.hx,_,_,Z,c1.h,aG.cls,aG.oF,Z,B.r,_,Z,.inl (bH.of hts),_,_,Z,Z,_,Z, ?_⟩;cases er:z.rws[z.pos]? with
  | none=>
    have ge:z.rws.length<=z.pos:=List.getElem?_eq_none_iff.mp er;have lf:¬decide (((z.pos:Nat):Int)<((ts.length:Nat):Int))=true:=by rw[ln];simp;lia
    refine cO (λq=>acP q lf) (λ_=>?_);refine dU ?_;refine⟨_,Z,B.h,au,B.hx,_,_,Z,c1.h,aG.cls,aG.rP,Z,_,Z,B.h,au,B.hx,_,_,Z,c1.h,aG.cls,aG.oF,Z,B.r,_,Z,.inl (bH.of hts),_,_,Z,Z,_,Z, ?_⟩;refine cO (λq=>acP q lf) (λ_=>?_);refine⟨_,Z,B.h,au,B.hx,_,Z,c1.h,aG.cls,aG.iY,(by show 5<1000;decide), ?_⟩;rw[Bk];refine k _ ?_ (k1.trans KH.qj)
    have:lead s={z with st:= "ends" }:=by
     rw[←hl];cases e60:60 - d<;>simp only[led,er]
    rw[this];exact c1.qj z.pos "ends"
  | some r=>
    have lt:z.pos<z.rws.length:=(aae.mp er).1;have lT:decide (((z.pos:Nat):Int)<((ts.length:Nat):Int))=true:=by rw[ln];simp;lia
    obtain⟨v,ev,dv⟩:=Z6.getD (i:=z.pos) (d:=uH r) (by rw[aah,er];rfl);refine cO (λ_=>?_) (λq=>acP lT q);refine⟨_,Z,B.h,au,B.hx,_,_,Z,c1.h,aG.cls,aG.oF,Z,_,Z,B.h,au,B.hx,_,_,Z,c1.h,aG.cls,aG.rP,Z,_,_,_,_,Z,Z,bH.of hts,d7 ev,v,r,Z,dv,λH2 s2=>⟨Z,_,Z, ?_⟩⟩;have c2:=c1.same s2;have abz:=s2 _ _ hts;have k2:=k1.trans (KH.of_same (A:=B) s2);cases tr:touch r with
    | true=>
      refine cO (λq=>acP (aaO q) (by unfold Fw;rw[acM tr];intro z;cases z)) (λ_=>?_);refine⟨_,Z,B.h,au,B.hx,_,_,Z,c2.h,aG.cls,aG.rP,Z,_,Z,B.h,au,B.hx,_,_,Z,c2.h,aG.cls,aG.oF,Z,B.r,_,Z,.inl (bH.of abz),_,_,Z,Z,_,Z, ?_⟩;refine cO (λ_=>?_) (λq=>acP lT q);refine⟨_,Z,B.h,au,B.hx,_,Z,c2.h,aG.cls,aG.iY,(by show 5<1000;decide), ?_⟩;rw[Bk];refine k _ ?_ (k2.trans KH.qj)
      have:lead s={z with st:= "waits" }:=by
       rw[←hl];cases e60:60 - d<;>simp only[led,er,tr,if_true]
      rw[this];exact c2.qj z.pos "waits"
    | false=>
      refine cO (λ_=>?_) (λq=>acP (aaL (by unfold Fw;rw[acK (by rw[tr];decide)])) q);refine⟨λσ' H'=>∃m',m'<60 - d /\ ∃(d:Nat) (z:bI),σ'=[some (.ref B.h),some (.int d)]/\d<=60/\m'=60 - d/\mZ au H' B z/\KH B H H'/\led (60 - d) z=lead s/\z.rws=s.rws/\z.sy.length<=s.sy.length+d,λ_ _ q=>q, ?_⟩;refine⟨_,Z,Z,_,Z, ?_⟩
      by_cases e6:d=60
      .subst e6
       refine cO (λ_=>?_) (λq=>acP (aaL rfl) q);refine⟨_,Z,B.h,au,B.hx,_,Z,c2.h,aG.cls,aG.iY,(by show 5<1000;decide), ?_⟩;rw[Bk];refine k _ ?_ (k2.trans KH.qj)
       have:lead s={z with st:= "lost" }:=by
        rw[←hl];show led 0 z=_;simp only[led,er,tr];rfl
       rw[this];exact c2.qj z.pos "lost"
      .refine cO (λq=>acP (by have:=V.int.inj (aaO q);lia) e6) (λ_=>?_)
       refine⟨_,Z,B.h,B.hx,_,Z,c2.h,Z,_,Z,B.h,au,B.hx,_,_,Z,c2.h,aG.cls,aG.oF,Z,_,Z,B.h,au,B.hx,_,_,Z,c2.h,aG.cls,aG.rP,Z,_,_,_,_,Z,Z,bH.of abz,d7 ev,B,z,v,r,m,Z,c2,dv.same s2 _,ro r (aaK er),tr,by lia,λH3 c3 k3=>?_⟩;refine⟨_,Z,_,_,Z,Z,60 - (d+1),by lia,d+1,p7 z r,Z,by lia,Z,c3,k2.trans k3, ?_,by rw[zP,zr], ?_⟩
       .rw[←hl,show 60 - d=(60 - (d+1))+1 by lia]
        simp only[led,er,tr];rfl
       .have:=Fg z r
        lia
noncomputable def wF(pg nb hs tn:Addr):List (Str×V):=[("program",.ref pg),("numbers",.ref nb),("hands",.ref hs),("turns",.ref tn)]
noncomputable def uf(m:Int)(ns:List Int):Prop:=(ns.length:Int)=m /\ ∀x∈ns,0<=x/\x<1000
noncomputable def qe(CN:Addr)(K:PySem.W.Frag):Sp:=λvs H Q E=>∃(cl:Addr) (m:Int) (ns:List Int),vs=[.ref cl,.int m]/\H cl=some (.lst (ns.map V.int))/\ns.length<=100/\(uf m ns -> ∀H',Same H H'->Q .non H')/\(¬uf m ns -> ∀H',Same H H'->E (.ref CN) none H')
theorem Ec{f:Addr}{fd:FuncData}(F:gD K "check_numbers" "check_numbers" jm f fd)(dW:FnAt P w K mg base 2 "is_below" ["value","count"] (qW K))(iw:Gv mg "ROUND" (.int 1000))(Bt:pR mg){bY:Addr}(iQ:Xr K mg bY "NoNumber"):bO P w K mg base (pY P w) 3 f fd ["cells","count"] (qe bY K):=by
 refine F.Uk tO (λvs H Q E h=>?_) (λcdv A outer s H vs Q E hr h hR=>?_)
 .obtain⟨cl,m,ns,rfl,_⟩:=h
  rfl
 .obtain⟨cl,m,ns,rfl,hc,nl,k1,k2⟩:=h
  refine⟨_,(aB (cA (PW.pt (rE (gq (dR (aO (cD (K:=K) (cv:= .ty "list") (c:= .type "list") rfl rfl) (by rfl) Bt.bK bF (aj (pv 0) (aj (dH (v:= .ty "list") (by rfl) Bt.fQ dN rfl) aA))))) (oh (bB rM (aO (aW (K:=K) rfl) (by rfl) Bt.d_ cQ (aj (pv 0) aA)) (pv 1) (bC _))))) (aH (jc PySem.F.excBase_ValueError iQ.ex iQ.bd (by rfl) rfl rfl hR (aj cB aA))) bL)
   (aH (cA (gq (dR (aO (gJ (K:=K) rfl rfl) (by rfl) Bt.J1 Cr (aj (dY rfl (N:=["number"]) (own:=["number"]) (caps:=[]) (bw.of (by kernel_rfl)) (cI (K:=K) rfl (pv 0)) (λ_ _ _ _=>(bJ (i:=0) (show List.Nodup (["number"]:List Str) by decide +kernel) rfl (Or.inl rfl))) (λ_ _ _ _=>dG) (λ_ _ _ _=>(bT dW (hr.mono (by decide)) (by rfl) (aj (pv 0) (aj (g_ (by rfl) iw.choose_spec.1 iw.choose_spec.2) aA))))) aA)))) (aH (jc PySem.F.excBase_ValueError iQ.ex iQ.bd (by rfl) rfl rfl hR (aj cB aA))) bL))), ?_⟩
  refine⟨_,Z,_,_,true,Z,.lst hc,iZ K,true,Z, ?_⟩;refine dU ?_;refine⟨_,Z,cl,_,Z,.inl (bH.of hc),_,Z,Z,_,Z, ?_⟩;rw[aac]
  by_cases el:(ns.length:Int)=m
  rotate_left
  .refine cO (λ_=>?_) (λz=>acP (by simp[el]) z)
   exact⟨(by show 1<=sizeLine;decide),k2 (λz=>el z.1) H (Same.refl _)⟩
  refine zH (by rw[el]) ?_;refine⟨_,Z,cl,Z,⟨_,bH.of hc⟩,λD hD=>?_⟩;refine lU (K:=K) (λi=>(ns[i]?).map λx=>V.bl (decide (uO x 1000))) hD (bH.of hc) (by rw[aac];lia) (λi v H2 G F hi s2 kG kF=>?_) (λH2 s2 e2=>?_)
  .rw[aah] at hi
   cases ei:ns[i]? with
   | none=>rw[ei] at hi;cases hi
   | some z=>
     rw[ei] at hi;cases hi;exact⟨_,Z,z,1000,Z,kF _ H2 (Same.refl _) (by rw[ei];rfl)⟩
  rw[aac,JQ] at e2;refine⟨D,ns.map (λx=>decide (uO x 1000)),Z,bH.of (by rw[e2,abZ];rfl),_,Z, ?_⟩
  by_cases al:∀x∈ns,uO x 1000
  .have ea:(ns.map (λx=>decide (uO x 1000))).all id=true:=by
    rw[List.all_map,List.all_eq_true];intro h hh;exact aaL (al h hh)
   rw[ea];refine dU ?_;exact k1 ⟨el,λx hx=>al x hx⟩ H2 s2
  .have ea:(ns.map (λx=>decide (uO x 1000))).all id=false:=by
    rw[List.all_map,←Bool.not_eq_true,List.all_eq_true];intro z;exact al λh hh=>aaO (p:=uO h 1000) (z h hh)
   rw[ea];refine fM ?_;exact⟨(by show 1<=sizeLine;decide),k2 (λz=>al λx hx=>z.2 x hx) H2 s2⟩
noncomputable def sZ(CW CH:Addr)(K:PySem.W.Frag):Sp:=λvs H Q _=>∃(o dx pg nb hl tn:Addr) (A:nJ) (s:bI) (m:Nat) (ns:List Int) (r:Rw),vs=[.ref o,.ref A.h]/\H o=some (.ins CW dx (wF pg nb hl tn))/\H nb=some (.lst (ns.map V.int))/\ns.length=m/\mZ CH H A s/\dO H A.r m s.rws /\
 s.rws[s.pos]? = some r/\touch r=true/\nb≠A.b/\nb≠A.sy /\
 ∀t H',H t=none->H' t=some (.tup (Gm ns s.bs r))->mZ CH H' A {s with bs:=Cu ns s.bs r}->H' nb=some (.lst ((mW ns s.bs r).map V.int))->(∀x u,H x=some u->x≠nb->x≠A.b->H' x=some u)->Q (.ref t) H'
theorem GQ{aq au:Addr}{f:Addr}{fd:FuncData}(F:gD K "touch_by" "Works.touch_by" iD f fd)(uz:FnAt P w K mg base 1 "cell_of" ["row"] (vN K))(bW:MethAt P w K mg base 3 au "value_of" ["self","part"] (vK au 2 K))(oZ:MethAt P w K mg base 1 au "take" ["self","box","number"] (Ai au K))(aJ:cT K aq)(aG:eU K au):bO P w K mg base iy 4 f fd ["self","one"] (sZ aq au K):=by
 refine F.ok dF (λvs H Q E h=>?_) (λcdv A outer s H vs Q E hr h=>?_)
 .obtain⟨o,dx,pg,nb,hl,tn,A,s,m,ns,r,rfl,_⟩:=h
  rfl
 .obtain⟨o,dx,pg,nb,hl,tn,B,z,m,ns,r,rfl,ho,hnb,nl,c,R,er,tr,V7,ZK,k⟩:=h
  refine⟨_,(aB (bA (i:=2) dF.nd rfl (Or.inl rfl) (aQ (aZ (K:=K) rfl) (aY (K:=K) rfl (pv 1) rfl) (aY (K:=K) rfl (pv 1) rfl) (λ_ _=>rfl)))
   (aB (bA (i:=3) dF.nd rfl (Or.inl rfl) (bT uz (hr.mono (by decide)) (by rfl) (aj (pv 2) aA)))
   (aB (bA (i:=4) dF.nd rfl (Or.inl rfl) (jN (bB eF (aQ (aU (K:=K) rfl) (pv 2) aD (λ_ _=>rfl)) cB (bC _)) gK (aQ (aZ (K:=K) rfl) (aY (K:=K) rfl (pv 0) rfl) (pv 3) (λ_ _=>rfl))))
   (aB (bA (i:=5) dF.nd rfl (Or.inl rfl) (jN (bB eF (aQ (aU (K:=K) rfl) (pv 2) aD (λ_ _=>rfl)) cB (bC _)) gK (cC bW aG.cls (hr.mono (by decide)) (pv 1) (aj (aQ (aU (K:=K) rfl) (pv 2) (Ob Gi aD) (λ_ _=>rfl)) aA))))
   (aB (cA (bB Bq (pv 4) gK (bC _)) (aH (cF (cC oZ aG.cls (hr.mono (by decide)) (pv 1) (aj (aQ (aU (K:=K) rfl) (pv 2) aD (λ_ _=>rfl)) (aj (pv 4) aA))))) bL)
   (aB (cA (bB Bq (pv 5) gK (bC _)) (aH (qu (pv 5) (t_ (aY (K:=K) rfl (pv 0) rfl) (pv 3) set_list))) bL)
   (aH (bG (fj (aj (aQ (aU (K:=K) rfl) (pv 2) aD (λ_ _=>rfl)) (aj (pv 3) (aj (pv 4) (aj (pv 5) aA))))))))))))), ?_⟩
  obtain⟨ts,hts,Z6,ro,rl⟩:=R;obtain⟨v,ev,dv⟩:=Z6.getD (i:=z.pos) (d:=uH r) (by rw[aah,er];rfl);have yx:=ro r (aaK er);refine⟨_,Z,B.h,au,B.hx,_,_,Z,c.h,aG.cls,aG.oF,Z,_,Z,B.h,au,B.hx,_,_,Z,c.h,aG.cls,aG.rP,Z,_,_,_,_,Z,Z,bH.of hts,d7 ev, ?_⟩;refine⟨_,Z,v,r,Z,dv,λH1 s1=>?_⟩;have c1:=c.same s1;have ho1:=s1 _ _ ho;have BZ:=s1 _ _ hnb;obtain⟨t,ws,rfl,ht,ps⟩:=J3 (dv.same s1 _);have nob:o≠nb:=cY ho1 BZ (by intro z;cases z);have noB:o≠B.b:=cY ho1 c1.b (by intro z;cases z);have ntb:t≠B.b:=cY ht c1.b (by intro z;cases z);have ntn:t≠nb:=cY ht BZ (by intro z;cases z);have cellOf:∀cc,cc<m->ns[cc]? = some ((ns[cc]?).getD 0):=λcc h=>by rw[aad (by lia)];rfl
  have cellAt:∀cc,cc<m->(ns.map V.int)[cc]? = some (.int ((ns[cc]?).getD 0)):=λcc h=>by rw[aah,cellOf cc h];rfl
  have abp:∀cc,cc<m->Hs (ns.map V.int).length ((cc:Nat):Int)=some cc:=λcc h=>by rw[aac];unfold Hs;rw[acM (by lia),acM (by lia)];simp
  cases r with
  | load b cc=>
    obtain rfl:=ps;refine⟨_,Z,_,_,_,_,Z,Z,cH.of ht,Z,Z,_,Z, ?_⟩;refine cO (λz=>acP (aaO z) (by decide)) (λ_=>?_);refine⟨_,Z,o,aq,dx,_,_,Z,ho1,aJ.cls,aJ.iJ,Z,_,Z,_,_,_,_,Z,Z,bH.of BZ,d7 (cellAt cc yx.2), ?_⟩;refine⟨_,Z,_,_,_,_,Z,Z,cH.of ht,Z,Z,_,Z, ?_⟩;refine cO (λ_=>?_) (λz=>acP (aaL rfl) z);refine⟨_,Z,Z,_,Z, ?_⟩;refine fM ?_;refine⟨_,Z,B.h,B.hx,_,Z,c1.h,Z,_,Z,_,_,_,_,Z,Z,cH.of ht,Z,_,Z,B,z,b,_,Z,c1,yx.1, ?_⟩;refine⟨_,Z,Z,_,Z, ?_⟩;refine dU ?_;have c2:=c1.Nq (z.bs.set b ((ns[cc]?).getD 0)) (by rw[ab5];exact c1.bl);refine⟨_,Z,_,_,_,_,Z,Z,cH.of (by rw[aC ntb];exact ht),Z,_,Z,_,Z,_,Z,(by show 4<=sizeLine;decide),λp hp=>?_⟩;have sp:=aF (o:=HO.tup [V.str (Str.ofString "load"),V.int cc,V.int ((ns[cc]?).getD 0),V.non]) hp;refine k p _ ?_ ?_ (c2.same sp) (sp _ _ (by rw[aC V7];exact BZ)) ?_
    .refine s1.free ?_
     have:p≠B.b:=λe=>by rw[e,ak] at hp;cases hp
     rw[aC this] at hp;exact hp
    .rw[ak]
     show some (HO.tup [V.str (Str.ofString "load"),V.int cc,V.int ((ns[cc]?).getD 0),V.non])=some (HO.tup [V.str (Str.ofString "load"),V.int cc,oV (ns[cc]?),V.non]);rw[cellOf cc yx.2];rfl
    .intro x u e n1 n2
     exact sp _ _ (by rw[aC n2];exact s1 _ _ e)
  | store cc e=>
    obtain⟨x,rfl,Zd⟩:=ps;refine⟨_,Z,_,_,_,_,Z,Z,cH.of ht,Z,Z,_,Z, ?_⟩;refine cO (λ_=>?_) (λz=>acP (aaL rfl) z);refine⟨_,Z,_,_,_,_,Z,Z,cH.of ht,Z,Z,_,Z, ?_⟩;refine cO (λz=>acP (aaO z) (by decide)) (λ_=>?_);refine⟨_,Z,B.h,B.hx,_,Z,c1.h,Z,_,Z,_,Z,_,_,_,_,Z,Z,cH.of ht,Z,B,z,x,e,Z,c1,Zd,yx.2,Lq e, ?_⟩;refine⟨_,Z,Z,_,Z, ?_⟩;refine dU ?_;refine⟨_,Z,Z,_,Z, ?_⟩;refine fM ?_;refine⟨_,Z,_,Z,o,aq,dx,_,_,Z,ho1,aJ.cls,aJ.iJ,Z,_,Z,nb,_,_,cc,Z,Z,BZ,abp cc yx.1, ?_⟩;rw[←List.map_set];refine⟨_,Z,_,_,_,_,Z,Z,cH.of (by rw[aC ntn];exact ht),Z,_,Z,_,Z,_,Z,(by show 4<=sizeLine;decide),λp hp=>?_⟩;have sp:=aF (o:=HO.tup [V.str (Str.ofString "store"),V.int cc,V.non,V.int (vx z.bs e)]) hp;have nbh:B.h≠nb:=cY c1.h BZ (by intro z;cases z);refine k p _ ?_ ak (mZ.same ⟨by rw[aC nbh];exact c1.h,by rw[aC V7.symm];exact c1.b,by rw[aC ZK.symm];exact c1.y,c1.K3,c1.bl⟩ sp) (sp _ _ ak) ?_
    .refine s1.free ?_
     have:p≠nb:=λe=>by rw[e,ak] at hp;cases hp
     rw[aC this] at hp;exact hp
    .intro x u e n1 n2
     exact sp _ _ (by rw[aC n1];exact s1 _ _ e)
  | swap b cc e=>
    obtain⟨x,rfl,Zd⟩:=ps;refine⟨_,Z,_,_,_,_,Z,Z,cH.of ht,Z,Z,_,Z, ?_⟩;refine cO (λz=>acP (aaO z) (by decide)) (λ_=>?_);refine⟨_,Z,o,aq,dx,_,_,Z,ho1,aJ.cls,aJ.iJ,Z,_,Z,_,_,_,_,Z,Z,bH.of BZ,d7 (cellAt cc yx.2.1), ?_⟩;refine⟨_,Z,_,_,_,_,Z,Z,cH.of ht,Z,Z,_,Z, ?_⟩;refine cO (λz=>acP (aaO z) (by decide)) (λ_=>?_);refine⟨_,Z,B.h,B.hx,_,Z,c1.h,Z,_,Z,_,Z,_,_,_,_,Z,Z,cH.of ht,Z,B,z,x,e,Z,c1,Zd,yx.2.2,Lq e, ?_⟩;refine⟨_,Z,Z,_,Z, ?_⟩;refine fM ?_;refine⟨_,Z,B.h,B.hx,_,Z,c1.h,Z,_,Z,_,_,_,_,Z,Z,cH.of ht,Z,_,Z,B,z,b,_,Z,c1,yx.1, ?_⟩;refine⟨_,Z,Z,_,Z, ?_⟩;refine fM ?_;have c2:=c1.Nq (z.bs.set b ((ns[cc]?).getD 0)) (by rw[ab5];exact c1.bl);have agk:(upd H1 B.b (.lst ((z.bs.set b ((ns[cc]?).getD 0)).map V.int))) nb=some (.lst (ns.map V.int)):=by rw[aC V7];exact BZ
    refine⟨_,Z,_,Z,o,aq,dx,_,_,Z,(by rw[aC noB];exact ho1),aJ.cls,aJ.iJ,Z,_,Z,nb,_,_,cc,Z,Z,agk,abp cc yx.2.1, ?_⟩;rw[←List.map_set];refine⟨_,Z,_,_,_,_,Z,Z,cH.of (by rw[aC ntn,aC ntb];exact ht),Z,_,Z,_,Z,_,Z,(by show 4<=sizeLine;decide),λp hp=>?_⟩;have sp:=aF (o:=HO.tup [V.str (Str.ofString "swap"),V.int cc,V.int ((ns[cc]?).getD 0),V.int (vx z.bs e)]) hp;have nbh:B.h≠nb:=cY c1.h BZ (by intro z;cases z);refine k p _ ?_ ?_ (mZ.same ⟨by rw[aC nbh];exact c2.h,by rw[aC V7.symm];exact c2.b,by rw[aC ZK.symm];exact c2.y,c2.K3,c2.bl⟩ sp) (sp _ _ ak) ?_
    .refine s1.free ?_
     have n1:p≠nb:=λe=>by rw[e,ak] at hp;cases hp
     rw[aC n1] at hp;have n2:p≠B.b:=λe=>by rw[e,ak] at hp;cases hp
     rw[aC n2] at hp;exact hp
    .rw[ak]
     show some (HO.tup [V.str (Str.ofString "swap"),V.int cc,V.int ((ns[cc]?).getD 0),V.int (vx z.bs e)])=some (HO.tup [V.str (Str.ofString "swap"),V.int cc,oV (ns[cc]?),V.int (vx z.bs e)]);rw[cellOf cc yx.2.1];rfl
    .intro x u e n1 n2
     exact sp _ _ (by rw[aC n1,aC n2];exact s1 _ _ e)
  | yJ b e=>cases tr
  | say e=>cases tr
  | go n=>cases tr
  | Ad q e f n=>cases tr
structure u6 where
 (o dx pg L nb hl tn:Addr) (rs:List Addr) (hd:List nJ)
structure u9(CH:Addr)(i k m:Nat)(τ:Tg)(H:Hp)(A:nJ)(s:bI):Prop where
 c:mZ CH H A s
 r:dO H A.r m s.rws
 tr:τ A.r=[0]
 th:τ A.h=[i,4,k]
 tb:τ A.b=[i,5,k]
 ty:τ A.sy=[i,6,k]
structure jw(CW CH:Addr)(i:Nat)(τ:Tg)(H:Hp)(W:u6)(S:gU):Prop where
 un:j8 τ H
 i0:i≠0
 o:H W.o=some (.ins CW W.dx (wF W.pg W.nb W.hl W.tn))
 pg:H W.pg=some (.tup [.int S.m,.ref W.L])
 L:H W.L=some (.lst (W.rs.map V.ref))
 nb:H W.nb=some (.lst (S.ns.map V.int))
 hl:H W.hl=some (.lst (W.hd.map λa=> .ref a.h))
 tn:H W.tn=some (.lst (S.ts.map V.int))
 to:τ W.o=[i,0]
 tb:τ W.nb=[i,1]
 tl:τ W.hl=[i,2]
 tt:τ W.tn=[i,3]
 tL:τ W.L=[0]
 rl:W.rs.length=S.hs.length
 rs:∀(k:Nat)(r:Addr)(s:bI),W.rs[k]? = some r->S.hs[k]? = some s->τ r=[0]/\dO H r S.m s.rws
 len:W.hd.length=S.hs.length
 hd:∀(k:Nat)(A:nJ)(s:bI),W.hd[k]? = some A->S.hs[k]? = some s->u9 CH i k S.m τ H A s
 ok:∀s∈S.hs,jU s
 sl:∀s∈S.hs,s.sy.length<=60*(S.ts.length+1)
 nl:S.ns.length=S.m
 hn:S.hs.length<=100
section
variable{CW CH:Addr}{i:Nat}{τ τ':Tg}{H H':Hp}{W:u6}{S:gU}
theorem u9.mv{k m:Nat}{A:nJ}{s:bI}(h:u9 CH i k m τ H A s)(q:Mv i τ H τ' H'):u9 CH i k m τ' H' A s:=by
 obtain⟨⟨c1,c2,c3,c4,c5⟩,r,tr,th,tb,ty⟩:=h;have e1:=q.keep _ _ c1 (.inr (by rw[th];rfl));have e2:=q.keep _ _ c2 (.inr (by rw[tb];rfl));have e3:=q.keep _ _ c3 (.inr (by rw[ty];rfl));have rr:=r;obtain⟨ts,hr,_⟩:=rr;have e4:=q.keep _ _ hr (.inl tr);exact⟨⟨e1.1,e2.1,e3.1,c4,c5⟩,r.keep (λo e=>(q.keep _ _ e (.inl tr)).1) q.tup,e4.2.trans tr,e1.2.trans th,e2.2.trans tb,e3.2.trans ty⟩
theorem Tj{r:Addr}{m:Nat}{rws:List Rw}(h:τ r=[0]/\dO H r m rws)(q:Mv i τ H τ' H'):τ' r=[0]/\dO H' r m rws:=by
 obtain⟨t,R⟩:=h;have rr:=R;obtain⟨ts,hr,_⟩:=rr;have e4:=q.keep _ _ hr (.inl t);exact⟨e4.2.trans t,R.keep (λo e=>(q.keep _ _ e (.inl t)).1) q.tup⟩
theorem jw.mv(w:jw CW CH i τ H W S)(q:Mv i τ H τ' H')(u:j8 τ' H'):jw CW CH i τ' H' W S:=by
 have e1:=q.keep _ _ w.o (.inr (by rw[w.to];rfl));have e2:=q.keep _ _ w.nb (.inr (by rw[w.tb];rfl));have e3:=q.keep _ _ w.hl (.inr (by rw[w.tl];rfl));have e4:=q.keep _ _ w.tn (.inr (by rw[w.tt];rfl));have e5:=q.keep _ _ w.L (.inl w.tL);exact⟨u,w.i0,e1.1,q.tup _ _ w.pg,e5.1,e2.1,e3.1,e4.1,e1.2.trans w.to,e2.2.trans w.tb,e3.2.trans w.tl,e4.2.trans w.tt,e5.2.trans w.tL,w.rl,λk r s h1 h2=>Tj (w.rs k r s h1 h2) q,w.len,λk A s h1 h2=>(w.hd k A s h1 h2).mv q,w.ok,w.sl,w.nl,w.hn⟩
theorem jw.same(w:jw CW CH i τ H W S)(k:Same H H'):jw CW CH i τ H' W S:=w.mv (Mv.of_same k) (w.un.same k)
theorem jw.kp{a:Addr}{o:HO}(w:jw CW CH i τ H W S)(k:Kp a H H')(ha:H a=some o)(hn:∀xs,o ≠ .tup xs)(ht:τ a=[])(ha':∃o',H' a=some o'):jw CW CH i τ H' W S:=
 w.mv (Mv.aa2 k ha hn ht) (w.un.dom λx e=>by
  by_cases z:x=a
  .obtain⟨o',h'⟩:=ha'
   rw[z,h'] at e;cases e
  .exact JD k z e)
theorem jw.hand{k:Nat}{s:bI}(w:jw CW CH i τ H W S)(h:S.hs[k]? = some s):∃A,W.hd[k]? = some A/\u9 CH i k S.m τ H A s:=by
 have:k<W.hd.length:=by rw[w.len];exact(aae.mp h).1
 exact⟨W.hd[k],by simp[this],w.hd k _ _ (by simp[this]) h⟩
end
noncomputable def qT(CW CH CN:Addr)(K:PySem.W.Frag):Sp:=λvs H Q E=>∃(i:Nat) (τ:Tg) (W:u6) (S:gU) (h:Int),vs=[.ref W.o,.int h]/\jw CW CH i τ H W S/\(∀(k:Nat)(A:nJ)(s:bI),h=k->W.hd[k]? = some A->S.hs[k]? = some s->Q (.ref A.h) H)/\(¬uO h S.hs.length->E (.ref CN) none H)
theorem KC{aq au:Addr}{f:Addr}{fd:FuncData}(F:gD K "hand_of" "Works.hand_of" jq f fd)(dW:FnAt P w K mg base 2 "is_below" ["value","count"] (qW K))(aJ:cT K aq)(Bt:pR mg){aR:Addr}(bV:Xr K mg aR "NoHand"):bO P w K mg base (pY P w) 3 f fd ["self","hand"] (qT aq au aR K):=by
 refine F.Uk tQ (λvs H Q E h=>?_) (λcdv A outer s H vs Q E hr h hR=>?_)
 .obtain⟨i,τ,W,S,h,rfl,_⟩:=h
  rfl
 .obtain⟨i,τ,W,S,h,rfl,w,k1,k2⟩:=h
  refine⟨_,(aB (cA (gq (dR (bT dW (hr.mono (by decide)) (by rfl) (aj (pv 1) (aj (aO (aW (K:=K) rfl) (by rfl) Bt.d_ cQ (aj (aY (K:=K) rfl (pv 0) rfl) aA)) aA))))) (aH (jc PySem.F.excBase_ValueError bV.ex bV.bd (by rfl) rfl rfl hR (aj cB aA))) bL)
   (aH (bG (aQ (aZ (K:=K) rfl) (aY (K:=K) rfl (pv 0) rfl) (pv 1) (λ_ _=>rfl))))), ?_⟩
  refine⟨_,Z,_,Z,W.o,aq,W.dx,_,_,Z,w.o,aJ.cls,aJ.jY,Z,W.hl,_,Z,.inl (bH.of w.hl),h,_,Z,_,Z, ?_⟩;have ll:(W.hd.map λa=>V.ref a.h).length=S.hs.length:=by rw[aac,w.len]
  by_cases hh:uO h (W.hd.map λa=>V.ref a.h).length
  .rw[aaL hh]
   refine dU ?_;obtain⟨n,rfl⟩:=acF hh.1;have nl:n<S.hs.length:=by have:=hh.2;rw[ll] at this;lia
   have es:S.hs[n]? = some S.hs[n]:=by simp[nl]
   obtain⟨A,eA,_⟩:=w.hand es;exact⟨_,Z,W.o,aq,W.dx,_,_,Z,w.o,aJ.cls,aJ.jY,Z,_,Z,_,_,_,_,Z,Z,bH.of w.hl,d7 (by rw[aah,eA];rfl),k1 n A _ rfl eA es⟩
  .rw[aaN hh]
   refine fM ?_;rw[ll] at hh;exact⟨(by show 1<=sizeLine;decide),k2 hh⟩
noncomputable def Ar(CW CH:Addr)(K:PySem.W.Frag):Sp:=λvs H Q _=>∃(i:Nat) (τ:Tg) (W:u6) (S:gU),vs=[.ref W.o]/\jw CW CH i τ H W S /\ ∀l H',H l=none->H' l=some (.lst (S.ns.map V.int))->Same H H'->Q (.ref l) H'
theorem O4{aq au:Addr}{f:Addr}{fd:FuncData}(F:gD K "cells" "Works.cells" kY f fd)(aJ:cT K aq)(Bt:pR mg):bO P w K mg base iy 1 f fd ["self"] (Ar aq au K):=by
 refine F.ok vU (λvs H Q E h=>?_) (λcdv A outer s H vs Q E hr h=>?_)
 .obtain⟨i,τ,W,S,rfl,_⟩:=h
  rfl
 .obtain⟨i,τ,W,S,rfl,w,k⟩:=h
  refine⟨_,(aH (bG (cL (bR (K:=K) rfl) (by rfl) Bt.fQ dN (aj (aY (K:=K) rfl (pv 0) rfl) aA)))), ?_⟩;exact⟨_,Z,W.o,aq,W.dx,_,_,Z,w.o,aJ.cls,aJ.iJ,Z,W.nb,_,Z,.inl (bH.of w.nb),λl hl=>k l _ hl ak (aF hl)⟩
noncomputable def Jk(CW CH CN:Addr)(K:PySem.W.Frag):Sp:=λvs H Q E=>∃(i:Nat) (τ:Tg) (W:u6) (S:gU) (h:Int),vs=[.ref W.o,.int h]/\jw CW CH i τ H W S/\(∀(k:Nat)(s:bI),h=k->S.hs[k]? = some s->Q (.str s.st) H)/\(¬uO h S.hs.length->E (.ref CN) none H)
theorem Yh{aq au aR:Addr}{f:Addr}{fd:FuncData}(F:gD K "how" "Works.how" nY f fd)(jx:j9 P w K mg base 3 aq "hand_of" ["self","hand"] (qT aq au aR K))(aJ:cT K aq)(aG:eU K au):bO P w K mg base (pY P w) 4 f fd ["self","hand"] (Jk aq au aR K):=by
 refine F.Uk Aw (λvs H Q E h=>?_) (λcdv A outer s H vs Q E hr h hR=>?_)
 .obtain⟨i,τ,W,S,h,rfl,_⟩:=h
  rfl
 .obtain⟨i,τ,W,S,h,rfl,w,k1,k2⟩:=h
  refine⟨_,(aH (bG (aY (K:=K) rfl (rJ jx aJ.cls rfl hR (hr.mono (by decide)) (pv 0) (aj (pv 1) aA)) rfl))), ?_⟩;refine⟨_,Z,W.o,W.dx,_,Z,w.o,Z,_,Z,i,τ,W,S,h,Z,w,λk A s e eA es=>?_,k2⟩;have a:=w.hd k A s eA es;exact⟨A.h,au,A.hx,_,_,Z,a.c.h,aG.cls,aG.iY,Z,k1 k s e es⟩
noncomputable def Ft(S:gU):List Int:=(List.range S.hs.length).map λk:Nat=>((S.ts.count (k:Int):Nat):Int)
noncomputable def nR(CW CH:Addr)(K:PySem.W.Frag):Sp:=λvs H Q _=>∃(i:Nat) (τ:Tg) (W:u6) (S:gU),vs=[.ref W.o]/\jw CW CH i τ H W S /\ ∀l H',H l=none->H' l=some (.lst ((Ft S).map V.int))->Same H H'->Q (.ref l) H'
theorem KN{aq au:Addr}{f:Addr}{fd:FuncData}(F:gD K "counts" "Works.counts" jF f fd)(aJ:cT K aq)(Bt:pR mg):bO P w K mg base iy 1 f fd ["self"] (nR aq au K):=by
 refine F.ok uU (λvs H Q E h=>?_) (λcdv A outer s H vs Q E hr h=>?_)
 .obtain⟨i,τ,W,S,rfl,_⟩:=h
  rfl
 .obtain⟨i,τ,W,S,rfl,w,k⟩:=h
  refine⟨_,(aH (bG (dY rfl (N:=["hand","self"]) (own:=["hand"]) (caps:=[0]) (bw.of (by kernel_rfl)) (eZ (by rfl) Bt.i_ (aj (aO (aW (K:=K) rfl) (by rfl) Bt.d_ cQ (aj (aY (K:=K) rfl (pv 0) rfl) aA)) aA)) (λ_ _ _ _=>(bJ (i:=0) (show List.Nodup (["hand","self"]:List Str) by decide +kernel) rfl (Or.inl rfl))) (λ_ _ _ _=>dG) (λ_ _ _ _=>(Bl (K:=K) rfl PySem.F.plainAttrs_list PySem.F.slot_list_count PySem.F.type_list_count (K4 (K:=K) rfl) (aY (K:=K) rfl (pv 1) rfl) (aj (pv 0) aA)))))), ?_⟩;have ll:(W.hd.map λa=>V.ref a.h).length=S.hs.length:=by rw[aac,w.len]
  refine⟨_,Z,W.o,aq,W.dx,_,_,Z,w.o,aJ.cls,aJ.jY,Z,W.hl,_,Z,.inl (bH.of w.hl),_,Z,(by rw[ll];have:=w.hn;lia),(by rw[ll];have:=w.hn;lia),λD hD=>?_⟩;rw[ll,abt];refine lR (λj:Nat=>some (.int ((S.ts.count (j:Int):Nat):Int))) hD (by have:=w.hn;lia) (λj H1 G F hj s1 kG kF=>?_) (λH1 s1 e1=>?_)
  .refine⟨_,Z,W.o,aq,W.dx,_,_,Z,s1 _ _ w.o,aJ.cls,aJ.rN,Z,.inl ⟨Z,_,bH.of (s1 _ _ w.tn)⟩,_,Z,_,S.ts,_,Z,Z,bH.of (s1 _ _ w.tn),kF _ H1 (Same.refl _) (by rw[Int.zero_add])⟩
  .refine k D H1 hD ?_ s1
   rw[e1];unfold Ft;rw[abZ,List.filterMap_eq_map'];rfl
structure pX(C:List (List Nat))(τ:Tg)(H:Hp)(τ':Tg)(H':Hp):Prop where
 keep:∀x u,H x=some u->τ x∉C->H' x=some u/\τ' x=τ x
 tup:∀x xs,H x=some (.tup xs)->H' x=some (.tup xs)
theorem pX.of_same{C:List (List Nat)}{τ:Tg}{H H':Hp}(k:Same H H'):pX C τ H τ H':=⟨λx u e _=>⟨k _ _ e,Z⟩,k.tups⟩
theorem pX.claim{C:List (List Nat)}{τ:Tg}{H H':Hp}{p:Addr}{t:List Nat}(k:Same H H')(hp:H p=none):pX C τ H (aM τ p t) H':=⟨λx u e _=>⟨k _ _ e,aN (ao e hp)⟩,k.tups⟩
theorem pX.set{C:List (List Nat)}{τ:Tg}{H:Hp}{x:Addr}{o u:HO}(ht:τ x∈C)(hx:H x=some o)(hn:∀xs,o ≠ .tup xs):pX C τ H τ (upd H x u):=
 ⟨λy v e n=>⟨by rw[aC (λz:y=x=>n (by rw[z];exact ht))];exact e,Z⟩,λy xs e=>by rw[aC (cY e hx λz=>hn xs z.symm)];exact e⟩
theorem pX.trans{C:List (List Nat)}{τ τ1 τ2:Tg}{H H1 H2:Hp}(a:pX C τ H τ1 H1)(b:pX C τ1 H1 τ2 H2):pX C τ H τ2 H2:=⟨λx u e n=>by
 obtain⟨e1,t1⟩:=a.keep x u e n;obtain⟨e2,t2⟩:=b.keep x u e1 (by rw[t1];exact n);exact⟨e2,by rw[t2,t1]⟩,λx xs e=>b.tup _ _ (a.tup _ _ e)⟩
theorem u9.ZP{C:List (List Nat)}{CH:Addr}{i k m:Nat}{τ τ':Tg}{H H':Hp}{A:nJ}{s:bI}(h:u9 CH i k m τ H A s)(q:pX C τ H τ' H')(h0:[0]∉C)(h4:[i,4,k]∉C)(h5:[i,5,k]∉C)(h6:[i,6,k]∉C):u9 CH i k m τ' H' A s:=by
 obtain⟨⟨c1,c2,c3,c4,c5⟩,r,tr,th,tb,ty⟩:=h;have e1:=q.keep _ _ c1 (by rw[th];exact h4);have e2:=q.keep _ _ c2 (by rw[tb];exact h5);have e3:=q.keep _ _ c3 (by rw[ty];exact h6);have rr:=r;obtain⟨ts,hr,_⟩:=rr;have e4:=q.keep _ _ hr (by rw[tr];exact h0);exact⟨⟨e1.1,e2.1,e3.1,c4,c5⟩,r.keep (λo e=>(q.keep _ _ e (by rw[tr];exact h0)).1) q.tup,e4.2.trans tr,e1.2.trans th,e2.2.trans tb,e3.2.trans ty⟩
theorem gA{C:List (List Nat)}{τ τ':Tg}{H H':Hp}{r:Addr}{m:Nat}{rws:List Rw}(h:τ r=[0]/\dO H r m rws)(q:pX C τ H τ' H')(h0:[0]∉C):τ' r=[0]/\dO H' r m rws:=by
 obtain⟨t,R⟩:=h;have rr:=R;obtain⟨ts,hr,_⟩:=rr;have e4:=q.keep _ _ hr (by rw[t];exact h0);exact⟨e4.2.trans t,R.keep (λo e=>(q.keep _ _ e (by rw[t];exact h0)).1) q.tup⟩
noncomputable def vL(CW CH CN CO:Addr)(K:PySem.W.Frag):Sp:=λvs H Q E=>∃(i:Nat) (τ:Tg) (W:u6) (S:gU) (h:Int),vs=[.ref W.o,.int h]/\jw CW CH i τ H W S/\S.ts.length<=10000 /\
 (∀(k:Nat)(s:bI)(r:Rw)(t:Addr)(H':Hp),h=k->S.hs[k]? = some s->s.st = "waits" -> s.rws[s.pos]? = some r->touch r=true->H t=none->H' t=some (.tup (Gm S.ns s.bs r))->jw CW CH i τ H' W (fK S k)->nu i τ H H'->Q (.ref t) H') /\
 (¬uO h S.hs.length->E (.ref CN) none H)/\(∀(k:Nat)(s:bI),h=k->S.hs[k]? = some s->s.st ≠ "waits" -> E (.ref CO) none H)
theorem M6{S:gU}{k:Nat}{s:bI}{r:Rw}(es:S.hs[k]? = some s)(er:s.rws[s.pos]? = some r):fK S k={S with ns:=mW S.ns s.bs r,hs:=S.hs.set k (lO S.ns s r),ts:=S.ts++[(k:Int)]}:=by
 unfold fK;simp only[es,er]
theorem H_(ns bs:List Int)(r:Rw):(mW ns bs r).length=ns.length:=by cases r<;>simp[mW]
theorem jw.turned{CW CH:Addr}{i:Nat}{τ:Tg}{H H':Hp}{W:u6}{S:gU}{k:Nat}{A:nJ}{s:bI}{r:Rw}(w:jw CW CH i τ H W S)(eA:W.hd[k]? = some A)(es:S.hs[k]? = some s)(er:s.rws[s.pos]? = some r)(kp:∀x u,H x=some u->x≠W.nb->x≠A.b->x≠A.h->x≠A.sy->x≠W.tn->H' x=some u)(c:mZ CH H' A (lO S.ns s r))(hnb:H' W.nb=some (.lst ((mW S.ns s.bs r).map V.int)))(htn:H' W.tn=some (.lst ((S.ts++[(k:Int)]).map V.int))):jw CW CH i τ H' W (fK S k)/\nu i τ H H':=by
 have a:=w.hd k A s eA es;have tup:∀x xs,H x=some (.tup xs)->H' x=some (.tup xs):=λx xs e=>kp _ _ e (cY e w.nb (by intro z;cases z)) (cY e a.c.b (by intro z;cases z)) (cY e a.c.h (by intro z;cases z)) (cY e a.c.y (by intro z;cases z)) (cY e w.tn (by intro z;cases z))
 have st:nu i τ H H':=by
  refine⟨λx u e n=>?_,tup,λx e=>?_⟩
  .have ne:∀(y:Addr)(t:List Nat),τ y=i::t->x≠y:=λy t ty z=>n (by rw[z,ty];rfl)
   exact kp _ _ e (ne _ _ w.tb) (ne _ _ a.tb) (ne _ _ a.th) (ne _ _ a.ty) (ne _ _ w.tt)
  .cases q:H x with
   | none=>rfl
   | some u=>
     have no:∀y o,H' y=some o->x≠y:=λy o h z=>by rw[z,h] at e;cases e
     rw[kp _ _ q (no _ _ hnb) (no _ _ c.b) (no _ _ c.h) (no _ _ c.y) (no _ _ htn)] at e;cases e
 refine⟨?_,st⟩
 have q:pX [[i,1],[i,5,k],[i,4,k],[i,6,k],[i,3]] τ H τ H':=by
  refine⟨λx u e n=>⟨?_,Z⟩,tup⟩;have ne:∀(y:Addr)(t:List Nat),τ y=t->t∈[[i,1],[i,5,k],[i,4,k],[i,6,k],[i,3]]->x≠y:=λy t ty ht z=>n (by rw[z,ty];exact ht);exact kp _ _ e (ne _ _ w.tb (by simp)) (ne _ _ a.tb (by simp)) (ne _ _ a.th (by simp)) (ne _ _ a.ty (by simp)) (ne _ _ w.tt (by simp))
 have i0:=w.i0;have z0:[0]∉[[i,1],[i,5,k],[i,4,k],[i,6,k],[i,3]]:=by simp
 rw[M6 es er];have hk:k<S.hs.length:=(aae.mp es).1
 have get:∀(j:Nat)(s':bI),(S.hs.set k (lO S.ns s r))[j]? = some s'->(j=k/\s'=lO S.ns s r)\/(j≠k/\S.hs[j]? = some s'):=λj s' e=>by
  rw[List.getElem?_set] at e
  by_cases z:k=j
  .subst z
   simp[hk] at e;exact .inl ⟨Z,e.symm⟩
  .rw[acK z] at e
   exact .inr ⟨λy=>z y.symm,e⟩
 have gr:(lO S.ns s r).rws=s.rws:=rR _ _;have mem:∀s'∈S.hs.set k (lO S.ns s r),s'=lO S.ns s r\/s'∈S.hs:=λs' m=>(List.mem_or_eq_of_mem_set m).symm;refine⟨st.un w.un,i0,(q.keep _ _ w.o (by rw[w.to];simp)).1,tup _ _ w.pg,(q.keep _ _ w.L (by rw[w.tL];exact z0)).1,hnb,(q.keep _ _ w.hl (by rw[w.tl];simp)).1,htn,w.to,w.tb,w.tl,w.tt,w.tL, ?_, ?_, ?_, ?_, ?_, ?_, ?_, ?_⟩
 .simp[w.rl]
 .intro j r' s' h1 h2
  rcases get j s' h2 with ⟨rfl,rfl⟩|⟨_,h2⟩
  .rw[gr]
   exact gA (w.rs j r' s h1 es) q z0
  .exact gA (w.rs j r' s' h1 h2) q z0
 .simp[w.len]
 .intro j A' s' h1 h2
  rcases get j s' h2 with ⟨rfl,rfl⟩|⟨nj,h2⟩
  .rw[eA] at h1
   cases h1;refine⟨c, ?_,a.tr,a.th,a.tb,a.ty⟩;rw[gr];exact(gA ⟨a.tr,a.r⟩ q z0).2
  .exact(w.hd j A' s' h1 h2).ZP q z0 (by simp[nj]) (by simp[nj]) (by simp[nj])
 .intro s' m
  rcases mem s' m with rfl|m
  .exact Hj _ _
  .exact w.ok s' m
 .intro s' m
  simp only[aa_,abT];rcases mem s' m with rfl|m
  .have:=Hi 60 {s with pos:=s.pos+1,bs:=Cu S.ns s.bs r}
   have:=w.sl s (aaK es);show (led 60 _).sy.length<=_;simp only at *;lia
  .have:=w.sl s' m
   lia
 .show (mW S.ns s.bs r).length=S.m
  rw[H_,w.nl]
 .simp[w.hn]
theorem Ue{aq au aR dj:Addr}{f:Addr}{fd:FuncData}(F:gD K "turn" "Works.turn" mF f fd)(jx:j9 P w K mg base 3 aq "hand_of" ["self","hand"] (qT aq au aR K))(uy:MethAt P w K mg base 4 aq "touch_by" ["self","one"] (sZ aq au K))(jR:MethAt P w K mg base 6 au "lead_on" ["self"] (Am au K))(aJ:cT K aq)(aG:eU K au)(ju:Xr K mg dj "Over"):bO P w K mg base (pY P w) 7 f fd ["self","hand"] (vL aq au aR dj K):=by
 refine F.Uk kh (λvs H Q E h=>?_) (λcdv A outer s H vs Q E hr h hR=>?_)
 .obtain⟨i,τ,W,S,h,rfl,_⟩:=h
  rfl
 .obtain⟨i,τ,W,S,h,rfl,w,tl,k1,k2,k3⟩:=h
  refine⟨_,(aB (bA (i:=2) kh.nd rfl (Or.inl rfl) (rJ jx aJ.cls rfl hR (hr.mono (by decide)) (pv 0) (aj (pv 1) aA)))
   (aB (cA (bB rM (aY (K:=K) rfl (pv 2) rfl) cB (bC _)) (aH (jc PySem.F.excBase_ValueError ju.ex ju.bd (by rfl) rfl rfl hR (aj cB aA))) bL)
   (aB (bA (i:=3) kh.nd rfl (Or.inl rfl) (cC uy aJ.cls (hr.mono (by decide)) (pv 0) (aj (pv 2) aA)))
   (aB (wz (K:=K) rfl (pv 2) aD BW)
   (aB (cF (cV jR aG.cls (hr.mono (by decide)) (pv 2)))
   (aB (cF (dB (K:=K) rfl (aY (K:=K) rfl (pv 0) rfl) (aj (pv 1) aA)))
   (aH (bG (pv 3))))))))), ?_⟩
  refine⟨_,Z,W.o,W.dx,_,Z,w.o,Z,_,Z,i,τ,W,S,h,Z,w,λk A s e eA es=>?_,k2⟩;have a:=w.hd k A s eA es;refine⟨_,Z,A.h,au,A.hx,_,_,Z,a.c.h,aG.cls,aG.iY,Z,Z,_,Z, ?_⟩
  by_cases wt:s.st = "waits"
  rotate_left
  .refine cO (λ_=>?_) (λz=>acP (by simp[wt]) z)
   exact⟨(by show 1<=sizeLine;decide),k3 k s e es wt⟩
  refine zH (by rw[wt]) ?_;obtain⟨r,er,tr⟩:=w.ok s (aaK es) wt;have V7:W.nb≠A.b:=dD w.tb a.tb (by simp);have ZK:W.nb≠A.sy:=dD w.tb a.ty (by simp);refine⟨_,Z,W.o,W.dx,_,Z,w.o,Z,_,Z,W.o,W.dx,W.pg,W.nb,W.hl,W.tn,A,s,S.m,S.ns,r,Z,w.o,w.nb,w.nl,a.c,a.r,er,tr,V7,ZK,λt H1 tf t1 c1 nb1 p1=>?_⟩;refine⟨_,Z,A.h,au,A.hx,_,_,Z,c1.h,aG.cls,aG.rP,Z,_,_,Z,Z,A.hx,_,c1.h,(by show 5<1000;decide), ?_⟩;rw[v9];have c2:=c1.qj (s.pos+1) s.st;have p2:KH A H1 (upd H1 A.h (.ins au A.hx (hF A.r ((s.pos+1:Nat):Int) A.b A.sy s.st))):=KH.qj;have t2:=c1.tup p2 _ _ t1;dsimp only;rw[show ((s.pos:Nat):Int)+1=((s.pos+1:Nat):Int) by lia];generalize (upd H1 A.h (.ins au A.hx (hF A.r ((s.pos+1:Nat):Int) A.b A.sy s.st)))=H2 at c2 p2 t2 ⊢;have nrb:A.r≠A.b:=dD a.tr a.tb (by intro z;cases z);have nry:A.r≠A.sy:=dD a.tr a.ty (by intro z;cases z);have nrh:A.r≠A.h:=dD a.tr a.th (by intro z;cases z);have nrn:A.r≠W.nb:=dD a.tr w.tb (by intro z;cases z);have aeh:∀x xs,H x=some (.tup xs)->H2 x=some (.tup xs):=λx xs q=>c1.tup p2 _ _ (p1 _ _ q (cY q w.nb (by intro z;cases z)) (cY q a.c.b (by intro z;cases z)));have R2:dO H2 A.r S.m s.rws:=a.r.keep (λo q=>p2 _ _ (p1 _ _ q nrn nrb) nrh nrb nry) aeh;have sl:=w.sl s (aaK es);refine⟨_,Z,A.h,A.hx,_,Z,c2.h,Z,A,_,S.m,Z,c2,R2,nrb,nry,by show s.sy.length<_;lia,λH3 c3 p3=>?_⟩;have k13:∀x u,H x=some u->x≠W.nb->x≠A.b->x≠A.h->x≠A.sy->H3 x=some u:=λx u q n1 n2 n3 n4=>p3 _ _ (p2 _ _ (p1 _ _ q n1 n2) n3 n2 n4) n3 n2 n4;have o3:=k13 _ _ w.o (dD w.to w.tb (by simp)) (dD w.to a.tb (by simp)) (dD w.to a.th (by simp)) (dD w.to a.ty (by simp));have tn3:=k13 _ _ w.tn (dD w.tt w.tb (by simp)) (dD w.tt a.tb (by simp)) (dD w.tt a.th (by simp)) (dD w.tt a.ty (by simp));have nb3:=p3 _ _ (p2 _ _ nb1 (dD w.tb a.th (by simp)) V7 ZK) (dD w.tb a.th (by simp)) V7 ZK;have t3:=c2.tup p3 _ _ t2;refine⟨_,Z,W.o,aq,W.dx,_,_,Z,o3,aJ.cls,aJ.rN,Z,.inl ⟨Z,_,bH.of tn3⟩,_,Z,_,_,_,Z,Z,tn3,(by rw[aac,sizeLine_eq];lia), ?_⟩;have k14:∀x u,H x=some u->x≠W.nb->x≠A.b->x≠A.h->x≠A.sy->x≠W.tn->(upd H3 W.tn (.lst (S.ts.map V.int++[V.int h]))) x=some u:=λx u q n1 n2 n3 n4 n5=>by rw[aC n5];exact k13 x u q n1 n2 n3 n4
  have nbt:W.nb≠W.tn:=dD w.tb w.tt (by simp);have c4:mZ au (upd H3 W.tn (.lst (S.ts.map V.int++[V.int h]))) A (lO S.ns s r):=⟨by rw[aC (dD a.th w.tt (by simp))];exact c3.h,by rw[aC (dD a.tb w.tt (by simp))];exact c3.b,by rw[aC (dD a.ty w.tt (by simp))];exact c3.y,c3.K3,c3.bl⟩;obtain⟨w4,st⟩:=w.turned (H':=upd H3 W.tn (.lst (S.ts.map V.int++[V.int h]))) eA es er k14 c4 (by rw[aC nbt];exact nb3) (by rw[ak,abo,e];rfl);refine⟨_,Z,k1 k s r t _ e es wt er tr tf ?_ w4 st⟩;rw[aC (cY t3 tn3 (by intro z;cases z))];exact t3
structure Bs(H0:Hp)(τ0:Tg)(o:Addr)(τ:Tg)(H:Hp):Prop where
 un:j8 τ H
 kp:Kp o H0 H
 tg:∀x u,H0 x=some u->x≠o->τ x=τ0 x
theorem Bs.same{H0 H H':Hp}{τ0 τ:Tg}{o:Addr}(b:Bs H0 τ0 o τ H)(k:Same H H'):Bs H0 τ0 o τ H':=⟨b.un.same k,b.kp.trans (Kp.of_same k),b.tg⟩
theorem Bs.claim{H0 H H':Hp}{τ0 τ:Tg}{o p:Addr}{t:List Nat}(b:Bs H0 τ0 o τ H)(k:Same H H')(hp:H p=none)(hp':∃u,H' p=some u):Bs H0 τ0 o (aM τ p t) H':=
 ⟨b.un.claim k hp',b.kp.trans (Kp.of_same k),λx u e n=>by rw[aN (ao (b.kp _ _ e n) hp)];exact b.tg x u e n⟩
theorem Bs.set{H0 H:Hp}{τ0 τ:Tg}{o x:Addr}{v:HO}(b:Bs H0 τ0 o τ H)(hx:x=o\/H0 x=none):Bs H0 τ0 o τ (upd H x v):=
 ⟨b.un.dom (λy e=>by
   by_cases z:y=x
   .rw[z,ak] at e;cases e
   .rw[aC z] at e;exact e),λy u e n=>by
   have z:y≠x:=by
    rcases hx with rfl|hx
    .exact n
    .exact ao e hx
   rw[aC z];exact b.kp _ _ e n,b.tg⟩
theorem Bs.fresh{H0 H:Hp}{τ0 τ:Tg}{o p:Addr}(b:Bs H0 τ0 o τ H)(hp:H p=none)(n:p≠o):H0 p=none:=JD b.kp n hp
noncomputable def pC(CW CH CN:Addr)(K:PySem.W.Frag):Sp:=λvs H Q E=>∃(i:Nat) (τ:Tg) (o dx p L0:Addr) (Ti:List Addr) (m:Nat) (cv:V) (ns:List Int) (rws:List (List Rw)),vs=[.ref o,.ref p,cv]/\H o=some (.ins CW dx [])/\H p=some (.tup [.int m,.ref L0])/\H L0=some (.lst (Ti.map V.ref))/\Ti.length=rws.length /\
 (∀(k:Nat)(r:Addr)(x:List Rw),Ti[k]? = some r->rws[k]? = some x->dO H r m x)/\rws.length<=100/\m<=100/\j8 τ H/\i≠0/\ns.length<=100/\((cv = .non/\ns=List.replicate m 0) \/ ∃cl,cv = .ref cl/\H cl=some (.lst (ns.map V.int))) /\
 (uf m ns -> ∀(τ':Tg)(W:u6)(H':Hp),W.o=o->jw CW CH i τ' H' W (Cv m ns rws)->(∀x u,H x=some u->x≠o->τ' x=τ x)->Kp o H H'->Q .non H')/\(¬uf m ns -> ∀H',Kp o H H'->E (.ref CN) none H')
theorem jQ{α:Type}{l:List α}{x y:α}{k:Nat}(h:(l++[x])[k]? = some y):l[k]? = some y\/(k=l.length/\y=x):=by
 by_cases e:k<l.length
 .rw[abb e] at h
  exact .inl h
 .rw[aa' (by lia)] at h
  have lt:=(aae.mp h).1;simp at lt;have:k=l.length:=by lia
  subst this;simp at h;exact .inr ⟨Z,h.symm⟩
theorem Ot{aq au:Addr}{f:Addr}{fd:FuncData}(F:Vv K "__init__" "Works.__init__" bQ [.none] f fd)(aJ:cT K aq)(aG:eU K au){bY:Addr}(u_:zY P w K mg base 3 "check_numbers" ["cells","count"] (qe bY K))(Im:qH P w K mg base 1 au "Hand" ["self","rows"] [] (vf au K))(jR:MethAt P w K mg base 6 au "lead_on" ["self"] (Am au K))(Bt:pR mg):bO P w K mg base (pY P w) 7 f fd ["self","program","cells"] (pC aq au bY K):=by
 refine F.Uk kj (λvs H Q E h=>?_) (λcdv A outer s H vs Q E hr h hR=>?_)
 .obtain⟨i,τ,o,dx,p,L0,Ti,m,cv,ns,rws,rfl,_⟩:=h
  rfl
 .obtain⟨i,τ,o,dx,p,L0,Ti,m,cv,ns,rws,rfl,ho,hp,hL,lr,abB,rl,ml,un,i0,nl,hcv,k1,k2⟩:=h
  refine⟨_,(aB (cA (bB wI (pv 2) gK (bC _)) (aH (mH (i:=2) rfl kj.nd rfl (Or.inl rfl) (N:=["cell"]) (own:=["cell"]) (caps:=[]) (bw.of (by kernel_rfl)) (eZ (by rfl) Bt.i_ (aj (aQ (aU (K:=K) rfl) (pv 1) aD (λ_ _=>rfl)) aA)) (λ_ _ _ _=>(bJ (i:=0) (show List.Nodup (["cell"]:List Str) by decide +kernel) rfl (Or.inl rfl))) (λ_ _ _ _=>dG) (λ_ _ _ _=>aD))) bL)
   (aB (cF (X3 u_ rfl hR (hr.mono (by decide)) (by rfl) (aj (pv 2) (aj (aQ (aU (K:=K) rfl) (pv 1) aD (λ_ _=>rfl)) aA))))
   (aB (cM (K:=K) rfl (pv 0) (fj (aj (aQ (aU (K:=K) rfl) (pv 1) aD (λ_ _=>rfl)) (aj (dY rfl (N:=["rows"]) (own:=["rows"]) (caps:=[]) (bw.of (by kernel_rfl)) (cI (K:=K) rfl (aQ (aU (K:=K) rfl) (pv 1) aD (λ_ _=>rfl))) (λ_ _ _ _=>(bJ (i:=0) (show List.Nodup (["rows"]:List Str) by decide +kernel) rfl (Or.inl rfl))) (λ_ _ _ _=>dG) (λ_ _ _ _=>(cL (bR (K:=K) rfl) (by rfl) Bt.fQ dN (aj (pv 0) aA)))) aA))) rfl)
   (aB (cM (K:=K) rfl (pv 0) (cL (bR (K:=K) rfl) (by rfl) Bt.fQ dN (aj (pv 2) aA)) rfl)
   (aB (cM (K:=K) rfl (pv 0) (dY rfl (N:=["rows"]) (own:=["rows"]) (caps:=[]) (bw.of (by kernel_rfl)) (cI (K:=K) rfl (aQ (aU (K:=K) rfl) (aY (K:=K) rfl (pv 0) rfl) aD (λ_ _=>rfl))) (λ_ _ _ _=>(bJ (i:=0) (show List.Nodup (["rows"]:List Str) by decide +kernel) rfl (Or.inl rfl))) (λ_ _ _ _=>dG) (λ_ _ _ _=>(rK Im (hr.mono (by decide)) (by rfl) (aj (pv 0) aA)))) rfl)
   (aB (cM (K:=K) rfl (pv 0) (cR aA) rfl)
   (aH (mJ PassesOwn.leaving rfl (cI (K:=K) rfl (aY (K:=K) rfl (pv 0) rfl)) (bJ (i:=3) kj.nd rfl (Or.inl rfl))
   (aH (cF (cV jR aG.cls (hr.mono (by decide)) (pv 3)))))))))))), ?_⟩
  refine fW (λσ H1=>∃cl:Addr,σ=[some (.ref o),some (.ref p),some (.ref cl),none]/\H1 cl=some (.lst (ns.map V.int))/\Same H H1) (λD' hD' rt'=>?_) ?_
  .refine⟨_,Z,Z,_,Z, ?_⟩
   rcases hcv with ⟨rfl,rfl⟩|⟨cl,rfl,hcl⟩
   .refine fM ?_
    refine⟨_,Z,_,_,_,_,Z,Z,cH.of hp,Z,_,Z,by lia,by lia,λD hD=>?_⟩;rw[abt];refine lR (λ_=>some (.int 0)) hD (by lia) (λi H1 G F hi s1 kG kF=>kF _ H1 (Same.refl _) rfl) (λH1 s1 e1=>?_);rw[Ce] at e1;exact hD' _ _ ⟨D,Z,e1,s1⟩
   .refine dU ?_
    exact hD' _ _ ⟨cl,Z,hcl,Same.refl _⟩
  rintro σ H1 ⟨cl,rfl,hcl,s1⟩;have hp1:=s1 _ _ hp;refine qZ (λR g=>?_);refine⟨_,Z,_,Z,_,_,_,_,Z,Z,cH.of hp1,Z,cl,m,ns,Z,hcl,nl,λgood H2 s2=>?_,λbad H2 s2=>k2 bad H2 (Kp.of_same (s1.trans s2))⟩;refine g _ _ ?_;have Jp:=s1.trans s2;have ho2:=Jp _ _ ho;have hp2:=Jp _ _ hp;have hL2:=Jp _ _ hL;have abO:=s2 _ _ hcl;have YH:∀(k:Nat)(r:Addr)(x:List Rw),Ti[k]? = some r->rws[k]? = some x->dO H2 r m x:=λk r x a b=>(abB k r x a b).same Jp;have B2:Bs H τ o (aM τ o [i,0]) H2:=⟨λx e=>by rw[aN (ao ho2 e).symm];exact un.same Jp x e,Kp.of_same Jp,λx u e n=>aN n⟩;have to2:aM τ o [i,0] o=[i,0]:=bD;generalize aM τ o [i,0]=τ2 at B2 to2;refine qZ (λR g=>?_);refine⟨_,Z,_,_,_,_,Z,Z,cH.of hp2,Z,_,Z,_,_,_,_,Z,Z,cH.of hp2,Z,L0,Z,⟨_,bH.of hL2⟩,λL hLn=>?_⟩;have sL:=aF (o:=HO.lst []) hLn;have nLo:L≠o:=(ao ho2 hLn).symm;refine fY (K:=K) (xs:=Ti.map V.ref) (λj σ Hc=>∃(v:Option V) (τc:Tg) (rs:List Addr),σ=[v]/\rs.length=j/\Same H2 Hc/\Hc L=some (.lst (rs.map V.ref))/\Bs H τ o τc Hc/\τc o=[i,0]/\τc L=[0] /\ ∀(k:Nat)(r:Addr)(x:List Rw),rs[k]? = some r->rws[k]? = some x->r≠L/\τc r=[0]/\dO Hc r m x) ?_ ?_ ?_ ?_
  .exact⟨none,aM τ2 L [0],[],Z,Z,sL,ak,B2.claim sL hLn ⟨_,ak⟩,by rw[aN nLo.symm];exact to2,bD,λk r x h=>by simp at h⟩
  .rintro j σ Hc hj ⟨v,τc,rs,rfl,_,sc,_⟩
   exact bH.of (sc _ _ hL2)
  .rintro j x σ Hc hj ⟨v,τc,rs,rfl,lj,sc,hLc,Bc,toc,tLc,hc⟩
   rw[aah] at hj
   obtain⟨r0,er0,rfl⟩:∃r0,Ti[j]? = some r0/\x = .ref r0:=by
    cases e:Ti[j]? with
    | none=>rw[e] at hj;cases hj
    | some r0=>rw[e] at hj;exact⟨r0,Z,(aa6 hj).symm⟩
   have jl:j<rws.length:=by rw[←lr];exact(aae.mp er0).1
   have ex:rws[j]? = some rws[j]:=by simp[jl]
   have rr:=YH j r0 _ er0 ex;obtain⟨ts,hts,Z6,rq,rl'⟩:=rr;dsimp only[cG,vI];rw[acM rfl];refine⟨_,Z,r0,_,Z,.inl (bH.of (sc _ _ hts)),λr hrn=>?_⟩;have sr:=aF (o:=HO.lst ts) hrn;have nrL:r≠L:=(ao hLc hrn).symm;have nro:r≠o:=(ao (sc _ _ ho2) hrn).symm;have hLf:H L=none:=Jp.free hLn;refine⟨rs.map V.ref,sr _ _ hLc,(by rw[aac,sizeLine_eq];lia),some (.ref r0),aM τc r [0],rs++[r],Z,by simp[lj],λy u e=>?_,by rw[ak];simp,(Bc.claim sr hrn ⟨_,ak⟩).set (.inr hLf), ?_, ?_, ?_⟩
   .rw[aC (ao e hLn)]
    exact sr _ _ (sc _ _ e)
   .rw[aN nro.symm];exact toc
   .rw[aN nrL.symm];exact tLc
   .intro k r' x' h1 h2
    have tups:∀y ys,Hc y=some (.tup ys)->(upd (upd Hc r (.lst ts)) L (.lst (rs.map V.ref++[V.ref r]))) y=some (.tup ys):=λy ys e=>by
     rw[aC (cY e hLc (by intro z;cases z))];exact sr _ _ e
    rcases jQ h1 with h1|⟨e1,rfl⟩
    .obtain⟨n1,t1,R1⟩:=hc k r' x' h1 h2
     have rr:=R1;obtain⟨ts',hr',_⟩:=rr;have n2:r'≠r:=ao hr' hrn;refine⟨n1,by rw[aN n2];exact t1,R1.keep (λu e=>?_) tups⟩;rw[aC n1];exact sr _ _ e
    .rw[e1,lj,ex] at h2
     cases h2;refine⟨nrL,bD,ts,by rw[aC nrL,ak], ?_,rq,rl'⟩;exact Z6.keep (λy ys e=>tups _ _ (sc _ _ e)) _ (Et _)
  rintro σ H3 ⟨v,τ3,rs,rfl,lrs,Bj,hL3,B3,to3,tL3,hr3⟩;rw[aac] at lrs;have YK:=Bj _ _ ho2;refine⟨(by show 2<=sizeLine;decide),λpg hpg=>?_⟩;have spg:=aF (o:=HO.tup [V.int m,V.ref L]) hpg;refine⟨_,Z,o,aq,dx,_,Z,spg _ _ YK,aJ.cls,aJ.pK,(by show 0<1000;decide), ?_⟩;refine g _ _ ?_;have afM:pg≠o:=(ao YK hpg).symm;have ZQ:(upd (upd H3 pg (.tup [V.int m,V.ref L])) o (.ins aq dx (bZ "program" (.ref pg) []))) o=some (.ins aq dx [("program",.ref pg)]):=ak;have abD:(upd (upd H3 pg (.tup [V.int m,V.ref L])) o (.ins aq dx (bZ "program" (.ref pg) []))) pg=some (.tup [V.int m,V.ref L]):=by rw[aC afM,ak]
  have q4:pX [[i,0]] τ3 H3 τ3 (upd (upd H3 pg (.tup [V.int m,V.ref L])) o (.ins aq dx (bZ "program" (.ref pg) []))):=(pX.of_same spg).trans (pX.set (by rw[to3];simp) (spg _ _ YK) (by intro xs z;cases z));have B4:Bs H τ o τ3 (upd (upd H3 pg (.tup [V.int m,V.ref L])) o (.ins aq dx (bZ "program" (.ref pg) []))):=(B3.same spg).set (.inl rfl);have kp4:Kp o H3 (upd (upd H3 pg (.tup [V.int m,V.ref L])) o (.ins aq dx (bZ "program" (.ref pg) []))):=(Kp.of_same spg).trans Kp.set;generalize (upd (upd H3 pg (.tup [V.int m,V.ref L])) o (.ins aq dx (bZ "program" (.ref pg) [])))=H4 at ZQ abD q4 B4 kp4 ⊢;have hL4:=(q4.keep _ _ hL3 (by rw[tL3];simp)).1;have hr4:∀(k:Nat)(r:Addr)(x:List Rw),rs[k]? = some r->rws[k]? = some x->τ3 r=[0]/\dO H4 r m x:=λk r x h1 h2=>gA ⟨(hr3 k r x h1 h2).2.1,(hr3 k r x h1 h2).2.2⟩ q4 (by simp);have afU:cl≠o:=cY abO ho2 (by intro z;cases z);have agq:=kp4 _ _ (Bj _ _ abO) afU;refine qZ (λR g=>?_);refine⟨_,Z,cl,_,Z,.inl (bH.of agq),λnb hnb=>?_⟩;have snb:=aF (o:=HO.lst (ns.map V.int)) hnb;refine⟨_,Z,o,aq,dx,_,Z,snb _ _ ZQ,aJ.cls,aJ.iJ,(by show 1<1000;decide), ?_⟩;refine g _ _ ?_;have Yq:nb≠o:=(ao ZQ hnb).symm;have RG:(upd (upd H4 nb (.lst (ns.map V.int))) o (.ins aq dx (bZ "numbers" (.ref nb) [("program",.ref pg)]))) o=some (.ins aq dx [("program",.ref pg),("numbers",.ref nb)]):=ak;have abI:(upd (upd H4 nb (.lst (ns.map V.int))) o (.ins aq dx (bZ "numbers" (.ref nb) [("program",.ref pg)]))) nb=some (.lst (ns.map V.int)):=by rw[aC Yq,ak]
  have q5:pX [[i,0]] τ3 H4 (aM τ3 nb [i,1]) (upd (upd H4 nb (.lst (ns.map V.int))) o (.ins aq dx (bZ "numbers" (.ref nb) [("program",.ref pg)]))):=(pX.claim snb hnb).trans (pX.set (by rw[aN Yq.symm,to3];simp) (snb _ _ ZQ) (by intro xs z;cases z));have B5:Bs H τ o (aM τ3 nb [i,1]) (upd (upd H4 nb (.lst (ns.map V.int))) o (.ins aq dx (bZ "numbers" (.ref nb) [("program",.ref pg)]))):=(B4.claim snb hnb ⟨_,ak⟩).set (.inl rfl);have to5:aM τ3 nb [i,1] o=[i,0]:=by rw[aN Yq.symm];exact to3
  have tn5:aM τ3 nb [i,1] nb=[i,1]:=bD;generalize (upd (upd H4 nb (.lst (ns.map V.int))) o (.ins aq dx (bZ "numbers" (.ref nb) [("program",.ref pg)])))=H5 at RG abI q5 B5 ⊢;generalize aM τ3 nb [i,1]=τ5 at q5 B5 to5 tn5;have ZX:=q5.keep _ _ hL4 (by rw[tL3];simp);have hr5:∀(k:Nat)(r:Addr)(x:List Rw),rs[k]? = some r->rws[k]? = some x->τ5 r=[0]/\dO H5 r m x:=λk r x h1 h2=>gA (hr4 k r x h1 h2) q5 (by simp);have abC:=q5.tup _ _ abD;have tL5:τ5 L=[0]:=ZX.2.trans tL3;have ZX:=ZX.1;refine qZ (λR g=>?_);refine⟨_,Z,o,aq,dx,_,_,Z,RG,aJ.cls,aJ.pK,Z,_,_,_,_,Z,Z,cH.of abC,Z,L,Z,⟨_,bH.of ZX⟩,λhl ZS=>?_⟩;have shl:=aF (o:=HO.lst []) ZS;have afQ:hl≠o:=(ao RG ZS).symm;refine fY (K:=K) (xs:=rs.map V.ref) (λj σ Hc=>∃(v:Option V) (τc:Tg) (hd:List nJ),σ=[v]/\hd.length=j/\Same H5 Hc/\Hc hl=some (.lst (hd.map λa=> .ref a.h))/\Bs H τ o τc Hc/\(∀x u,H5 x=some u->τc x=τ5 x)/\τc hl=[i,2] /\ ∀(k:Nat)(A:nJ)(x:List Rw),hd[k]? = some A->rws[k]? = some x->u9 au i k m τc Hc A (new x)/\H A.h=none/\H A.b=none/\H A.sy=none) ?_ ?_ ?_ ?_
  .exact⟨none,aM τ5 hl [i,2],[],Z,Z,shl,ak,B5.claim shl ZS ⟨_,ak⟩,λx u e=>aN (ao e ZS),bD,λk A x h=>by simp at h⟩
  .rintro j σ Hc hj ⟨v,τc,hd,rfl,_,sc,_⟩
   exact bH.of (sc _ _ ZX)
  .rintro j x σ Hc hj ⟨v,τc,hd,rfl,lj,sc,ZR,Bc,tgc,tlc,hc⟩
   rw[aah] at hj
   obtain⟨r,er,rfl⟩:∃r,rs[j]? = some r/\x = .ref r:=by
    cases e:rs[j]? with
    | none=>rw[e] at hj;cases hj
    | some r0=>rw[e] at hj;exact⟨r0,Z,(aa6 hj).symm⟩
   have jl:j<rws.length:=by rw[←lr,←lrs];exact(aae.mp er).1
   have ex:rws[j]? = some rws[j]:=by simp[jl]
   obtain⟨tr,R⟩:=hr5 j r _ er ex;have rr:=R;obtain⟨ts,hts,_⟩:=rr;dsimp only[cG,vI];rw[acM rfl];refine⟨_,Z,λh hx hn hxn nhx=>?_⟩;have hn':(upd Hc hx (.own h)) h=none:=by rw[aC nhx.symm];exact hn
   have sm:Same Hc (upd (upd Hc hx (.own h)) h (.ins au hx [])):=(aF hxn).trans (aF hn');refine⟨h,r,hx,Z,ak,λb sy H7 hb hsy abf h7 b7 sy7 k7=>⟨Z, ?_⟩⟩;have S7:Same Hc H7:=λy u e=>k7 _ _ (sm _ _ e) (ao e hn);have fb:Hc b=none:=sm.free hb;have fy:Hc sy=none:=sm.free hsy;have nhl:hl≠h:=ao ZR hn;have nbl:hl≠b:=ao ZR fb;have nyl:hl≠sy:=ao ZR fy;have Us:h≠b:=ao ak hb;have V8:h≠sy:=ao ak hsy;have hlf:H hl=none:=B5.fresh ZS afQ;have sH:Same Hc Hc:=Same.refl _;have T:∀x u,Hc x=some u->aM (aM (aM τc h [i,4,j]) b [i,5,j]) sy [i,6,j] x=τc x:=λy u e=>by rw[aN (ao e fy),aN (ao e fb),aN (ao e hn)]
   have B7:Bs H τ o (aM (aM (aM τc h [i,4,j]) b [i,5,j]) sy [i,6,j]) H7:=by
    refine⟨λy e=>?_,Bc.kp.trans (Kp.of_same S7),λy u e n=>?_⟩
    .have n1:y≠h:=λz=>by rw[z,h7] at e;cases e
     have n2:y≠b:=λz=>by rw[z,b7] at e;cases e
     have n3:y≠sy:=λz=>by rw[z,sy7] at e;cases e
     rw[aN n3,aN n2,aN n1];exact Bc.un y (S7.free e)
    .rw[T y u (Bc.kp _ _ e n)]
     exact Bc.tg y u e n
   have q7:pX [[i,2]] τc Hc (aM (aM (aM τc h [i,4,j]) b [i,5,j]) sy [i,6,j]) (upd H7 hl (.lst ((hd.map λa=>V.ref a.h)++[V.ref h]))):=by
    refine⟨λy u e n=>⟨?_,T y u e⟩,λy ys e=>?_⟩
    .rw[aC (λz:y=hl=>n (by rw[z,tlc];simp))]
     exact S7 _ _ e
    .rw[aC (cY e ZR (by intro z;cases z))]
     exact S7 _ _ e
   have Th:aM (aM (aM τc h [i,4,j]) b [i,5,j]) sy [i,6,j] h=[i,4,j]:=by rw[aN V8,aN Us,bD]
   have Tb:aM (aM (aM τc h [i,4,j]) b [i,5,j]) sy [i,6,j] b=[i,5,j]:=by rw[aN abf,bD]
   have Ty:aM (aM (aM τc h [i,4,j]) b [i,5,j]) sy [i,6,j] sy=[i,6,j]:=bD;generalize aM (aM (aM τc h [i,4,j]) b [i,5,j]) sy [i,6,j]=τ7 at T B7 q7 Th Tb Ty;refine⟨_,S7 _ _ ZR,(by rw[aac,sizeLine_eq];lia),some (.ref r),τ7,hd++[⟨h,hx,r,b,sy⟩],Z,by simp[lj],λy u e=>?_,by rw[ak];simp,B7.set (.inr hlf),λy u e=>?_, ?_, ?_⟩
   .rw[aC (ao e ZS)]
    exact S7 _ _ (sc _ _ e)
   .rw[T y u (sc _ _ e)]
    exact tgc y u e
   .rw[T _ _ ZR];exact tlc
   .intro k A x' h1 h2
    rcases jQ h1 with h1|⟨e1,rfl⟩
    .exact⟨(hc k A x' h1 h2).1.ZP q7 (by simp) (by simp) (by simp) (by simp),(hc k A x' h1 h2).2⟩
    .rw[e1,lj,ex] at h2
     cases h2;rw[e1,lj];have tr':τc r=[0]:=by rw[tgc _ _ hts];exact tr
     obtain⟨t9,R9⟩:=gA ⟨tr',R.same sc⟩ q7 (by simp);have hoc:=sc _ _ RG;exact⟨⟨⟨by rw[aC nhl.symm];exact h7,by rw[aC nbl.symm];exact b7,by rw[aC nyl.symm];exact sy7,abf,Z⟩,R9,t9,Th,Tb,Ty⟩,Bc.fresh hn (ao hoc hn).symm,Bc.fresh fb (ao hoc fb).symm,Bc.fresh fy (ao hoc fy).symm⟩
  rintro σ H8 ⟨v,τ8,hd,rfl,lhd,s58,ago,B8,Sh,tl8,hd8⟩;rw[aac] at lhd;have UJ:=s58 _ _ RG;have WT:τ8 o=[i,0]:=by rw[Sh _ _ RG];exact to5
  refine⟨_,Z,o,aq,dx,_,Z,UJ,aJ.cls,aJ.jY,(by show 2<1000;decide), ?_⟩;refine g _ _ ?_;have ho9:(upd H8 o (.ins aq dx (bZ "hands" (.ref hl) [("program",.ref pg),("numbers",.ref nb)]))) o=some (.ins aq dx [("program",.ref pg),("numbers",.ref nb),("hands",.ref hl)]):=ak;have q9:pX [[i,0]] τ8 H8 τ8 (upd H8 o (.ins aq dx (bZ "hands" (.ref hl) [("program",.ref pg),("numbers",.ref nb)]))):=pX.set (by rw[WT];simp) UJ (by intro xs z;cases z);have B9:Bs H τ o τ8 (upd H8 o (.ins aq dx (bZ "hands" (.ref hl) [("program",.ref pg),("numbers",.ref nb)]))):=B8.set (.inl rfl);generalize (upd H8 o (.ins aq dx (bZ "hands" (.ref hl) [("program",.ref pg),("numbers",.ref nb)])))=H9 at ho9 q9 B9 ⊢;refine qZ (λR g=>?_);refine⟨(by show 0<=sizeLine;decide),λtn htn=>?_⟩;have stn:=aF (o:=HO.lst []) htn;refine⟨_,Z,o,aq,dx,_,Z,stn _ _ ho9,aJ.cls,aJ.rN,(by show 3<1000;decide), ?_⟩;refine g _ _ ?_;have Yk:tn≠o:=(ao ho9 htn).symm;have Lh:(upd (upd H9 tn (.lst [])) o (.ins aq dx (bZ "turns" (.ref tn) [("program",.ref pg),("numbers",.ref nb),("hands",.ref hl)]))) o=some (.ins aq dx (wF pg nb hl tn)):=ak;have Wg:(upd (upd H9 tn (.lst [])) o (.ins aq dx (bZ "turns" (.ref tn) [("program",.ref pg),("numbers",.ref nb),("hands",.ref hl)]))) tn=some (.lst []):=by rw[aC Yk,ak]
  have NP:pX [[i,0]] τ8 H9 (aM τ8 tn [i,3]) (upd (upd H9 tn (.lst [])) o (.ins aq dx (bZ "turns" (.ref tn) [("program",.ref pg),("numbers",.ref nb),("hands",.ref hl)]))):=(pX.claim stn htn).trans (pX.set (by rw[aN Yk.symm,WT];simp) (stn _ _ ho9) (by intro xs z;cases z));have B10:Bs H τ o (aM τ8 tn [i,3]) (upd (upd H9 tn (.lst [])) o (.ins aq dx (bZ "turns" (.ref tn) [("program",.ref pg),("numbers",.ref nb),("hands",.ref hl)]))):=(B9.claim stn htn ⟨_,ak⟩).set (.inl rfl);have Kg:aM τ8 tn [i,3] o=[i,0]:=by rw[aN Yk.symm];exact WT
  have Kf:aM τ8 tn [i,3] tn=[i,3]:=bD;have GD:=q9.trans NP;generalize (upd (upd H9 tn (.lst [])) o (.ins aq dx (bZ "turns" (.ref tn) [("program",.ref pg),("numbers",.ref nb),("hands",.ref hl)])))=Mu at Lh Wg NP B10 GD ⊢;generalize aM τ8 tn [i,3]=Dg at NP B10 Kg Kf GD;have zL:=GD.keep _ _ ago (by rw[tl8];simp);have M_:Dg hl=[i,2]:=zL.2.trans tl8;have zL:=zL.1
  have n5:∀x u,H5 x=some u->τ5 x≠[i,0]->Mu x=some u/\Dg x=τ5 x:=λx u e n=>by
   have:=GD.keep _ _ (s58 _ _ e) (by rw[Sh _ _ e];simp[n]);exact⟨this.1,by rw[this.2,Sh _ _ e]⟩
  have abR:=n5 _ _ ZX (by rw[tL5];simp);have Wj:=n5 _ _ abI (by rw[tn5];simp);have abE:=GD.tup _ _ (s58 _ _ abC);have agp:∀(k:Nat)(A:nJ)(x:List Rw),hd[k]? = some A->rws[k]? = some x->u9 au i k m Dg Mu A (new x):=λk A x h1 h2=>(hd8 k A x h1 h2).1.ZP GD (by simp) (by simp) (by simp) (by simp)
  have agi:∀(k:Nat)(r:Addr)(x:List Rw),rs[k]? = some r->rws[k]? = some x->Dg r=[0]/\dO Mu r m x:=λk r x h1 h2=>by
   obtain⟨t5,R5⟩:=hr5 k r x h1 h2;have rr:=R5;obtain⟨ts,hts,_⟩:=rr;exact gA ⟨by rw[Sh _ _ hts];exact t5,R5.same s58⟩ GD (by simp)
  have lh:hd.length=rws.length:=by rw[lhd,lrs,lr]
  refine⟨_,Z,o,aq,dx,_,_,Z,Lh,aJ.cls,aJ.jY,Z,hl,Z,⟨_,bH.of zL⟩, ?_⟩
  refine oK (K:=K) (a:=hl) (xs:=hd.map λa=>V.ref a.h) (λj σ Hc=>∃x1:Option V,σ=[some (.ref o),some (.ref p),some (.ref cl),x1]/\(∀x u,Mu x=some u->(∀k,Dg x≠[i,4,k])->(∀k,Dg x≠[i,5,k])->(∀k,Dg x≠[i,6,k])->Hc x=some u)/\(∀x ys,Mu x=some (.tup ys)->Hc x=some (.tup ys))/\Bs H τ o Dg Hc /\
   ∀(k:Nat)(A:nJ)(x:List Rw),hd[k]? = some A->rws[k]? = some x->u9 au i k m Dg Hc A (if k<j then lead (new x) else new x))
   ⟨none,Z,λx u e _ _ _=>e,λx ys e=>e,B10,λk A x h1 h2=>by rw[acK (by lia)];exact agp k A x h1 h2⟩ (λj σ Hc _ ⟨_,_,kc,_⟩=>bH.of (kc _ _ zL (by rw[M_];simp) (by rw[M_];simp) (by rw[M_];simp))) ?_ ?_
  .rintro j v σ Hc hj ⟨x1,rfl,kc,tc,Bc,hc⟩
   rw[aah] at hj
   obtain⟨A,eA,rfl⟩:∃A,hd[j]? = some A/\v = .ref A.h:=by
    cases e:hd[j]? with
    | none=>rw[e] at hj;cases hj
    | some A=>rw[e] at hj;exact⟨A,Z,(aa6 hj).symm⟩
   have jl:j<rws.length:=by rw[←lh];exact(aae.mp eA).1
   have ex:rws[j]? = some rws[j]:=by simp[jl]
   have a:=hc j A _ eA ex;rw[acK (by lia)] at a;refine⟨_,Z,A.h,A.hx,_,Z,a.c.h,Z,A,_,m,Z,a.c,a.r,dD a.tr a.tb (by intro z;cases z),dD a.tr a.ty (by intro z;cases z),(by show 0<900000;decide),λH12 c12 k12=>?_⟩;have VR:pX [[i,4,j],[i,5,j],[i,6,j]] Dg Hc Dg H12:=⟨λx u e n=>⟨k12 _ _ e (λz=>n (by rw[z,a.th];simp)) (λz=>n (by rw[z,a.tb];simp)) (λz=>n (by rw[z,a.ty];simp)),Z⟩,a.c.tup k12⟩;refine⟨_,Z,λx u e n4 n5 n6=>(VR.keep _ _ (kc x u e n4 n5 n6) (by simp[n4,n5,n6])).1,λx ys e=>VR.tup _ _ (tc _ _ e), ?_, ?_⟩
   .obtain⟨f1,f2,f3⟩:=(hd8 j A _ eA ex).2
    refine⟨Bc.un.dom λx e=>?_,λx u e n=>k12 _ _ (Bc.kp _ _ e n) (ao e f1) (ao e f2) (ao e f3),Bc.tg⟩;cases q:Hc x with
    | none=>rfl
    | some u=>
      have no:∀y o,H12 y=some o->x≠y:=λy o h z=>by rw[z,h] at e;cases e
      rw[k12 _ _ q (no _ _ c12.h) (no _ _ c12.b) (no _ _ c12.y)] at e;cases e
   .intro k A' x h1 h2
    by_cases z:k=j
    .subst z
     rw[eA] at h1;cases h1;rw[ex] at h2;cases h2;rw[acM (by lia)];have lr':(lead (new rws[k])).rws=rws[k]:=rR _ _;refine⟨c12, ?_,a.tr,a.th,a.tb,a.ty⟩;rw[lr'];exact(gA ⟨a.tr,a.r⟩ VR (by simp)).2
    .have b:=(hc k A' x h1 h2).ZP VR (by simp) (by simp[z]) (by simp[z]) (by simp[z])
     by_cases lt:k<j
     .rw[acM lt] at b
      rw[acM (by lia)];exact b
     .rw[acK lt] at b
      rw[acK (by lia)];exact b
  .rintro σ H11 ⟨x1,rfl,kc,tc,Bc,hc⟩
   rw[aac] at hc;have kt:∀x u t,Mu x=some u->Dg x=t->(∀k,t≠[i,4,k])->(∀k,t≠[i,5,k])->(∀k,t≠[i,6,k])->H11 x=some u:=λx u t e et n4 n5 n6=>kc x u e (by rw[et];exact n4) (by rw[et];exact n5) (by rw[et];exact n6);have aay:Dg L=[0]:=abR.2.trans tL5;have aao:Dg nb=[i,1]:=Wj.2.trans tn5
   have get:∀(k:Nat)(s:bI),(rws.map λr=>lead (new r))[k]? = some s -> ∃x,rws[k]? = some x/\s=lead (new x):=λk s e=>by
    rw[aah] at e;cases q:rws[k]? with
    | none=>rw[q] at e;cases e
    | some x=>rw[q] at e;exact⟨x,Z,(aa6 e).symm⟩
   refine k1 good Dg ⟨o,dx,pg,L,nb,hl,tn,rs,hd⟩ H11 rfl ⟨Bc.un,i0,kt _ _ _ Lh Kg (by simp) (by simp) (by simp),tc _ _ abE,kt _ _ _ abR.1 aay (by simp) (by simp) (by simp),kt _ _ _ Wj.1 aao (by simp) (by simp) (by simp),kt _ _ _ zL M_ (by simp) (by simp) (by simp),kt _ _ _ Wg Kf (by simp) (by simp) (by simp),Kg,aao,M_,Kf,aay, ?_, ?_, ?_, ?_, ?_, ?_, ?_, ?_⟩ Bc.tg Bc.kp
   .show rs.length=(rws.map _).length
    rw[aac,lrs,lr]
   .intro k r s h1 h2
    obtain⟨x,ex,rfl⟩:=get k s h2;obtain⟨t1,R1⟩:=agi k r x h1 ex;have lr':(lead (new x)).rws=x:=rR _ _;rw[lr'];exact⟨t1,R1.keep (λu e=>kt _ _ _ e t1 (by simp) (by simp) (by simp)) tc⟩
   .show hd.length=(rws.map _).length
    rw[aac,lh]
   .intro k A s h1 h2
    obtain⟨x,ex,rfl⟩:=get k s h2;have:=hc k A x h1 ex;rw[acM (aae.mp h1).1] at this;exact this
   .intro s ms
    obtain⟨x,_,rfl⟩:=abG.mp ms;exact Hj _ _
   .intro s ms
    obtain⟨x,_,rfl⟩:=abG.mp ms;exact Hi 60 (new x)
   .have:=good.1
    show ns.length=m;lia
   .show (rws.map _).length<=100
    rw[aac];exact rl
noncomputable def Zu:Nat->PyData->Prop
 | 0,_=>False
 | n+1,.list ds=>ds.length<=20000 /\ ∀d∈ds,Zu n d
 | _+1,.int _=>True
 | _+1,_=>False
theorem Zu.ints{n:Nat}{ns:List Int}(h:ns.length<=20000):Zu (n+2) (.list (ns.map PyData.int)):=by
 refine⟨by rw[aac];exact h,λd hd=>?_⟩;obtain⟨i,_,rfl⟩:=abG.mp hd;trivial
theorem Uy(K:PySem.W.Frag):PySem.W.kitOne K (.type "int") (.type "tuple")=some false:=by kernel_rfl
theorem UG(K:PySem.W.Frag):PySem.W.kitOne K (.type "int") (.type "list")=some false:=by kernel_rfl
theorem Uz(K:PySem.W.Frag):PySem.W.kitOne K (.type "int") (.type "str")=some false:=by kernel_rfl
theorem Lk(n:Nat)(v:V):(List.range n).filterMap (λ_=>some v)=List.replicate n v:=by
 induction n with
 | zero=>rfl
 | succ n ih=>rw[dJ,ih,List.replicate_succ'];rfl
noncomputable def qX(n:Nat)(K:PySem.W.Frag):Sp:=λvs H Q _=>∃(x y:V) (d:PyData),vs=[x,y]/\Dat H x d/\Dat H y d/\Zu n d /\ ∀H',Same H H'->Q (.bl true) H'
theorem KY{f:Addr}{fd:FuncData}(F:gD K "_law_alike" "_law_alike" rB f fd):bO P w K mg base iy 1 f fd ["found","due"] (qX 0 K):=by
 refine F.ok zq (λvs H Q E h=>?_) (λcdv A outer s H vs Q E hr h=>?_)
 .obtain⟨x,y,d,_,_,_,z,_⟩:=h
  exact z.elim
 .obtain⟨x,y,d,_,_,_,z,_⟩:=h
  exact z.elim
theorem ud{n:Nat}{f:Addr}{fd:FuncData}(F:gD K "_law_alike" "_law_alike" rB f fd)(o8:FnAt P w K mg base (n+1) "_law_alike" ["found","due"] (qX n K))(Bt:pR mg):bO P w K mg base iy (n+1+1) f fd ["found","due"] (qX (n+1) K):=by
 refine F.ok zq (λvs H Q E h=>?_) (λcdv A outer s H vs Q E hr h=>?_)
 .obtain⟨x,y,d,rfl,_⟩:=h
  rfl
 .obtain⟨x,y,d,rfl,dx,dy,pl,k⟩:=h
  refine⟨_,(aB (cA (PW.pt (rE (dR (aO (cD (K:=K) (cv:= .ty "tuple") (c:= .type "tuple") rfl rfl) (by rfl) Bt.bK bF (aj (pv 1) (aj (dH (v:= .ty "tuple") (by rfl) Bt.vq rZ rfl) aA)))) (oh (dR (aO (cD (K:=K) (cv:= .ty "list") (c:= .type "list") rfl rfl) (by rfl) Bt.bK bF (aj (pv 1) (aj (dH (v:= .ty "list") (by rfl) Bt.fQ dN rfl) aA))))))) (aB (cA (PW.pt (rE (bB rM (aO (cD (K:=K) (cv:= .ty "tuple") (c:= .type "tuple") rfl rfl) (by rfl) Bt.bK bF (aj (pv 0) (aj (dH (v:= .ty "tuple") (by rfl) Bt.vq rZ rfl) aA))) (aO (cD (K:=K) (cv:= .ty "tuple") (c:= .type "tuple") rfl rfl) (by rfl) Bt.bK bF (aj (pv 1) (aj (dH (v:= .ty "tuple") (by rfl) Bt.vq rZ rfl) aA))) (bC _)) (oh (bB rM (aO (cD (K:=K) (cv:= .ty "list") (c:= .type "list") rfl rfl) (by rfl) Bt.bK bF (aj (pv 0) (aj (dH (v:= .ty "list") (by rfl) Bt.fQ dN rfl) aA))) (aO (cD (K:=K) (cv:= .ty "list") (c:= .type "list") rfl rfl) (by rfl) Bt.bK bF (aj (pv 1) (aj (dH (v:= .ty "list") (by rfl) Bt.fQ dN rfl) aA))) (bC _))))) (aH (bG oA)) bL)
   (aB (cA (bB rM (aO (aW (K:=K) rfl) (by rfl) Bt.d_ cQ (aj (pv 0) aA)) (aO (aW (K:=K) rfl) (by rfl) Bt.d_ cQ (aj (pv 1) aA)) (bC _)) (aH (bG oA)) bL)
   (aH (bG (aO (gJ (K:=K) rfl rfl) (by rfl) Bt.J1 Cr (aj (dY rfl (N:=["mine","other"]) (own:=["mine","other"]) (caps:=[]) (bw.of (by kernel_rfl)) (Tz (K:=K) rfl (by rfl) Bt.acp (aj (pv 0) (aj (pv 1) aA))) (λ_ _ _ _=>(rH (K:=K) (n:=2) rfl rfl (d8 (bJ (i:=0) (show List.Nodup (["mine","other"]:List Str) by decide +kernel) rfl (Or.inl rfl)) (d8 (bJ (i:=1) (show List.Nodup (["mine","other"]:List Str) by decide +kernel) rfl (Or.inl rfl)) rG)))) (λ_ _ _ _=>dG) (λ_ _ _ _=>(bT o8 (hr.mono (aar _)) (by rfl) (aj (pv 0) (aj (pv 1) aA))))) aA)))))) bL)
   (aB (cA (bB wI (pv 1) gK (bC _)) (aH (bG (dZ wI (pv 0) gK (bC _)))) bL)
   (aB (cA (PW.pt (rE (dR (aO (cD (K:=K) (cv:= .ty "bool") (c:= .type "bool") rfl rfl) (by rfl) Bt.bK bF (aj (pv 1) (aj (dH (v:= .ty "bool") (by rfl) Bt.xZ su rfl) aA)))) (oh (dR (aO (cD (K:=K) (cv:= .ty "str") (c:= .type "str") rfl rfl) (by rfl) Bt.bK bF (aj (pv 1) (aj (dH (v:= .ty "str") (by rfl) Bt.acq Zk rfl) aA))))))) (aH (bG (jt (dZ eF (aO (cD (K:=K) (cv:= .ty "bool") (c:= .type "bool") rfl rfl) (by rfl) Bt.bK bF (aj (pv 0) (aj (dH (v:= .ty "bool") (by rfl) Bt.xZ su rfl) aA))) (aO (cD (K:=K) (cv:= .ty "bool") (c:= .type "bool") rfl rfl) (by rfl) Bt.bK bF (aj (pv 1) (aj (dH (v:= .ty "bool") (by rfl) Bt.xZ su rfl) aA))) (bC _)) (jr (dZ eF (pv 0) (pv 1) (bC _)))))) bL)
   (aH (bG (jt (aO (cD (K:=K) (cv:= .ty "int") (c:= .type "int") rfl rfl) (by rfl) Bt.bK bF (aj (pv 0) (aj (dH (v:= .ty "int") (by rfl) Bt.FP xU rfl) aA))) (jt (GK (aO (cD (K:=K) (cv:= .ty "bool") (c:= .type "bool") rfl rfl) (by rfl) Bt.bK bF (aj (pv 0) (aj (dH (v:= .ty "bool") (by rfl) Bt.xZ su rfl) aA)))) (jr (dZ eF (pv 0) (pv 1) (bC _)))))))))), ?_⟩
  match d,pl,dx,dy with
  | .int i,pl,dx,dy=>
    simp only[Dat] at dx dy;subst dx dy;refine⟨_,Z,_,_,false,Z,.int i,Uy K,_,Z,dU ?_⟩;refine⟨_,Z,_,_,false,Z,.int i,UG K,_,Z,dU ?_⟩;refine⟨_,Z,Z,_,Z,dU ?_⟩;refine⟨_,Z,_,_,false,Z,.int i,mQ K,_,Z,dU ?_⟩;refine⟨_,Z,_,_,false,Z,.int i,Uz K,_,Z,dU ?_⟩;refine⟨_,Z,_,_,true,Z,.int i,uN K,_,Z,fM ?_⟩;refine⟨_,Z,_,_,false,Z,.int i,mQ K,_,Z,_,Z,fM ?_⟩;refine⟨_,Z,_,Z,Z, ?_⟩;rw[aaL rfl];exact k _ (Same.refl _)
  | .list ds,pl,dx,dy=>
    simp only[Dat] at dx dy;obtain⟨a,vs,rfl,ha,da⟩:=dx;obtain⟨b,ws,rfl,hb,db⟩:=dy;have la:vs.length=ds.length:=da.length;have lb:ws.length=ds.length:=db.length;have pl1:ds.length<=20000:=pl.1;refine⟨_,Z,_,_,false,Z,.lst hb,jP K,_,Z,dU ?_⟩;refine⟨_,Z,_,_,true,Z,.lst hb,iZ K,_,Z,fM ?_⟩;refine⟨_,Z,_,_,false,Z,.lst ha,jP K,_,Z,_,_,false,Z,.lst hb,jP K,Z,_,Z, ?_⟩;refine zH rfl ?_;refine⟨_,Z,_,_,true,Z,.lst ha,iZ K,_,Z,_,_,true,Z,.lst hb,iZ K,Z,_,Z, ?_⟩;refine zH rfl ?_;refine⟨_,Z,a,_,Z,.inl (bH.of ha),_,Z,b,_,Z,.inl (bH.of hb),Z,_,Z, ?_⟩;refine zH (by rw[la,lb]) ?_;refine⟨_,Z,_,Z,a,b,vs,ws,Z,bH.of ha,bH.of hb,λD hD=>?_⟩;refine Lw (K:=K) la lb (λi=>some (.bl true)) hD (bH.of ha) (bH.of hb) (by lia) (λi x y H2 G F hx hy s2 kG kF=>?_) (λH2 s2 e2=>?_)
    .obtain⟨d,ed,dx⟩:=da.get hx
     obtain⟨d',ed',dy⟩:=db.get hy;rw[ed] at ed';cases ed';exact⟨_,Z,_,Z,x,y,d,Z,dx.same s2 d,dy.same s2 d,pl.2 d (aaK ed),λH3 s3=>kF _ H3 s3 rfl⟩
    .rw[Lk] at e2
     refine⟨D,List.replicate ds.length true,Z,bH.of (by rw[e2,List.map_replicate]), ?_⟩;rw[show (List.replicate ds.length true).all id=true by simp];exact k H2 s2
structure RT(τ:Tg)(H:Hp)(r:Addr):Prop where
 R:eX H r
 off:∀x o,H x=some o->τ x≠[]->x≠r/\Off H r x
 un:j8 τ H
theorem RT.draw{τ:Tg}{H H':Hp}{r:Addr}(h:RT τ H r)(k:KR r H H')(R':eX H' r):RT τ H' r:=by
 have un':j8 τ H':=h.un.dom λx e=>by
  refine Kp.new k.1 e ?_;exact R'.at
 refine⟨R',λx o e t=>?_,un'⟩;cases q:H x with
 | none=>exact acP (h.un x q) t
 | some u=>
   obtain⟨n,f⟩:=h.off x u q t;exact⟨n,k.2 x u q n f⟩
theorem RT.stp{τ:Tg}{H H':Hp}{r:Addr}{i:Nat}(h:RT τ H r)(k:nu i τ H H'):RT τ H' r:=by
 obtain⟨g,c,gs,cs,p,t,e1,e2,e3,q⟩:=h.R
 have tr:τ r=[]:=by
  by_cases z:τ r=[]
  .exact z
  .exact acP rfl (h.off r _ e1 z).1
 have tg:τ g=[]:=by
  by_cases z:τ g=[]
  .exact z
  .exact acP rfl ((h.off g _ e2 z).2 _ _ _ _ e1).1
 have tc:τ c=[]:=by
  by_cases z:τ c=[]
  .exact z
  .exact acP rfl ((h.off c _ e3 z).2 _ _ _ _ e1).2
 have e1':=k.keep _ _ e1 (by rw[tr];simp);refine⟨⟨g,c,gs,cs,p,t,e1',k.keep _ _ e2 (by rw[tg];simp),k.keep _ _ e3 (by rw[tc];simp),q⟩,λx o e t=>?_,h.un.dom k.dom⟩;cases q:H x with
 | none=>exact acP (h.un x q) t
 | some u=>
   obtain⟨n,f⟩:=h.off x u q t;refine⟨n,λg' c' u' v' e'=>?_⟩;rw[e1'] at e';cases e';exact f _ _ _ _ e1
theorem RT.same{τ:Tg}{H H':Hp}{r:Addr}(h:RT τ H r)(k:Same H H'):RT τ H' r:=h.stp (i:=0) (nu.of_same k)
theorem RT.keep{τ:Tg}{H H':Hp}{r x:Addr}{o:HO}(h:RT τ H r)(k:KR r H H')(e:H x=some o)(t:τ x≠[]):H' x=some o:=k.1 _ _ e (h.off x o e t).1
theorem RT.claim{τ:Tg}{H H':Hp}{r p:Addr}{t:List Nat}(h:RT τ H r)(k:Same H H')(hp:H p=none)(hp':∃o,H' p=some o):RT (aM τ p t) H' r:=by
 have h':=h.same k;refine⟨h'.R,λx o e n=>?_,h.un.claim k hp'⟩
 by_cases z:x=p
 .subst z
  exact⟨h.R.ne hp,(h.R.off hp).same h.R k⟩
 .rw[aN z] at n
  exact h'.off x o e n
theorem RT.made{τ τ':Tg}{H H':Hp}{r:Addr}(h:RT τ H r)(k:Same H H')(tg:∀x u,H x=some u->τ' x=τ x)(un:j8 τ' H'):RT τ' H' r:=by
 have h':=h.same k;refine⟨h'.R,λx o e n=>?_,un⟩;cases q:H x with
 | some u=>exact h'.off x o e (by rw[←tg x u q];exact n)
 | none=>exact⟨h.R.ne q,(h.R.off q).same h.R k⟩
noncomputable def tH(CH:Addr)(K:PySem.W.Frag):Sp:=λvs H Q _=>∃(A:nJ) (s:bI),vs=[.ref A.h]/\mZ CH H A s /\ ∀(B:nJ)(H':Hp),H B.h=none->H B.b=none->H B.sy=none->B.r=A.r->mZ CH H' B s->Same H H'->Q (.ref B.h) H'
theorem XD(r b b' sy:Addr)(n:Int)(st:Str):bZ "in_boxes" (.ref b') (hF r n b sy st)=hF r n b' sy st:=by rfl
theorem XC(r b sy sy':Addr)(n:Int)(st:Str):bZ "sayings" (.ref sy') (hF r n b sy st)=hF r n b sy' st:=by rfl
theorem G6{au:Addr}{f:Addr}{fd:FuncData}(F:gD K "another" "Hand.another" jK f fd)(aG:eU K au)(Im:qH P w K mg base 1 au "Hand" ["self","rows"] [] (vf au K))(Bt:pR mg):bO P w K mg base iy 3 f fd ["self"] (tH au K):=by
 refine F.ok m7 (λvs H Q E h=>?_) (λcdv A outer s H vs Q E hr h=>?_)
 .obtain⟨A,s,rfl,_⟩:=h
  rfl
 .obtain⟨B,s,rfl,c,k⟩:=h
  refine⟨_,(aB (bA (i:=1) m7.nd rfl (Or.inl rfl) (rK Im (hr.mono (by decide)) (by rfl) (aj (aY (K:=K) rfl (pv 0) rfl) aA)))
   (aB (cM (K:=K) rfl (pv 1) (aY (K:=K) rfl (pv 0) rfl) rfl)
   (aB (cM (K:=K) rfl (pv 1) (cL (bR (K:=K) rfl) (by rfl) Bt.fQ dN (aj (aY (K:=K) rfl (pv 0) rfl) aA)) rfl)
   (aB (cM (K:=K) rfl (pv 1) (cL (bR (K:=K) rfl) (by rfl) Bt.fQ dN (aj (aY (K:=K) rfl (pv 0) rfl) aA)) rfl)
   (aB (cM (K:=K) rfl (pv 1) (aY (K:=K) rfl (pv 0) rfl) rfl)
   (aH (bG (pv 1)))))))), ?_⟩
  refine⟨_,Z,B.h,au,B.hx,_,_,Z,c.h,aG.cls,aG.oF,Z,λh hx hh hhx nx=>?_⟩;have hh':(upd H hx (.own h)) h=none:=by rw[aC nx.symm];exact hh
  have sm:Same H (upd (upd H hx (.own h)) h (.ins au hx [])):=(aF hhx).trans (aF hh');refine⟨h,B.r,hx,Z,ak,λb0 SM H1 hb0 akX akz e1 eb1 alw k1=>⟨Z, ?_⟩⟩;have S1:Same H H1:=λx u e=>k1 _ _ (sm _ _ e) (ao e hh);clear k1 sm hh';have c1:=c.same S1;refine⟨_,Z,B.h,au,B.hx,_,_,Z,c1.h,aG.cls,aG.rP,Z,_,Z,h,au,hx,_,Z,e1,aG.cls,aG.rP,(by show 5<1000;decide), ?_⟩;rw[v9];have S2:Same H (upd H1 h (.ins au hx (hF B.r s.pos b0 SM "waits"))):=λx u e=>by rw[aC (ao e hh)];exact S1 _ _ e
  have e2:(upd H1 h (.ins au hx (hF B.r s.pos b0 SM "waits"))) h=some (.ins au hx (hF B.r s.pos b0 SM "waits")):=ak;generalize (upd H1 h (.ins au hx (hF B.r s.pos b0 SM "waits")))=H2 at S2 e2 ⊢;have c2:=c.same S2;refine⟨_,Z,B.h,au,B.hx,_,_,Z,c2.h,aG.cls,aG.iK,Z,B.b,_,Z,.inl (bH.of c2.b),λb hb=>?_⟩;have sb:=aF (o:=HO.lst (s.bs.map V.int)) hb;have Us:b≠h:=(ao e2 hb).symm;refine⟨_,Z,h,au,hx,_,Z,sb _ _ e2,aG.cls,aG.iK,(by show 5<1000;decide), ?_⟩;rw[XD];have fb:H b=none:=S2.free hb;have S3:Same H (upd (upd H2 b (.lst (s.bs.map V.int))) h (.ins au hx (hF B.r s.pos b SM "waits"))):=λx u e=>by rw[aC (ao e hh)];exact sb _ _ (S2 _ _ e)
  have e3:(upd (upd H2 b (.lst (s.bs.map V.int))) h (.ins au hx (hF B.r s.pos b SM "waits"))) h=some (.ins au hx (hF B.r s.pos b SM "waits")):=ak;have eb3:(upd (upd H2 b (.lst (s.bs.map V.int))) h (.ins au hx (hF B.r s.pos b SM "waits"))) b=some (.lst (s.bs.map V.int)):=by rw[aC Us,ak]
  generalize (upd (upd H2 b (.lst (s.bs.map V.int))) h (.ins au hx (hF B.r s.pos b SM "waits")))=H3 at S3 e3 eb3 ⊢;have c3:=c.same S3;refine⟨_,Z,B.h,au,B.hx,_,_,Z,c3.h,aG.cls,aG.lN,Z,B.sy,_,Z,.inl (bH.of c3.y),λy hy=>?_⟩;have sy:=aF (o:=HO.lst (s.sy.map V.int)) hy;have V8:y≠h:=(ao e3 hy).symm;have K3:b≠y:=ao eb3 hy;refine⟨_,Z,h,au,hx,_,Z,sy _ _ e3,aG.cls,aG.lN,(by show 5<1000;decide), ?_⟩;rw[XC];have fy:H y=none:=S3.free hy;have S4:Same H (upd (upd H3 y (.lst (s.sy.map V.int))) h (.ins au hx (hF B.r s.pos b y "waits"))):=λx u e=>by rw[aC (ao e hh)];exact sy _ _ (S3 _ _ e)
  have e4:(upd (upd H3 y (.lst (s.sy.map V.int))) h (.ins au hx (hF B.r s.pos b y "waits"))) h=some (.ins au hx (hF B.r s.pos b y "waits")):=ak;have eb4:(upd (upd H3 y (.lst (s.sy.map V.int))) h (.ins au hx (hF B.r s.pos b y "waits"))) b=some (.lst (s.bs.map V.int)):=by rw[aC Us];exact sy _ _ eb3
  have ey4:(upd (upd H3 y (.lst (s.sy.map V.int))) h (.ins au hx (hF B.r s.pos b y "waits"))) y=some (.lst (s.sy.map V.int)):=by rw[aC V8,ak]
  generalize (upd (upd H3 y (.lst (s.sy.map V.int))) h (.ins au hx (hF B.r s.pos b y "waits")))=H4 at S4 e4 eb4 ey4 ⊢;have c4:=c.same S4;refine⟨_,Z,B.h,au,B.hx,_,_,Z,c4.h,aG.cls,aG.iY,Z,_,Z,h,au,hx,_,Z,e4,aG.cls,aG.iY,(by show 5<1000;decide), ?_⟩;rw[Bk];exact⟨_,Z,k ⟨h,hx,B.r,b,y⟩ _ hh fb fy rfl ⟨ak,by rw[aC Us];exact eb4,by rw[aC V8];exact ey4,K3,c.bl⟩ (λx u e=>by rw[aC (ao e hh)];exact S4 _ _ e)⟩
noncomputable def Ah(CW CH:Addr)(K:PySem.W.Frag):Sp:=λvs H Q _=>∃(i i':Nat) (τ:Tg) (W:u6) (S:gU),vs=[.ref W.o]/\jw CW CH i τ H W S/\gn S/\S.m<=100/\i'≠0 /\ ∀(τ':Tg)(W':u6)(H':Hp),jw CW CH i' τ' H' W' S->(∀x u,H x=some u->τ' x=τ x)->Same H H'->Q (.ref W'.o) H'
theorem Ud{aq au bY:Addr}{f:Addr}{fd:FuncData}(F:gD K "twin" "Works.twin" mD f fd)(aJ:cT K aq)(aG:eU K au)(Vs:qH P w K mg base 7 aq "Works" ["self","program","cells"] [] (λvs H Q _=>pC aq au bY K vs H Q λ_ _ _=>False))(yr:MethAt P w K mg base 3 au "another" ["self"] (tH au K))(Bt:pR mg):bO P w K mg base iy 9 f fd ["self"] (Ah aq au K):=by
 refine F.ok pZ (λvs H Q E h=>?_) (λcdv A outer s H vs Q E hr h=>?_)
 .obtain⟨i,i',τ,W,S,rfl,_⟩:=h
  rfl
 .obtain⟨i,i',τ,W,S,rfl,w,g,ml,i0,k⟩:=h
  refine⟨_,(aB (bA (i:=1) pZ.nd rfl (Or.inl rfl) (rK Vs (hr.mono (by decide)) (by rfl) (aj (aY (K:=K) rfl (pv 0) rfl) (aj (aY (K:=K) rfl (pv 0) rfl) aA))))
   (aB (cM (K:=K) rfl (pv 1) (dY rfl (N:=["one"]) (own:=["one"]) (caps:=[]) (bw.of (by kernel_rfl)) (cI (K:=K) rfl (aY (K:=K) rfl (pv 0) rfl)) (λ_ _ _ _=>(bJ (i:=0) (show List.Nodup (["one"]:List Str) by decide +kernel) rfl (Or.inl rfl))) (λ_ _ _ _=>dG) (λ_ _ _ _=>(cV yr aG.cls (hr.mono (by decide)) (pv 0)))) rfl)
   (aB (cM (K:=K) rfl (pv 1) (cL (bR (K:=K) rfl) (by rfl) Bt.fQ dN (aj (aY (K:=K) rfl (pv 0) rfl) aA)) rfl)
   (aH (bG (pv 1)))))), ?_⟩
  have good:uf S.m S.ns:=⟨by rw[w.nl],g.n⟩;refine⟨_,Z,W.o,aq,W.dx,_,_,Z,w.o,aJ.cls,aJ.pK,Z,_,Z,W.o,aq,W.dx,_,_,Z,w.o,aJ.cls,aJ.iJ,Z,λo dx ho hdx ndx=>?_⟩;have ho':(upd H dx (.own o)) o=none:=by rw[aC ndx.symm];exact ho
  have sm:Same H (upd (upd H dx (.own o)) o (.ins aq dx [])):=(aF hdx).trans (aF ho');refine⟨i',τ,o,dx,W.pg,W.L,W.rs,S.m,.ref W.nb,S.ns,S.hs.map bI.rws,Z,ak,sm _ _ w.pg,sm _ _ w.L,by rw[aac];exact w.rl,λkk r x h1 h2=>?_,by rw[aac];exact w.hn,ml,w.un.same sm,i0,by rw[w.nl];exact ml,.inr ⟨W.nb,Z,sm _ _ w.nb⟩,λ_ τ1 W1 H1 eo w1 tg kp=>⟨Z, ?_⟩,λbad=>acP good bad⟩
  .rw[aah] at h2
   cases e:S.hs[kk]? with
   | none=>rw[e] at h2;cases h2
   | some s=>rw[e] at h2;cases h2;exact(w.rs kk r s h1 e).2.same sm
  have S1:Same H H1:=λx u e=>kp _ _ (sm _ _ e) (ao e ho);have Ds:∀x u,H x=some u->τ1 x=τ x:=λx u e=>tg x u (sm _ _ e) (ao e ho);have fo:H W1.o=none:=by rw[eo];exact ho
  have eo':V.ref o=V.ref W1.o:=by rw[eo]
  rw[eo'];clear kp tg sm ho' eo';have wA:jw aq au i τ1 H1 W S:=w.mv (Mv.tags S1 Ds) w1.un;refine⟨_,Z,W.o,aq,W.dx,_,_,Z,wA.o,aJ.cls,aJ.jY,Z,W.hl,Z,⟨_,bH.of wA.hl⟩,λD hD=>?_⟩;have sD:=aF (o:=HO.lst []) hD;refine fY (K:=K) (xs:=W.hd.map λa=>V.ref a.h) (λj σ Hc=>∃(v:Option V) (τc:Tg) (hd:List nJ),σ=[v]/\hd.length=j/\Same H1 Hc/\Hc D=some (.lst (hd.map λa=> .ref a.h))/\j8 τc Hc/\(∀x u,H1 x=some u->τc x=τ1 x)/\τc D=[i',2] /\ ∀(k:Nat)(A:nJ)(s:bI),hd[k]? = some A->S.hs[k]? = some s->u9 au i' k S.m τc Hc A s) ?_ ?_ ?_ ?_
  .exact⟨none,aM τ1 D [i',2],[],Z,Z,sD,ak,w1.un.claim sD ⟨_,ak⟩,λx u e=>aN (ao e hD),bD,λk A s e=>by simp at e⟩
  .rintro j σ Hc _ ⟨v,τc,hd,rfl,_,sc,_⟩
   exact bH.of (sc _ _ wA.hl)
  .rintro j x σ Hc hj ⟨v,τc,hd,rfl,lj,sc,Z0,unc,tgc,tDc,hc⟩
   rw[aah] at hj
   obtain⟨A,eA,rfl⟩:∃A,W.hd[j]? = some A/\x = .ref A.h:=by
    cases e:W.hd[j]? with
    | none=>rw[e] at hj;cases hj
    | some A=>rw[e] at hj;exact⟨A,Z,(aa6 hj).symm⟩
   have wc:jw aq au i τc Hc W S:=wA.mv (Mv.tags sc tgc) unc;have jl:j<S.hs.length:=by rw[←w.len];exact(aae.mp eA).1
   have es:S.hs[j]? = some S.hs[j]:=by simp[jl]
   have a:=wc.hd j A _ eA es;dsimp only[cG,vI];rw[acM rfl];refine⟨_,Z,A.h,A.hx,_,Z,a.c.h,Z,A,_,Z,a.c,λB H7 fh fb fy er c7 s7=>?_⟩;have nDh:D≠B.h:=ao Z0 fh;have nDb:D≠B.b:=ao Z0 fb;have nDy:D≠B.sy:=ao Z0 fy;have T:∀x u,Hc x=some u->aM (aM (aM τc B.h [i',4,j]) B.b [i',5,j]) B.sy [i',6,j] x=τc x:=λy u e=>by rw[aN (ao e fy),aN (ao e fb),aN (ao e fh)]
   have U7:j8 (aM (aM (aM τc B.h [i',4,j]) B.b [i',5,j]) B.sy [i',6,j]) H7:=λy e=>by
    have n1:y≠B.h:=λz=>by rw[z,c7.h] at e;cases e
    have n2:y≠B.b:=λz=>by rw[z,c7.b] at e;cases e
    have n3:y≠B.sy:=λz=>by rw[z,c7.y] at e;cases e
    rw[aN n3,aN n2,aN n1];exact unc y (s7.free e)
   have Th:aM (aM (aM τc B.h [i',4,j]) B.b [i',5,j]) B.sy [i',6,j] B.h=[i',4,j]:=by rw[aN c7.V8,aN c7.Us,bD]
   have Tb:aM (aM (aM τc B.h [i',4,j]) B.b [i',5,j]) B.sy [i',6,j] B.b=[i',5,j]:=by rw[aN c7.K3,bD]
   have Ty:aM (aM (aM τc B.h [i',4,j]) B.b [i',5,j]) B.sy [i',6,j] B.sy=[i',6,j]:=bD;generalize aM (aM (aM τc B.h [i',4,j]) B.b [i',5,j]) B.sy [i',6,j]=τ7 at T U7 Th Tb Ty
   have q7:pX [[i',2]] τc Hc τ7 (upd H7 D (.lst ((hd.map λa=>V.ref a.h)++[V.ref B.h]))):=by
    refine⟨λy u e n=>⟨?_,T y u e⟩,λy ys e=>?_⟩
    .rw[aC (λz:y=D=>n (by rw[z,tDc];simp))]
     exact s7 _ _ e
    .rw[aC (cY e Z0 (by intro z;cases z))]
     exact s7 _ _ e
   have hjl:hd.length<=100:=by rw[lj];have:=w.hn;lia
   refine⟨_,s7 _ _ Z0,(by rw[aac,sizeLine_eq];lia),some (.ref A.h),τ7,hd++[B],Z,by simp[lj],λy u e=>?_,by rw[ak];simp, ?_,λy u e=>?_, ?_, ?_⟩
   .rw[aC (ao e hD)]
    exact s7 _ _ (sc _ _ e)
   .exact U7.dom λy e=>by
     by_cases z:y=D
     .rw[z,ak] at e;cases e
     .rw[aC z] at e;exact e
   .rw[T y u (sc _ _ e)]
    exact tgc y u e
   .rw[T _ _ Z0];exact tDc
   .intro k A' s' h1 h2
    rcases jQ h1 with h1|⟨e1,rfl⟩
    .exact(hc k A' s' h1 h2).ZP q7 (by simp) (by simp) (by simp) (by simp)
    .rw[e1,lj,es] at h2
     cases h2;rw[e1,lj];obtain⟨t9,R9⟩:=gA ⟨a.tr,a.r⟩ q7 (by simp);exact⟨⟨by rw[aC nDh.symm];exact c7.h,by rw[aC nDb.symm];exact c7.b,by rw[aC nDy.symm];exact c7.y,c7.K3,c7.bl⟩,by rw[er];exact R9,by rw[er];exact t9,Th,Tb,Ty⟩
  rintro σ H8 ⟨v,τ8,hd,rfl,lhd,s18,hD8,un8,Sh,tD8,hd8⟩;rw[aac] at lhd;have UJ:=s18 _ _ w1.o;have WT:τ8 W1.o=[i',0]:=by rw[Sh _ _ w1.o];exact w1.to
  refine⟨_,Z,W1.o,aq,W1.dx,_,Z,UJ,aJ.cls,aJ.jY,(by show 4<1000;decide), ?_⟩;have ho9:(upd H8 W1.o (.ins aq W1.dx (bZ "hands" (.ref D) (wF W1.pg W1.nb W1.hl W1.tn)))) W1.o=some (.ins aq W1.dx (wF W1.pg W1.nb D W1.tn)):=ak;have q9:pX [[i',0]] τ8 H8 τ8 (upd H8 W1.o (.ins aq W1.dx (bZ "hands" (.ref D) (wF W1.pg W1.nb W1.hl W1.tn)))):=pX.set (by rw[WT];simp) UJ (by intro xs z;cases z)
  have un9:j8 τ8 (upd H8 W1.o (.ins aq W1.dx (bZ "hands" (.ref D) (wF W1.pg W1.nb W1.hl W1.tn)))):=un8.dom λy e=>by
   by_cases z:y=W1.o
   .rw[z,ak] at e;cases e
   .rw[aC z] at e;exact e
  have S9:Same H (upd H8 W1.o (.ins aq W1.dx (bZ "hands" (.ref D) (wF W1.pg W1.nb W1.hl W1.tn)))):=λx u e=>by rw[aC (ao e fo)];exact s18 _ _ (S1 _ _ e)
  generalize (upd H8 W1.o (.ins aq W1.dx (bZ "hands" (.ref D) (wF W1.pg W1.nb W1.hl W1.tn))))=H9 at ho9 q9 un9 S9 ⊢;have w9:jw aq au i τ8 H9 W S:=w.mv (Mv.tags S9 λx u e=>(Sh x u (S1 _ _ e)).trans (Ds x u e)) un9;refine⟨_,Z,W.o,aq,W.dx,_,_,Z,w9.o,aJ.cls,aJ.rN,Z,W.tn,_,Z,.inl (bH.of w9.tn),λt ht=>?_⟩;have st:=aF (o:=HO.lst (S.ts.map V.int)) ht;have nto:t≠W1.o:=(ao ho9 ht).symm;refine⟨_,Z,W1.o,aq,W1.dx,_,Z,st _ _ ho9,aJ.cls,aJ.rN,(by show 4<1000;decide), ?_⟩;have Lh:(upd (upd H9 t (.lst (S.ts.map V.int))) W1.o (.ins aq W1.dx (bZ "turns" (.ref t) (wF W1.pg W1.nb D W1.tn)))) W1.o=some (.ins aq W1.dx (wF W1.pg W1.nb D t)):=ak;have abA:(upd (upd H9 t (.lst (S.ts.map V.int))) W1.o (.ins aq W1.dx (bZ "turns" (.ref t) (wF W1.pg W1.nb D W1.tn)))) t=some (.lst (S.ts.map V.int)):=by rw[aC nto,ak]
  have NP:pX [[i',0]] τ8 H9 (aM τ8 t [i',3]) (upd (upd H9 t (.lst (S.ts.map V.int))) W1.o (.ins aq W1.dx (bZ "turns" (.ref t) (wF W1.pg W1.nb D W1.tn)))):=(pX.claim st ht).trans (pX.set (by rw[aN nto.symm,WT];simp) (st _ _ ho9) (by intro xs z;cases z))
  have WD:j8 (aM τ8 t [i',3]) (upd (upd H9 t (.lst (S.ts.map V.int))) W1.o (.ins aq W1.dx (bZ "turns" (.ref t) (wF W1.pg W1.nb D W1.tn)))):=(un9.claim st ⟨_,ak⟩).dom λy e=>by
   by_cases z:y=W1.o
   .rw[z,ak] at e;cases e
   .rw[aC z] at e;exact e
  have S10:Same H (upd (upd H9 t (.lst (S.ts.map V.int))) W1.o (.ins aq W1.dx (bZ "turns" (.ref t) (wF W1.pg W1.nb D W1.tn)))):=λx u e=>by rw[aC (ao e fo)];exact st _ _ (S9 _ _ e)
  have Kg:aM τ8 t [i',3] W1.o=[i',0]:=by rw[aN nto.symm];exact WT
  have Kf:aM τ8 t [i',3] t=[i',3]:=bD;have tgt:∀x u,H x=some u->aM τ8 t [i',3] x=τ x:=λx u e=>by rw[aN (ao (S9 _ _ e) ht)];exact(Sh x u (S1 _ _ e)).trans (Ds x u e)
  have Q18:pX [[i',0]] τ1 H1 τ8 H8:=⟨λx u e _=>⟨s18 _ _ e,Sh x u e⟩,s18.tups⟩;have Q8:=q9.trans NP;generalize (upd (upd H9 t (.lst (S.ts.map V.int))) W1.o (.ins aq W1.dx (bZ "turns" (.ref t) (wF W1.pg W1.nb D W1.tn))))=Mu at Lh abA NP WD S10 Q8 ⊢;generalize aM τ8 t [i',3]=Dg at NP WD Kg Kf tgt Q8;have Q1:=Q18.trans Q8;have hL:=Q1.keep _ _ w1.L (by rw[w1.tL];simp);have hnb:=Q1.keep _ _ w1.nb (by rw[w1.tb];simp);have Qe:=Q8.keep _ _ hD8 (by rw[tD8];simp);refine⟨_,Z,k Dg ⟨W1.o,W1.dx,W1.pg,W1.L,W1.nb,D,t,W1.rs,hd⟩ Mu ⟨WD,i0,Lh,Q1.tup _ _ w1.pg,hL.1,hnb.1,Qe.1,abA,Kg,hnb.2.trans w1.tb,Qe.2.trans tD8,Kf,hL.2.trans w1.tL, ?_, ?_,by rw[lhd,w.len],λkk A s h1 h2=>(hd8 kk A s h1 h2).ZP Q8 (by simp) (by simp) (by simp) (by simp),w.ok,w.sl,w.nl,w.hn⟩ tgt S10⟩
  .have:=w1.rl
   unfold Cv at this;simpa using this
  .intro kk r s h1 h2
   have e1:(Cv S.m S.ns (S.hs.map bI.rws)).hs[kk]? = some (lead (new s.rws)):=by
    show ((S.hs.map bI.rws).map λr=>lead (new r))[kk]? = _;rw[aah,aah,h2];rfl
   have:=w1.rs kk r _ h1 e1;rw[show (lead (new s.rws)).rws=s.rws from rR _ _] at this;exact gA this Q1 (by simp)
noncomputable def Nz(s:bI):V:=if s.st = "waits" then .int s.pos else .non
noncomputable def Gp(CH:Addr)(K:PySem.W.Frag):Sp:=λvs H Q _=>∃(A:nJ) (s:bI),vs=[.ref A.h]/\mZ CH H A s /\ ∀(t:Addr)(H':Hp),Dat (nw H H') (.ref t) (tZ s)->Same H H'->Q (.ref t) H'
theorem Uj{au:Addr}{f:Addr}{fd:FuncData}(F:gD K "picture" "Hand.picture" jH f fd)(aG:eU K au)(Bt:pR mg):bO P w K mg base iy 1 f fd ["self"] (Gp au K):=by
 refine F.ok m6 (λvs H Q E h=>?_) (λcdv A outer s H vs Q E hr h=>?_)
 .obtain⟨A,s,rfl,_⟩:=h
  rfl
 .obtain⟨B,s,rfl,c,k⟩:=h
  refine⟨_,(aB (bA (i:=1) m6.nd rfl (Or.inl rfl) (jN (bB eF (aY (K:=K) rfl (pv 0) rfl) cB (bC _)) (aY (K:=K) rfl (pv 0) rfl) gK))
   (aH (bG (fj (aj (aY (K:=K) rfl (pv 0) rfl) (aj (pv 1) (aj (cL (bR (K:=K) rfl) (by rfl) Bt.fQ dN (aj (aY (K:=K) rfl (pv 0) rfl) aA)) (aj (cL (bR (K:=K) rfl) (by rfl) Bt.fQ dN (aj (aY (K:=K) rfl (pv 0) rfl) aA)) aA)))))))), ?_⟩
  refine fW (λσ H1=>σ=[some (.ref B.h),some (Nz s)]/\H1=H) (λD' hD' rt'=>?_) ?_
  .refine⟨_,Z,B.h,au,B.hx,_,_,Z,c.h,aG.cls,aG.iY,Z,Z,_,Z, ?_⟩
   refine cO (λq=>?_) (λq=>?_)
   .have hq:s.st=Str.ofString "waits" :=V.str.inj (aaO q)
    refine⟨_,Z,B.h,au,B.hx,_,_,Z,c.h,aG.cls,aG.rP,Z,hD' _ _ ⟨?_,Z⟩⟩;unfold Nz;rw[acM hq];rfl
   .have hq:¬s.st=Str.ofString "waits" :=λz=>q (aaL (by rw[z]))
    refine hD' _ _ ⟨?_,Z⟩;unfold Nz;rw[acK hq];rfl
  rintro σ H1 ⟨rfl,rfl⟩;refine⟨_,Z,B.h,au,B.hx,_,_,Z,c.h,aG.cls,aG.iY,Z,_,Z,_,Z,B.h,au,B.hx,_,_,Z,c.h,aG.cls,aG.iK,Z,B.b,_,Z,.inl (bH.of c.b),λb hb=>?_⟩;have sb:=aF (o:=HO.lst (s.bs.map V.int)) hb;have cb:=c.same sb;refine⟨_,Z,B.h,au,B.hx,_,_,Z,cb.h,aG.cls,aG.lN,Z,B.sy,_,Z,.inl (bH.of cb.y),λy hy=>?_⟩;have sy:=aF (o:=HO.lst (s.sy.map V.int)) hy;refine⟨(by show 4<=sizeLine;decide),λt ht=>?_⟩;have st:=aF (o:=HO.tup [V.str s.st,Nz s,V.ref b,V.ref y]) ht;refine k t _ ?_ ((sb.trans sy).trans st);have fy:H1 y=none:=sb.free hy;have ft:H1 t=none:=sb.free (sy.free ht);simp only[tZ,Dat];refine⟨t,_,Z,zx ft ak, ?_⟩;simp only[aP,Dat,and_true,true_and];refine⟨?_,gB (zx hb (st _ _ (sy _ _ ak))),gB (zx fy (st _ _ ak))⟩;unfold Nz;split<;>simp only[Dat]
noncomputable def wkD(S:gU):PyData:=MF S (Ft S)
noncomputable def Nm(CW CH:Addr)(K:PySem.W.Frag):Sp:=λvs H Q _=>∃(i:Nat) (τ:Tg) (W:u6) (S:gU),vs=[.ref W.o]/\jw CW CH i τ H W S /\ ∀(t:Addr)(H':Hp),Dat H' (.ref t) (wkD S)->Same H H'->Q (.ref t) H'
theorem jw.prog{CW CH:Addr}{i:Nat}{τ:Tg}{H:Hp}{W:u6}{S:gU}(w:jw CW CH i τ H W S):Dat H (.ref W.pg) (N8 S):=by
 have go:∀(rs:List Addr)(hs:List bI),rs.length=hs.length->(∀(k:Nat)(r:Addr)(s:bI),rs[k]? = some r->hs[k]? = some s->dO H r S.m s.rws)->aP H (rs.map V.ref) (hs.map λs=>rC s.rws):=by
  intro rs
  induction rs with
  | nil=>
    intro hs l _;cases hs with
    | nil=>simp only[List.map_nil,aP]
    | cons a b=>cases l
  | cons r rs ih=>
    intro hs l h;cases hs with
    | nil=>cases l
    | cons s hs=>
      simp only[List.map_cons,aP];obtain⟨ts,e1,e2,_⟩:=h 0 r s rfl rfl;exact⟨oM e1 e2,ih hs (by simpa using l) λk r' s' h1 h2=>h (k+1) r' s' h1 h2⟩
 simp only[N8,Dat];refine⟨W.pg,_,Z,w.pg, ?_⟩;simp only[aP,Dat,and_true,true_and];exact⟨W.L,_,Z,w.L,go W.rs S.hs w.rl λk r s h1 h2=>(w.rs k r s h1 h2).2⟩
theorem jw.yx{CW CH:Addr}{i:Nat}{τ:Tg}{H:Hp}{W:u6}{S:gU}(w:jw CW CH i τ H W S):∀s∈S.hs,∀r∈s.rws,Gy S.m r:=λs hs=>by
 obtain⟨k,hk⟩:=List.getElem?_of_mem hs;obtain⟨A,_,a⟩:=w.hand hk;obtain⟨ts,_,_,h,_⟩:=a.r;exact h
theorem Ye{aq au:Addr}{f:Addr}{fd:FuncData}(F:gD K "picture" "Works.picture" jo f fd)(aJ:cT K aq)(aG:eU K au)(yp:MethAt P w K mg base 1 au "picture" ["self"] (Gp au K))(yQ:MethAt P w K mg base 1 aq "cells" ["self"] (Ar aq au K))(fV:MethAt P w K mg base 1 aq "counts" ["self"] (nR aq au K))(Bt:pR mg):bO P w K mg base iy 2 f fd ["self"] (Nm aq au K):=by
 refine F.ok lK (λvs H Q E h=>?_) (λcdv A outer s H vs Q E hr h=>?_)
 .obtain⟨i,τ,W,S,rfl,_⟩:=h
  rfl
 .obtain⟨i,τ,W,S,rfl,w,k⟩:=h
  refine⟨_,(aB (mH (i:=1) rfl lK.nd rfl (Or.inl rfl) (N:=["one"]) (own:=["one"]) (caps:=[]) (bw.of (by kernel_rfl)) (cI (K:=K) rfl (aY (K:=K) rfl (pv 0) rfl)) (λ_ _ _ _=>(bJ (i:=0) (show List.Nodup (["one"]:List Str) by decide +kernel) rfl (Or.inl rfl))) (λ_ _ _ _=>dG) (λ_ _ _ _=>(cV yp aG.cls (hr.mono (by decide)) (pv 0))))
   (aH (bG (fj (aj (aY (K:=K) rfl (pv 0) rfl) (aj (cV yQ aJ.cls (hr.mono (by decide)) (pv 0)) (aj (pv 1) (aj (cV fV aJ.cls (hr.mono (by decide)) (pv 0)) aA)))))))), ?_⟩
  refine⟨_,Z,W.o,aq,W.dx,_,_,Z,w.o,aJ.cls,aJ.jY,Z,W.hl,Z,⟨_,bH.of w.hl⟩,λD hD=>?_⟩;refine LK (K:=K) (λj=>((S.hs[j]?).map tZ).getD .none) hD (bH.of w.hl) (by rw[aac,w.len];have:=w.hn;lia) (λj x H1 F hj s1 kF=>?_) (λH1 s1 d1=>?_)
  .rw[aah] at hj
   obtain⟨A,eA,rfl⟩:∃A,W.hd[j]? = some A/\x = .ref A.h:=by
    cases e:W.hd[j]? with
    | none=>rw[e] at hj;cases hj
    | some A=>rw[e] at hj;exact⟨A,Z,(aa6 hj).symm⟩
   have jl:j<S.hs.length:=by rw[←w.len];exact(aae.mp eA).1
   have es:S.hs[j]? = some S.hs[j]:=by simp[jl]
   have a:=(w.same s1).hd j A _ eA es;refine⟨_,Z,A.h,A.hx,_,Z,a.c.h,Z,A,_,Z,a.c,λt H2 d2 s2=>?_⟩;refine kF _ H2 s2 ?_;rw[es];exact d2
  have w1:=w.same s1;refine⟨_,Z,W.o,aq,W.dx,_,_,Z,w1.o,aJ.cls,aJ.pK,Z,_,Z,W.o,W.dx,_,Z,w1.o,Z,i,τ,W,S,Z,w1,λl2 H2 f2 e2 s2=>?_⟩;have w2:=w1.same s2;refine⟨_,Z,_,Z,W.o,W.dx,_,Z,w2.o,Z,i,τ,W,S,Z,w2,λl3 H3 f3 e3 s3=>?_⟩;have w3:=w2.same s3;refine⟨(by show 4<=sizeLine;decide),λt ht=>?_⟩;have st:=aF (o:=HO.tup [V.ref W.pg,V.ref l2,V.ref D,V.ref l3]) ht;have w4:=w3.same st;refine k t _ ?_ (((s1.trans s2).trans s3).trans st);have d4:=d1.same (((Ul _ _).trans (s2.trans s3)).trans st) _
  have eh:((List.range (W.hd.map λa=>V.ref a.h).length).map λj=>((S.hs[j]?).map tZ).getD .none)=S.hs.map tZ:=by
   rw[aac,w.len];refine List.ext_getElem? λn=>?_
   by_cases hn:n<S.hs.length
   .simp[hn]
   .simp[hn]
  rw[eh] at d4;unfold wkD MF;simp only[Dat];refine⟨t,_,Z,ak, ?_⟩;have d5:=w4.prog;simp only[aP,and_true];refine⟨d5,gB (st _ _ (s3 _ _ e2)),d4,gB (st _ _ e3)⟩
theorem PK(K:PySem.W.Frag)(C:Addr):PySem.W.kitOne K (.ref C) (.ref C)=some true:=by simp[PySem.W.kitOne]
noncomputable def wkE(S T:gU):Bool:=PyData.eqv (wkD S) (wkD T)
noncomputable def Nk(CW CH:Addr)(K:PySem.W.Frag):Sp:=λvs H Q _=>∃(i i':Nat) (τ τ':Tg) (W W':u6) (S S':gU),vs=[.ref W.o,.ref W'.o]/\jw CW CH i τ H W S/\jw CW CH i' τ' H W' S'/\gn S/\gn S' /\ ∀(H':Hp),Same H H'->Q (.bl (wkE S S')) H'
theorem Yd{aq au:Addr}{f:Addr}{fd:FuncData}(F:gD K "__eq__" "Works.__eq__" jG f fd)(aJ:cT K aq)(vA:IsO K mg aq "Works")(m_:MethAt P w K mg base 2 aq "picture" ["self"] (Nm aq au K))(Bt:pR mg):bO P w K mg base iy 3 f fd ["self","other"] (Nk aq au K):=by
 refine F.ok uV (λvs H Q E h=>?_) (λcdv A outer s H vs Q E hr h=>?_)
 .obtain⟨i,i',τ,τ',W,W',S,S',rfl,_⟩:=h
  rfl
 .obtain⟨i,i',τ,τ',W,W',S,S',rfl,w,w',g,g',k⟩:=h
  have uY:=hr.units;refine⟨_,(aH (bG (jt (aO (cD (K:=K) (cv:= .ref aq) (c:= .ref aq) rfl rfl) (by rfl) Bt.bK bF (aj (pv 1) (aj (g_ (v:= .ref aq) (by rfl) vA.bd rfl) aA))) (jr (dZ (Ua (K:=K) rfl uY) (cV m_ aJ.cls (hr.mono (by decide)) (pv 0)) (cV m_ aJ.cls (hr.mono (by decide)) (pv 1)) (bC _)))))), ?_⟩;refine⟨_,Z,_,_,true,Z,vA.ty w'.o aJ.cls,PK K _,true,Z, ?_⟩;refine fM ?_;refine⟨_,Z,W.o,W.dx,_,Z,w.o,Z,i,τ,W,S,Z,w,λt H1 d1 s1=>?_⟩;have w1:=w'.same s1;refine⟨_,Z,W'.o,W'.dx,_,Z,w1.o,Z,i',τ',W',S',Z,w1,λt' H2 d2 s2=>?_⟩;refine⟨_,_,d1.same s2 _,d2,Ib g w.yx,Ib g' w'.yx, ?_⟩;rw[acK aaY];exact k H2 (s1.trans s2)
theorem acg(a b c d:V):oN [a,b,c,d] none (some 2)=[a,b]:=QK _ 2
theorem acf(a b c d:V):oN [a,b,c,d] (some 2) none=[c,d]:=Fp _ 2
theorem X7{α:Type}(xs:List α)(h:xs.length=4):¬(HT.iz xs.length 0 none=0/\HT.iz xs.length xs.length (some 2)=xs.length):=by
 rw[h];decide
theorem X6{α:Type}(xs:List α)(h:xs.length=4):¬(HT.iz xs.length 0 (some 2)=0/\HT.iz xs.length xs.length none=xs.length):=by
 rw[h];decide
noncomputable def nt(H H':Hp):Hp:=λx=>match H' x with
 | some (.tup xs)=>some (.tup xs)
 | o=>match H x with
   | none=>o
   | some _=>none
theorem Yl{H H':Hp}{x:Addr}{xs:List V}(e:H' x=some (.tup xs)):nt H H' x=some (.tup xs):=by unfold nt;rw[e]
theorem V4{H H':Hp}{x:Addr}{o:HO}(n:H x=none)(e:H' x=some o):nt H H' x=some o:=by
 unfold nt;rw[e,n];cases o<;>rfl
theorem Yn{H H':Hp}{x:Addr}{o:HO}(e:nt H H' x=some o):H' x=some o/\((∃xs,o = .tup xs)\/H x=none):=by
 unfold nt at e;split at e
 .rename_i xs q
  cases e;exact⟨q,.inl ⟨_,Z⟩⟩
 .cases q:H x with
  | none=>rw[q] at e;exact⟨e,.inr rfl⟩
  | some u=>rw[q] at e;cases e
noncomputable def ni(τ:Tg)(H:Hp):Hp:=λx=>match H x with
 | some (.tup xs)=>some (.tup xs)
 | o=>if τ x=[0] then o else none
theorem nQ{τ:Tg}{H:Hp}{x:Addr}{xs:List V}(e:H x=some (.tup xs)):ni τ H x=some (.tup xs):=by unfold ni;rw[e]
theorem qP{τ:Tg}{H:Hp}{x:Addr}{o:HO}(t:τ x=[0])(e:H x=some o):ni τ H x=some o:=by
 unfold ni;rw[e];cases o<;>simp only[t,if_true]<;>rfl
theorem vJ{τ:Tg}{H:Hp}{x:Addr}{o:HO}(e:ni τ H x=some o):H x=some o/\((∃xs,o = .tup xs)\/τ x=[0]):=by
 unfold ni at e;split at e
 .rename_i xs q
  cases e;exact⟨q,.inl ⟨_,Z⟩⟩
 .by_cases t:τ x=[0]
  .rw[acM t] at e;exact⟨e,.inr t⟩
  .rw[acK t] at e;cases e
theorem pA(τ:Tg)(H:Hp):Same (ni τ H) H:=λx o e=>(vJ e).1
theorem lZ{i:Nat}{τ τ':Tg}{H H':Hp}(q:Mv i τ H τ' H'):Same (ni τ H) (ni τ' H'):=λx o e=>by
 obtain⟨e,⟨xs,rfl⟩|t⟩:=vJ e
 .exact nQ (q.tup _ _ e)
 .have:=q.keep x o e (.inl t)
  exact qP (this.2.trans t) this.1
theorem gY{i:Nat}{τ:Tg}{H H':Hp}(q:nu i τ H H')(i0:i≠0):Same (ni τ H) (ni τ H'):=λx o e=>by
 obtain⟨e,⟨xs,rfl⟩|t⟩:=vJ e
 .exact nQ (q.tup _ _ e)
 .exact qP t (q.keep x o e (by rw[t];intro z;exact i0 (aa6 z).symm))
noncomputable def Mp(τ:Tg)(H H':Hp):Tg:=λx=>match H x with
 | some _=>τ x
 | none=>match H' x with
   | some _=>[0]
   | none=>τ x
theorem Sd{τ:Tg}{H H':Hp}{x:Addr}{o:HO}(e:H x=some o):Mp τ H H' x=τ x:=by unfold Mp;rw[e]
theorem Sg{τ:Tg}{H H':Hp}{x:Addr}{o:HO}(n:H x=none)(e:H' x=some o):Mp τ H H' x=[0]:=by unfold Mp;rw[n];simp only[e]
theorem WW{τ:Tg}{H H':Hp}(k:Same H H')(u:j8 τ H):j8 (Mp τ H H') H':=λx e=>by
 have n:=k.free e;unfold Mp;rw[n];simp only[e];exact u x n
theorem Ym{τ:Tg}{H H':Hp}:Same (nt H H') (ni (Mp τ H H') H'):=λx o e=>by
 obtain⟨e,⟨xs,rfl⟩|n⟩:=Yn e
 .exact nQ e
 .exact qP (Sg n e) e
noncomputable abbrev Rb:=Int×Int
noncomputable def pD(x:Rb):PyData:= .tuple [.int x.1,.int x.2]
theorem xq(x:Rb):C_ (pD x)=true:=Z
theorem Vd{H:Hp}{t:Addr}{x:Rb}(h:H t=some (.tup [.int x.1,.int x.2])):Dat H (.ref t) (pD x):=by
 simp only[pD,Dat];exact⟨t,_,Z,h,by simp only[aP,Dat,and_self]⟩
theorem Fj{H:Hp}{v:V}{x:Rb}(h:Dat H v (pD x)):∃t,v = .ref t/\H t=some (.tup [.int x.1,.int x.2]):=by
 simp only[pD,Dat] at h;obtain⟨t,vs,e,q,d⟩:=h
 match vs,d with
 | [a,b],d=>
   simp only[aP,Dat,and_true] at d;obtain⟨rfl,rfl⟩:=d;exact⟨t,e,q⟩
 | [],d=>simp only[aP] at d
 | [_],d=>simp only[aP,and_false] at d
 | _::_::_::_,d=>simp only[aP,and_false] at d
noncomputable def uT(H:Hp)(a:Addr)(ps:List Rb):Prop:=∃vs,H a=some (.lst vs)/\aP H vs (ps.map pD)
theorem uT.same{H H':Hp}{a:Addr}{ws:List Rb}(h:uT H a ws)(k:Same H H'):uT H' a ws:=by
 obtain⟨vs,e,d⟩:=h;exact⟨vs,k _ _ e,aP.keep k.tups _ (cZ _ xq ws) d⟩
theorem Tv{H:Hp}{vs:List V}{ps:List Rb}{i:Nat}{v:V}(d:aP H vs (ps.map pD))(e:vs[i]? = some v):∃x t,ps[i]? = some x/\v = .ref t/\H t=some (.tup [.int x.1,.int x.2]):=by
 obtain⟨q,eq,dq⟩:=d.get e;rw[aah] at eq;cases ex:ps[i]? with
 | none=>rw[ex] at eq;cases eq
 | some x=>
   rw[ex] at eq;cases eq;obtain⟨t,rfl,ht⟩:=Fj dq;exact⟨x,t,Z,Z,ht⟩
noncomputable def ft(x:Nt):Rb:=(x.1,x.2.1)
noncomputable def cJ(ns:List Nt)(o m:Int):List Rb:=(ns.filter λx=>decide (x.2.2.1=o)&&decide (x.2.2.2=m)).map ft
theorem yM(ns:List Nt)(x:Nt)(o m:Int):cJ (ns++[x]) o m=cJ ns o m++(if x.2.2.1=o/\x.2.2.2=m then [ft x] else []):=by
 unfold cJ;rw[List.filter_append,abo];congr 1
 by_cases e:x.2.2.1=o/\x.2.2.2=m
 .simp[e.1,e.2]
 .rw[acK e]
  by_cases e1:x.2.2.1=o
  .have e2:¬x.2.2.2=m:=λz=>e ⟨e1,z⟩
   simp[e2]
  .simp[e1]
noncomputable def jT(H:Hp)(f:Addr)(ns:List Nt):Prop:=∃kvs,H f=some (.dT kvs) /\ ∀o m:Int,(eV kvs [Sum.inl o,Sum.inl m]=none/\cJ ns o m=[]) \/ ∃l,eV kvs [Sum.inl o,Sum.inl m]=some (.ref l)/\uT H l (cJ ns o m)
theorem jT.same{H H':Hp}{f:Addr}{ns:List Nt}(h:jT H f ns)(k:Same H H'):jT H' f ns:=by
 obtain⟨kvs,e,q⟩:=h;refine⟨kvs,k _ _ e,λo m=>?_⟩;rcases q o m with z|⟨l,e1,e2⟩
 .exact .inl z
 .exact .inr ⟨l,e1,e2.same k⟩
noncomputable def DG(K:PySem.W.Frag):Sp:=λvs H Q _=>∃(t c a:Addr) (cs:List Int) (ns:List Nt),vs=[.ref t]/\RecAt H t c a cs ns/\yh cs ns /\ ∀(f:Addr)(H':Hp),H f=none->jT (nt H H') f ns->Same H H'->Q (.ref f) H'
theorem KJ{f:Addr}{fd:FuncData}(F:gD K "firsts_of" "firsts_of" nW f fd):bO P w K mg base iy 1 f fd ["record"] (DG K):=by
 refine F.ok mj (λvs H Q E h=>?_) (λcdv A outer s H vs Q E hr h=>?_)
 .obtain⟨t,c,a,cs,ns,rfl,_⟩:=h
  rfl
 .obtain⟨t,c,a,cs,ns,rfl,R,ok,k⟩:=h
  have hu:=Wf hr;obtain⟨ht,hc,nvs,ha,dn⟩:=id R;have nvl:nvs.length=ns.length:=by rw[dn.length,aac]
  have nl:=ok.2.1
  refine⟨_,(aB (bA (i:=1) mj.nd rfl (Or.inl rfl) Oi)
   (aB (mJ PassesOwn.never rfl (cI (K:=K) rfl (aQ (aU (K:=K) rfl) (pv 0) aD (λ_ _=>rfl))) (bJ (i:=2) mj.nd rfl (Or.inl rfl))
   (aH (cF (dB (K:=K) rfl (Oh hu (pv 1) (lM (Jm (K:=K) rfl) (pv 2) (pH aD) pI) (cR aA) ⟨Z,Z,Z,Z⟩) (aj (lM (Jm (K:=K) rfl) (pv 2) pI (pH aD)) aA)))))
   (aH (bG (pv 1))))), ?_⟩
  intro f hf;have s1:=aF (o:=HO.dT []) hf;refine⟨_,Z,_,_,_,_,Z,Z,cH.of (s1 _ _ ht),Z,a,Z,⟨_,bH.of (s1 _ _ ha)⟩, ?_⟩
  refine oK (K:=K) (a:=a) (xs:=nvs) (λi σ H2=>∃(x:Option V) (kvs:List (List Key×V)),σ=[some (.ref t),some (.ref f),x]/\Same H H2/\H2 f=some (.dT kvs)/\kvs.length<=i /\
   (∀o m:Int,(eV kvs [Sum.inl o,Sum.inl m]=none/\cJ (ns.take i) o m=[]) \/ ∃l,eV kvs [Sum.inl o,Sum.inl m]=some (.ref l)/\uT H2 l (cJ (ns.take i) o m)/\H l=none/\l≠f) /\
   (∀(o m o' m':Int) l,eV kvs [Sum.inl o,Sum.inl m]=some (.ref l)->eV kvs [Sum.inl o',Sum.inl m']=some (.ref l)->o=o'/\m=m'))
   ⟨none,[],Z,s1,ak,Nat.zero_le _,λo m=> .inl ⟨Z,Z⟩,λo m o' m' l h=>by cases h⟩ (λi σ H2 _ ⟨_,_,_,sm,_⟩=>bH.of (sm _ _ ha)) ?_ ?_
  .rintro i v σ H2 hi ⟨x0,kvs,rfl,sm,hF,kl,hval,inj⟩
   obtain⟨x,w,ex,rfl,hx⟩:=vh dn hi;have il:i<nvs.length:=(aae.mp hi).1;have hx2:=sm _ _ hx;have tk:ns.take (i+1)=ns.take i++[x]:=by rw[abU,ex];rfl
   refine Fe (λv H3=>∃l BP,v = .ref l/\Same H H3/\(∀a xs,H2 a=some (HO.tup xs)->H3 a=some (HO.tup xs))/\H3 f=some (.dT BP)/\BP.length<=i+1/\eV BP [Sum.inl x.2.2.1,Sum.inl x.2.2.2]=some (.ref l) /\
    (∀o m:Int,(eV BP [Sum.inl o,Sum.inl m]=none/\cJ (ns.take i) o m=[]) \/ ∃l,eV BP [Sum.inl o,Sum.inl m]=some (.ref l)/\uT H3 l (cJ (ns.take i) o m)/\H l=none/\l≠f) /\
    (∀(o m o' m':Int) l,eV BP [Sum.inl o,Sum.inl m]=some (.ref l)->eV BP [Sum.inl o',Sum.inl m']=some (.ref l)->o=o'/\m=m')) (λQ' kQ=>?_) ?_
   .refine⟨_,Z,f,Z,.inr ⟨_,.inl hF⟩,_,Z,_,Z,_,_,Z,cH.of hx2,X6 _ rfl,λp1 hp1=>?_⟩
    have c2:oN (nV x) (some 2) none=[.int x.2.2.1,.int x.2.2.2]:=acf ..;rw[c2];have Mq:=aF (o:=HO.tup [V.int x.2.2.1,V.int x.2.2.2]) hp1;refine⟨(by show 0<=sizeLine;decide),λe he=>?_⟩;have Xi:=aF (o:=HO.lst []) he;have s12:=Mq.trans Xi;refine⟨kvs,[Sum.inl x.2.2.1,Sum.inl x.2.2.2],p1,s12 _ _ hF,Z,Xi _ _ ak,by rw[sizeLine_eq];lia,λv hv=>?_,λhn=>?_⟩
    .rcases hval x.2.2.1 x.2.2.2 with z|⟨l,e1,e2,e3,e4⟩
     .rw[z.1] at hv;cases hv
     .rw[e1] at hv
      cases hv;refine kQ _ _ ⟨l,kvs,Z,sm.trans s12,s12.tups,s12 _ _ hF,by lia,e1,λo m=>?_,inj⟩;rcases hval o m with z|⟨l',f1,f2,f3,f4⟩
      .exact .inl z
      .exact .inr ⟨l',f1,f2.same s12,f3,f4⟩
    .have kF:Kp f (upd (upd H2 p1 (.tup [V.int x.2.2.1,V.int x.2.2.2])) e (.lst [])) (upd (upd (upd H2 p1 (.tup [V.int x.2.2.1,V.int x.2.2.2])) e (.lst [])) f (.dT (putK kvs [Sum.inl x.2.2.1,Sum.inl x.2.2.2] (.ref e)))):=Kp.set
     have nef:e≠f:=λz=>by rw[←z] at hF;rw[Mq _ _ hF] at he;cases he
     have hFe:(upd (upd H2 p1 (.tup [V.int x.2.2.1,V.int x.2.2.2])) e (.lst [])) f=some (.dT kvs):=s12 _ _ hF;have he2:H2 e=none:=Mq.free he;have tF:∀a xs,(upd (upd H2 p1 (.tup [V.int x.2.2.1,V.int x.2.2.2])) e (.lst [])) a=some (HO.tup xs)->(upd (upd (upd H2 p1 (.tup [V.int x.2.2.1,V.int x.2.2.2])) e (.lst [])) f (.dT (putK kvs [Sum.inl x.2.2.1,Sum.inl x.2.2.2] (.ref e)))) a=some (HO.tup xs):=λa xs h=>kF _ _ h (cY h hFe (by intro z;cases z))
     have neq:∀o m:Int,([Sum.inl o,Sum.inl m]:List Key)=[Sum.inl x.2.2.1,Sum.inl x.2.2.2]↔o=x.2.2.1/\m=x.2.2.2:=λo m=>by
      constructor
      .intro z;injection z with z1 z2;injection z2 with z2 _;exact⟨Sum.inl.inj z1,Sum.inl.inj z2⟩
      .rintro⟨rfl,rfl⟩;rfl
     refine kQ _ _ ⟨e,_,Z,λb o eb=>kF _ _ ((sm.trans s12) _ _ eb) (ao eb hf),λa xs h=>tF _ _ (s12.tups _ _ h),ak, ?_,by rw[vG,acM rfl],λo m=>?_,λo m o' m' l h1 h2=>?_⟩
     .exact acH (uK ..) (by lia)
     .rw[vG]
      by_cases q:o=x.2.2.1/\m=x.2.2.2
      .rw[acM ((neq o m).mpr q)]
       obtain⟨rfl,rfl⟩:=q;refine .inr ⟨e,Z, ?_,sm.free he2,nef⟩;rcases hval x.2.2.1 x.2.2.2 with z|⟨l,e1,_⟩
       .rw[z.2]
        exact⟨[],kF _ _ ak nef,by simp[aP]⟩
       .rw[e1] at hn;cases hn
      .rw[acK λz=>q ((neq o m).mp z)]
       rcases hval o m with z|⟨l',f1,f2,f3,f4⟩
       .exact .inl z
       .refine .inr ⟨l',f1, ?_,f3,f4⟩
        obtain⟨ws,g1,g2⟩:=f2.same s12;exact⟨ws,kF _ _ g1 f4,aP.keep tF _ (cZ _ xq _) g2⟩
     .rw[vG] at h1 h2
      have old:∀o m:Int,eV kvs [Sum.inl o,Sum.inl m]=some (V.ref e)->False:=λo m h=>by
       rcases hval o m with z|⟨l',f1,⟨ws,g1,_⟩,f3,f4⟩
       .rw[z.1] at h;cases h
       .rw[f1] at h
        cases h;rw[he2] at g1;cases g1
      by_cases q:o=x.2.2.1/\m=x.2.2.2
      .rw[acM ((neq o m).mpr q)] at h1
       cases h1
       by_cases q':o'=x.2.2.1/\m'=x.2.2.2
       .exact⟨q.1.trans q'.1.symm,q.2.trans q'.2.symm⟩
       .rw[acK λz=>q' ((neq o' m').mp z)] at h2
        exact(old _ _ h2).elim
      .rw[acK λz=>q ((neq o m).mp z)] at h1
       by_cases q':o'=x.2.2.1/\m'=x.2.2.2
       .rw[acM ((neq o' m').mpr q')] at h2
        cases h2;exact(old _ _ h1).elim
       .rw[acK λz=>q' ((neq o' m').mp z)] at h2
        exact inj _ _ _ _ _ h1 h2
   .rintro v H3 ⟨l,BP,rfl,sm3,tp3,hF3,kl3,hkey,Wd,abr⟩
    obtain⟨z0,PL,hl0,nlf⟩:∃z0:True,uT H3 l (cJ (ns.take i) x.2.2.1 x.2.2.2)/\H l=none/\l≠f:=by
     rcases Wd x.2.2.1 x.2.2.2 with z|⟨l',f1,f2,f3,f4⟩
     .rw[z.1] at hkey;cases hkey
     .rw[f1] at hkey
      cases hkey;exact⟨trivial,f2,f3,f4⟩
    obtain⟨ws,hl3,dl3⟩:=id PL;refine⟨.inl ⟨Z,_,bH.of hl3⟩,_,Z,_,Z,_,_,Z,cH.of (tp3 _ _ hx2),X7 _ rfl,λp2 hp2=>?_⟩;have c1:oN (nV x) none (some 2)=[.int x.1,.int x.2.1]:=acg ..;rw[c1];have sp:=aF (o:=HO.tup [V.int x.1,V.int x.2.1]) hp2
    have wl:ws.length<=ns.length:=by
     rw[dl3.length,aac];unfold cJ;rw[aac];have a1:=List.length_filter_le (λy:Nt=>decide (y.2.2.1=x.2.2.1)&&decide (y.2.2.2=x.2.2.2)) (ns.take i);have a2:(ns.take i).length<=ns.length:=by rw[ab_];lia
     lia
    refine⟨l,ws,_,Z,Z,sp _ _ hl3,by rw[sizeLine_eq];lia, ?_⟩;have kL:Kp l (upd H3 p2 (.tup [V.int x.1,V.int x.2.1])) (upd (upd H3 p2 (.tup [V.int x.1,V.int x.2.1])) l (.lst (ws++[V.ref p2]))):=Kp.set;have tL:=kL.tups (sp _ _ hl3);refine⟨_,BP,Z,λb o eb=>kL _ _ (sp _ _ (sm3 _ _ eb)) (ao eb hl0),kL _ _ (sp _ _ hF3) nlf.symm,kl3,λo m=>?_,abr⟩;rw[tk,yM]
    by_cases q:x.2.2.1=o/\x.2.2.2=m
    .obtain⟨rfl,rfl⟩:=q
     rw[acM ⟨Z,Z⟩];refine .inr ⟨l,hkey,⟨_,ak, ?_⟩,hl0,nlf⟩;rw[abo];exact aP.append (aP.keep (λa xs h=>tL _ _ (sp.tups _ _ h)) _ (cZ _ xq _) dl3) (QD (Vd (x:=ft x) (tL _ _ ak)))
    .rw[acK q,List.append_nil]
     rcases Wd o m with z|⟨l',f1,f2,f3,f4⟩
     .exact .inl z
     .have nll:l'≠l:=λz=>by
       subst z;obtain⟨e1,e2⟩:=abr _ _ _ _ _ f1 hkey;exact q ⟨e1.symm,e2.symm⟩
      obtain⟨us,g1,g2⟩:=f2;exact .inr ⟨l',f1,⟨us,kL _ _ (sp _ _ g1) nll,aP.keep (λa xs h=>tL _ _ (sp.tups _ _ h)) _ (cZ _ xq _) g2⟩,f3,f4⟩
  .rintro σ H2 ⟨x0,kvs,rfl,sm,hF,kl,hval,inj⟩
   rw[nvl,abQ] at hval;refine⟨_,Z,k f H2 hf ⟨kvs,V4 hf hF,λo m=>?_⟩ sm⟩;rcases hval o m with z|⟨l,f1,⟨ws,g1,g2⟩,hl0,_⟩
   .exact .inl z
   .exact .inr ⟨l,f1,ws,V4 hl0 g1,aP.keep (λa xs e=>Yl e) _ (cZ _ xq _) g2⟩
noncomputable def Dy(K:PySem.W.Frag):Sp:=λvs H Q _=>∃(t:Addr) (x:Nt),vs=[.ref t]/\H t=some (.tup (nV x)) /\ ∀H',Same H H'->Q (.bl (!decide (x.1=x.2.2.1))) H'
theorem GZ{f:Addr}{fd:FuncData}(F:gD K "is_note" "is_note" tR f fd)(qJ:FnAt P w K mg base 1 "is_whole" ["value"] (Xf K))(Bt:pR mg):bO P w K mg base iy 2 f fd ["value"] (Dy K):=by
 refine F.ok Gs (λvs H Q E h=>?_) (λcdv A outer s H vs Q E hr h=>?_)
 .obtain⟨t,x,rfl,_⟩:=h
  rfl
 .obtain⟨t,x,rfl,ht,k⟩:=h
  have uY:=hr.units
  refine⟨_,(aB (cA (PW.pt (rE (gq (dR (aO (cD (K:=K) (cv:= .ty "tuple") (c:= .type "tuple") rfl rfl) (by rfl) Bt.bK bF (aj (pv 0) (aj (dH (v:= .ty "tuple") (by rfl) Bt.vq rZ rfl) aA))))) (oh (bB rM (aO (aW (K:=K) rfl) (by rfl) Bt.d_ cQ (aj (pv 0) aA)) aD (bC _))))) (aH (bG oA)) bL)
   (aH (bG (jt (aO (gJ (K:=K) rfl rfl) (by rfl) Bt.J1 Cr (aj (dY rfl (N:=["number"]) (own:=["number"]) (caps:=[]) (bw.of (by kernel_rfl)) (TF (K:=K) rfl (pv 0)) (λ_ _ _ _=>(bJ (i:=0) (show List.Nodup (["number"]:List Str) by decide +kernel) rfl (Or.inl rfl))) (λ_ _ _ _=>dG) (λ_ _ _ _=>(bT qJ (hr.mono (by decide)) (by rfl) (aj (pv 0) aA)))) aA)) (jr (dZ rM (aQ (aU (K:=K) rfl) (pv 0) aD (λ_ _=>rfl)) (aQ (aU (K:=K) rfl) (pv 0) aD (λ_ _=>rfl)) (bC _))))))), ?_⟩
  refine⟨_,Z,_,_,true,Z,.tup ht,uW K,true,Z, ?_⟩;refine dU ?_;refine⟨_,Z,t,_,Z,.inr (cH.of ht),Z,_,Z, ?_⟩;refine zH (by rfl) ?_;refine⟨_,Z,t,Z,⟨_,cH.of ht⟩,λD hD=>?_⟩;refine Lx (K:=K) (λi=>some (.bl true)) hD ht (by show 4<=100000;decide) (λi v H2 G F hi s2 kG kF=>?_) (λH2 s2 e2=>?_)
  .obtain⟨z,rfl⟩:∃z,v=V.int z:=by
    have hm:=aaK hi;simp only[nV,List.mem_cons,List.not_mem_nil,or_false] at hm;rcases hm with rfl|rfl|rfl|rfl<;>exact⟨_,rfl⟩
   exact⟨_,Z,z,Z,kF _ H2 (Same.refl _) rfl⟩
  .refine⟨D,[true,true,true,true],Z,bH.of e2,true,Z, ?_⟩
   refine fM ?_;refine⟨_,Z,_,_,_,_,Z,Z,cH.of (s2 _ _ ht),Z,_,Z,_,_,_,_,Z,Z,cH.of (s2 _ _ ht),Z,Z, ?_⟩
   have e:(!decide (V.int x.1=V.int x.2.2.1))=(!decide (x.1=x.2.2.1)):=by
    by_cases q:x.1=x.2.2.1
    .simp[q]
    .simp[q]
   show Q (.bl (!decide (V.int x.1=V.int x.2.2.1))) H2;rw[e];exact k H2 s2
noncomputable def zm(K:PySem.W.Frag):Sp:=λvs H Q _=>∃(c t:Addr) (cs:List Int) (x:Nt),vs=[.ref c,.ref t]/\H c=some (.lst (cs.map V.int))/\H t=some (.tup (nV x))/\FT cs x/\yV cs /\ ∀H',Same H H'->Q (.bl true) H'
theorem yG{f:Addr}{fd:FuncData}(F:gD K "is_between" "is_between" mC f fd)(dW:FnAt P w K mg base 2 "is_below" ["value","count"] (qW K))(Ml:FnAt P w K mg base 2 "is_note" ["value"] (Dy K))(Bt:pR mg):bO P w K mg base iy 3 f fd ["counts","note"] (zm K):=by
 refine F.ok yE (λvs H Q E h=>?_) (λcdv A outer s H vs Q E hr h=>?_)
 .obtain⟨c,t,cs,x,rfl,_⟩:=h
  rfl
 .obtain⟨c,t,cs,x,rfl,hc,ht,ok,zR,k⟩:=h
  have uY:=hr.units;obtain⟨⟨h0,h1⟩,⟨k0,k1⟩,⟨o0,o1⟩,⟨m0,m1⟩,hne⟩:=id ok
  refine⟨_,(aB (cA (PW.pt (rE (gq (dR (bT Ml (hr.mono (by decide)) (by rfl) (aj (pv 1) aA)))) (rE (gq (dR (bT dW (hr.mono (by decide)) (by rfl) (aj (aQ (aU (K:=K) rfl) (pv 1) aD (λ_ _=>rfl)) (aj (aO (aW (K:=K) rfl) (by rfl) Bt.d_ cQ (aj (pv 0) aA)) aA))))) (oh (gq (dR (bT dW (hr.mono (by decide)) (by rfl) (aj (aQ (aU (K:=K) rfl) (pv 1) aD (λ_ _=>rfl)) (aj (aO (aW (K:=K) rfl) (by rfl) Bt.d_ cQ (aj (pv 0) aA)) aA))))))))) (aH (bG oA)) bL)
   (aH (bG (jt (bT dW (hr.mono (by decide)) (by rfl) (aj (aQ (aU (K:=K) rfl) (pv 1) aD (λ_ _=>rfl)) (aj (aQ (aZ (K:=K) rfl) (pv 0) (aQ (aU (K:=K) rfl) (pv 1) aD (λ_ _=>rfl)) (λ_ _=>rfl)) aA))) (jr (bT dW (hr.mono (by decide)) (by rfl) (aj (aQ (aU (K:=K) rfl) (pv 1) aD (λ_ _=>rfl)) (aj (aQ (aZ (K:=K) rfl) (pv 0) (aQ (aU (K:=K) rfl) (pv 1) aD (λ_ _=>rfl)) (λ_ _=>rfl)) aA)))))))), ?_⟩
  refine⟨_,Z,t,x,Z,ht,λH1 s1=>⟨_,Z, ?_⟩⟩;rw[show (!decide (x.1=x.2.2.1))=true by simp[hne]];refine dU ?_;have hc1:=s1 _ _ hc;have ht1:=s1 _ _ ht;refine⟨_,Z,_,_,_,_,Z,Z,cH.of ht1,Z,_,Z,c,_,Z,.inl (bH.of hc1),_,_,Z,_,Z, ?_⟩;rw[show decide (uO x.1 (cs.map V.int).length)=true by rw[aac];simp[uO,h0,h1]];refine dU ?_;refine⟨_,Z,_,_,_,_,Z,Z,cH.of ht1,Z,_,Z,c,_,Z,.inl (bH.of hc1),_,_,Z,_,Z, ?_⟩;rw[show decide (uO x.2.2.1 (cs.map V.int).length)=true by rw[aac];simp[uO,o0,o1]];refine dU ?_;have g1:=(zR.gI x.1).1;have g2:=(zR.gI x.2.2.1).1;have e1:gI cs x.1=((gI cs x.1).toNat:Int):=by lia
  have e2:gI cs x.2.2.1=((gI cs x.2.2.1).toNat:Int):=by lia
  refine⟨_,Z,_,_,_,_,Z,Z,cH.of ht1,Z,_,Z,_,Z,_,_,_,_,Z,Z,cH.of ht1,Z,_,_,_,_,Z,Z,bH.of hc1,gO h0 h1,x.2.1,(gI cs x.1).toNat,by rw[←e1];rfl,_,Z, ?_⟩;rw[aaL (show uO x.2.1 (gI cs x.1).toNat from ⟨k0,by lia⟩)];refine fM ?_;refine⟨_,Z,_,_,_,_,Z,Z,cH.of ht1,Z,_,Z,_,Z,_,_,_,_,Z,Z,cH.of ht1,Z,_,_,_,_,Z,Z,bH.of hc1,gO o0 o1,x.2.2.2,(gI cs x.2.2.1).toNat,by rw[←e2];rfl, ?_⟩;rw[aaL (show uO x.2.2.2 (gI cs x.2.2.1).toNat from ⟨m0,by lia⟩)];exact k H1 s1
noncomputable def DK(K:PySem.W.Frag):Sp:=λvs H Q _=>∃(t c a:Addr) (cs:List Int) (ns:List Nt),vs=[.ref t]/\RecAt H t c a cs ns/\yh cs ns /\ ∀H',Same H H'->Q .non H'
theorem Qp(n:Nat)(v:V):(List.range n).filterMap (λ_=>some v)=List.replicate n v:=by
 induction n with
 | zero=>rfl
 | succ n ih=>rw[dJ,ih,List.replicate_succ'];rfl
theorem wJ{f:Addr}{fd:FuncData}(F:gD K "check_notes" "check_notes" kW f fd)(CQ:FnAt P w K mg base 3 "is_between" ["counts","note"] (zm K))(Bt:pR mg):bO P w K mg base iy 4 f fd ["record"] (DK K):=by
 refine F.ok vR (λvs H Q E h=>?_) (λcdv A outer s H vs Q E hr h=>?_)
 .obtain⟨t,c,a,cs,ns,rfl,_⟩:=h
  rfl
 .obtain⟨t,c,a,cs,ns,rfl,⟨ht,hc,hN⟩,ok,k⟩:=h
  have uY:=hr.units;obtain⟨vs,ha,dv⟩:=id hN;have vl:vs.length=ns.length:=by rw[dv.length,aac]
  have nl:=ok.2.1;refine⟨_,(aH (cA (gq (dR (aO (gJ (K:=K) rfl rfl) (by rfl) Bt.J1 Cr (aj (dY rfl (N:=["note","record"]) (own:=["note"]) (caps:=[0]) (bw.of (by kernel_rfl)) (cI (K:=K) rfl (aQ (aU (K:=K) rfl) (pv 0) aD (λ_ _=>rfl))) (λ_ _ _ _=>(bJ (i:=0) (show List.Nodup (["note","record"]:List Str) by decide +kernel) rfl (Or.inl rfl))) (λ_ _ _ _=>dG) (λ_ _ _ _=>(bT CQ (hr.mono (by decide)) (by rfl) (aj (aQ (aU (K:=K) rfl) (pv 1) aD (λ_ _=>rfl)) (aj (pv 0) aA))))) aA)))) (aH DX) bL)), ?_⟩;refine⟨_,Z,_,_,_,_,Z,Z,cH.of ht,Z,a,Z,⟨_,bH.of ha⟩,λD hD=>?_⟩;refine lU (K:=K) (λi=>some (.bl true)) hD (bH.of ha) (by lia) (λi v H2 G F hi s2 kG kF=>?_) (λH2 s2 e2=>?_)
  .obtain⟨x,q,ex,rfl,hx⟩:=vh dv hi
   exact⟨_,Z,_,_,_,_,Z,Z,cH.of (s2 _ _ ht),Z,_,Z,c,q,cs,x,Z,s2 _ _ hc,s2 _ _ hx,ok.2.2 x (aaK ex),ok.1,λH3 s3=>kF _ H3 s3 rfl⟩
  .rw[Qp] at e2
   refine⟨D,List.replicate vs.length true,Z,bH.of (by rw[e2,List.map_replicate]),_,Z, ?_⟩;rw[show (List.replicate vs.length true).all id=true by simp];refine dU ?_;exact k H2 s2
noncomputable def yu(cs ds:List Int):Prop:=ds.length=cs.length /\ ∀i:Int,0<=i->i<cs.length->0<=gI ds i/\gI ds i<=gI cs i
noncomputable def VL(K:PySem.W.Frag):Sp:=λvs H Q _=>∃(d t:Addr) (ds:List Int) (h k:Int),vs=[.ref d,.ref t]/\H d=some (.lst (ds.map V.int))/\H t=some (.tup [.int h,.int k])/\0<=h/\h<ds.length/\Q (.bl (decide (k<gI ds h))) H
theorem Yi{f:Addr}{fd:FuncData}(F:gD K "has" "has" Nv f fd):bO P w K mg base iy 1 f fd ["done","touch"] (VL K):=by
 refine F.ok Xn (λvs H Q E h=>?_) (λcdv A outer s H vs Q E hr h=>?_)
 .obtain⟨d,t,ds,h,k,rfl,_⟩:=h
  rfl
 .obtain⟨d,t,ds,h,k,rfl,hd,ht,h0,h1,q⟩:=h
  refine⟨_,(aH (bG (dZ uI (aQ (aU (K:=K) rfl) (pv 1) aD (λ_ _=>rfl)) (aQ (aZ (K:=K) rfl) (pv 0) (aQ (aU (K:=K) rfl) (pv 1) aD (λ_ _=>rfl)) (λ_ _=>rfl)) (bC _)))), ?_⟩;exact⟨_,Z,_,_,_,_,Z,Z,cH.of ht,Z,_,Z,_,Z,_,_,_,_,Z,Z,cH.of ht,Z,_,_,_,_,Z,Z,bH.of hd,gO h0 h1,_,_,Z,Z,q⟩
theorem Ls{α:Type}{H:Hp}{f:α->PyData}{ys zs:List V}(p:zs.Perm ys):∀{ns:List α},aP H ys (ns.map f) -> ∃ms:List α,aP H zs (ms.map f)/\ms.Perm ns:=by
 induction p with
 | nil=>intro ns d;exact⟨ns,d,.refl _⟩
 | cons x p ih=>
   intro ns d;cases ns with
   | nil=>simp only[List.map_nil,aP] at d
   | cons n ns=>
     simp only[List.map_cons,aP] at d;obtain⟨ms,d',p'⟩:=ih d.2;exact⟨n::ms,by simp only[List.map_cons,aP];exact⟨d.1,d'⟩,.cons _ p'⟩
 | swap x y l=>
   intro ns d
   match ns,d with
   | [],d=>simp only[List.map_nil,aP] at d
   | [_],d=>simp only[List.map_cons,List.map_nil,aP,and_false] at d
   | a::b::ns,d=>
     simp only[List.map_cons,aP] at d;exact⟨b::a::ns,by simp only[List.map_cons,aP];exact⟨d.2.1,d.1,d.2.2⟩,.swap _ _ _⟩
 | trans p q ih1 ih2=>
   intro ns d;obtain⟨ms,d1,p1⟩:=ih2 d;obtain⟨ks,d2,p2⟩:=ih1 d1;exact⟨ks,d2,p2.trans p1⟩
theorem Np{K:PySem.W.Frag}{H:Hp}{p:Addr}{ns:List Nt}{Q:VK}(N:m9 H p ns)(k:∀l ns' H',H l=none->m9 H' l ns'->ns'.Perm ns->Same H H'->Q (.ref l) H'):GC K [.ref p] H Q:=by
 obtain⟨ys,hp,d⟩:=N;refine⟨p,ys,Z,bH.of hp,λy hy=>?_,λl zs hl pz=>?_⟩
 .obtain⟨i,hi,e⟩:=acC hy
  obtain⟨x,t,ex,ev,ht⟩:=vh d (i:=i) (v:=y) (by rw[aad hi,e]);exact⟨t,[x.1,x.2.1,x.2.2.1,x.2.2.2],ev,cH.of ht,by show 1<=4;decide⟩
 .have sm:=aF (o:=HO.lst zs) hl
  obtain⟨ms,d1,p1⟩:=Ls pz d;exact k l ms _ hl ⟨zs,ak,aP.keep sm.tups _ (cZ _ mR _) d1⟩ p1 sm
noncomputable def Jd(hs:List bI)(k:Nat):Bool:=match hs[k]? with
 | some s=>decide (s.st = "waits")
 | none=>false
theorem HN{α:Type}(p:Nat->Bool)(f:Nat->α)(n:Nat):(List.range n).filterMap (λi=>if p i then some (f i) else none)=((List.range n).filter p).map f:=by
 induction n with
 | zero=>rfl
 | succ n ih=>
   rw[dJ,ih,List.range_succ,List.filter_append,abo];congr 1;cases h:p n<;>simp[h]
noncomputable def rpF(t f st pr:Addr):List (Str×V):=[("record",.ref t),("firsts",.ref f),("stage",.ref st),("progress",.ref pr)]
structure Zt where
 (o dx t c a f pr:Addr) (W:u6)
structure oW(CR CW CH:Addr)(i ii:Nat)(τ:Tg)(H:Hp)(R:Zt)(S:gU)(cs:List Int)(ns:List Nt)(gs:List Int):Prop where
 w:jw CW CH i τ H R.W S
 o:H R.o=some (.ins CR R.dx (rpF R.t R.f R.W.o R.pr))
 to:τ R.o=[ii,7]
 pr:H R.pr=some (.lst (gs.map V.int))
 tp:τ R.pr=[ii,8]
 ne:ii≠i
 n0:ii≠0
 Xv:RecAt (ni τ H) R.t R.c R.a cs ns
 YX:jT (ni τ H) R.f ns
 ok:yh cs ns
 lc:cs.length=S.hs.length
 dn:yu cs gs
 gd:gn S
 ml:S.m<=100
section
variable{CR CW CH:Addr}{i ii:Nat}{τ τ':Tg}{H H':Hp}{R:Zt}{S:gU}{cs gs:List Int}{ns:List Nt}
theorem oW.rcd(r:oW CR CW CH i ii τ H R S cs ns gs):RecAt H R.t R.c R.a cs ns:=r.Xv.same (pA _ _)
theorem oW.fst(r:oW CR CW CH i ii τ H R S cs ns gs):jT H R.f ns:=r.YX.same (pA _ _)
theorem oW.mv(r:oW CR CW CH i ii τ H R S cs ns gs)(q:Mv i τ H τ' H')(q':Mv ii τ H τ' H')(u:j8 τ' H'):oW CR CW CH i ii τ' H' R S cs ns gs:=by
 have e1:=q'.keep _ _ r.o (.inr (by rw[r.to];rfl));have e2:=q'.keep _ _ r.pr (.inr (by rw[r.tp];rfl));exact⟨r.w.mv q u,e1.1,e1.2.trans r.to,e2.1,e2.2.trans r.tp,r.ne,r.n0,r.Xv.same (lZ q),r.YX.same (lZ q),r.ok,r.lc,r.dn,r.gd,r.ml⟩
theorem oW.same(r:oW CR CW CH i ii τ H R S cs ns gs)(k:Same H H'):oW CR CW CH i ii τ H' R S cs ns gs:=r.mv (Mv.of_same k) (Mv.of_same k) (r.w.un.same k)
end
noncomputable def jd(S:gU)(cs gs:List Int)(k:Nat):Bool:=decide (gI gs k=gI cs k) || !(Jd S.hs k)
noncomputable def j5(ns:List Nt)(gs:List Int)(k:Nat):List Nt:=((cJ ns k (gI gs k)).filter λq=> !decide (q.2<gI gs q.1)).map λq=>(q.1,q.2,(k:Int),gI gs k)
noncomputable def qR(CR CW CH:Addr)(K:PySem.W.Frag):Sp:=λvs H Q _=>∃(i ii:Nat) (τ:Tg) (R:Zt) (S:gU) (cs gs:List Int) (ns:List Nt) (k:Nat),vs=[.ref R.o,.int k]/\oW CR CW CH i ii τ H R S cs ns gs/\k<cs.length/\Q (.bl (jd S cs gs k)) H
theorem Kz{aL aq au aR:Addr}{f:Addr}{fd:FuncData}(F:gD K "is_over" "Replay.is_over" iG f fd)(aV:iW K aL)(aJ:cT K aq)(oY:MethAt P w K mg base 4 aq "how" ["self","hand"] (λvs H Q _=>Jk aq au aR K vs H Q λ_ _ _=>False))(Bt:pR mg):bO P w K mg base iy 5 f fd ["self","hand"] (qR aL aq au K):=by
 refine F.ok q_ (λvs H Q E h=>?_) (λcdv A outer s H vs Q E hr h=>?_)
 .obtain⟨i,ii,τ,R,S,cs,gs,ns,n,rfl,_⟩:=h
  rfl
 .obtain⟨i,ii,τ,R,S,cs,gs,ns,n,rfl,r,nl,k⟩:=h
  refine⟨_,(aH (bG (aaZ (dZ eF (aQ (aZ (K:=K) rfl) (aY (K:=K) rfl (pv 0) rfl) (pv 1) (λ_ _=>rfl)) (aQ (aZ (K:=K) rfl) (aQ (aU (K:=K) rfl) (aY (K:=K) rfl (pv 0) rfl) aD (λ_ _=>rfl)) (pv 1) (λ_ _=>rfl)) (bC _)) (jr (dZ rM (cC oY aJ.cls (hr.mono (by decide)) (aY (K:=K) rfl (pv 0) rfl) (aj (pv 1) aA)) cB (bC _)))))), ?_⟩;have rc:=r.rcd;have lg:=r.dn.1;refine⟨_,Z,R.o,aL,R.dx,_,_,Z,r.o,aV.cls,aV.gM,Z,_,Z,_,_,_,_,Z,Z,bH.of r.pr,gO (by lia) (by lia),_,Z,R.o,aL,R.dx,_,_,Z,r.o,aV.cls,aV.rO,Z,_,_,_,_,Z,Z,cH.of rc.1,Z,_,Z,_,_,_,_,Z,Z,bH.of rc.2.1,gO (by lia) (by lia),Z, ?_⟩;have nh:n<S.hs.length:=by rw[←r.lc];exact nl
  have es:S.hs[n]? = some S.hs[n]:=by simp[nh]
  by_cases e:gI gs n=gI cs n
  .rw[aaL (by rw[e])]
   refine⟨_,Z,fM ?_⟩;have:jd S cs gs n=true:=by unfold jd;rw[aaL e];rfl
   rw[←this];exact k
  .rw[aaN (λz=>e (V.int.inj z))]
   refine⟨_,Z,dU ?_⟩;have inn:uO (n:Int) S.hs.length:=⟨by lia,by lia⟩;refine⟨_,Z,R.o,aL,R.dx,_,_,Z,r.o,aV.cls,aV.BK,Z,R.W.o,R.W.dx,_,Z,r.w.o,Z,_,Z,i,τ,R.W,S,_,Z,r.w,λk3 t3 e3 e3'=>?_,λz=>acP inn z⟩
   obtain rfl:t3=S.hs[n]:=by
    have:k3=n:=by lia
    subst this;rw[es] at e3';exact(aa6 e3').symm
   refine⟨Z, ?_⟩
   have:jd S cs gs n = !decide (V.str S.hs[n].st=V.str (Str.ofString "waits")):=by
    unfold jd Jd;rw[aaN e,es]
    by_cases q:S.hs[n].st=Str.ofString "waits"
    .simp only[q];rfl
    .have:¬V.str S.hs[n].st=V.str (Str.ofString "waits"):=λz=>q (V.str.inj z)
     show (false || !decide (S.hs[n].st=Str.ofString "waits"))=_;rw[aaN q,aaN this];rfl
   rw[this] at k;exact k
noncomputable def Aq(CR CW CH:Addr)(K:PySem.W.Frag):Sp:=λvs H Q _=>∃(i ii:Nat) (τ:Tg) (R:Zt) (S:gU) (cs gs:List Int) (ns:List Nt) (k:Nat),vs=[.ref R.o,.int k]/\oW CR CW CH i ii τ H R S cs ns gs/\k<cs.length /\ ∀l H',H l=none->m9 H' l (j5 ns gs k)->Same H H'->Q (.ref l) H'
theorem G3{aL aq au:Addr}{f:Addr}{fd:FuncData}(F:gD K "holding" "Replay.holding" iH f fd)(aV:iW K aL)(acL:FnAt P w K mg base 1 "has" ["done","touch"] (VL K))(Bt:pR mg):bO P w K mg base iy 2 f fd ["self","hand"] (Aq aL aq au K):=by
 refine F.ok jX (λvs H Q E h=>?_) (λcdv A outer s H vs Q E hr h=>?_)
 .obtain⟨i,ii,τ,R,S,cs,gs,ns,n,rfl,_⟩:=h
  rfl
 .obtain⟨i,ii,τ,R,S,cs,gs,ns,n,rfl,r,nl,k⟩:=h
  have hu:=Wf hr
  refine⟨_,(aB (bA (i:=2) jX.nd rfl (Or.inr rfl) (fj (aj (pv 1) (aj (aQ (aZ (K:=K) rfl) (aY (K:=K) rfl (pv 0) rfl) (pv 1) (λ_ _=>rfl)) aA))))
   (aH (bG (dY rfl (N:=["first","touch","self"]) (own:=["first"]) (caps:=[2,0]) (bw.of (by kernel_rfl)) (cI (K:=K) rfl (Oj hu (aY (K:=K) rfl (pv 0) rfl) (pv 2) (cR aA) ⟨Z,Z,Z,Z⟩)) (λ_ _ _ _=>(bJ (i:=0) (show List.Nodup (["first","touch","self"]:List Str) by decide +kernel) rfl (Or.inl rfl))) (λ_ _ _ _=>(pG (gq (dR (bT acL (hr.mono (by decide)) (by rfl) (aj (aY (K:=K) rfl (pv 2) rfl) (aj (pv 0) aA))))))) (λ_ _ _ _=>(bM Oq (pv 0) (pv 1))))))), ?_⟩
  have lg:=r.dn.1;refine⟨_,Z,_,Z,R.o,aL,R.dx,_,_,Z,r.o,aV.cls,aV.gM,Z,_,Z,_,_,_,_,Z,Z,bH.of r.pr,gO (by lia) (by lia),(by show 2<=sizeLine;decide),λt ht=>?_⟩;have s1:=aF (o:=HO.tup [V.int n,V.int (gI gs n)]) ht;have r1:=r.same s1;obtain⟨kvs,hF,hval⟩:=r1.fst;refine⟨_,Z,R.o,aL,R.dx,_,_,Z,r1.o,aV.cls,aV.Ef,Z,R.f,Z,.inr ⟨_,.inl hF⟩,_,Z,(by show 0<=sizeLine;decide),λel hel=>?_⟩;have s2:=aF (o:=HO.lst []) hel;have s12:=s1.trans s2;refine⟨_,Ry.t (k:=[Sum.inl (n:Int),Sum.inl (gI gs n)]) (s2 _ _ hF) (s2 _ _ ak), ?_⟩
  obtain⟨l,Z4,PL⟩:∃l,(eV kvs [Sum.inl (n:Int),Sum.inl (gI gs n)]).getD (V.ref el) = .ref l/\uT (upd (upd H t (.tup [V.int n,V.int (gI gs n)])) el (.lst [])) l (cJ ns n (gI gs n)):=by
   rcases hval n (gI gs n) with z|⟨l,e1,e2⟩
   .exact⟨el,by rw[z.1];rfl,by rw[z.2];exact⟨[],ak,by simp[aP]⟩⟩
   .exact⟨l,by rw[e1];rfl,e2.same s2⟩
  rw[Z4];obtain⟨vs,hl,dv⟩:=id PL;have vl:vs.length=(cJ ns n (gI gs n)).length:=by rw[dv.length,aac]
  have fl:(cJ ns n (gI gs n)).length<=ns.length:=by unfold cJ;rw[aac];exact List.length_filter_le ..
  have nsl:=r.ok.2.1;have ht2:(upd (upd H t (.tup [V.int n,V.int (gI gs n)])) el (.lst [])) t=some (.tup [V.int n,V.int (gI gs n)]):=s2 _ _ ak;have r2:=r1.same s2;generalize (upd (upd H t (.tup [V.int n,V.int (gI gs n)])) el (.lst []))=H2 at s12 hl dv PL ht2 r2 s2 ⊢;refine⟨l,Z,⟨_,bH.of hl⟩,λD hD=>?_⟩;refine L_ (K:=K) (λi=>((cJ ns n (gI gs n))[i]?).bind λq=>if !decide (q.2<gI gs q.1) then some (nD (q.1,q.2,(n:Int),gI gs n)) else none) (λi dd e=>?_) hD (bH.of hl) (by lia) (λi v H3 G F hi s3 kG kF=>?_) (λH3 ws s3 e3 d3=>?_)
  .cases ex:(cJ ns n (gI gs n))[i]? with
   | none=>rw[ex] at e;cases e
   | some x=>
     rw[ex,acJ] at e;split at e
     .cases e;rfl
     .cases e
  .obtain⟨q,u,eq,rfl,hq⟩:=Tv dv hi
   obtain⟨x,xm,rfl⟩:∃x∈ns,q=ft x:=by
    obtain⟨x,hx,e⟩:=abG.mp (aaK eq);exact⟨x,(ace.mp hx).1,e.symm⟩
   obtain⟨⟨h0,h1⟩,⟨k0,k1⟩,⟨o0,o1⟩,⟨m0,m1⟩,hne⟩:=r.ok.2.2 x xm;have r3:=r2.same s3;have YJ:=s3 _ _ hq;simp only[eq,acJ] at kG kF;refine⟨_,Z,R.o,aL,R.dx,_,_,Z,r3.o,aV.cls,aV.gM,Z,_,Z,R.pr,u,gs,_,_,Z,r3.pr,YJ,h0,by rw[lg];exact h1,_,Z, ?_⟩
   by_cases w:(ft x).2<gI gs (ft x).1
   .rw[aaL w]
    refine dU ?_;exact kG _ (Same.refl _) (by simp[w])
   .rw[aaN w]
    refine fM ?_;refine⟨_,Z,_,Z,u,t,_,_,Z,Z,YJ,s3 _ _ ht2,by show 2+2<=sizeLine;decide,λp H4 hp s4=>?_⟩;exact kF _ (nD ((ft x).1,(ft x).2,(n:Int),gI gs n)) _ s4 (by simp[w]) (QF hp)
  .rw[vl,vp (λq:Rb=> !decide (q.2<gI gs q.1)) (λq:Rb=>nD (q.1,q.2,(n:Int),gI gs n))] at d3
   refine k D H3 (s12.free hD) ⟨ws,e3, ?_⟩ (s12.trans s3);unfold j5;rw[abZ];exact d3
noncomputable def Ez(S:gU)(cs:List Int)(ns:List Nt)(gs:List Int):List Nat:=(List.range cs.length).filter λk=> !jd S cs gs k&&(j5 ns gs k).isEmpty
noncomputable def Al(CR CW CH:Addr)(K:PySem.W.Frag):Sp:=λvs H Q _=>∃(i ii:Nat) (τ:Tg) (R:Zt) (S:gU) (cs gs:List Int) (ns:List Nt),vs=[.ref R.o]/\oW CR CW CH i ii τ H R S cs ns gs /\ ∀l H',H l=none->H' l=some (.lst ((Ez S cs ns gs).map λk:Nat=>V.int k))->Same H H'->Q (.ref l) H'
theorem Ow{aL aq au:Addr}{f:Addr}{fd:FuncData}(F:gD K "free" "Replay.free" lu f fd)(aV:iW K aL)(iR:MethAt P w K mg base 5 aL "is_over" ["self","hand"] (qR aL aq au K))(iT:MethAt P w K mg base 2 aL "holding" ["self","hand"] (Aq aL aq au K))(Bt:pR mg):bO P w K mg base iy 6 f fd ["self"] (Al aL aq au K):=by
 refine F.ok vW (λvs H Q E h=>?_) (λcdv A outer s H vs Q E hr h=>?_)
 .obtain⟨i,ii,τ,R,S,cs,gs,ns,rfl,_⟩:=h
  rfl
 .obtain⟨i,ii,τ,R,S,cs,gs,ns,rfl,r,k⟩:=h
  refine⟨_,(aH (bG (dY rfl (N:=["hand","self"]) (own:=["hand"]) (caps:=[0]) (bw.of (by kernel_rfl)) (eZ (by rfl) Bt.i_ (aj (aO (aW (K:=K) rfl) (by rfl) Bt.d_ cQ (aj (aY (K:=K) rfl (pv 0) rfl) aA)) aA)) (λ_ _ _ _=>(bJ (i:=0) (show List.Nodup (["hand","self"]:List Str) by decide +kernel) rfl (Or.inl rfl))) (λ_ _ _ _=>(pG (PW.pt (v8 (gq (dR (cC iR aV.cls (hr.mono (by decide)) (pv 1) (aj (pv 0) aA)))) (rF (gq (tY (K:=K) rfl (cC iT aV.cls (hr.mono (by decide)) (pv 1) (aj (pv 0) aA))))))))) (λ_ _ _ _=>(pv 0))))), ?_⟩;have lg:=r.dn.1;have c8:=r.ok.1.1;refine⟨_,Z,R.o,aL,R.dx,_,_,Z,r.o,aV.cls,aV.gM,Z,R.pr,_,Z,.inl (bH.of r.pr),_,Z,by rw[aac];lia,by rw[aac];lia,λD hD=>?_⟩;rw[aac,abt,lg];refine lR (λj=>if !jd S cs gs j&&(j5 ns gs j).isEmpty then some (.int (j:Nat)) else none) hD (by lia) (λj H1 G F hj s1 kG kF=>?_) (λH1 s1 e1=>?_)
  .have r1:=r.same s1
   refine⟨_,Z,R.o,R.dx,_,Z,r1.o,Z,_,Z,i,ii,τ,R,S,cs,gs,ns,j,by rw[Int.zero_add];rfl,r1,hj,_,Z, ?_⟩;cases eo:jd S cs gs j with
   | true=>
     refine dU ?_;exact kG H1 (Same.refl _) (by rw[eo];rfl)
   | false=>
     refine fM ?_;refine⟨_,Z,R.o,R.dx,_,Z,r1.o,Z,_,Z,i,ii,τ,R,S,cs,gs,ns,j,by rw[Int.zero_add];rfl,r1,hj,λl H2 fl N2 s2=>?_⟩;obtain⟨ws,hl,dw⟩:=N2;have wl:ws.length=(j5 ns gs j).length:=by rw[dw.length,aac]
     have eb:ws.isEmpty=(j5 ns gs j).isEmpty:=by
      cases ws<;>cases h:j5 ns gs j<;>rw[h] at wl<;>first |rfl|(simp at wl)
     refine⟨!ws.isEmpty,.inl ⟨ws,bH.of hl,Z⟩, ?_⟩;rw[eb];cases eh:(j5 ns gs j).isEmpty with
     | true=>
       refine fM ?_;exact⟨_,Z,kF _ H2 s2 (by rw[eo,eh,Int.zero_add];rfl)⟩
     | false=>
       refine dU ?_;exact kG H2 s2 (by rw[eo,eh];rfl)
  .rw[HN (λj=> !jd S cs gs j&&(j5 ns gs j).isEmpty) (λj:Nat=>V.int j)] at e1
   exact k D H1 hD e1 s1
noncomputable def St2(i ii:Nat)(τ:Tg)(H H':Hp):Prop:=∃H1,nu i τ H H1/\nu ii τ H1 H'
noncomputable def fB(gs:List Int)(k:Nat):List Int:=gs.set k (gI gs k+1)
noncomputable def Aj(CR CW CH CN CO:Addr)(K:PySem.W.Frag):Sp:=λvs H Q E=>∃(i ii:Nat) (τ:Tg) (R:Zt) (S:gU) (cs gs:List Int) (ns:List Nt) (h:Int),vs=[.ref R.o,.int h]/\oW CR CW CH i ii τ H R S cs ns gs/\S.ts.length<=9000 /\
 (∀k:Nat,h=k->jd S cs gs k=false->j5 ns gs k=[]) /\
 (∀(k:Nat)(s:bI)(r:Rw)(t:Addr)(H':Hp),h=k->k<cs.length->jd S cs gs k=false->S.hs[k]? = some s->s.st = "waits" -> s.rws[s.pos]? = some r->touch r=true->H t=none->H' t=some (.tup (Gm S.ns s.bs r))->oW CR CW CH i ii τ H' R (fK S k) cs ns (fB gs k)->St2 i ii τ H H'->Q (.ref t) H') /\
 (¬uO h cs.length->E (.ref CN) none H)/\(∀k:Nat,h=k->k<cs.length->jd S cs gs k=true->E (.ref CO) none H)
theorem yZ(S:gU)(k:Nat):(fK S k).hs.length=S.hs.length:=by
 unfold fK;split
 .rfl
 .split
  .rfl
  .simp
theorem Ae(S:gU)(k:Nat):(fK S k).m=S.m:=by
 unfold fK;split
 .rfl
 .split<;>rfl
theorem Ou{aL aq au:Addr}{f:Addr}{fd:FuncData}(F:gD K "turn" "Replay.turn" kZ f fd){aR dj:Addr}(bV:Xr K mg aR "NoHand")(ju:Xr K mg dj "Over")(aV:iW K aL)(aJ:cT K aq)(dW:FnAt P w K mg base 2 "is_below" ["value","count"] (qW K))(iR:MethAt P w K mg base 5 aL "is_over" ["self","hand"] (qR aL aq au K))(iT:MethAt P w K mg base 2 aL "holding" ["self","hand"] (Aq aL aq au K))(iu:j9 P w K mg base 7 aq "turn" ["self","hand"] (vL aq au aR dj K))(Bt:pR mg):bO P w K mg base (pY P w) 8 f fd ["self","hand"] (Aj aL aq au aR dj K):=by
 refine F.Uk jD (λvs H Q E h=>?_) (λcdv A outer s H vs Q E hr h hR=>?_)
 .obtain⟨i,ii,τ,R,S,cs,gs,ns,h,rfl,_⟩:=h
  rfl
 .obtain⟨i,ii,τ,R,S,cs,gs,ns,h,rfl,r,tl,nh,k1,k2,k3⟩:=h
  refine⟨_,(aB (cA (gq (dR (bT dW (hr.mono (by decide)) (by rfl) (aj (pv 1) (aj (aO (aW (K:=K) rfl) (by rfl) Bt.d_ cQ (aj (aY (K:=K) rfl (pv 0) rfl) aA)) aA))))) (aH (jc PySem.F.excBase_ValueError bV.ex bV.bd (by rfl) rfl rfl hR (aj cB aA))) bL)
   (aB (cA (dR (cC iR aV.cls (hr.mono (by decide)) (pv 0) (aj (pv 1) aA))) (aH (jc PySem.F.excBase_ValueError ju.ex ju.bd (by rfl) rfl rfl hR (aj cB aA))) bL)
   (aB (bA (i:=2) jD.nd rfl (Or.inl rfl) (cC iT aV.cls (hr.mono (by decide)) (pv 0) (aj (pv 1) aA)))
   (aB (cA (tY (K:=K) rfl (pv 2)) (aH DX) bL)
   (aB (bA (i:=3) jD.nd rfl (Or.inl rfl) (rJ iu aJ.cls rfl hR (hr.mono (by decide)) (aY (K:=K) rfl (pv 0) rfl) (aj (pv 1) aA)))
   (aB (Tt (aY (K:=K) rfl (pv 0) rfl) (pv 1) (GJ (K:=K) rfl) aD BW set_list)
   (aH (bG (pv 3))))))))), ?_⟩
  have lg:=r.dn.1;refine⟨_,Z,_,Z,R.o,aL,R.dx,_,_,Z,r.o,aV.cls,aV.gM,Z,R.pr,_,Z,.inl (bH.of r.pr),h,_,Z,_,Z, ?_⟩;rw[aac,lg]
  by_cases hh:uO h cs.length
  .rw[aaL hh]
   refine dU ?_;obtain⟨n,rfl⟩:=acF hh.1;have nl:n<cs.length:=by have:=hh.2;lia
   refine⟨_,Z,R.o,R.dx,_,Z,r.o,Z,_,Z,i,ii,τ,R,S,cs,gs,ns,n,Z,r,nl,_,Z, ?_⟩;cases eo:jd S cs gs n with
   | true=>
     refine fM ?_;exact⟨(by show 1<=sizeLine;decide),k3 n rfl nl eo⟩
   | false=>
     refine dU ?_;refine⟨_,Z,R.o,R.dx,_,Z,r.o,Z,_,Z,i,ii,τ,R,S,cs,gs,ns,n,Z,r,nl,λl H1 fl N1 s1=>?_⟩;obtain⟨ws,hl,dw⟩:=N1;have wl:ws.length=(j5 ns gs n).length:=by rw[dw.length,aac]
     rw[nh n rfl eo] at wl;have we:ws=[]:=List.eq_nil_of_length_eq_zero wl;refine⟨_,Z, !ws.isEmpty,.inl ⟨ws,bH.of hl,Z⟩, ?_⟩;rw[we];refine dU ?_;have r1:=r.same s1;have nS:n<S.hs.length:=by rw[←r.lc];exact nl
     have es:S.hs[n]? = some S.hs[n]:=by simp[nS]
     have wt:S.hs[n].st = "waits" :=by
      unfold jd Jd at eo;rw[es,Bool.or_eq_false_iff] at eo;have:=eo.2;simpa using this
     have inn:uO (n:Int) S.hs.length:=⟨by lia,by lia⟩
     have one:∀(k':Nat)(t:bI),(n:Int)=k'->S.hs[k']? = some t->t=S.hs[n]/\k'=n:=λk' t e1 e2=>by
      have:k'=n:=by lia
      subst this;rw[es] at e2;exact⟨(aa6 e2).symm,Z⟩
     refine⟨_,Z,R.o,aL,R.dx,_,_,Z,r1.o,aV.cls,aV.BK,Z,R.W.o,R.W.dx,_,Z,r1.w.o,Z,_,Z,i,τ,R.W,S,_,Z,r1.w,by lia,λk' t' r' tt H2 e1 e2 wt' er' tr' tf tk w2 st2=>?_,λz=>acP inn z,λk' t' e1 e2 z=>acP (by rw[(one k' t' e1 e2).1];exact wt) z⟩;obtain⟨e3,e4⟩:=one k' t' e1 e2;subst e4;have gb:=r.dn.2 k' (by lia) (by lia);have e5:=r1.n0;have hpr:=st2.keep _ _ r1.pr (by rw[r1.tp];intro z;exact r1.ne (aa6 z));have ho2:=st2.keep _ _ r1.o (by rw[r1.to];intro z;exact r1.ne (aa6 z));refine⟨_,Z,R.o,aL,R.dx,_,_,Z,ho2,aV.cls,aV.gM,Z,_,Z,R.pr,_,_,_,Z,Z,bH.of hpr,by lia,(by rw[abt,aah,aad (by lia)];rfl),_,_,Z,Z,R.pr,_,_,_,Z,Z,hpr,Ux (by lia) (by rw[aac];lia), ?_⟩;have gl:k'<gs.length:=by lia
     have gg:gI gs k'=gs[k']:=Cd (aad gl)
     have em:(gs.map V.int).set ((k':Int)).toNat (.int (gs[k']+1))=(fB gs k').map V.int:=by
      unfold fB;rw[gg,List.map_set,abt]
     rw[em];have st3:nu ii τ H2 (upd H2 R.pr (.lst ((fB gs k').map V.int))):=nu.set (by rw[r1.tp];rfl) hpr (by intro xs z;cases z);have st1:nu i τ H H2:=(nu.of_same s1).trans st2
     have ne1:gI gs k'≠gI cs k':=by
      unfold jd at eo;rw[Bool.or_eq_false_iff] at eo;exact of_decide_eq_false eo.1
     have ft:H tt=none:=s1.free tf
     have dn3:yu cs (fB gs k'):=by
      refine⟨by unfold fB;rw[ab5];exact lg,λx x0 x1=>?_⟩;have:=r.dn.2 x x0 x1;have e:=HB (cs:=gs) (h:=(k':Int)) (k:=x) (v:=gI gs k'+1) (by lia) (by lia) x0;rw[abt] at e;unfold fB;rw[e];split
      .rename_i z
       subst z;lia
      .exact this
     refine⟨_,Z,k1 k' t' r' tt _ rfl nl eo e2 wt' er' tr' ft ?_ ?_ ⟨H2,st1,st3⟩⟩
     .exact st3.tup _ _ tk
     .have ns':Same (ni τ H) (ni τ (upd H2 R.pr (.lst ((fB gs k').map V.int)))):=(gY st1 r.w.i0).trans (gY st3 r.n0)
      refine⟨w2.mv (Mv.mK st3 r.ne r.n0) (st3.un w2.un), ?_,r.to,ak,r.tp,r.ne,r.n0,r.Xv.same ns',r.YX.same ns',r.ok,by rw[yZ];exact r.lc,dn3,r.gd.turn k',by rw[Ae];exact r.ml⟩;rw[aC (cY ho2 hpr (by intro z;cases z))];exact ho2
  .rw[aaN hh]
   refine fM ?_;exact⟨(by show 1<=sizeLine;decide),k2 hh⟩
noncomputable def Ak(CR CW CH CN:Addr)(K:PySem.W.Frag):Sp:=λvs H Q E=>∃(i i' ii:Nat) (τ:Tg) (o dx t c a:Addr) (W:u6) (S:gU) (cs:List Int) (ns:List Nt),vs=[.ref o,.ref W.o,.ref t]/\H o=some (.ins CR dx [])/\τ o=[]/\jw CW CH i τ H W S/\gn S/\S.m<=100/\RecAt H t c a cs ns/\yh cs ns/\i'≠0/\ii≠0/\ii≠i'/\ii≠i /\
 (cs.length=S.hs.length -> ∀(τ':Tg)(R:Zt)(ns':List Nt)(H':Hp),R.o=o->ns'.Perm ns->oW CR CW CH i' ii τ' H' R S cs ns' (List.replicate cs.length 0)->(∀x u,H x=some u->x≠o->τ' x=τ x)->Kp o H H'->Q .non H') /\
 (cs.length≠S.hs.length -> ∀H',Same H H'->E (.ref CN) none H')
theorem Ov{aL aq au:Addr}{f:Addr}{fd:FuncData}(F:gD K "__init__" "Replay.__init__" k_ f fd){aR:Addr}(bV:Xr K mg aR "NoHand")(aV:iW K aL)(aJ:cT K aq)(yU:FnAt P w K mg base 4 "check_notes" ["record"] (DK K))(fV:MethAt P w K mg base 1 aq "counts" ["self"] (nR aq au K))(FZ:FnAt P w K mg base 1 "firsts_of" ["record"] (DG K))(mY:MethAt P w K mg base 9 aq "twin" ["self"] (Ah aq au K))(Bt:pR mg):bO P w K mg base (pY P w) 10 f fd ["self","works","record"] (Ak aL aq au aR K):=by
 refine F.Uk vV (λvs H Q E h=>?_) (λcdv A outer s H vs Q E hr h hR=>?_)
 .obtain⟨i,i',ii,τ,o,dx,t,c,a,W,S,cs,ns,rfl,_⟩:=h
  rfl
 .obtain⟨i,i',ii,τ,o,dx,t,c,a,W,S,cs,ns,rfl,ho,to,w,gd,ml,R,ok,i0,Hu,iin,iio,k1,k2⟩:=h
  refine⟨_,(aB (cF (bT yU (hr.mono (by decide)) (by rfl) (aj (pv 2) aA)))
   (aB (cA (bB rM (aO (aW (K:=K) rfl) (by rfl) Bt.d_ cQ (aj (aQ (aU (K:=K) rfl) (pv 2) aD (λ_ _=>rfl)) aA)) (aO (aW (K:=K) rfl) (by rfl) Bt.d_ cQ (aj (cV fV aJ.cls (hr.mono (by decide)) (pv 1)) aA)) (bC _)) (aH (jc PySem.F.excBase_ValueError bV.ex bV.bd (by rfl) rfl rfl hR (aj cB aA))) bL)
   (aB (cM (K:=K) rfl (pv 0) (fj (aj (cL (bR (K:=K) rfl) (by rfl) Bt.fQ dN (aj (aQ (aU (K:=K) rfl) (pv 2) aD (λ_ _=>rfl)) aA)) (aj (aO (Fz (K:=K) rfl) (by rfl) Bt.Q7 Mf (aj (aQ (aU (K:=K) rfl) (pv 2) aD (λ_ _=>rfl)) aA)) aA))) rfl)
   (aB (cM (K:=K) rfl (pv 0) (bT FZ (hr.mono (by decide)) (by rfl) (aj (aY (K:=K) rfl (pv 0) rfl) aA)) rfl)
   (aB (cM (K:=K) rfl (pv 0) (cV mY aJ.cls (hr.mono (by decide)) (pv 1)) rfl)
   (aH (cM (K:=K) rfl (pv 0) (dY rfl (N:=["count"]) (own:=["count"]) (caps:=[]) (bw.of (by kernel_rfl)) (cI (K:=K) rfl (aQ (aU (K:=K) rfl) (aY (K:=K) rfl (pv 0) rfl) aD (λ_ _=>rfl))) (λ_ _ _ _=>(bJ (i:=0) (show List.Nodup (["count"]:List Str) by decide +kernel) rfl (Or.inl rfl))) (λ_ _ _ _=>dG) (λ_ _ _ _=>aD)) rfl))))))), ?_⟩
  refine⟨_,Z,t,c,a,cs,ns,Z,R,ok,λH1 s1=>?_⟩;have R1:=R.same s1;have w1:=w.same s1;refine⟨_,Z,_,_,_,_,Z,Z,cH.of R1.1,Z,c,_,Z,.inl (bH.of R1.2.1),_,Z,W.o,W.dx,_,Z,w1.o,Z,i,τ,W,S,Z,w1,λl H2 fl el s2=>⟨l,_,Z,.inl (bH.of el),Z,_,Z, ?_⟩⟩;have s12:=s1.trans s2;have cl:(Ft S).length=S.hs.length:=by unfold Ft;simp
  rw[aac,aac,cl]
  by_cases hl:cs.length=S.hs.length
  .refine cO (λq=>acP q (by rw[hl,aaL rfl];decide)) (λ_=>?_)
   have ho2:=s12 _ _ ho;have w2':=w.same s12;have R2:=R.same s12;have B2:Bs H τ o (aM τ o [ii,7]) H2:=⟨λx e=>by rw[aN (ao ho2 e).symm];exact w2'.un x e,Kp.of_same s12,λx u e n=>aN n⟩
   have w2:jw aq au i (aM τ o [ii,7]) H2 W S:=w2'.mv ⟨λx u e t=>⟨e,aN (λz=>by
    rw[z,to] at t;rcases t with t|t<;>cases t)⟩,λx xs e=>e⟩ B2.un
   have to2:aM τ o [ii,7] o=[ii,7]:=bD;generalize aM τ o [ii,7]=τ2 at B2 w2 to2;clear w2' R1 w1;refine⟨_,Z,_,_,_,_,Z,Z,cH.of R2.1,Z,c,_,Z,.inl (bH.of R2.2.1),λc3 hc3=>?_⟩;have s3:=aF (o:=HO.lst (cs.map V.int)) hc3;have Va:(upd H2 c3 (.lst (cs.map V.int))) c3=some (.lst (cs.map V.int)):=ak;have R3:=R2.same s3;have B3:=B2.claim (t:=[0]) s3 hc3 ⟨_,Va⟩;have w3:=w2.mv (Mv.claim (p:=c3) (t:=[0]) s3 hc3) B3.un;have YK:=s3 _ _ ho2;have to3:aM τ2 c3 [0] o=[ii,7]:=by rw[aN (ao ho2 hc3)];exact to2
   have tc3:aM τ2 c3 [0] c3=[0]:=bD;generalize (upd H2 c3 (.lst (cs.map V.int)))=H3 at s3 Va R3 B3 w3 YK ⊢;generalize aM τ2 c3 [0]=τ3 at B3 w3 to3 tc3;refine⟨_,Z,_,_,_,_,Z,Z,cH.of R3.1,Z, ?_⟩;dsimp only[Sx];refine Np (K:=K) R3.2.2 λa4 ns' H4 fa4 N4 pm s4=>?_
   have hp4:∃u,H4 a4=some u:=by
    obtain⟨vs,e,_⟩:=N4;exact⟨_,e⟩
   have B4:=B3.claim (t:=[0]) s4 fa4 hp4;have w4:=w3.mv (Mv.claim (p:=a4) (t:=[0]) s4 fa4) B4.un;have ZQ:=s4 _ _ YK;have ec4:=s4 _ _ Va;have to4:aM τ3 a4 [0] o=[ii,7]:=by rw[aN (ao YK fa4)];exact to3
   have tc4:aM τ3 a4 [0] c3=[0]:=by rw[aN (ao Va fa4)];exact tc3
   have ta4:aM τ3 a4 [0] a4=[0]:=bD;generalize aM τ3 a4 [0]=τ4 at B4 w4 to4 tc4 ta4;refine⟨(by show 2<=sizeLine;decide),λt5 ht5=>?_⟩;have s5:=aF (o:=HO.tup [V.ref c3,V.ref a4]) ht5;have R5:RecAt (upd H4 t5 (.tup [V.ref c3,V.ref a4])) t5 c3 a4 cs ns':=⟨ak,s5 _ _ ec4,N4.same s5⟩;have B5:=B4.same s5;have w5:=w4.same s5;have RG:=s5 _ _ ZQ;generalize (upd H4 t5 (.tup [V.ref c3,V.ref a4]))=H5 at s5 R5 B5 w5 RG ⊢;have ok':yh cs ns':=⟨ok.1,by rw[pm.length_eq];exact ok.2.1,λx hx=>ok.2.2 x (pm.mem_iff.mp hx)⟩;refine⟨_,Z,o,aL,dx,_,Z,RG,aV.cls,aV.rO,(by decide), ?_⟩
   have aed:∀(τ:Tg)(H:Hp)(v:HO),j8 τ H->j8 τ (upd H o v):=λτ H v u=>u.dom λy e=>by
    by_cases z:y=o
    .rw[z,ak] at e;cases e
    .rw[aC z] at e;exact e
   have ho6:(upd H5 o (.ins aL dx (bZ "record" (.ref t5) []))) o=some (.ins aL dx [("record",.ref t5)]):=ak;have st6:nu ii τ4 H5 (upd H5 o (.ins aL dx (bZ "record" (.ref t5) []))):=nu.set (by rw[to4];rfl) RG (by intro xs z;cases z);have B6:Bs H τ o τ4 (upd H5 o (.ins aL dx (bZ "record" (.ref t5) []))):=B5.set (.inl rfl);have w6:=w5.mv (Mv.mK st6 iio Hu) B6.un
   have r5:RecAt (ni τ4 H5) t5 c3 a4 cs ns':=by
    obtain⟨vs,e1,e2⟩:=R5.2.2;exact⟨nQ R5.1,qP tc4 R5.2.1,vs,qP ta4 e1,aP.keep (λa xs e=>nQ e) _ (cZ _ mR _) e2⟩
   have r6:=r5.same (gY st6 Hu);generalize (upd H5 o (.ins aL dx (bZ "record" (.ref t5) [])))=H6 at ho6 st6 B6 w6 r6 ⊢;refine⟨_,Z,o,aL,dx,_,_,Z,ho6,aV.cls,aV.rO,Z,t5,c3,a4,cs,ns',Z,r6.same (pA _ _),ok',λf H7 hf F7 s7=>?_⟩;have un7:=WW s7 B6.un;have tg7:∀x u,H6 x=some u->Mp τ4 H6 H7 x=τ4 x:=λx u e=>Sd e;have B7:Bs H τ o (Mp τ4 H6 H7) H7:=⟨un7,B6.kp.trans (Kp.of_same s7),λx u e n=>(tg7 x u (B6.kp _ _ e n)).trans (B6.tg x u e n)⟩;have w7:=w6.mv (Mv.tags s7 tg7) un7;have r7:=r6.same (lZ (i:=0) (Mv.tags s7 tg7));have f7:jT (ni (Mp τ4 H6 H7) H7) f ns':=F7.same Ym;have ho7:=s7 _ _ ho6;have to7:Mp τ4 H6 H7 o=[ii,7]:=(tg7 _ _ ho6).trans to4;generalize Mp τ4 H6 H7=τ7 at un7 tg7 B7 w7 r7 f7 to7;refine⟨_,Z,o,aL,dx,_,Z,ho7,aV.cls,aV.Ef,(by show 1<1000;decide), ?_⟩;have UJ:(upd H7 o (.ins aL dx (bZ "firsts" (.ref f) [("record",.ref t5)]))) o=some (.ins aL dx [("record",.ref t5),("firsts",.ref f)]):=ak;have st8:nu ii τ7 H7 (upd H7 o (.ins aL dx (bZ "firsts" (.ref f) [("record",.ref t5)]))):=nu.set (by rw[to7];rfl) ho7 (by intro xs z;cases z);have B8:Bs H τ o τ7 (upd H7 o (.ins aL dx (bZ "firsts" (.ref f) [("record",.ref t5)]))):=B7.set (.inl rfl);have w8:=w7.mv (Mv.mK st8 iio Hu) B8.un;have r8:=r7.same (gY st8 Hu);have f8:=f7.same (gY st8 Hu);generalize (upd H7 o (.ins aL dx (bZ "firsts" (.ref f) [("record",.ref t5)])))=H8 at UJ st8 B8 w8 r8 f8 ⊢;refine⟨_,Z,W.o,W.dx,_,Z,w8.o,Z,i,i',τ7,W,S,Z,w8,gd,ml,i0,λτ9 W' H9 w9 tg9 s9=>?_⟩;have B9:Bs H τ o τ9 H9:=⟨w9.un,B8.kp.trans (Kp.of_same s9),λx u e n=>(tg9 x u (B8.kp _ _ e n)).trans (B8.tg x u e n)⟩;have r9:=r8.same (lZ (i:=0) (Mv.tags s9 tg9));have f9:=f8.same (lZ (i:=0) (Mv.tags s9 tg9));have ho9:=s9 _ _ UJ;have to9:τ9 o=[ii,7]:=(tg9 _ _ UJ).trans to7;refine⟨_,Z,o,aL,dx,_,Z,ho9,aV.cls,aV.BK,(by show 2<1000;decide), ?_⟩;have hoa:(upd H9 o (.ins aL dx (bZ "stage" (.ref W'.o) [("record",.ref t5),("firsts",.ref f)]))) o=some (.ins aL dx [("record",.ref t5),("firsts",.ref f),("stage",.ref W'.o)]):=ak;have sta:nu ii τ9 H9 (upd H9 o (.ins aL dx (bZ "stage" (.ref W'.o) [("record",.ref t5),("firsts",.ref f)]))):=nu.set (by rw[to9];rfl) ho9 (by intro xs z;cases z);have Ba:Bs H τ o τ9 (upd H9 o (.ins aL dx (bZ "stage" (.ref W'.o) [("record",.ref t5),("firsts",.ref f)]))):=B9.set (.inl rfl);have wa:=w9.mv (Mv.mK sta iin Hu) Ba.un;have ra:=r9.same (gY sta Hu);have fa:=f9.same (gY sta Hu);generalize (upd H9 o (.ins aL dx (bZ "stage" (.ref W'.o) [("record",.ref t5),("firsts",.ref f)])))=Ha at hoa sta Ba wa ra fa ⊢;have raH:=ra.same (pA _ _);refine⟨_,Z,o,aL,dx,_,_,Z,hoa,aV.cls,aV.rO,Z,_,_,_,_,Z,Z,cH.of raH.1,Z,c3,Z,⟨_,bH.of raH.2.1⟩,λD hD=>?_⟩;refine lU (K:=K) (λ_=>some (.int 0)) hD (bH.of raH.2.1) (by rw[aac];have:=ok.1.1;lia) (λj v H3 G F hi s3 kG kF=>kF _ H3 (Same.refl _) rfl) (λHb sb eb=>?_);rw[Ce,aac] at eb;have Bb:=Ba.claim (t:=[ii,8]) sb hD ⟨_,eb⟩;have qb:∀m,Mv m τ9 Ha (aM τ9 D [ii,8]) Hb:=λm=>Mv.claim sb hD;have wb:=wa.mv (qb i') Bb.un;have rb:=ra.same (lZ (qb 0));have fb:=fa.same (lZ (qb 0));have hob:=sb _ _ hoa;have tob:aM τ9 D [ii,8] o=[ii,7]:=by rw[aN (ao hoa hD)];exact to9
   have tDb:aM τ9 D [ii,8] D=[ii,8]:=bD;generalize aM τ9 D [ii,8]=τb at Bb qb wb rb fb tob tDb;refine⟨_,Z,o,aL,dx,_,Z,hob,aV.cls,aV.gM,(by show 3<1000;decide), ?_⟩;have stc:nu ii τb Hb (upd Hb o (.ins aL dx (bZ "progress" (.ref D) [("record",.ref t5),("firsts",.ref f),("stage",.ref W'.o)]))):=nu.set (by rw[tob];rfl) hob (by intro xs z;cases z);have Bc:Bs H τ o τb (upd Hb o (.ins aL dx (bZ "progress" (.ref D) [("record",.ref t5),("firsts",.ref f),("stage",.ref W'.o)]))):=Bb.set (.inl rfl);refine k1 hl τb ⟨o,dx,t5,c3,a4,f,D,W'⟩ ns' _ rfl pm ⟨wb.mv (Mv.mK stc iin Hu) Bc.un,ak,tob, ?_,tDb,iin,Hu,rb.same (gY stc Hu),fb.same (gY stc Hu),ok',hl, ?_,gd,ml⟩ Bc.tg Bc.kp
   .rw[aC (ao hoa hD).symm]
    exact eb
   .refine⟨by simp,λx x0 x1=>?_⟩
    have e:gI (List.replicate cs.length 0) x=0:=by
     unfold gI;rw[acB];split<;>rfl
    rw[e];exact⟨Int.le_refl _,(ok.1.gI x).1⟩
  .refine cO (λ_=>?_) (λq=>acP ?_ q)
   .exact⟨(by show 1<=sizeLine;decide),k2 hl H2 s12⟩
   .have:¬V.int (cs.length:Int)=V.int (S.hs.length:Int):=λz=>hl (by have:=V.int.inj z;lia)
    rw[aaN this];rfl
theorem RT.set{τ:Tg}{H:Hp}{r x:Addr}{o u:HO}(h:RT τ H r)(e:H x=some o)(t:τ x≠[]):RT τ (upd H x u) r:=by
 obtain⟨n,f⟩:=h.off x o e t;refine⟨h.R.set n f,λy v ey ty=>?_,λy ey=>?_⟩
 .by_cases z:y=x
  .subst z
   exact⟨n,f.set n⟩
  .rw[aC z] at ey
   obtain⟨n',f'⟩:=h.off y v ey ty;exact⟨n',f'.set n⟩
 .by_cases z:y=x
  .rw[z,ak] at ey;cases ey
  .rw[aC z] at ey;exact h.un y ey
structure Dr(τ:Tg)(r:Addr)(H H':Hp):Prop where
 k:∀x o,H x=some o->τ x≠[]->H' x=some o
 t:∀x xs,H x=some (.tup xs)->H' x=some (.tup xs)
 p:Kp r H H'
theorem Dr.of_same{τ:Tg}{r:Addr}{H H':Hp}(s:Same H H'):Dr τ r H H':=⟨λx o e _=>s _ _ e,s.tups,Kp.of_same s⟩
theorem Dr.trans{τ:Tg}{r:Addr}{H H1 H2:Hp}(a:Dr τ r H H1)(b:Dr τ r H1 H2):Dr τ r H H2:=⟨λx o e n=>b.k _ _ (a.k _ _ e n) n,λx xs e=>b.t _ _ (a.t _ _ e),a.p.trans b.p⟩
theorem Dr.draw{τ:Tg}{r:Addr}{H H':Hp}(T:RT τ H r)(k:KR r H H'):Dr τ r H H':=⟨λx o e n=>T.keep k e n,λx xs e=>k.tups T.R _ _ e,k.1⟩
theorem RT.Ze{K:PySem.W.Frag}{τ:Tg}{H:Hp}{r D a:Addr}{xs:List V}{m:Int}{val:Int->V}{te:TE}{Q:VK}{rest:St}(T:RT τ H r)(hD:H D=none)(ha:H a=some (.lst xs))(ta:τ a≠[])(hn:xs.length<=10000)(hte:∀(v:Option V)(Hd:Hp)(τd:Tg)(F:VK),RT τd Hd r->(∀(y:Int)(H':Hp),0<=y->y<m->RT τd H' r->Dr τd r Hd H'->F (val y) H')->te (v::rest) Hd F)(k:∀(ys:List Int)(H':Hp),ys.length=xs.length->(∀y∈ys,0<=y/\y<m)->H' D=some (.lst (ys.map val))->RT (aM τ D [0]) H' r->Dr τ r H H'->Q (.ref D) H'):jf (Mt K a) (cG 0) vI te Q D (none::rest) H:=by
 have sD:=aF (o:=HO.lst []) hD;have TD:=T.claim (t:=[0]) sD hD ⟨_,ak⟩;have tD:aM τ D [0] D=[0]:=bD;have tg:∀x u,H x=some u->aM τ D [0] x=τ x:=λx u e=>aN (ao e hD);generalize aM τ D [0]=τd at TD tD tg k;refine fY (K:=K) (xs:=xs) (λi σ Hd=>∃(v:Option V) (ys:List Int),σ=v::rest/\RT τd Hd r/\Hd D=some (.lst (ys.map val))/\ys.length=i/\(∀y∈ys,0<=y/\y<m)/\Dr τ r H Hd) ?_ ?_ ?_ ?_
 .exact⟨none,[],Z,TD,ak,Z,by simp,.of_same sD⟩
 .rintro i σ Hd _ ⟨v,ys,rfl,Td,Qe,ld,od,dr⟩
  exact bH.of (dr.k _ _ ha ta)
 .rintro i x σ Hd hi ⟨v,ys,rfl,Td,Qe,ld,od,dr⟩
  have il:=(aae.mp hi).1;dsimp only[cG,vI];rw[acM rfl];refine hte _ Hd τd _ Td (λy H3 y0 y1 T3 d3=>?_);have hD3:=d3.k _ _ Qe (by rw[tD];simp);refine⟨_,hD3,(by rw[aac,sizeLine_eq];lia),_,ys++[y],Z,T3.set hD3 (by rw[tD];simp),by rw[ak,abo];rfl,by simp[ld], ?_,⟨λx o e t=>?_,λx zs e=>?_,λx o e n'=>?_⟩⟩
  .intro c hc
   rcases abF.mp hc with hc|hc
   .exact od c hc
   .rw[abP.mp hc];exact⟨y0,y1⟩
  .rw[aC (ao e hD)]
   exact d3.k _ _ (dr.k x o e t) (by rw[tg x o e];exact t)
  .rw[aC (ao e hD)]
   exact d3.t _ _ (dr.t x zs e)
  .rw[aC (ao e hD)]
   exact d3.p _ _ (dr.p x o e n') n'
 .rintro σ Hd ⟨v,ys,rfl,Td,Qe,ld,od,dr⟩
  exact k ys Hd ld od Qe Td dr
theorem RT.drawn{τ:Tg}{H:Hp}{r D:Addr}{n:Nat}{m:Int}{te:TE}{Q:VK}{rest:St}(T:RT τ H r)(hD:H D=none)(hn:n<=10000)(hte:∀(v:Option V)(Hd:Hp)(F:VK),eX Hd r->(∀(y:Int)(H':Hp),0<=y->y<m->eX H' r->KR r Hd H'->F (.int y) H')->te (v::rest) Hd F)(k:∀(xs:List Nat)(H':Hp),xs.length=n->(∀c∈xs,(c:Int)<m)->H' D=some (.lst (xs.map λc:Nat=>V.int c))->RT (aM τ D [0]) H' r->(∀x o,H x=some o->τ x≠[]->H' x=some o)->(∀x xs,H x=some (.tup xs)->H' x=some (.tup xs))->Kp r H H'->Q (.ref D) H'):jf (Vu 0 n) (cG 0) vI te Q D (none::rest) H:=by
 have sD:=aF (o:=HO.lst []) hD;have nDr:D≠r:=T.R.ne hD;have TD:=T.claim (t:=[0]) sD hD ⟨_,ak⟩;have tD:aM τ D [0] D=[0]:=bD;have tg:∀x u,H x=some u->aM τ D [0] x=τ x:=λx u e=>aN (ao e hD);generalize aM τ D [0]=τd at TD tD tg k;refine xP (lo:=0) (n:=n) (λi σ Hd=>∃(v:Option V) (xs:List Nat),σ=v::rest/\RT τd Hd r/\Hd D=some (.lst (xs.map λc:Nat=>V.int c))/\xs.length=i/\(∀c∈xs,(c:Int)<m)/\(∀x o,H x=some o->τ x≠[]->Hd x=some o)/\(∀x xs,H x=some (.tup xs)->Hd x=some (.tup xs))/\Kp r H Hd) ?_ ?_ ?_
 .exact⟨none,[],Z,TD,ak,Z,by simp,λx o e _=>sD _ _ e,sD.tups,Kp.of_same sD⟩
 .rintro i σ Hd hi ⟨v,xs,rfl,Td,Qe,ld,od,kd,td,kpd⟩
  dsimp only[cG,vI];rw[acM rfl];refine hte _ Hd _ Td.R (λy H3 y0 y1 R3 k3=>?_);have T3:=Td.draw k3 R3;have hD3:=Td.keep k3 Qe (by rw[tD];simp);obtain⟨y,rfl⟩:=acF y0;refine⟨_,hD3,(by rw[aac,sizeLine_eq];lia),_,xs++[y],Z,T3.set hD3 (by rw[tD];simp),by rw[ak,abo];rfl,by simp[ld], ?_,λx o e t=>?_,λx ys e=>?_,λx o e n'=>?_⟩
  .intro c hc
   rcases abF.mp hc with hc|hc
   .exact od c hc
   .rw[abP.mp hc];exact y1
  .rw[aC (ao e hD)]
   exact Td.keep k3 (kd x o e t) (by rw[tg x o e];exact t)
  .rw[aC (ao e hD)]
   exact k3.tups Td.R _ _ (td x ys e)
  .rw[aC (ao e hD)]
   exact k3.1 _ _ (kpd x o e n') n'
 .rintro σ Hd ⟨v,xs,rfl,Td,Qe,ld,od,kd,td,kpd⟩
  exact k xs Hd ld od Qe Td kd td kpd
theorem Nj{K:PySem.W.Frag}{H H':Hp}{a:Addr}{xs:List V}(h:bH K H a xs)(k:∀o,H a=some o->H' a=some o):bH K H' a xs:=by
 rcases h with (h|⟨o,h⟩)|h
 .exact .inl (.inl (k _ h))
 .exact .inl (.inr ⟨o,k _ h⟩)
 .exact .inr h
section
variable{H:Hp}{p:Addr}{x y:V}{b c n:Nat}{e f:Ge}
theorem QG(h:H p=some (.tup [.str "load",.str (yC b),.int c])):Dat H (.ref p) (uH (.load b c)):=by
 simp only[uH,Dat];exact⟨p,_,Z,h,by simp only[aP,Dat,and_true]⟩
theorem Zf(h:H p=some (.tup [.str "go",.int n])):Dat H (.ref p) (uH (.go n)):=by
 simp only[uH,Dat];exact⟨p,_,Z,h,by simp only[aP,Dat,and_true]⟩
end
theorem zO{α β:Type}(f:α->β):∀(l:List α)(z:Nat),(l.map f).eraseIdx z=(l.eraseIdx z).map f
 | [],_=>rfl
 | _::_,0=>rfl
 | a::l,z+1=>by
   show f a::(l.map f).eraseIdx z=f a::(l.eraseIdx z).map f;rw[zO f l z]
theorem Yr{l:List Nat}{z y f g:Nat}(h:l.Nodup)(e1:l[z]? = some f)(e2:(l.eraseIdx z)[y]? = some g):f≠g:=by
 intro e;subst e;have zl:=(aae.mp e1).1;rw[List.getElem?_eraseIdx] at e2;split at e2
 .have:=(List.getElem?_inj zl h).mp (e1.trans e2.symm)
  lia
 .have:=(List.getElem?_inj zl h).mp (e1.trans e2.symm)
  lia
theorem RT.drop{τ:Tg}{H:Hp}{r D:Addr}{t:List Nat}(h:RT (aM τ D t) H r)(e:τ D=[]):RT τ H r:=by
 refine⟨h.R,λx o ex tx=>?_,λx ex=>?_⟩
 .have n:x≠D:=λz=>tx (by rw[z];exact e)
  exact h.off x o ex (by rw[aN n];exact tx)
 .by_cases n:x=D
  .rw[n];exact e
  .have:=h.un x ex
   rw[aN n] at this;exact this
noncomputable def Dw(K:PySem.W.Frag):Sp:=λvs H Q _=>∃(r c:Addr) (τ:Tg) (cs:List Int),vs=[.ref r,.ref c]/\RT τ H r/\H c=some (.lst (cs.map V.int))/\τ c=[0]/\yV cs /\
 (∀H',RT τ H' r->Dr τ r H H'->Q .non H') /\
 (∀(x:Nt)(p:Addr)(H':Hp),FT cs x->H' p=some (.tup (nV x))->RT τ H' r->Dr τ r H H'->Q (.ref p) H')
theorem Ky{f:Addr}{fd:FuncData}(F:gD K "_law_note" "_law_note" Bd f fd)(cN:FnAt P w K mg base 1 "_law_draw" ["reel","many"] (qU K))(Bt:pR mg):bO P w K mg base iy 2 f fd ["reel","counts"] (Dw K):=by
 refine F.ok rm (λvs H Q E h=>?_) (λcdv A outer s H vs Q E hr h=>?_)
 .obtain⟨r,c,τ,cs,rfl,_⟩:=h
  rfl
 .obtain⟨r,c,τ,cs,rfl,T,hc,tc,ok,k1,k2⟩:=h
  refine⟨_,(aB (mH (i:=2) rfl rm.nd rfl (Or.inl rfl) (N:=["k","counts"]) (own:=["k"]) (caps:=[1]) (bw.of (by kernel_rfl)) (eZ (by rfl) Bt.i_ (aj (aO (aW (K:=K) rfl) (by rfl) Bt.d_ cQ (aj (pv 1) aA)) aA)) (λ_ _ _ _=>(bJ (i:=0) (show List.Nodup (["k","counts"]:List Str) by decide +kernel) rfl (Or.inl rfl))) (λ_ _ _ _=>(pG (bB V2 (aQ (aZ (K:=K) rfl) (pv 1) (pv 0) (λ_ _=>rfl)) aD (bC _)))) (λ_ _ _ _=>(pv 0)))
   (aB (cA (bB uI (aO (aW (K:=K) rfl) (by rfl) Bt.d_ cQ (aj (pv 2) aA)) aD (bC _)) (aH (bG gK)) bL)
   (aB (bA (i:=3) rm.nd rfl (Or.inl rfl) (Bl (K:=K) rfl PySem.F.plainAttrs_list PySem.F.slot_list_pop PySem.F.type_list_pop Pn (pv 2) (aj (bT cN (hr.mono (by decide)) (by rfl) (aj (pv 0) (aj (aO (aW (K:=K) rfl) (by rfl) Bt.d_ cQ (aj (pv 2) aA)) aA))) aA)))
   (aB (bA (i:=4) rm.nd rfl (Or.inl rfl) (aQ (aZ (K:=K) rfl) (pv 2) (bT cN (hr.mono (by decide)) (by rfl) (aj (pv 0) (aj (aO (aW (K:=K) rfl) (by rfl) Bt.d_ cQ (aj (pv 2) aA)) aA))) (λ_ _=>rfl)))
   (aH (bG (fj (aj (pv 3) (aj (bT cN (hr.mono (by decide)) (by rfl) (aj (pv 0) (aj (aQ (aZ (K:=K) rfl) (pv 1) (pv 3) (λ_ _=>rfl)) aA))) (aj (pv 4) (aj (bT cN (hr.mono (by decide)) (by rfl) (aj (pv 0) (aj (aQ (aZ (K:=K) rfl) (pv 1) (pv 4) (λ_ _=>rfl)) aA))) aA))))))))))), ?_⟩
  have c8:=ok.1;refine⟨_,Z,c,_,Z,.inl (bH.of hc),_,Z,by rw[aac];lia,by rw[aac];lia,λD hD=>?_⟩;rw[aac,abt];refine lR (λj:Nat=>if decide (gI cs j>0) then some (.int (j:Nat)) else none) hD (by lia) (λj H1 G F hj s1 kG kF=>?_) (λH1 s1 e1=>?_)
  .refine⟨_,Z,_,Z,_,_,_,_,Z,Z,bH.of (s1 _ _ hc),by rw[Int.zero_add];exact gO (by lia) (by lia),_,_,Z,Z,_,Z, ?_⟩
   refine cO (λq1=>?_) (λq1=>?_)
   .exact⟨_,Z,kF _ H1 (Same.refl _) (by rw[Int.zero_add];exact acM q1)⟩
   .exact kG H1 (Same.refl _) (acK q1)
  rw[HN (λj:Nat=>decide (gI cs j>0)) (λj:Nat=>V.int j)] at e1;have ndA:((List.range cs.length).filter λj:Nat=>decide (gI cs j>0)).Nodup:=List.Pairwise.filter _ List.nodup_range
  have mA:∀x∈(List.range cs.length).filter λj:Nat=>decide (gI cs j>0),x<cs.length/\0<gI cs x:=λx hx=>by
   obtain⟨h1,h2⟩:=ace.mp hx;exact⟨acr.mp h1,aaO h2⟩
  have lA:((List.range cs.length).filter λj:Nat=>decide (gI cs j>0)).length<=cs.length:=by
   have:=List.length_filter_le (λj:Nat=>decide (gI cs j>0)) (List.range cs.length);rw[List.length_range] at this;exact this
  generalize ((List.range cs.length).filter λj:Nat=>decide (gI cs j>0))=A at e1 ndA mA lA;have tD0:τ D=[]:=T.un D hD;have T1:=T.claim (t:=[0]) s1 hD ⟨_,e1⟩;have tD:aM τ D [0] D=[0]:=bD;refine⟨_,Z,D,_,Z,.inl (bH.of e1),_,_,Z,Z,_,Z, ?_⟩;rw[aac];refine cO (λq=>?_) (λq=>?_)
  .exact k1 H1 (T1.drop tD0) (Dr.of_same s1)
  have q:¬((A.length:Nat):Int)<2:=λz=>q (aaL z);dsimp only;refine⟨_,Z,.inl ⟨Z,_,bH.of e1⟩,_,Z,_,Z,D,_,Z,.inl (bH.of e1), ?_⟩;rw[aac];refine⟨r,_,Z,T1.R,by lia,by lia,λz H2 z0 z1 R2 k2'=>?_⟩;obtain⟨z,rfl⟩:=acF z0;have T2:=T1.draw k2' R2;have e2:=T1.keep k2' e1 (by rw[tD];simp);have d2:Dr (aM τ D [0]) r H1 H2:= .draw T1 k2';have zl:z<A.length:=by lia
  obtain⟨f,ef⟩:∃f,A[z]? = some f:=⟨_,aad zl⟩;refine⟨D,_,z,z,.int f,Z,Z,e2,by lia,by lia,by rw[aac,PySem.StrLaws.seqIndex_nonneg (by lia) (by lia),abt],by rw[aah,ef];rfl, ?_⟩;have T3:RT (aM τ D [0]) (upd H2 D (.lst ((A.map λk:Nat=>V.int k).eraseIdx z))) r:=T2.set e2 (by rw[tD];simp);have e3:(upd H2 D (.lst ((A.map λk:Nat=>V.int k).eraseIdx z))) D=some (.lst ((A.eraseIdx z).map λk:Nat=>V.int k)):=by rw[ak,zO]
  have d3:Dr τ r H (upd H2 D (.lst ((A.map λk:Nat=>V.int k).eraseIdx z))):=by
   refine⟨λx o e t=>?_,λx xs e=>?_,λx o e n=>?_⟩
   .rw[aC (ao e hD)];exact d2.p _ _ (s1 _ _ e) (T.off x o e t).1
   .rw[aC (ao e hD)];exact d2.t _ _ (s1 _ _ e)
   .rw[aC (ao e hD)];exact d2.p _ _ (s1 _ _ e) n
  generalize (upd H2 D (.lst ((A.map λk:Nat=>V.int k).eraseIdx z)))=H3 at T3 e3 d3 ⊢;have el:(A.eraseIdx z).length=A.length - 1:=List.length_eraseIdx_of_lt zl;refine⟨_,Z,_,Z,_,Z,D,_,Z,.inl (bH.of e3), ?_⟩;rw[aac];refine⟨r,_,Z,T3.R,by lia,by lia,λy H4 y0 y1 R4 k4=>?_⟩;obtain⟨y,rfl⟩:=acF y0;have T4:=T3.draw k4 R4;have e4:=T3.keep k4 e3 (by rw[tD];simp);have d4:Dr τ r H3 H4:= .draw (T3.drop tD0) k4;have yl:y<(A.eraseIdx z).length:=by lia
  obtain⟨g,eg⟩:∃g,(A.eraseIdx z)[y]? = some g:=⟨_,aad yl⟩;have nfg:=Yr ndA ef eg;have mf:=mA f (aaK ef);have mg':=mA g (List.mem_of_mem_eraseIdx (aaK eg));have bf:=ok.gI f;have bg:=ok.gI g;refine⟨_,_,_,_,Z,Z,bH.of e4,d7 (by rw[aah,eg];rfl), ?_⟩;have T4':=T4.drop tD0;have hc4:=(d3.trans d4).k _ _ hc (by rw[tc];simp);refine⟨_,Z,_,Z,_,Z,_,Z,_,_,_,_,Z,Z,bH.of hc4,gO (by lia) (by lia),r,_,Z,T4'.R,by lia,by lia,λu H5 u0 u1 R5 k5=>?_⟩;have T5:=T4'.draw k5 R5;have d5:Dr τ r H4 H5:= .draw T4' k5;have hc5:=d5.k _ _ hc4 (by rw[tc];simp);refine⟨_,Z,_,Z,_,Z,_,Z,_,_,_,_,Z,Z,bH.of hc5,gO (by lia) (by lia),r,_,Z,T5.R,by lia,by lia,λv H6 v0 v1 R6 k6=>?_⟩;have T6:=T5.draw k6 R6;have d6:Dr τ r H5 H6:= .draw T5 k6;refine⟨(by show 4<=sizeLine;decide),λp hp=>?_⟩;have sp:=aF (o:=HO.tup [V.int f,V.int u,V.int g,V.int v]) hp;exact k2 (f,u,g,v) p _ ⟨⟨Int.natCast_nonneg f,Int.ofNat_lt.mpr mf.1⟩,⟨u0,u1⟩,⟨Int.natCast_nonneg g,Int.ofNat_lt.mpr mg'.1⟩,⟨v0,v1⟩,by show (f:Int)≠g;lia⟩ ak (T6.same sp) ((((d3.trans d4).trans d5).trans d6).trans (Dr.of_same sp))
noncomputable def zj(K:PySem.W.Frag):Sp:=λvs H Q _=>∃(r c:Addr) (τ:Tg) (cs:List Int),vs=[.ref r,.ref c]/\RT τ H r/\H c=some (.lst (cs.map V.int))/\τ c=[0]/\yV cs /\
 ∀(a:Addr)(ns:List Nt)(H':Hp),H a=none->m9 H' a ns->ns.length<=80->(∀x∈ns,FT cs x)->RT (aM τ a [0]) H' r->Dr τ r H H'->Q (.ref a) H'
theorem GX{f:Addr}{fd:FuncData}(F:gD K "_law_notes" "_law_notes" vY f fd)(cN:FnAt P w K mg base 1 "_law_draw" ["reel","many"] (qU K))(Vx:FnAt P w K mg base 2 "_law_note" ["reel","counts"] (Dw K))(Bt:pR mg):bO P w K mg base iy 3 f fd ["reel","counts"] (zj K):=by
 refine F.ok pF (λvs H Q E h=>?_) (λcdv A outer s H vs Q E hr h=>?_)
 .obtain⟨r,c,τ,cs,rfl,_⟩:=h
  rfl
 .obtain⟨r,c,τ,cs,rfl,T,hc,tc,ok,k⟩:=h
  refine⟨_,(aB (bA (i:=2) pF.nd rfl (Or.inl rfl) (cR aA))
   (aB (mJ PassesOwn.never rfl (eZ (by rfl) Bt.i_ (aj (bT cN (hr.mono (by decide)) (by rfl) (aj (pv 0) (aj (aQ (aZ (K:=K) rfl) (cR (aj aD (aj aD (aj aD aA)))) (bT cN (hr.mono (by decide)) (by rfl) (aj (pv 0) (aj aD aA))) (λ_ _=>rfl)) aA))) aA)) (bJ (i:=3) pF.nd rfl (Or.inl rfl))
   (aB (bA (i:=4) pF.nd rfl (Or.inl rfl) (bT Vx (hr.mono (by decide)) (by rfl) (aj (pv 0) (aj (pv 1) aA))))
   (aH (cA (bB Bq (pv 4) gK (bC _)) (aB (cF (dB (K:=K) rfl (pv 2) (aj (pv 4) aA)))
   (aH (cA (bB eF (bT cN (hr.mono (by decide)) (by rfl) (aj (pv 0) (aj aD aA))) aD (bC _)) (aH (cF (dB (K:=K) rfl (pv 2) (aj (pv 4) aA)))) bL))) bL))))
   (aH (bG (pv 2))))), ?_⟩
  refine⟨(by show 0<=sizeLine;decide),λa ha=>?_⟩;have sa:=aF (o:=HO.lst []) ha;have T1:=T.claim (t:=[0]) sa ha ⟨_,ak⟩;have ea:(upd H a (.lst [])) a=some (.lst []):=ak;have ta:aM τ a [0] a=[0]:=bD;have Ds:∀x u,H x=some u->aM τ a [0] x=τ x:=λx u e=>aN (ao e ha);have d1:Dr τ r H (upd H a (.lst [])):=Dr.of_same sa;generalize (upd H a (.lst []))=H1 at sa T1 ea d1 ⊢;generalize eτ:aM τ a [0]=τ1 at T1 ta Ds;have tc1:τ1 c=[0]:=(Ds _ _ hc).trans tc;refine⟨_,Z,(by show 3<=sizeLine;decide),λq hq=>?_⟩;have sq:=aF (o:=HO.lst [V.int 4,V.int 12,V.int 41]) hq;have T1':=T1.same sq;refine⟨_,Z,r,3,Z,T1'.R,by decide,by decide,λz H2 z0 z1 R2 k2=>?_⟩;have T2:=T1'.draw k2 R2;have nqr:q≠r:=T1.R.ne hq;have eq2:=k2.1 _ _ (ak (H:=H1) (a:=q) (o:=HO.lst [V.int 4,V.int 12,V.int 41])) nqr
  obtain⟨m,em,m0,m41⟩:∃m:Int,Ij [V.int 4,V.int 12,V.int 41] z=some (.int m)/\0<m/\m<=41:=by
   rcases(show z=0\/z=1\/z=2 by lia) with rfl|rfl|rfl
   .exact⟨4,Z,by decide,by decide⟩
   .exact⟨12,Z,by decide,by decide⟩
   .exact⟨41,Z,by decide,by decide⟩
  refine⟨_,_,_,_,Z,Z,bH.of eq2,em,r,m,Z,T2.R,m0,by lia,λn H3 n0 n1 R3 k3=>⟨_,Z,by lia,by lia, ?_⟩⟩;have T3:=T2.draw k3 R3;have xM:Dr τ1 r H1 H3:=((Dr.of_same sq).trans (.draw T1' k2)).trans (.draw T2 k3);have d3:Dr τ r H H3:=⟨λx o e t=>xM.k _ _ (sa _ _ e) (by rw[Ds x o e];exact t),λx xs e=>xM.t _ _ (sa _ _ e),d1.p.trans xM.p⟩;have Z5:=xM.k _ _ ea (by rw[ta];simp)
  refine pN (lo:=0) (n:=n.toNat) (λj σ Hc=>∃(v w':Option V) (ns:List Nt),σ=[some (.ref r),some (.ref c),some (.ref a),v,w']/\m9 Hc a ns/\ns.length<=2*j/\(∀x∈ns,FT cs x)/\RT τ1 Hc r/\Dr τ r H Hc)
   ⟨none,none,[],Z,⟨[],Z5,by simp[aP]⟩,aar _,by simp,T3,d3⟩ ?_ ?_
  .rintro j σ Hc hj ⟨v,w',ns,rfl,⟨vs,eA,dv⟩,nl,O_,Tc,dc⟩
   have hcc:=dc.k _ _ hc (by rw[tc];simp);have vl:vs.length=ns.length:=by rw[dv.length,aac]
   have add:∀(Hx:Hp)(vs:List V)(ns:List Nt)(p:Addr)(x:Nt),Hx a=some (.lst vs)->aP Hx vs (ns.map nD)->Hx p=some (.tup (nV x))->RT τ1 Hx r->Dr τ r H Hx ->
    m9 (upd Hx a (.lst (vs++[.ref p]))) a (ns++[x])/\RT τ1 (upd Hx a (.lst (vs++[.ref p]))) r/\Dr τ r H (upd Hx a (.lst (vs++[.ref p])))/\(upd Hx a (.lst (vs++[.ref p]))) p=some (.tup (nV x)):=λHx vs ns p x e1 e2 e3 T' d'=>by
    have tup:∀y ys,Hx y=some (.tup ys)->(upd Hx a (.lst (vs++[V.ref p]))) y=some (.tup ys):=λy ys e=>by rw[aC (cY e e1 (by intro z;cases z))];exact e
    refine⟨⟨_,ak, ?_⟩,T'.set e1 (by rw[ta];simp),⟨λx o e t=>?_,λx xs e=>?_,λx o e n=>?_⟩,tup _ _ e3⟩
    .rw[abo]
     exact aP.append (aP.keep tup _ (cZ _ mR _) e2) (QD (QF (tup _ _ e3)))
    .rw[aC (ao e ha)];exact d'.k x o e t
    .rw[aC (ao e ha)];exact d'.t x xs e
    .rw[aC (ao e ha)];exact d'.p x o e n
   refine⟨_,Z,_,Z,r,c,τ1,cs,Z,Tc,hcc,tc1,ok,λH4 T4 d4=>?_,λx p H4 xok ep T4 d4=>?_⟩
   .refine⟨_,Z,Z,_,Z,dU ?_⟩
    have eA4:=d4.k _ _ eA (by rw[ta];simp);exact⟨_,_,ns,Z,⟨vs,eA4,aP.keep d4.t _ (cZ _ mR _) dv⟩,by lia,O_,T4,⟨λx o e t=>d4.k _ _ (dc.k x o e t) (by rw[Ds x o e];exact t),λx xs e=>d4.t _ _ (dc.t x xs e),dc.p.trans d4.p⟩⟩
   .refine⟨_,Z,Z,_,Z,fM ?_⟩
    have eA4:=d4.k _ _ eA (by rw[ta];simp);have dv4:aP H4 vs (ns.map nD):=aP.keep d4.t _ (cZ _ mR _) dv;have dc4:Dr τ r H H4:=⟨λx o e t=>d4.k _ _ (dc.k x o e t) (by rw[Ds x o e];exact t),λx xs e=>d4.t _ _ (dc.t x xs e),dc.p.trans d4.p⟩;obtain⟨⟨vs5,eA5,dv5⟩,T5,dc5,Z2⟩:=add H4 vs ns p x eA4 dv4 ep T4 dc4
    have aa9:∀y∈ns++[x],FT cs y:=λy hy=>by
     rcases abF.mp hy with hy|hy
     .exact O_ y hy
     .rw[abP.mp hy];exact xok
    refine⟨_,Z,.inl ⟨Z,_,bH.of eA4⟩,_,Z,a,vs,_,Z,Z,eA4,(by rw[sizeLine_eq];lia), ?_⟩;generalize (upd H4 a (.lst (vs++[V.ref p])))=H5 at eA5 dv5 T5 dc5 Z2 ⊢;refine⟨_,Z,r,8,Z,T5.R,by decide,by decide,λu H6 u0 u1 R6 k6=>⟨Z,_,Z, ?_⟩⟩;have T6:=T5.draw k6 R6;have d6:Dr τ1 r H5 H6:= .draw T5 k6;have eA6:=d6.k _ _ eA5 (by rw[ta];simp);have dv6:aP H6 vs5 ((ns++[x]).map nD):=aP.keep d6.t _ (cZ _ mR _) dv5;have dc6:Dr τ r H H6:=⟨λx o e t=>d6.k _ _ (dc5.k x o e t) (by rw[Ds x o e];exact t),λx xs e=>d6.t _ _ (dc5.t x xs e),dc5.p.trans d6.p⟩;have vl5:vs5.length=ns.length+1:=by rw[dv5.length,aac,aa_];rfl
    refine cO (λ_=>?_) (λ_=>?_)
    .obtain⟨N7,T7,dc7,_⟩:=add H6 vs5 (ns++[x]) p x eA6 dv6 (d6.t _ _ Z2) T6 dc6
     refine⟨_,Z,.inl ⟨Z,_,bH.of eA6⟩,_,Z,a,vs5,_,Z,Z,eA6,(by rw[sizeLine_eq];lia), ?_⟩
     exact⟨_,_,ns++[x]++[x],Z,N7,by simp;lia,λy hy=>by
      rcases abF.mp hy with hy|hy
      .exact aa9 y hy
      .rw[abP.mp hy];exact xok,T7,dc7⟩
    .exact⟨_,_,ns++[x],Z,⟨vs5,eA6,dv6⟩,by simp;lia,aa9,T6,dc6⟩
  .rintro σ Hc ⟨v,w',ns,rfl,N,nl,O_,Tc,dc⟩
   exact⟨_,Z,k a ns Hc ha N (by lia) O_ (by rw[eτ];exact Tc) dc⟩
noncomputable def Tw(S:gU)(o:List Nat):gU:=o.foldl fK S
noncomputable def nG(n:Nat)(o:List Nat):List Int:=o.foldl fB (List.replicate n 0)
theorem wB(S:gU)(o:List Nat)(k:Nat):Tw S (o++[k])=fK (Tw S o) k:=by unfold Tw;rw[List.foldl_append];rfl
theorem ou(n:Nat)(o:List Nat)(k:Nat):nG n (o++[k])=fB (nG n o) k:=by unfold nG;rw[List.foldl_append];rfl
noncomputable def ig(S:gU)(cs:List Int)(ns:List Nt)(o:List Nat):List Nat:=Ez (Tw S o) cs ns (nG cs.length o)
structure Mi(i ii jj:Nat)(τ:Tg)(H:Hp)(τ':Tg)(H':Hp):Prop where
 keep:∀x o,H x=some o->(τ x).head?≠some i->(τ x).head?≠some ii->(τ x).head?≠some jj->H' x=some o/\τ' x=τ x
 tup:∀x xs,H x=some (.tup xs)->H' x=some (.tup xs)
section
variable{i ii jj:Nat}{τ τ':Tg}{H H':Hp}
theorem Mi.claim{p:Addr}{t:List Nat}(k:Same H H')(hp:H p=none):Mi i ii jj τ H (aM τ p t) H':=⟨λx o e _ _ _=>⟨k _ _ e,aN (ao e hp)⟩,λx xs e=>k _ _ e⟩
theorem Mi.st2(k:St2 i ii τ H H'):Mi i ii jj τ H τ H':=by
 obtain⟨H1,a,b⟩:=k;exact⟨λx o e n m _=>⟨b.keep _ _ (a.keep _ _ e n) m,Z⟩,λx xs e=>b.tup _ _ (a.tup _ _ e)⟩
theorem Mi.stp(k:nu jj τ H H'):Mi i ii jj τ H τ H':=⟨λx o e _ _ m=>⟨k.keep _ _ e m,Z⟩,λx xs e=>k.tup _ _ e⟩
end
theorem Dt:∀{ls:List Int}{i:Nat}{x:Int},ls[i]? = some x -> ∀y,(ls.set i y).sum=ls.sum - x+y
 | [],i,x,h,y=>by simp at h
 | z::ls,0,x,h,y=>by
   cases h;rw[List.set_cons_zero,List.sum_cons,List.sum_cons];lia
 | z::ls,i+1,x,h,y=>by
   rw[List.set_cons_succ,List.sum_cons,List.sum_cons,Dt (by simpa using h) y];lia
theorem sX{gs:List Int}{k:Nat}(h:k<gs.length):(fB gs k).sum=gs.sum+1:=by
 unfold fB
 have e:gs[k]? = some (gI gs k):=by
  obtain⟨z,hz⟩:∃z,gs[k]? = some z:=⟨_,aad h⟩;rw[hz,Cd hz]
 rw[Dt e];lia
theorem lQ{cs gs:List Int}(d:yu cs gs):gs.sum<=cs.sum:=by
 obtain⟨l,b⟩:=d
 have:∀(cs gs:List Int),gs.length=cs.length->(∀i:Nat,i<cs.length->gI gs i<=gI cs i)->gs.sum<=cs.sum:=λcs=>by
  induction cs with
  | nil=>intro gs h _;cases gs with
    | nil=>exact Int.le_refl _
    | cons _ _=>cases h
  | cons c cs ih=>
    intro gs h b;cases gs with
    | nil=>cases h
    | cons g gs=>
      rw[List.sum_cons,List.sum_cons];have h0:g<=c:=b 0 (by simp);have:=ih gs (Nat.succ.inj h) λi hi=>b (i+1) (by simp;lia);lia
 exact this cs gs l λi hi=>(b i (by lia) (by lia)).2
theorem Af{cs:List Int}(ok:yV cs):cs.sum<=2400:=by
 have:∀(l:List Int),(∀c∈l,0<=c/\c<=300)->l.sum<=300*l.length:=λl=>by
  induction l with
  | nil=>intro _;exact Int.le_refl _
  | cons c l ih=>
    intro h;have:=ih λd hd=>h d (by simp[hd]);have:=(h c (by simp)).2;rw[List.sum_cons,acw];lia
 have:=this cs ok.2;have:=ok.1;lia
theorem WL(S:gU)(k:Nat):(fK S k).ts.length<=S.ts.length+1:=by
 unfold fK;split
 .lia
 .split
  .lia
  .show (_++_:List Int).length<=_
   rw[aa_];exact aar _
noncomputable def vM(P:Program)(w:World)(mg:Str->Option Value)(base:Heap)(kk:Nat)(CW CH CN:Addr)(K:PySem.W.Frag):Sp:=λvs H Q E=>∃(i i' ii jj:Nat) (τ:Tg) (t c a f:Addr) (W:u6) (S:gU) (cs:List Int) (ns:List Nt) (Wi:List Nat->Tg->Hp->Prop),
 vs=[.ref W.o,.ref t,.ref f]/\jw CW CH i τ H W S/\gn S/\S.m<=100/\S.ts.length<=6000/\RecAt H t c a cs ns/\yh cs ns/\cs.length=S.hs.length/\i'≠0/\ii≠0/\ii≠i'/\ii≠i/\jj≠i'/\jj≠ii/\jj≠0 /\
 (∀ns',ns'.Perm ns ->
   (∀τ1 H1,Same H H1->(∀x u,H x=some u->τ1 x=τ x)->j8 τ1 H1->Wi [] τ1 H1) /\
   (∀o τ1 H1 τ2 H2,Wi o τ1 H1->Mi i' ii jj τ1 H1 τ2 H2->j8 τ2 H2->Wi o τ2 H2) /\
   (∀o τ1 H1 l,o.length<=2400->Wi o τ1 H1->j8 τ1 H1->ig S cs ns' o≠[]->H1 l=none->qK P w K mg base kk f [.ref l] (upd H1 l (.lst ((ig S cs ns' o).map λk:Nat=>V.int k))) λv H2=>∃(h:Int) (τ2:Tg),v = .int h/\Mv i' τ1 H1 τ2 H2/\Mv ii τ1 H1 τ2 H2/\Mv jj τ1 H1 τ2 H2/\j8 τ2 H2 /\
     (∀k:Nat,h=k->k∈ig S cs ns' o->Wi (o++[k]) τ2 H2)/\((∀k:Nat,h=k->k∉ig S cs ns' o) -> ∀H3,Same H2 H3->E (.ref CN) none H3)) /\
   (∀o τ1 H1 l,Wi o τ1 H1->j8 τ1 H1->ig S cs ns' o=[]->H1 l=some (.lst (o.map λk:Nat=>V.int k))->H l=none->Q (.ref l) H1))
theorem Kw{aL aq au aR dj:Addr}{f:Addr}{fd:FuncData}(F:gD K "played" "played" vX f fd)(bV:Xr K mg aR "NoHand")(aV:iW K aL)(Rj:mX P w K mg base 10 aL "Replay" ["self","works","record"] [] (Ak aL aq au aR K))(p8:MethAt P w K mg base 6 aL "free" ["self"] (Al aL aq au K))(yR:j9 P w K mg base 8 aL "turn" ["self","hand"] (Aj aL aq au aR dj K))(Bt:pR mg):bO P w K mg base (pY P w) 12 f fd ["works","record","choose"] (vM P w mg base 10 aq au aR K):=by
 refine F.Uk jC (λvs H Q E h=>?_) (λcdv A outer s H vs Q E hr h hR=>?_)
 .obtain⟨i,i',ii,jj,τ,t,c,a,f,W,S,cs,ns,Wi,rfl,_⟩:=h
  rfl
 .obtain⟨i,i',ii,jj,τ,t,c,a,f,W,S,cs,ns,Wi,rfl,w0,gd,ml,tl,R,yx,hl,i0,Hu,iin,iio,ji,jii,j0,kL⟩:=h
  have zR:=yx.1
  refine⟨_,(aB (bA (i:=3) jC.nd rfl (Or.inl rfl) (Od Rj rfl hR (hr.mono (by decide)) (by rfl) (aj (pv 0) (aj (pv 1) aA))))
   (aB (bA (i:=4) jC.nd rfl (Or.inl rfl) (cR aA))
   (aB (bA (i:=5) jC.nd rfl (Or.inl rfl) (cV p8 aV.cls (hr.mono (by decide)) (pv 3)))
   (aB (wu PassesOwn.leaving (tY (K:=K) rfl (pv 5)) (aB (bA (i:=6) jC.nd rfl (Or.inl rfl) (Om (k:=10) (pv 2) (hr.mono (by decide)) (aj (cL (bR (K:=K) rfl) (by rfl) Bt.fQ dN (aj (pv 5) aA)) aA)))
   (aB (cA (bB (lC (K:=K) rfl) (pv 6) (pv 5) (by with_unfolding_all rfl)) (aH (jc PySem.F.excBase_ValueError bV.ex bV.bd (by rfl) rfl rfl hR (aj cB aA))) bL)
   (aB (cF (rJ yR aV.cls rfl hR (hr.mono (by decide)) (pv 3) (aj (pv 6) aA)))
   (aB (cF (dB (K:=K) rfl (pv 4) (aj (pv 6) aA)))
   (aH (bA (i:=5) jC.nd rfl (Or.inl rfl) (cV p8 aV.cls (hr.mono (by decide)) (pv 3)))))))))
   (aH (bG (pv 4))))))), ?_⟩
  refine⟨_,Z,_,Z,λo dx ho hdx V5=>?_⟩;have ho':(upd H dx (.own o)) o=none:=by rw[aC V5.symm];exact ho
  have sm:Same H (upd (upd H dx (.own o)) o (.ins aL dx [])):=(aF hdx).trans (aF ho');refine⟨i,i',ii,τ,o,dx,t,c,a,W,S,cs,ns,Z,ak,w0.un _ ho,w0.same sm,gd,ml,R.same sm,yx,i0,Hu,iin,iio,λ_ τ1 Rr ns' H1 eR pm rp Ds kp1=>⟨Z, ?_⟩,λnl=>acP hl nl⟩;obtain⟨kI,kO,kS,kE⟩:=kL ns' pm;clear kL;have s01:Same H H1:=λx u e=>kp1 _ _ (sm _ _ e) (ao e ho);have t01:∀x u,H x=some u->τ1 x=τ x:=λx u e=>Ds x u (sm _ _ e) (ao e ho);have un1:=rp.w.un;have w1:=kI τ1 H1 s01 t01 un1;have oR:V.ref o=V.ref Rr.o:=by rw[eR]
  rw[oR];clear Ds kp1 sm ho' kI;refine⟨(by show 0<=sizeLine;decide),λlo hlo=>?_⟩;have ZD:=aF (o:=HO.lst []) hlo;have agl:H lo=none:=s01.free hlo;have U_:(upd H1 lo (.lst [])) lo=some (.lst []):=ak;have un2:j8 (aM τ1 lo [jj,9]) (upd H1 lo (.lst [])):=un1.claim ZD ⟨_,U_⟩;have rp2:=rp.mv (Mv.claim (i:=i') (p:=lo) (t:=[jj,9]) ZD hlo) (Mv.claim ZD hlo) un2;have w2:=kO [] _ _ _ _ w1 (Mi.claim (p:=lo) (t:=[jj,9]) ZD hlo) un2;have tlo:aM τ1 lo [jj,9] lo=[jj,9]:=bD;generalize (upd H1 lo (.lst []))=H2 at ZD U_ un2 rp2 w2 ⊢;generalize aM τ1 lo [jj,9]=τ2 at un2 rp2 w2 tlo;clear un1 rp w1 s01 t01 hlo ZD;refine⟨_,Z,Rr.o,Rr.dx,_,Z,rp2.o,Z,i',ii,τ2,Rr,S,cs,_,ns',Z,rp2,λl H3 hl3 el s3=>?_⟩;have ZC:j8 (aM τ2 l [jj,10]) H3:=un2.claim s3 ⟨_,el⟩;have rp3:=rp2.mv (Mv.claim (i:=i') (p:=l) (t:=[jj,10]) s3 hl3) (Mv.claim s3 hl3) ZC;have w3:=kO [] _ _ _ _ w2 (Mi.claim (p:=l) (t:=[jj,10]) s3 hl3) ZC;have tl3:aM τ2 l [jj,10] l=[jj,10]:=bD;have aap:aM τ2 l [jj,10] lo=[jj,9]:=by rw[aN (ao U_ hl3)];exact tlo
  have agL:=s3 _ _ U_;generalize aM τ2 l [jj,10]=τ3 at ZC rp3 w3 tl3 aap;have c24:=Af zR;dsimp only[cG];refine fW (λσ Hf=>∃(od:List Nat) (τ:Tg) (x6:Option V) (lf:Addr),σ=[some (.ref W.o),some (.ref t),some (.ref f),some (.ref Rr.o),some (.ref lo),some (.ref lf),x6]/\Wi od τ Hf/\j8 τ Hf/\ig S cs ns' od=[]/\Hf lo=some (.lst (od.map λk:Nat=>V.int k))) (λD' hD' rt'=>?_) ?_
  .refine⟨λm σ Hc=>∃(od:List Nat) (τ:Tg) (x6:Option V) (lf:Addr),σ=[some (.ref W.o),some (.ref t),some (.ref f),some (.ref Rr.o),some (.ref lo),some (.ref lf),x6]/\oW aL aq au i' ii τ Hc Rr (Tw S od) cs ns' (nG cs.length od)/\Wi od τ Hc/\j8 τ Hc/\Hc lo=some (.lst (od.map λk:Nat=>V.int k))/\τ lo=[jj,9]/\Hc lf=some (.lst ((ig S cs ns' od).map λk:Nat=>V.int k))/\τ lf=[jj,10]/\((nG cs.length od).sum=od.length)/\m=(cs.sum - (nG cs.length od).sum).toNat/\(Tw S od).ts.length<=S.ts.length+od.length,⟨_,[],τ3,_,l,Z,rp3,w3,ZC,agL,aap,el,tl3, ?_,Z,aar _⟩, ?_⟩
   .show (List.replicate cs.length (0:Int)).sum=0
    simp
   rintro m σ Hc ⟨od,τ,x6,lf,rfl,rp,wi,un,U_,tlo,elf,tlf,sg,rfl,RW⟩;have dn:=lQ rp.dn;refine⟨_,Z, !(ig S cs ns' od).isEmpty,.inl ⟨_,bH.of elf,by cases ig S cs ns' od<;>rfl⟩, ?_⟩;cases fe:(ig S cs ns' od).isEmpty with
   | true=>
     refine dU ?_;exact hD' _ _ ⟨od,τ,x6,lf,Z,wi,un,List.isEmpty_iff.mp fe,U_⟩
   | false=>
     refine fM ?_;have Qo:ig S cs ns' od≠[]:=λz=>by rw[z] at fe;cases fe
     refine⟨_,λσ' H' h=>h, ?_⟩;refine⟨f,Z,_,Z,lf,_,Z,.inl (bH.of elf),λln hln=>?_⟩;have co:=kS od τ Hc ln (by lia) wi un Qo hln;refine co.imp λv Hd gw=>?_;obtain⟨hv,τd,ev,m1,m2,m3,und,Hq,Yz⟩:=gw;subst ev;have rpd:=rp.mv m1 m2 und;obtain⟨agK,R8⟩:=m3.keep _ _ U_ (.inr (by rw[tlo];rfl));obtain⟨agM,aev⟩:=m3.keep _ _ elf (.inr (by rw[tlf];rfl));rw[tlo] at R8;rw[tlf] at aev;refine⟨_,Z,_,Z,lf,_,Z,.inl (bH.of agM),Z, ?_,_,Z, ?_⟩
     .rw[List.all_map];exact List.all_eq_true.mpr λ_ _=>rfl
     by_cases hin:∃k:Nat,hv=k/\k∈ig S cs ns' od
     rotate_left
     .refine cO (λ_=>?_) (λz=>acP ?_ z)
      .refine⟨(by show 1<=sizeLine;decide),Yz (λk e m=>hin ⟨k,e,m⟩) _ (Same.refl _)⟩
      .rw[acM rfl,Bool.not_eq_true']
       unfold inV;rw[List.any_map,List.any_eq_false];intro k hk z;refine hin ⟨k, ?_,hk⟩;have:(Ms (V.int (k:Nat)) (V.int hv))=true:=z;have:=aaO (p:=(k:Int)=hv) (by simpa [Ms] using this);exact this.symm
     obtain⟨k,rfl,hk⟩:=hin;refine cO (λz=>acP z ?_) (λ_=>?_)
     .rw[acM rfl,Bool.not_eq_true,Bool.not_eq_false']
      unfold inV;rw[List.any_map,List.any_eq_true];exact⟨k,hk,by simp[Function.comp,Ms]⟩
     have hkf:=hk;unfold ig Ez at hkf;rw[ace,acr,abw,Bool.not_eq_true'] at hkf;obtain⟨kl,ov,he⟩:=hkf;have he:j5 ns' (nG cs.length od) k=[]:=List.isEmpty_iff.mp he;have inn:uO (k:Int) cs.length:=⟨by lia,by lia⟩;refine⟨_,Z,Rr.o,Rr.dx,_,Z,rpd.o,Z,_,Z,i',ii,τd,Rr,_,cs,_,ns',k,Z,rpd,by lia,λk2 e2 _=>?_,λk2 s r t2 He e2 _ _ _ _ _ _ _ _ rpe st=>?_,λz=>acP inn z,λk2 e2 _ z=>?_⟩
     .obtain rfl:k2=k:=by lia
      exact he
     rotate_left
     .obtain rfl:k2=k:=by lia
      rw[ov] at z;cases z
     obtain rfl:k2=k:=by lia
     have une:j8 τd He:=by
      obtain⟨H1,s1,s2⟩:=st;exact s2.un (s1.un und)
     have mvj:Mv jj τd Hd τd He:=by
      obtain⟨H1,s1,s2⟩:=st;exact(Mv.mK s1 (λz=>ji z.symm) i0).trans (Mv.mK s2 (λz=>jii z.symm) Hu)
     have Y_:=(mvj.keep _ _ agK (.inr (by rw[R8];rfl))).1;have wie:=kO _ _ _ _ _ (Hq k2 rfl hk) (Mi.st2 st) une;rw[←wB,←ou] at rpe;have lg:=rp.dn.1
     have sg':(nG cs.length (od++[k2])).sum=(od++[k2]).length:=by
      rw[ou,sX (by lia),sg,aa_,abT];lia
     have dn':=lQ rpe.dn;rw[sg',aa_,abT] at dn';refine⟨_,Z,.inl ⟨Z,_,bH.of Y_⟩,_,Z,lo,_,_,Z,Z,Y_,by rw[aac,sizeLine_eq];lia, ?_⟩;have stj:nu jj τd He (upd He lo (.lst ((od.map λk:Nat=>V.int k)++[V.int (k2:Nat)]))):=nu.set (by rw[R8];rfl) Y_ (by intro xs z;cases z);have Za:(upd He lo (.lst ((od.map λk:Nat=>V.int k)++[V.int (k2:Nat)]))) lo=some (.lst ((od++[k2]).map λk:Nat=>V.int k)):=by rw[ak,abo];rfl
     generalize (upd He lo (.lst ((od.map λk:Nat=>V.int k)++[V.int (k2:Nat)])))=Hf at stj Za ⊢;have unf:=stj.un une;have rpf:=rpe.mv (Mv.mK stj ji j0) (Mv.mK stj jii j0) unf;have wif:=kO _ _ _ _ _ wie (Mi.stp stj) unf;refine⟨_,Z,Rr.o,Rr.dx,_,Z,rpf.o,Z,i',ii,τd,Rr,_,cs,_,ns',Z,rpf,λl2 Hg hl2 el2 sg2=>?_⟩;have ung:j8 (aM τd l2 [jj,10]) Hg:=unf.claim sg2 ⟨_,el2⟩;refine⟨_, ?_,od++[k2],aM τd l2 [jj,10],_,l2,Z,rpf.mv (Mv.claim sg2 hl2) (Mv.claim sg2 hl2) ung,kO _ _ _ _ _ wif (Mi.claim sg2 hl2) ung,ung,sg2 _ _ Za, ?_,el2,bD,sg',Z, ?_⟩
     .rw[sg',sg,aa_,abT]
      lia
     .rw[aN (ao Za hl2)];exact R8
     .rw[wB,aa_,abT]
      have:=WL (Tw S od) k2;lia
  .rintro σ Hf ⟨od,τ,x6,lf,rfl,wi,un,fz,U_⟩
   exact⟨_,Z,kE od τ Hf lo wi un fz U_ agl⟩
noncomputable def uZ(gs:List Int)(k:Int)(x:Nt):Bool:=decide (x.2.2.1=k)&&(decide (x.2.2.2=gI gs k)&&decide (gI gs x.1<=x.2.1))
theorem Ew(gs:List Int)(k:Nat):∀ns:List Nt,j5 ns gs k=ns.filter (uZ gs k)
 | []=>rfl
 | (a,b,c,d)::r=>by
   have ih:=Ew gs k r;unfold j5 cJ at ih ⊢;rw[acv,acv];unfold uZ at ih ⊢;dsimp only
   by_cases q1:c=(k:Int)
   .by_cases q2:d=gI gs k
    .subst q1 q2
     rw[aaL rfl,aaL rfl];simp only[Bool.and_self,Bool.true_and,if_true,List.map_cons,acv]
     by_cases q3:b<gI gs a
     .rw[aaN (show ¬gI gs a<=b by lia)]
      rw[acK (show ¬(!decide ((ft (a,b,(k:Int),gI gs k)).2<gI gs (ft (a,b,(k:Int),gI gs k)).1))=true by show ¬(!decide (b<gI gs a))=true;rw[aaL q3];decide),acK aaY];exact ih
     .rw[aaL (show gI gs a<=b by lia)]
      rw[acM (show (!decide ((ft (a,b,(k:Int),gI gs k)).2<gI gs (ft (a,b,(k:Int),gI gs k)).1))=true by show (!decide (b<gI gs a))=true;rw[aaN q3];rfl),acM rfl];exact congrArg ((a,b,(k:Int),gI gs k) :: ·) ih
    .rw[aaN q2]
     simp only[Bool.and_false,Bool.false_and];exact ih
   .rw[aaN q1]
    simp only[Bool.false_and];exact ih
noncomputable def dX(row:List Nat)(lost:Bool):List Rw:=row.map (λc=>Rw.load 0 c)++(if lost then [Rw.go row.length] else [])
structure LdS(ns:List Int)(row:List Nat)(lost:Bool)(g:Nat)(s:bI):Prop where
 rws:s.rws=dX row lost
 pos:s.pos=g
 bs:s.bs=(if g=0 then 0 else (((row[g - 1]?).bind λc=>ns[c]?).getD 0))::List.replicate 7 0
 sy:s.sy=[]
 le:g<=row.length
 st:s.st = "waits" ↔ g<row.length
theorem Py{row:List Nat}{lost:Bool}{g c:Nat}(h:row[g]? = some c):(dX row lost)[g]? = some (.load 0 c):=by
 have l:=(aae.mp h).1;unfold dX;rw[abb (by rw[aac];exact l),aah,h];rfl
theorem Yy(row:List Nat):(dX row false)[row.length]? = none:=by
 unfold dX;simp
theorem V_(row:List Nat):(dX row true)[row.length]? = some (.go row.length):=by
 unfold dX;rw[aa' (by rw[aac];exact aar _)];simp
theorem Pu{row:List Nat}:∀(n:Nat)(s:bI),s.rws=dX row true->s.pos=row.length->led n s={s with st:= "lost" }
 | 0,s,h1,h2=>by
   unfold led;rw[h1,h2,V_];rfl
 | n+1,s,h1,h2=>by
   unfold led;rw[h1,h2,V_];show led n (p7 s (.go row.length))=_;rw[Pu n (p7 s (.go row.length)) h1 rfl];show ({s with pos:=row.length,st:=_}:bI)=_;rw[←h2,h1]
theorem JC{ns:List Int}{row:List Nat}{lost:Bool}{g:Nat}{s:bI}(h1:s.rws=dX row lost)(h2:s.pos=g)(h3:s.bs=(if g=0 then 0 else (((row[g - 1]?).bind λc=>ns[c]?).getD 0))::List.replicate 7 0)(h4:s.sy=[])(le:g<=row.length):LdS ns row lost g (lead s):=by
 unfold lead
 by_cases lt:g<row.length
 .obtain⟨c,hc⟩:∃c,row[g]? = some c:=⟨_,aad lt⟩
  have e:led 60 s={s with st:= "waits" }:=by
   unfold led;rw[h1,h2,Py hc];rfl
  rw[e];exact⟨h1,h2,h3,h4,le,⟨λ_=>lt,λ_=>rfl⟩⟩
 .have ge:g=row.length:=by lia
  subst ge;cases lost with
  | false=>
    have e:led 60 s={s with st:= "ends" }:=by
     unfold led;rw[h1,h2,Yy]
    rw[e];exact⟨h1,h2,h3,h4,le,⟨λz=>acP z Cg,λz=>acP z lt⟩⟩
  | true=>
    rw[Pu 60 s h1 h2];exact⟨h1,h2,h3,h4,le,⟨λz=>acP z Jz,λz=>acP z lt⟩⟩
theorem Yx(ns:List Int)(row:List Nat)(lost:Bool):LdS ns row lost 0 (lead (new (dX row lost))):=JC rfl rfl rfl rfl (Nat.zero_le _)
theorem Uv{ns:List Int}{row:List Nat}{lost:Bool}{g c:Nat}{s:bI}(h:LdS ns row lost g s)(hc:row[g]? = some c):LdS ns row lost (g+1) (lO ns s (.load 0 c)):=by
 have lt:=(aae.mp hc).1;unfold lO;refine JC h.rws (by show s.pos+1=g+1;rw[h.pos]) ?_ h.sy lt;show s.bs.set 0 ((ns[c]?).getD 0)=_;rw[h.bs,acK (show ¬g+1=0 by lia),Nat.add_sub_cancel,hc];rfl
theorem rep1(v:V):∀n:Nat,(List.replicate n [v]).flatten=List.replicate n v
 | 0=>rfl
 | n+1=>by rw[List.replicate_succ,List.flatten_cons,rep1 v n,List.replicate_succ];rfl
theorem Fi{H:Hp}{v:V}{d:PyData}(h:Dat H v d):∀n:Nat,aP H (List.replicate n v) (List.replicate n d)
 | 0=>by simp[aP]
 | n+1=>by
   rw[List.replicate_succ,List.replicate_succ];simp only[aP];exact⟨h,Fi h n⟩
theorem Xu{H:Hp}{q p1 p3:Addr}{n:Nat}{b:Bool}(h:H q=some (.lst (List.replicate n (.ref p1)++if b then [.ref p3] else [])))(h1:H p1=some (.tup [.str "load",.str (yC 0),.int (0:Nat)]))(h3:H p3=some (.tup [.str "go",.int n]))(hn:n<=900):dO H q 1 (dX (List.replicate n 0) b):=by
 refine⟨_,h, ?_, ?_, ?_⟩
 .unfold dX
  rw[abo,abZ,List.map_replicate];refine aP.append (Fi (QG h1) n) ?_;cases b with
  | false=>exact trivial
  | true=>
    rw[abS];exact QD (Zf h3)
 .intro x hx
  unfold dX at hx;rcases abF.mp hx with hx|hx
  .obtain⟨c,hc,rfl⟩:=abG.mp hx
   rw[(List.mem_replicate.mp hc).2];exact⟨by decide,by decide⟩
  .cases b with
   | false=>simp at hx
   | true=>
     rw[acM rfl] at hx;rw[abP.mp hx];trivial
 .unfold dX
  rw[aa_,aac,abS];split<;>simp<;>lia
structure o7(S:gU)(ns:List Int)(loads:List (List Nat))(lost:List Bool)(gs:List Int):Prop where
 len:S.hs.length=loads.length
 ll:lost.length=loads.length
 nums:S.ns=ns
 gl:gs.length=loads.length
 hd:∀(k:Nat)(s:bI)(row:List Nat)(b:Bool),S.hs[k]? = some s->loads[k]? = some row->lost[k]? = some b -> ∃g:Nat,gI gs k=g/\LdS ns row b g s
 ct:∀k:Nat,k<loads.length->(S.ts.count (k:Int):Int)=gI gs k
 mem:∀row∈loads,∀c∈row,c<ns.length
theorem o7.turn{S:gU}{ns:List Int}{loads:List (List Nat)}{lost:List Bool}{gs:List Int}{k c:Nat}{row:List Nat}(G:o7 S ns loads lost gs)(h:loads[k]? = some row)(hc:row[(gI gs k).toNat]? = some c):
 (∃s,S.hs[k]? = some s/\s.rws[s.pos]? = some (.load 0 c))/\o7 (fK S k) ns loads lost (fB gs k):=by
 have kl:=(aae.mp h).1;have ks:k<S.hs.length:=by rw[G.len];exact kl
 have kb:k<lost.length:=by rw[G.ll];exact kl
 have es:S.hs[k]? = some S.hs[k]:=aad ks;have eb:lost[k]? = some lost[k]:=aad kb;obtain⟨g,eg,L⟩:=G.hd k _ _ _ es h eb;rw[eg,abt] at hc;have er:S.hs[k].rws[S.hs[k].pos]? = some (.load 0 c):=by rw[L.rws,L.pos];exact Py hc
 refine⟨⟨_,es,er⟩, ?_⟩;have gk:k<gs.length:=by rw[G.gl];exact kl
 have YS:∀x:Nat,gI (fB gs k) x=if x=k then gI gs k+1 else gI gs x:=λx=>by
  have e:=HB (cs:=gs) (h:=(k:Int)) (k:=(x:Int)) (v:=gI gs k+1) (by lia) (by lia) (by lia);rw[abt] at e;unfold fB;rw[e]
  by_cases z:x=k
  .rw[acM (by lia),acM z]
  .rw[acK (by lia),acK z]
 have et:=Dp es er;refine⟨by rw[yZ];exact G.len,G.ll,by rw[et];exact G.nums,by unfold fB;rw[ab5];exact G.gl, ?_, ?_,G.mem⟩
 .intro x s' aeZ b' h1 h2 h3
  rw[et] at h1;have h1:(S.hs.set k (lO S.ns S.hs[k] (.load 0 c)))[x]? = some s':=h1;rw[List.getElem?_set] at h1
  by_cases z:k=x
  .subst z
   rw[acM rfl,acM ks] at h1;cases h1;rw[h] at h2;cases h2;rw[eb] at h3;cases h3;refine⟨g+1,by rw[YS,acM rfl,eg];lia, ?_⟩;rw[G.nums];exact Uv L hc
  .rw[acK z] at h1
   obtain⟨g',e',L'⟩:=G.hd x s' aeZ b' h1 h2 h3;exact⟨g',by rw[YS,acK (λq=>z q.symm)];exact e',L'⟩
 .intro x hx
  rw[et,YS];show ((S.ts++[(k:Int)]).count (x:Int):Int)=_;rw[List.count_append]
  by_cases z:x=k
  .subst z
   rw[acM rfl,List.count_singleton_self,←G.ct x hx];lia
  .rw[acK z,List.count_singleton,acK (by simp;lia),←G.ct x hx]
   lia
noncomputable def HF(bN:List Nat)(ns:List Nt)(cs gs:List Int):List Nat:=(List.range bN.length).filter λk:Nat=>(decide (gI gs k<gI cs k)&&decide (gI gs k<((bN[k]?).getD 0:Nat))) && !ns.any (uZ gs k)
theorem filter_none{α:Type}(p:α->Bool):∀l:List α,(l.filter p).isEmpty = !l.any p
 | []=>rfl
 | x::l=>by
   rw[acv,List.any_cons];cases h:p x with
   | true=>rfl
   | false=>rw[acK aaY,Bool.false_or];exact filter_none p l
theorem snoc_ind{α:Type}{P:List α->Prop}(h0:P [])(hs:∀l k,P l->P (l++[k]))(l:List α):P l:=by
 have:∀m:List α,P m.reverse:=λm=>by
  induction m with
  | nil=>exact h0
  | cons x m ih=>rw[List.reverse_cons];exact hs _ _ ih
 have:=this l.reverse;rwa [List.reverse_reverse] at this
section
variable{F:List Nat->List Nat}{pk:List Nat->Nat->Int}
noncomputable def jW(F:List Nat->List Nat)(pk:List Nat->Nat->Int)(od:List Nat):Prop:=∀(j k:Nat),od[j]? = some k->pk (F (od.take j)) j=k/\k∈F (od.take j)
noncomputable def Rv(F:List Nat->List Nat)(pk:List Nat->Nat->Int)(od:List Nat):Prop:=∀k:Nat,pk (F od) od.length=k->k∉F od
noncomputable def zB(F:List Nat->List Nat)(od:List Nat):List (List Nat):=(List.range od.length).map λj=>F (od.take j)
theorem Du:jW F pk []:=λj k h=>by simp at h
theorem pB{od:List Nat}{k:Nat}(h:jW F pk od)(e:pk (F od) od.length=k)(m:k∈F od):jW F pk (od++[k]):=λj x hx=>by
 by_cases l:j<od.length
 .rw[abb l] at hx
  rw[List.take_append_of_le_length (by lia)];exact h j x hx
 .have e1:j=od.length:=by
   have:=(aae.mp hx).1;simp at this;lia
  subst e1;rw[aa' (aar _)] at hx;simp at hx;subst hx;rw[List.take_append_of_le_length (aar _),abQ];exact⟨e,m⟩
theorem Dv{od:List Nat}{k:Nat}(h:jW F pk (od++[k])):jW F pk od/\pk (F od) od.length=k/\k∈F od:=by
 refine⟨λj x hx=>?_, ?_⟩
 .have l:=(aae.mp hx).1
  have:=h j x (by rw[abb l];exact hx);rwa [List.take_append_of_le_length (by lia)] at this
 .have:=h od.length k (by rw[aa' (aar _)];simp)
  rwa [List.take_append_of_le_length (aar _),abQ] at this
theorem Eo(od:List Nat)(k:Nat):zB F (od++[k])=zB F od++[F od]:=by
 unfold zB;rw[aa_,abT,List.range_succ,abo,List.map_singleton,List.take_append_of_le_length (aar _),abQ];congr 1;refine List.map_congr_left λj hj=>?_;rw[List.take_append_of_le_length (by have:=acr.mp hj;lia)]
theorem za{a b:List Nat}(ha:jW F pk a)(hb:jW F pk b)(l:a.length<=b.length):∀j,j<=a.length->a.take j=b.take j
 | 0,_=>rfl
 | j+1,h=>by
   have ih:=za ha hb l j (by lia);obtain⟨x,ex⟩:∃x,a[j]? = some x:=⟨_,aad (by lia)⟩;obtain⟨y,ey⟩:∃y,b[j]? = some y:=⟨_,aad (by lia)⟩;have e1:=(ha j x ex).1;have e2:=(hb j y ey).1;rw[ih,e2] at e1;have:y=x:=by lia
   rw[abU,abU,ih,ex,ey,this]
theorem Km{a b:List Nat}(ha:jW F pk a)(hb:jW F pk b)(ea:Rv F pk a)(eb:Rv F pk b):a=b:=by
 have key:∀{a b:List Nat},jW F pk a->jW F pk b->Rv F pk a->a.length<=b.length->a=b:=fun {a b} ha hb ea l=>by
  have e:=za ha hb l a.length (aar _);rw[abQ] at e
  by_cases z:a.length=b.length
  .rw[e,z,abQ]
  .obtain⟨y,ey⟩:∃y,b[a.length]? = some y:=⟨_,aad (by lia)⟩
   obtain⟨h1,h2⟩:=hb a.length y ey;rw[←e] at h1 h2;exact acP h2 (ea y h1)
 rcases Nat.le_total a.length b.length with l|l
 .exact key ha hb ea l
 .exact(key hb ha eb l).symm
end
noncomputable def jV(bN:List Nat):List (List Nat):=bN.map λn=>List.replicate n 0
structure yS(S:gU)(dh bN:List Nat)(lost:List Bool)(cs gs:List Int):Prop where
 ga:∃ga,o7 S [0] (jV dh) lost ga /\ ∀(k n z:Nat),bN[k]? = some n->dh[k]? = some z->gI ga k=(z:Int) - n+gI gs k
 sz:dh.length=bN.length
 le:∀(k n z:Nat),bN[k]? = some n->dh[k]? = some z->n<=z
 gl:gs.length=bN.length
 cl:cs.length=bN.length
 gb:∀k:Nat,k<bN.length->0<=gI gs k/\gI gs k<=gI cs k
theorem yS.wait{S:gU}{dh bN:List Nat}{lost:List Bool}{cs gs:List Int}{k n:Nat}(G:yS S dh bN lost cs gs)(h:bN[k]? = some n):jd S cs gs k=(decide (gI gs k=gI cs k) || !decide (gI gs k<(n:Int))):=by
 obtain⟨ga,g,e⟩:=G.ga;have kl:=(aae.mp h).1;obtain⟨z,ez⟩:∃z,dh[k]? = some z:=⟨_,aad (by rw[G.sz];exact kl)⟩;have er:(jV dh)[k]? = some (List.replicate z 0):=by unfold jV;rw[aah,ez];rfl
 have le:=G.le k n z h ez;have e:=e k n z h ez;have ks:k<S.hs.length:=by rw[g.len];unfold jV;rw[aac,G.sz];exact kl
 have kb:k<lost.length:=by rw[g.ll];unfold jV;rw[aac,G.sz];exact kl
 have es:S.hs[k]? = some S.hs[k]:=aad ks;obtain⟨m,em,L⟩:=g.hd k _ _ _ es er (aad kb);have st:=L.st;rw[abS] at st;unfold jd Jd;rw[es];show (_ || !decide (S.hs[k].st = "waits"))=_;congr 2
 by_cases q:m<z
 .rw[aaL (st.mpr q),aaL (by lia)]
 .rw[aaN (λy=>q (st.mp y)),aaN (by lia)]
theorem Y0{S:gU}{dh bN:List Nat}{lost:List Bool}{cs gs:List Int}{ns ns':List Nt}(G:yS S dh bN lost cs gs)(pm:ns'.Perm ns):Ez S cs ns' gs=HF bN ns cs gs:=by
 unfold Ez HF;rw[G.cl];refine List.filter_congr λk hk=>?_;have kl:=acr.mp hk;have er:bN[k]? = some bN[k]:=aad kl;have gb:=G.gb k kl
 have ha:(ns.any (uZ gs k))=ns'.any (uZ gs k):=by
  rw[Bool.eq_iff_iff,List.any_eq_true,List.any_eq_true];exact⟨λ⟨x,hx,e⟩=>⟨x,pm.mem_iff.mpr hx,e⟩,λ⟨x,hx,e⟩=>⟨x,pm.mem_iff.mp hx,e⟩⟩
 rw[G.wait er,er,Ew,filter_none,ha];congr 1;show (!(decide (gI gs k=gI cs k) || !decide (gI gs k<(bN[k]:Int))))=(decide (gI gs k<gI cs k)&&decide (gI gs k<((bN[k]:Nat):Int)))
 by_cases q:gI gs k=gI cs k
 .rw[aaL q,aaN (show ¬gI gs k<gI cs k by lia)];rfl
 .rw[aaN q,aaL (show gI gs k<gI cs k by lia)]
  cases decide (gI gs k<(bN[k]:Int))<;>rfl
theorem oJ{gs:List Int}{k x:Nat}(h:k<gs.length):gI (fB gs k) x=if x=k then gI gs k+1 else gI gs x:=by
 have e:=HB (cs:=gs) (h:=(k:Int)) (k:=(x:Int)) (v:=gI gs k+1) (by lia) (by lia) (by lia);rw[abt] at e;unfold fB;rw[e]
 by_cases z:x=k
 .rw[acM (by lia),acM z]
 .rw[acK (by lia),acK z]
theorem yS.turn{S:gU}{dh bN:List Nat}{lost:List Bool}{cs gs:List Int}{ns:List Nt}{k:Nat}(G:yS S dh bN lost cs gs)(hk:k∈HF bN ns cs gs):yS (fK S k) dh bN lost cs (fB gs k):=by
 unfold HF at hk;rw[ace,acr,abw,abw,decide_eq_true_eq,decide_eq_true_eq] at hk;obtain⟨kl,⟨h1,h2⟩,_⟩:=hk;have er:bN[k]? = some bN[k]:=aad kl;rw[er] at h2;have h2:gI gs k<((bN[k]:Nat):Int):=h2;obtain⟨ga,g,e⟩:=G.ga;obtain⟨z,ez⟩:∃z,dh[k]? = some z:=⟨_,aad (by rw[G.sz];exact kl)⟩;have eg:=e k _ z er ez;have le:=G.le k _ z er ez;have gb:=G.gb k kl;have kg:k<gs.length:=by rw[G.gl];exact kl
 have kga:k<ga.length:=by
  rw[g.gl];unfold jV;rw[aac,G.sz];exact kl
 have t:=(g.turn (k:=k) (c:=0) (row:=List.replicate z 0) (by unfold jV;rw[aah,ez];rfl) (by rw[acB,acM (by lia)])).2;refine⟨⟨_,t,λx n y hx hy=>?_⟩,G.sz,G.le,by unfold fB;rw[ab5];exact G.gl,G.cl,λx hx=>?_⟩
 .rw[oJ kga,oJ kg]
  have:=e x n y hx hy;split
  .rename_i q
   subst q;lia
  .exact this
 .rw[oJ kg]
  have:=G.gb x hx;split
  .rename_i q;subst q;lia
  .exact this
theorem agw{S:gU}{dh bN:List Nat}{lost:List Bool}{cs:List Int}{ns:List Nt}{pk:List Nat->Nat->Int}(G:yS S dh bN lost cs (List.replicate cs.length 0))(od:List Nat)(h:jW (λod=>HF bN ns cs (nG cs.length od)) pk od):yS (Tw S od) dh bN lost cs (nG cs.length od):=by
 revert h;refine snoc_ind (P:=λod=>jW (λod=>HF bN ns cs (nG cs.length od)) pk od->yS (Tw S od) dh bN lost cs (nG cs.length od)) (λ_=>G) (λl k ih h=>?_) od;obtain⟨h1,_,h3⟩:=Dv h;rw[wB,ou];exact(ih h1).turn h3
noncomputable def hq(gs:List Int)(x:Nt):Bool:=decide (x.2.2.2=gI gs x.2.2.1)&&decide (gI gs x.1<=x.2.1)
theorem P_(i:Int)(xs:List Int):inV (.int i) (xs.map V.int)=xs.any λx=>decide (x=i):=by
 unfold inV;rw[List.any_map];congr 1
theorem Zo(gs:List Int)(k:Nat)(ns:List Nt):(((ns.filter (hq gs)).map λx=>x.2.2.1).any λx=>decide (x=(k:Int)))=ns.any (uZ gs k):=by
 induction ns with
 | nil=>rfl
 | cons x ns ih=>
   obtain⟨a,b,c,d⟩:=x;rw[acv,List.any_cons]
   have e:uZ gs k (a,b,c,d)=(decide (c=(k:Int))&&hq gs (a,b,c,d)):=by
    unfold uZ hq
    by_cases q:c=(k:Int)
    .subst q;rfl
    .show (decide (c=(k:Int))&&_)=_
     rw[aaN q];rfl
   rw[e,←ih];cases hq gs (a,b,c,d) with
   | true=>rw[acM rfl,List.map_cons,List.any_cons,Bool.and_true]
   | false=>rw[acK aaY,Bool.and_false,Bool.false_or]
noncomputable def Dz(K:PySem.W.Frag):Sp:=λvs H Q _=>∃(L c sm g:Addr) (bN:List Nat) (ns:List Nt) (cs gs:List Int),vs=[.ref L,.ref c,.ref sm,.ref g]/\H L=some (.lst (bN.map λn:Nat=>V.int n))/\H c=some (.lst (cs.map V.int))/\m9 H sm ns/\ns.length<=100/\(∀x∈ns,FT cs x)/\H g=some (.lst (gs.map V.int))/\cs.length=bN.length/\gs.length=bN.length/\bN.length<=8 /\
 ∀l H',H l=none->H' l=some (.lst ((HF bN ns cs gs).map λk:Nat=>V.int k))->Same H H'->Q (.ref l) H'
theorem KD{f:Addr}{fd:FuncData}(F:gD K "_law_free" "_law_free" Bf f fd)(Bt:pR mg):bO P w K mg base iy 1 f fd ["loads","counts","some","gone"] (Dz K):=by
 refine F.ok jE (λvs H Q E h=>?_) (λcdv A outer s H vs Q E hr h=>?_)
 .obtain⟨L,c,sm,g,bN,ns,cs,gs,rfl,_⟩:=h
  rfl
 .obtain⟨L,c,sm,g,bN,ns,cs,gs,rfl,hL,hc,N,nl,O_,hg,lc,lg,l8,k⟩:=h
  have uY:=hr.units
  refine⟨_,(aB (mH (i:=4) rfl jE.nd rfl (Or.inl rfl) (N:=["k","gone","counts","loads"]) (own:=["k"]) (caps:=[3,1,0]) (bw.of (by kernel_rfl)) (eZ (by rfl) Bt.i_ (aj (aO (aW (K:=K) rfl) (by rfl) Bt.d_ cQ (aj (pv 0) aA)) aA)) (λ_ _ _ _=>(bJ (i:=0) (show List.Nodup (["k","gone","counts","loads"]:List Str) by decide +kernel) rfl (Or.inl rfl))) (λ_ _ _ _=>(pG (bB uI (aQ (aZ (K:=K) rfl) (pv 1) (pv 0) (λ_ _=>rfl)) (aO (zT rfl) (by rfl) Bt.Wv Q6 (aj (aQ (aZ (K:=K) rfl) (pv 2) (pv 0) (λ_ _=>rfl)) (aj (aQ (aZ (K:=K) rfl) (pv 3) (pv 0) (λ_ _=>rfl)) aA))) (bC _)))) (λ_ _ _ _=>(pv 0)))
   (aB (bA (i:=5) jE.nd rfl (Or.inr rfl) (cR aA))
   (aB (mJ PassesOwn.never rfl (cI (K:=K) rfl (pv 2)) (rH (K:=K) (n:=4) rfl rfl (d8 (bJ (i:=6) jE.nd rfl (Or.inl rfl)) (d8 (bJ (i:=7) jE.nd rfl (Or.inl rfl)) (d8 (bJ (i:=8) jE.nd rfl (Or.inl rfl)) (d8 (bJ (i:=9) jE.nd rfl (Or.inl rfl)) rG)))))
   (aH (cA (PW.pt (v8 (bB eF (pv 9) (aQ (aZ (K:=K) rfl) (pv 3) (pv 8) (λ_ _=>rfl)) (bC _)) (rF (bB V1 (aQ (aZ (K:=K) rfl) (pv 3) (pv 6) (λ_ _=>rfl)) (pv 7) (bC _))))) (aH (cF (dB (K:=K) rfl (pv 5) (aj (pv 8) aA)))) bL)))
   (aH (bG (dY rfl (N:=["k","held"]) (own:=["k"]) (caps:=[5]) (bw.of (by kernel_rfl)) (cI (K:=K) rfl (pv 4)) (λ_ _ _ _=>(bJ (i:=0) (show List.Nodup (["k","held"]:List Str) by decide +kernel) rfl (Or.inl rfl))) (λ_ _ _ _=>(pG (bB (lC (K:=K) rfl) (pv 0) (pv 1) (by with_unfolding_all rfl)))) (λ_ _ _ _=>(pv 0)))))))), ?_⟩
  obtain⟨vs,hsm,dv⟩:=id N;have vl:vs.length=ns.length:=by rw[dv.length,aac]
  refine⟨_,Z,L,_,Z,.inl (bH.of hL),_,Z,by rw[aac];lia,by rw[aac];lia,λD hD=>?_⟩;rw[aac,abt];refine lR (λj:Nat=>if decide (gI gs j<gI cs j)&&decide (gI gs j<((bN[j]?).getD 0:Nat)) then some (.int (j:Nat)) else none) hD (by lia) (λj H1 G F hj s1 kG kF=>?_) (λH1 s1 e1=>?_)
  .have el:bN[j]? = some bN[j]:=aad hj
   rw[el] at kG kF;refine⟨_,Z,_,Z,_,_,_,_,Z,Z,bH.of (s1 _ _ hg),by rw[Int.zero_add];exact gO (by lia) (by lia), ?_⟩;refine⟨_,Z,_,Z,_,_,_,_,Z,Z,bH.of (s1 _ _ hc),by rw[Int.zero_add];exact gO (by lia) (by lia),_,Z,_,Z,_,_,_,_,Z,Z,bH.of (s1 _ _ hL),by rw[Int.zero_add];exact d7 (by rw[aah,el];rfl),_,_,Z,_,_,Z,Z,_,Z, ?_⟩
   have em:decide (gI gs j<(if ((bN[j]:Nat):Int)<gI cs j then ((bN[j]:Nat):Int) else gI cs j))=(decide (gI gs j<gI cs j)&&decide (gI gs j<((bN[j]:Nat):Int))):=by
    rw[Bool.eq_iff_iff,abw,decide_eq_true_iff,decide_eq_true_iff,decide_eq_true_iff];split<;>lia
   rw[em];refine cO (λq1=>?_) (λq1=>?_)
   .exact⟨_,Z,kF _ H1 (Same.refl _) (by rw[Int.zero_add];exact acM q1)⟩
   .exact kG H1 (Same.refl _) (acK q1)
  rw[HN (λj:Nat=>decide (gI gs j<gI cs j)&&decide (gI gs j<((bN[j]?).getD 0:Nat))) (λj:Nat=>V.int j)] at e1
  have lW:((List.range bN.length).filter λj:Nat=>decide (gI gs j<gI cs j)&&decide (gI gs j<((bN[j]?).getD 0:Nat))).length<=bN.length:=by
   have:=List.length_filter_le (λj:Nat=>decide (gI gs j<gI cs j)&&decide (gI gs j<((bN[j]?).getD 0:Nat))) (List.range bN.length);rw[List.length_range] at this;exact this
  have eW:HF bN ns cs gs=((List.range bN.length).filter λj:Nat=>decide (gI gs j<gI cs j)&&decide (gI gs j<((bN[j]?).getD 0:Nat))).filter λk:Nat=> !ns.any (uZ gs k):=by
   unfold HF;rw[List.filter_filter];refine List.filter_congr λx _=>?_;rw[Bool.and_comm]
  rw[eW] at k;clear eW;generalize ((List.range bN.length).filter λj:Nat=>decide (gI gs j<gI cs j)&&decide (gI gs j<((bN[j]?).getD 0:Nat)))=W at e1 lW k;refine⟨(by show 0<=sizeLine;decide),λa ha=>?_⟩;have sa:=aF (o:=HO.lst []) ha;dsimp only[cG];refine fW (λσ H2=>(∃x6 x7 x8 x9:Option V,σ=[some (.ref L),some (.ref c),some (.ref sm),some (.ref g),some (.ref D),some (.ref a),x6,x7,x8,x9])/\Same H1 H2/\H2 a=some (.lst (((ns.filter (hq gs)).map λx=>x.2.2.1).map V.int))) (λD' hD' Wh=>?_) ?_
  .refine⟨_,Z,sm,Z,⟨_,bH.of (sa _ _ (s1 _ _ hsm))⟩,oK (K:=K) (xs:=vs) (λi σ H2=>(∃x6 x7 x8 x9:Option V,σ=[some (.ref L),some (.ref c),some (.ref sm),some (.ref g),some (.ref D),some (.ref a),x6,x7,x8,x9])/\Same H1 H2/\H2 a=some (.lst ((((ns.take i).filter (hq gs)).map λx=>x.2.2.1).map V.int))) ⟨⟨_,_,_,_,Z⟩,sa,ak⟩ (λi σ H2 _ ⟨_,s2,_⟩=>bH.of (s2 _ _ (s1 _ _ hsm))) ?_ (λσ H2 ⟨h1,h2,h3⟩=>hD' _ _ ⟨h1,h2,by rw[vl,abQ] at h3;exact h3⟩)⟩
   rintro i v σ H2 hi ⟨⟨x6,x7,x8,x9,rfl⟩,s2,eA⟩;obtain⟨x,t,ex,rfl,hx⟩:=vh dv hi;have S2:=s1.trans s2;have hx2:=S2 _ _ hx;have hg2:=S2 _ _ hg;have il:=(aae.mp ex).1;have tk:ns.take (i+1)=ns.take i++[x]:=by rw[abU,ex];rfl
   obtain⟨⟨h0,h1⟩,⟨k0,k1⟩,⟨o0,o1⟩,⟨m0,m1⟩,hne⟩:=O_ x (aaK ex)
   have wl:((ns.take i).filter (hq gs)).length<=i:=by
    have:=List.length_filter_le (hq gs) (ns.take i);rw[ab_] at this;lia
   refine⟨t,_,Z,cH.of hx2,Z,_,_,Z,_,_,Z,_,_,Z,_,_,Z,Z, ?_⟩;refine⟨_,Z,_,Z,_,Z,_,_,_,_,Z,Z,bH.of hg2,gO (by lia) (by lia),Z,_,Z, ?_⟩;have no:hq gs x=false->(∃x6 x7 x8 x9:Option V,[some (V.ref L),some (.ref c),some (.ref sm),some (.ref g),some (.ref D),some (.ref a),some (.int x.1),some (.int x.2.1),some (.int x.2.2.1),some (.int x.2.2.2)]=[some (.ref L),some (.ref c),some (.ref sm),some (.ref g),some (.ref D),some (.ref a),x6,x7,x8,x9])/\Same H1 H2/\H2 a=some (.lst ((((ns.take (i+1)).filter (hq gs)).map λx=>x.2.2.1).map V.int)):=λe=>⟨⟨_,_,_,_,Z⟩,s2,by rw[tk,List.filter_append,acv,e,acK aaY,List.filter_nil,List.append_nil];exact eA⟩
   by_cases q1:x.2.2.2=gI gs x.2.2.1
   rotate_left
   .rw[aaN (λz=>q1 (V.int.inj z))]
    exact dU (no (by unfold hq;rw[aaN q1];rfl))
   rw[aaL (congrArg V.int q1)];refine fM ?_;refine⟨_,Z,_,Z,_,_,_,_,Z,Z,bH.of hg2,gO (by lia) (by lia),_,Z,_,_,Z,Z,_,Z, ?_⟩;refine cO (λq2=>?_) (λq2=>?_)
   .refine⟨_,Z,.inl ⟨Z,_,bH.of eA⟩,_,Z,a,_,_,Z,Z,eA,(by rw[aac,aac,sizeLine_eq];lia), ?_⟩
    have e:hq gs x=true:=by unfold hq;rw[aaL q1];exact q2
    refine⟨⟨_,_,_,_,Z⟩,λy o e'=>by rw[aC (ao e' ha)];exact s2 _ _ e', ?_⟩;rw[ak,tk,List.filter_append,acv,e,acM rfl,List.filter_nil,abo,abo];rfl
   .exact no (by unfold hq;rw[aaL q1];exact Bool.eq_false_iff.mpr q2)
  rintro σ H2 ⟨⟨x6,x7,x8,x9,rfl⟩,s2,eA⟩;have eD:=s2 _ _ e1;refine⟨_,Z,D,Z,⟨_,bH.of eD⟩,λD2 hD2=>?_⟩;refine lU (K:=K) (λi=>(W[i]?).bind λq:Nat=>if !ns.any (uZ gs q) then some (V.int q) else none) hD2 (bH.of eD) (by rw[aac];lia) (λi v H3 G F hi s3 kG kF=>?_) (λH3 s3 e3=>?_)
  .rw[aah] at hi
   obtain⟨q,eq,rfl⟩:∃q:Nat,W[i]? = some q/\v = .int q:=by
    cases e:W[i]? with
    | none=>rw[e] at hi;cases hi
    | some q=>rw[e] at hi;exact⟨q,Z,(aa6 hi).symm⟩
   rw[eq,acJ] at kG kF;refine⟨_,Z,_,Z,a,_,Z,.inl (bH.of (s3 _ _ eA)),Z,by rw[List.all_map];exact List.all_eq_true.mpr λ_ _=>rfl,_,Z, ?_⟩;rw[acM rfl,P_,Zo];refine cO (λz=>?_) (λz=>?_)
   .exact⟨_,Z,kF _ _ (Same.refl _) (acM z)⟩
   .exact kG _ (Same.refl _) (acK z)
  rw[aac,vp (λq:Nat=> !ns.any (uZ gs q)) (λq:Nat=>V.int q)] at e3;exact k D2 H3 (s1.free (s2.free hD2)) e3 ((s1.trans s2).trans s3)
noncomputable def fL(kd wh to:Int)(fr:List Nat)(at_:Nat):Int:=if (at_:Int)=wh then to else ((fr[if kd=0 then 0 else if kd=1 then fr.length - 1 else at_ % fr.length]?).getD 0:Nat)
noncomputable def Gn(K:PySem.W.Frag):Sp:=λvs H Q _=>∃(l ru:Addr) (fr:List Nat) (kd wh to hw:Int) (at_:Nat),vs=[.ref l,.ref ru,.int at_]/\H l=some (.lst (fr.map λk:Nat=>V.int k))/\fr≠[]/\fr.length<=100/\H ru=some (.tup [.int kd,.int wh,.int to,.int hw])/\0<=kd/\kd<3 /\ ∀H',Same H H'->Q (.int (fL kd wh to fr at_)) H'
theorem Uh{f:Addr}{fd:FuncData}(F:gD K "_law_pick" "_law_pick" A_ f fd)(Bt:pR mg):bO P w K mg base iy 1 f fd ["free","rule","at"] (Gn K):=by
 refine F.ok Nr (λvs H Q E h=>?_) (λcdv A outer s H vs Q E hr h=>?_)
 .obtain⟨l,ru,fr,kd,wh,to,hw,at_,rfl,_⟩:=h
  rfl
 .obtain⟨l,ru,fr,kd,wh,to,hw,at_,rfl,hl,Qo,f1,hu,k0,k1,k⟩:=h
  refine⟨_,(aB (cA (bB eF (pv 2) (aQ (aU (K:=K) rfl) (pv 1) aD (λ_ _=>rfl)) (bC _)) (aH (bG (aQ (aU (K:=K) rfl) (pv 1) aD (λ_ _=>rfl)))) bL)
   (aH (bG (aQ (aZ (K:=K) rfl) (pv 0) (aQ (aZ (K:=K) rfl) (cR (aj aD (aj (Ob Gi aD) (aj (bM lD (pv 2) (aO (aW (K:=K) rfl) (by rfl) Bt.d_ cQ (aj (pv 0) aA))) aA)))) (aQ (aU (K:=K) rfl) (pv 1) aD (λ_ _=>rfl)) (λ_ _=>rfl)) (λ_ _=>rfl))))), ?_⟩
  have fp:0<fr.length:=by
   cases fr with
   | nil=>exact acP rfl Qo
   | cons a b=>simp
  refine⟨_,Z,_,Z,_,_,_,_,Z,Z,cH.of hu,Z,Z,_,Z, ?_⟩;unfold fL at k
  by_cases q:(at_:Int)=wh
  .rw[aaL (congrArg V.int q)]
   refine fM ?_;simp only[acM q] at k;exact⟨_,Z,_,_,_,_,Z,Z,cH.of hu,Z,k H (Same.refl _)⟩
  rw[aaN (λz=>q (V.int.inj z))];refine dU ?_;simp only[acK q] at k;refine⟨_,Z,_,Z,_,Z,_,Z,l,_,Z,.inl (bH.of hl),_,_,Z,Z,(by show (0:Int)<(fr.map _).length;rw[aac];lia),(by show 3<=sizeLine;decide),λp hp=>?_⟩;rw[aac];have sp:=aF (o:=HO.lst [V.int 0,V.int (-1),V.int ((at_:Int) % (fr.length:Int))]) hp;have hl':=sp _ _ hl;have hu':=sp _ _ hu;have ml:at_ % fr.length<fr.length:=Nat.mod_lt _ fp
  rcases(show kd=0\/kd=1\/kd=2 by lia) with rfl|rfl|rfl
  .obtain⟨x,ex⟩:∃x,fr[0]? = some x:=⟨_,aad fp⟩
   have k:=k _ sp;rw[acM rfl,ex] at k;exact⟨_,Z,_,_,_,_,Z,Z,cH.of hu',Z,_,_,_,_,Z,Z,bH.of ak,Z,_,_,_,_,Z,Z,bH.of hl',d7 (j:=0) (by rw[aah,ex];rfl),k⟩
  .obtain⟨x,ex⟩:∃x,fr[fr.length - 1]? = some x:=⟨_,aad (by lia)⟩
   have k:=k _ sp;rw[acK (by decide),acM rfl,ex] at k;refine⟨_,Z,_,_,_,_,Z,Z,cH.of hu',Z,_,_,_,_,Z,Z,bH.of ak,Z,_,_,_,_,Z,Z,bH.of hl', ?_,k⟩;unfold Ij Hs;rw[aac,acK (by lia),acM (by lia),show ((-1:Int)+(fr.length:Int)).toNat=fr.length - 1 by lia,acJ,aah,ex];rfl
  .obtain⟨x,ex⟩:∃x,fr[at_ % fr.length]? = some x:=⟨_,aad ml⟩
   have k:=k _ sp;rw[acK (by decide),acK (by decide),ex] at k;exact⟨_,Z,_,_,_,_,Z,Z,cH.of hu',Z,_,_,_,_,Z,Z,bH.of ak,Z,_,_,_,_,Z,Z,bH.of hl',(by rw[←Int.natCast_emod];exact d7 (by rw[aah,ex];rfl)),k⟩
theorem J_(n:Nat):(List.replicate ((n:Nat):Int).toNat [V.int 0]).flatten=(List.replicate n (0:Int)).map V.int:=by
 rw[abt,List.map_replicate]
 induction n with
 | zero=>rfl
 | succ n ih=>rw[List.replicate_succ,List.flatten_cons,ih,List.replicate_succ];rfl
noncomputable abbrev F86(bN:List Nat)(ns:List Nt)(cs:List Int):List Nat->List Nat:=λod=>HF bN ns cs (nG cs.length od)
theorem JL{bN:List Nat}{ns:List Nt}{cs gs:List Int}{k:Nat}(h:k∈HF bN ns cs gs):k<bN.length/\gI gs k<gI cs k:=by
 unfold HF at h;rw[ace,acr,abw,abw,decide_eq_true_eq] at h;exact⟨h.1,h.2.1.1⟩
theorem JM(bN:List Nat)(ns:List Nt)(cs gs:List Int):(HF bN ns cs gs).length<=bN.length:=by
 unfold HF;have:=List.length_filter_le (λk:Nat=>(decide (gI gs k<gI cs k)&&decide (gI gs k<((bN[k]?).getD 0:Nat))) && !ns.any (uZ gs k)) (List.range bN.length);rw[List.length_range] at this;exact this
theorem qD{bN:List Nat}{ns:List Nt}{cs:List Int}{pk:List Nat->Nat->Int}(lc:cs.length=bN.length)(zR:yV cs)(od:List Nat)(h:jW (F86 bN ns cs) pk od):yu cs (nG cs.length od)/\(nG cs.length od).sum=od.length:=by
 revert h;refine snoc_ind (P:=λod=>jW (F86 bN ns cs) pk od->yu cs (nG cs.length od)/\(nG cs.length od).sum=od.length) (λ_=>⟨⟨by simp[nG],λi i0 i1=>?_⟩,by simp[nG]⟩) (λl k ih h=>?_) od
 .have e:gI (nG cs.length []) i=0:=by
   show gI (List.replicate cs.length 0) i=0;unfold gI;rw[acB];split<;>rfl
  rw[e];exact⟨Int.le_refl _,(zR.gI i).1⟩
 .obtain⟨h1,_,h3⟩:=Dv h
  obtain⟨⟨d1,d2⟩,d3⟩:=ih h1;obtain⟨kl,kc⟩:=JL h3;have kg:k<(nG cs.length l).length:=by lia
  rw[ou];refine⟨⟨by unfold fB;rw[ab5];exact d1,λi i0 i1=>?_⟩,by rw[sX kg,d3,aa_,abT];lia⟩;obtain⟨n,rfl⟩:=acF i0;rw[oJ kg];have:=d2 n i0 i1;split
  .rename_i q;subst q;lia
  .exact this
noncomputable def iU(H:Hp)(ls:List Addr)(xs:List (List Nat)):Prop:=ls.length=xs.length /\ ∀(i:Nat)(l:Addr)(x:List Nat),ls[i]? = some l->xs[i]? = some x->H l=some (.lst (x.map λk:Nat=>V.int k))
theorem iU.keep{H H':Hp}{ls:List Addr}{xs:List (List Nat)}(h:iU H ls xs)(k:∀l∈ls,∀o,H l=some o->H' l=some o):iU H' ls xs:=⟨h.1,λi l x h1 h2=>k l (aaK h1) _ (h.2 i l x h1 h2)⟩
theorem iU.same{H H':Hp}{ls:List Addr}{xs:List (List Nat)}(h:iU H ls xs)(s:Same H H'):iU H' ls xs:=h.keep λ_ _ _ e=>s _ _ e
theorem iU.snoc{H:Hp}{ls:List Addr}{xs:List (List Nat)}{l:Addr}{x:List Nat}(h:iU H ls xs)(e:H l=some (.lst (x.map λk:Nat=>V.int k))):iU H (ls++[l]) (xs++[x]):=by
 refine⟨by simp[h.1],λi a y h1 h2=>?_⟩;rcases jQ h1 with h1|⟨e1,rfl⟩
 .have il:=(aae.mp h1).1
  rw[abb (by have:=h.1;lia)] at h2;exact h.2 i a y h1 h2
 .rw[e1,h.1,aa' (aar _)] at h2
  simp at h2;subst h2;exact e
theorem iU.mem{H:Hp}{ls:List Addr}{xs:List (List Nat)}(h:iU H ls xs){l:Addr}(hl:l∈ls):∃x:List Nat,H l=some (.lst (x.map λk:Nat=>V.int k)):=by
 obtain⟨i,hi,e⟩:=acC hl;exact⟨_,h.2 i l xs[i]! (by rw[aad hi,e]) (by rw[List.getElem!_eq_getElem?_getD,aad (by have:=h.1;lia)];rfl)⟩
theorem P0(i:Int)(xs:List Nat):inV (.int i) (xs.map λk:Nat=>V.int k)=xs.any λx=>decide ((x:Int)=i):=by
 unfold inV;rw[List.any_map];congr 1
noncomputable def Jl(K:PySem.W.Frag):Sp:=λvs H Q _=>∃(L c sm ru:Addr) (bN:List Nat) (ns:List Nt) (cs:List Int) (kd wh to hw:Int),vs=[.ref L,.ref c,.ref sm,.ref ru]/\H L=some (.lst (bN.map λn:Nat=>V.int n))/\H c=some (.lst (cs.map V.int))/\m9 H sm ns/\ns.length<=100/\(∀x∈ns,FT cs x)/\yV cs/\cs.length=bN.length/\H ru=some (.tup [.int kd,.int wh,.int to,.int hw])/\0<=kd/\kd<3 /\
 ∀(t o ll:Addr)(ls:List Addr)(od:List Nat)(H':Hp),jW (F86 bN ns cs) (fL kd wh to) od->Rv (F86 bN ns cs) (fL kd wh to) od->od.length<=2400->H' t=some (.tup [.ref o,.ref ll,.bl (!(F86 bN ns cs od).isEmpty)])->H' o=some (.lst (od.map λk:Nat=>V.int k))->H' ll=some (.lst (ls.map V.ref))->iU H' ls (zB (F86 bN ns cs) od++if (F86 bN ns cs od).isEmpty then [] else [F86 bN ns cs od])->Same H H'->Q (.ref t) H'
theorem OJ{f:Addr}{fd:FuncData}(F:gD K "_law_due" "_law_due" Gx f fd)(J8:FnAt P w K mg base 1 "_law_free" ["loads","counts","some","gone"] (Dz K))(CV:FnAt P w K mg base 1 "_law_pick" ["free","rule","at"] (Gn K))(Bt:pR mg):bO P w K mg base iy 2 f fd ["loads","counts","some","rule"] (Jl K):=by
 refine F.ok mz (λvs H Q E h=>?_) (λcdv A outer s H vs Q E hr h=>?_)
 .obtain⟨L,c,sm,ru,bN,ns,cs,kd,wh,to,hw,rfl,_⟩:=h
  rfl
 .obtain⟨L,c,sm,ru,bN,ns,cs,kd,wh,to,hw,rfl,hL,hc,N,nl,O_,zR,lc,hu,k0,k1,k⟩:=h
  have uY:=hr.units
  refine⟨_,(aB (bA (i:=4) mz.nd rfl (Or.inl rfl) (bM wD (cR (aj aD aA)) (aO (aW (K:=K) rfl) (by rfl) Bt.d_ cQ (aj (pv 0) aA))))
   (aB (bA (i:=5) mz.nd rfl (Or.inl rfl) (cR aA))
   (aB (bA (i:=6) mz.nd rfl (Or.inl rfl) (cR aA))
   (aB (bA (i:=7) mz.nd rfl (Or.inl rfl) (bT J8 (hr.mono (by decide)) (by rfl) (aj (pv 0) (aj (pv 1) (aj (pv 2) (aj (pv 4) aA))))))
   (aB (wu PassesOwn.never (bB (Oo (K:=K) rfl uY) (pv 7) (cR aA) (bC _)) (aB (cF (dB (K:=K) rfl (pv 6) (aj (pv 7) aA)))
   (aB (bA (i:=8) mz.nd rfl (Or.inl rfl) (bT CV (hr.mono (by decide)) (by rfl) (aj (pv 7) (aj (pv 3) (aj (aO (aW (K:=K) rfl) (by rfl) Bt.d_ cQ (aj (pv 5) aA)) aA)))))
   (aB (cA (bB (lC (K:=K) rfl) (pv 8) (pv 7) (by with_unfolding_all rfl)) (aH (bG (fj (aj (pv 5) (aj (pv 6) (aj oA aA)))))) bL)
   (aB (qu (bM iI (aQ (aZ (K:=K) rfl) (pv 4) (pv 8) (λ_ _=>rfl)) aD) (t_ (pv 4) (pv 8) set_list))
   (aB (cF (dB (K:=K) rfl (pv 5) (aj (pv 8) aA)))
   (aH (bA (i:=7) mz.nd rfl (Or.inl rfl) (bT J8 (hr.mono (by decide)) (by rfl) (aj (pv 0) (aj (pv 1) (aj (pv 2) (aj (pv 4) aA)))))))))))))
   (aH (bG (fj (aj (pv 5) (aj (pv 6) (aj oA aA))))))))))), ?_⟩
  have c8:=zR.1;have c24:=Af zR;refine⟨(by show 1<=sizeLine;decide),λq hq=>⟨_,Z,L,_,Z,.inl (bH.of (aF (o:=HO.lst [V.int 0]) hq _ _ hL)), ?_⟩⟩;rw[aac,←lc];refine⟨q,_,_,Z,Z,ak,by lia,by lia,by rw[sizeLine_eq];simp;lia,λg hg=>?_⟩;rw[J_];have sq:=aF (o:=HO.lst [V.int 0]) hq;have sg:=aF (o:=HO.lst ((List.replicate cs.length (0:Int)).map V.int)) hg;have fg:H g=none:=sq.free hg;have s1:=sq.trans sg;have eg:(upd (upd H q (.lst [V.int 0])) g (.lst ((List.replicate cs.length (0:Int)).map V.int))) g=some (.lst ((List.replicate cs.length (0:Int)).map V.int)):=ak;generalize (upd (upd H q (.lst [V.int 0])) g (.lst ((List.replicate cs.length (0:Int)).map V.int)))=H1 at s1 eg ⊢;clear sq sg hg hq;refine⟨(by show 0<=sizeLine;decide),λo ho=>?_⟩;have so:=aF (o:=HO.lst []) ho;have eo:(upd H1 o (.lst [])) o=some (.lst []):=ak;have nog:=ao eg ho;generalize (upd H1 o (.lst []))=H2 at so eo ⊢;refine⟨(by show 0<=sizeLine;decide),λll hll=>?_⟩;have sl:=aF (o:=HO.lst []) hll;have el:(upd H2 ll (.lst [])) ll=some (.lst []):=ak;have nlo:=ao eo hll;have nlg:=ao (so _ _ eg) hll;generalize (upd H2 ll (.lst []))=H3 at sl el ⊢;have s3:=(s1.trans so).trans sl;have fo:H o=none:=s1.free ho;have fl:H ll=none:=s1.free (so.free hll);have eo3:=sl _ _ eo;have eg3:=sl _ _ (so _ _ eg);clear s1 so sl ho hll eo eg;refine⟨_,Z,_,Z,_,Z,_,Z,L,c,sm,g,bN,ns,cs,_,Z,s3 _ _ hL,s3 _ _ hc,N.same s3,nl,O_,eg3,lc,by rw[abS];exact lc,by lia,λfr H4 hfr efr s4=>?_⟩;have nfg:=ao eg3 hfr;have nfo:=ao eo3 hfr;have nfl:=ao el hfr;dsimp only[cG];have fre:jW (F86 bN ns cs) (fL kd wh to) []:=Du;refine fW (λσ Hc=>∃(od:List Nat) (ls:List Addr) (fr:Addr) (x8:Option V),σ=[some (.ref L),some (.ref c),some (.ref sm),some (.ref ru),some (.ref g),some (.ref o),some (.ref ll),some (.ref fr),x8]/\Same H Hc/\Hc o=some (.lst (od.map λk:Nat=>V.int k))/\Hc ll=some (.lst (ls.map V.ref))/\iU Hc ls (zB (F86 bN ns cs) od)/\jW (F86 bN ns cs) (fL kd wh to) od/\F86 bN ns cs od=[]) (λD' hD' Wh=>?_) ?_
  .refine⟨λm σ Hc=>∃(od:List Nat) (ls:List Addr) (fr:Addr) (x8:Option V),σ=[some (.ref L),some (.ref c),some (.ref sm),some (.ref ru),some (.ref g),some (.ref o),some (.ref ll),some (.ref fr),x8]/\Same H Hc/\Hc g=some (.lst ((nG cs.length od).map V.int))/\Hc o=some (.lst (od.map λk:Nat=>V.int k))/\Hc ll=some (.lst (ls.map V.ref))/\iU Hc ls (zB (F86 bN ns cs) od)/\(∀l∈ls,l≠g/\l≠o/\l≠ll)/\Hc fr=some (.lst ((F86 bN ns cs od).map λk:Nat=>V.int k))/\fr≠g/\fr≠o/\fr≠ll/\jW (F86 bN ns cs) (fL kd wh to) od/\m=(cs.sum - od.length).toNat,⟨_,[],[],fr,none,Z,s3.trans s4,s4 _ _ eg3,s4 _ _ eo3,s4 _ _ el,⟨Z,λi l x e=>by simp at e⟩,by simp,efr,nfg.symm,nfo.symm,nfl.symm,fre,Z⟩, ?_⟩
   clear s3 s4 eg3 eo3 el efr nfg nfo nfl hfr;rintro m σ Hc ⟨od,ls,fr,x8,rfl,sc,eg,eo,el,hls,hne,ef,nfg,nfo,nfl,st,rfl⟩;obtain⟨dn,sg⟩:=qD lc zR od st;have dsm:=lQ dn;have lod:od.length<=2400:=by lia
   have lls:ls.length<=2400:=by
    have:=hls.1;unfold zB at this;rw[aac,List.length_range] at this;lia
   refine⟨_,Z,(by show 0<=sizeLine;decide),λD2 h2=>?_⟩;have s2:=aF (o:=HO.lst []) h2;refine⟨fr,D2,_,Z,Z,bH.of (s2 _ _ ef),bH.of ak,_,Z, ?_⟩;rw[acM rfl,List.isEmpty_map]
   by_cases hF:F86 bN ns cs od=[]
   .rw[hF]
    exact dU (hD' _ _ ⟨od,ls,fr,x8,Z,sc.trans s2,s2 _ _ eo,s2 _ _ el,hls.same s2,st,hF⟩)
   rw[show (F86 bN ns cs od).isEmpty=false by cases h:F86 bN ns cs od with |nil=>exact acP h hF|cons=>rfl];refine fM ⟨_,λσ' H' h=>h, ?_⟩;have sc:=sc.trans s2;have eg:=s2 _ _ eg;have eo:=s2 _ _ eo;have el:=s2 _ _ el;have ef:=s2 _ _ ef;have hls:=hls.same s2;generalize (upd Hc D2 (.lst []))=Hd at sc eg eo el ef hls ⊢;clear s2 h2;refine⟨_,Z,.inl ⟨Z,_,bH.of el⟩,_,Z,ll,_,_,Z,Z,el,by rw[aac,sizeLine_eq];lia, ?_⟩;have up:∀x u v,Hd x=some u->x≠ll->(upd Hd ll v) x=some u:=λx u v e n=>by rw[aC n];exact e
   have sc5:Same H (upd Hd ll (.lst (ls.map V.ref++[V.ref fr]))):=λx u e=>up _ _ _ (sc _ _ e) (ao e fl);have el5:(upd Hd ll (.lst (ls.map V.ref++[V.ref fr]))) ll=some (.lst ((ls++[fr]).map V.ref)):=by rw[ak,abo];rfl
   have eg5:=up _ _ (.lst (ls.map V.ref++[V.ref fr])) eg nlg;have Wt:=up _ _ (.lst (ls.map V.ref++[V.ref fr])) eo nlo;have ef5:=up _ _ (.lst (ls.map V.ref++[V.ref fr])) ef nfl;have abL:=(hls.keep (λl hl o e=>up _ _ (.lst (ls.map V.ref++[V.ref fr])) e (hne l hl).2.2)).snoc ef5;generalize (upd Hd ll (.lst (ls.map V.ref++[V.ref fr])))=H5 at sc5 el5 eg5 Wt ef5 abL ⊢;clear up;refine⟨_,Z,_,Z,_,Z,o,_,Z,.inl (bH.of Wt), ?_⟩;rw[aac];have f8:=JM bN ns cs (nG cs.length od);refine⟨fr,ru,F86 bN ns cs od,kd,wh,to,hw,od.length,Z,ef5,hF,by show (HF _ _ _ _).length<=100;lia,sc5 _ _ hu,k0,k1,λH6 s6=>?_⟩;have ef6:=s6 _ _ ef5;refine⟨_,Z,_,Z,fr,_,Z,.inl (bH.of ef6),Z,by rw[List.all_map];exact List.all_eq_true.mpr λ_ _=>rfl,_,Z, ?_⟩;rw[acM rfl,P0];have sc6:=sc5.trans s6;have el6:=s6 _ _ el5;have eo6:=s6 _ _ Wt;have eg6:=s6 _ _ eg5;have abK:=abL.same s6
   by_cases hin:∃kk:Nat,fL kd wh to (F86 bN ns cs od) od.length=kk/\kk∈F86 bN ns cs od
   rotate_left
   .rw[show ((F86 bN ns cs od).any λx=>decide ((x:Int)=fL kd wh to (F86 bN ns cs od) od.length))=false from List.any_eq_false.mpr λx hx z=>hin ⟨x,(aaO z).symm,hx⟩]
    refine fM ⟨_,Z,_,Z,(by show 3<=sizeLine;decide),λt ht=>?_⟩;have SN:=aF (o:=HO.tup [V.ref o,V.ref ll,V.bl true]) ht;rw[Wh];have ie:(F86 bN ns cs od).isEmpty=false:=by cases h:F86 bN ns cs od with |nil=>exact acP h hF|cons=>rfl
    refine k t o ll (ls++[fr]) od _ st (λx e hx=>hin ⟨x,e,hx⟩) lod (by rw[ak,ie];rfl) (SN _ _ eo6) (SN _ _ el6) ?_ (sc6.trans SN);rw[ie];exact abK.same SN
   obtain⟨kk,ek,mk⟩:=hin;rw[show ((F86 bN ns cs od).any λx=>decide ((x:Int)=fL kd wh to (F86 bN ns cs od) od.length))=true from List.any_eq_true.mpr ⟨kk,mk,aaL ek.symm⟩,ek];refine dU ?_;obtain⟨kl,kc⟩:=JL mk;have kg:kk<(nG cs.length od).length:=by have:=dn.1;lia
   refine⟨_,Z,_,Z,_,_,_,_,Z,Z,bH.of eg6,gO (by lia) (by lia),_,_,Z,Z,_,Z,_,Z,g,_,_,kk,Z,Z,eg6, ?_, ?_⟩
   .unfold Hs
    rw[aac,acM (by lia),acM (by lia),abt]
   have agD:((nG cs.length od).map V.int).set kk (V.int (gI (nG cs.length od) kk+1))=(nG cs.length (od++[kk])).map V.int:=by
    rw[ou];unfold fB;rw[List.map_set]
   rw[agD];have up:∀x u v,H6 x=some u->x≠g->(upd H6 g v) x=some u:=λx u v e n=>by rw[aC n];exact e
   have sc7:Same H (upd H6 g (.lst ((nG cs.length (od++[kk])).map V.int))):=λx u e=>up _ _ _ (sc6 _ _ e) (ao e fg);have eg7:(upd H6 g (.lst ((nG cs.length (od++[kk])).map V.int))) g=some (.lst ((nG cs.length (od++[kk])).map V.int)):=ak
   have hne':∀l∈ls++[fr],l≠g/\l≠o/\l≠ll:=λl hl=>by
    rcases abF.mp hl with hl|hl
    .exact hne l hl
    .rw[abP.mp hl];exact⟨nfg,nfo,nfl⟩
   have eo7:=up _ _ (.lst ((nG cs.length (od++[kk])).map V.int)) eo6 nog.symm;have el7:=up _ _ (.lst ((nG cs.length (od++[kk])).map V.int)) el6 nlg.symm;have Qd:=abK.keep (λl hl o e=>up _ _ (.lst ((nG cs.length (od++[kk])).map V.int)) e (hne' l hl).1);generalize (upd H6 g (.lst ((nG cs.length (od++[kk])).map V.int)))=H7 at sc7 eg7 eo7 el7 Qd ⊢;clear up;refine⟨_,Z,.inl ⟨Z,_,bH.of eo7⟩,_,Z,o,_,_,Z,Z,eo7,by rw[aac,sizeLine_eq];lia, ?_⟩;have up:∀x u v,H7 x=some u->x≠o->(upd H7 o v) x=some u:=λx u v e n=>by rw[aC n];exact e
   have sc8:Same H (upd H7 o (.lst ((od.map λk:Nat=>V.int k)++[V.int (kk:Nat)]))):=λx u e=>up _ _ _ (sc7 _ _ e) (ao e fo);have eo8:(upd H7 o (.lst ((od.map λk:Nat=>V.int k)++[V.int (kk:Nat)]))) o=some (.lst ((od++[kk]).map λk:Nat=>V.int k)):=by rw[ak,abo];rfl
   have eg8:=up _ _ (.lst ((od.map λk:Nat=>V.int k)++[V.int (kk:Nat)])) eg7 nog;have el8:=up _ _ (.lst ((od.map λk:Nat=>V.int k)++[V.int (kk:Nat)])) el7 nlo.symm;have abJ:=Qd.keep (λl hl o e=>up _ _ (.lst ((od.map λk:Nat=>V.int k)++[V.int (kk:Nat)])) e (hne' l hl).2.1);generalize (upd H7 o (.lst ((od.map λk:Nat=>V.int k)++[V.int (kk:Nat)])))=H8 at sc8 eo8 eg8 el8 abJ ⊢;clear up;have dn':=(qD lc zR _ (pB st ek mk)).1;refine⟨_,Z,_,Z,_,Z,_,Z,L,c,sm,g,bN,ns,cs,_,Z,sc8 _ _ hL,sc8 _ _ hc,N.same sc8,nl,O_,eg8,lc,dn'.1.trans lc,by lia,λfr2 H9 hfr efr s9=>?_⟩;have alJ:=lQ dn';have sg':=(qD lc zR _ (pB st ek mk)).2;rw[aa_,abT] at sg';exact⟨_,by rw[aa_,abT];lia,od++[kk],ls++[fr],fr2,_,Z,sc8.trans s9,s9 _ _ eg8,s9 _ _ eo8,s9 _ _ el8,by rw[Eo];exact abJ.same s9,hne',efr,(ao eg8 hfr).symm,(ao eo8 hfr).symm,(ao el8 hfr).symm,pB st ek mk,Z⟩
  .rintro σ Hc ⟨od,ls,fr,x8,rfl,sc,eo,el,hls,st,hF⟩
   refine⟨_,Z,_,Z,(by show 3<=sizeLine;decide),λt ht=>?_⟩;have SN:=aF (o:=HO.tup [V.ref o,V.ref ll,V.bl false]) ht;have dsm:=lQ (qD lc zR od st).1;have sg:=(qD lc zR od st).2;refine k t o ll ls od _ st (λx _ hx=>by rw[show F86 bN ns cs od=[] from hF] at hx;cases hx) (by lia) (by rw[ak,show F86 bN ns cs od=[] from hF];rfl) (SN _ _ eo) (SN _ _ el) ?_ (sc.trans SN);rw[show F86 bN ns cs od=[] from hF];show iU _ ls (zB (F86 bN ns cs) od++[]);rw[List.append_nil];exact hls.same SN
theorem Ni:∀(l:List Int)(b:Int),(∀k:Nat,k<l.length->gI l k<=b)->l.sum<=b*l.length
 | [],b,_=>by simp
 | x::l,b,h=>by
   have:=Ni l b λk hk=>by
    have:=h (k+1) (by rw[acw];lia)
    have e:gI (x::l) ((k+1:Nat):Int)=gI l k:=by
     obtain⟨y,ey⟩:∃y,l[k]? = some y:=⟨_,aad hk⟩;rw[Cd ey,Cd (show (x::l)[k+1]? = some y from ey)]
    rw[e] at this;exact this
   have h0:x<=b:=h 0 (by simp);rw[List.sum_cons,acw,Int.natCast_add,Int.mul_add];lia
theorem vH{S:gU}{dh:List Nat}{lost:List Bool}{ga:List Int}(G:o7 S [0] (jV dh) lost ga)(e:(S.ts.length:Int)=ga.sum)(l8:dh.length<=8)(b:∀z∈dh,z<=38):S.ts.length<=304:=by
 have gl:ga.length=dh.length:=by rw[G.gl];unfold jV;rw[aac]
 have:=Ni ga 38 λk hk=>by
  obtain⟨z,ez⟩:∃z,dh[k]? = some z:=⟨_,aad (by lia)⟩;have er:(jV dh)[k]? = some (List.replicate z 0):=by unfold jV;rw[aah,ez];rfl
  have kl:=(aae.mp er).1;have ks:k<S.hs.length:=by rw[G.len];exact kl
  have kb:k<lost.length:=by rw[G.ll];exact kl
  have es:S.hs[k]? = some S.hs[k]:=aad ks;obtain⟨g,eg,L⟩:=G.hd k _ _ _ es er (aad kb);have:=L.le;rw[abS] at this;have:=b z (aaK ez);lia
 lia
theorem Jg{S:gU}{dh:List Nat}{lost:List Bool}{ga:List Int}{k z:Nat}(G:o7 S [0] (jV dh) lost ga)(e:(S.ts.length:Int)=ga.sum)(hz:dh[k]? = some z)(lt:gI ga k<z):(∃s,S.hs[k]? = some s/\s.st = "waits" /\ s.rws[s.pos]? = some (.load 0 0))/\o7 (fK S k) [0] (jV dh) lost (fB ga k)/\((fK S k).ts.length:Int)=(fB ga k).sum:=by
 have er:(jV dh)[k]? = some (List.replicate z 0):=by unfold jV;rw[aah,hz];rfl
 have kl:=(aae.mp er).1;have ks:k<S.hs.length:=by rw[G.len];exact kl
 have kb:k<lost.length:=by rw[G.ll];exact kl
 have es:S.hs[k]? = some S.hs[k]:=aad ks;obtain⟨g,eg,L⟩:=G.hd k _ _ _ es er (aad kb);obtain⟨⟨s,h1,h2⟩,t⟩:=G.turn er (c:=0) (by rw[acB,acM (by lia)]);rw[es] at h1;cases h1;refine⟨⟨_,es,L.st.mpr (by rw[abS];lia),h2⟩,t, ?_⟩;rw[sX (by rw[G.gl];exact kl),←e,Dp es h2];show ((S.ts++[(k:Int)]).length:Int)=_;rw[aa_,abT];lia
theorem Qi{loads:List (List Nat)}{lost:List Bool}(lb:lost.length=loads.length)(m:∀row∈loads,∀c∈row,c<1):o7 (Cv 1 [0] (List.zipWith dX loads lost)) [0] loads lost (List.replicate loads.length 0):=by
 have gz:∀k:Int,gI (List.replicate loads.length 0) k=0:=λk=>by
  unfold gI;rw[acB];split<;>rfl
 refine⟨by show ((List.zipWith dX loads lost).map _).length=_;rw[aac,List.length_zipWith];lia,lb,Z,by simp,λkk s' row b h1 h2 h3=>⟨0,gz _, ?_⟩,λkk _=>by rw[gz];rfl,m⟩;have h1:((List.zipWith dX loads lost).map λr=>lead (new r))[kk]? = some s':=h1;rw[aah,List.getElem?_zipWith,h2,h3] at h1;cases h1;exact Yx [0] row b
noncomputable def tG(CW CH:Addr)(K:PySem.W.Frag):Sp:=λvs H Q _=>∃(r L:Addr) (τ:Tg) (bN:List Nat),vs=[.ref r,.ref L]/\RT τ H r/\H L=some (.lst (bN.map λn:Nat=>V.int n))/\τ L=[0]/\bN.length<=8/\(∀n∈bN,n<=36)/\(∀x o,H x=some o->(τ x).head?≠some 1) /\
 ∀(τ':Tg)(W:u6)(S:gU)(dh:List Nat)(lost:List Bool)(ga:List Int)(H':Hp),jw CW CH 1 τ' H' W S->gn S->S.m<=100->o7 S [0] (jV dh) lost ga->(S.ts.length:Int)=ga.sum->dh.length=bN.length->(∀(k n z:Nat),bN[k]? = some n->dh[k]? = some z->gI ga k=(z:Int) - n/\n<=z)->(∀z∈dh,z<=38)->RT τ' H' r->(∀x u,H x=some u->τ' x=τ x)->Kp r H H'->Q (.ref W.o) H'
theorem G4{aq au aR dj bY:Addr}{f:Addr}{fd:FuncData}(F:gD K "_law_begun" "_law_begun" vZ f fd)(aJ:cT K aq)(cN:FnAt P w K mg base 1 "_law_draw" ["reel","many"] (qU K))(Ri:qH P w K mg base 7 aq "Works" ["self","program","cells"] [.non] (λvs H Q _=>pC aq au bY K vs H Q λ_ _ _=>False))(iu:MethAt P w K mg base 7 aq "turn" ["self","hand"] (λvs H Q _=>vL aq au aR dj K vs H Q λ_ _ _=>False))(Bt:pR mg):bO P w K mg base iy 9 f fd ["reel","loads"] (tG aq au K):=by
 refine F.ok gR (λvs H Q E h=>?_) (λcdv A outer s H vs Q E hr h=>?_)
 .obtain⟨r,L,τ,bN,rfl,_⟩:=h
  rfl
 .obtain⟨r,L,τ,bN,rfl,T,hL,tL,l8,lb,t1,k⟩:=h
  refine⟨_,(aB (bA (i:=2) gR.nd rfl (Or.inl rfl) (cR aA))
   (aB (bA (i:=3) gR.nd rfl (Or.inl rfl) (cR aA))
   (aB (mJ PassesOwn.never rfl (eZ (by rfl) Bt.i_ (aj (aO (aW (K:=K) rfl) (by rfl) Bt.d_ cQ (aj (pv 1) aA)) aA)) (bJ (i:=4) gR.nd rfl (Or.inl rfl))
   (aB (bA (i:=5) gR.nd rfl (Or.inl rfl) (bM iI (aQ (aZ (K:=K) rfl) (pv 1) (pv 4) (λ_ _=>rfl)) (bT cN (hr.mono (by decide)) (by rfl) (aj (pv 0) (aj aD aA)))))
   (aB (cF (dB (K:=K) rfl (pv 2) (aj (bM Bv (bM wD (cR (aj (fj (aj cB (aj cB (aj aD aA)))) aA)) (pv 5)) (bM wD (cR (aj (fj (aj cB (aj (pv 5) aA))) aA)) (cL uw (by rfl) Bt.FP xU (aj (dZ eF (bT cN (hr.mono (by decide)) (by rfl) (aj (pv 0) (aj aD aA))) aD (bC _)) aA)))) aA)))
   (aH (bA (i:=3) gR.nd rfl (Or.inl rfl) (bM Bv (pv 3) (bM wD (cR (aj (pv 4) aA)) (bM oE (pv 5) (aQ (aZ (K:=K) rfl) (pv 1) (pv 4) (λ_ _=>rfl))))))))))
   (aB (bA (i:=6) gR.nd rfl (Or.inl rfl) (rK Ri (hr.mono (by decide)) (by rfl) (aj (fj (aj aD (aj (pv 2) aA))) aA)))
   (aB (mJ PassesOwn.never rfl (cI (K:=K) rfl (pv 3)) (bJ (i:=4) gR.nd rfl (Or.inl rfl))
   (aH (cF (cC iu aJ.cls (hr.mono (by decide)) (pv 6) (aj (pv 4) aA)))))
   (aH (bG (pv 6)))))))), ?_⟩
  have nLr:=(T.off _ _ hL (by rw[tL];simp)).1;refine⟨(by show 0<=sizeLine;decide),λa ha=>?_⟩;have sa:=aF (o:=HO.lst []) ha;have ea:(upd H a (.lst [])) a=some (.lst []):=ak;have T1:=T.claim (t:=[0]) sa ha ⟨_,ea⟩;have ta:aM τ a [0] a=[0]:=bD;have Ds:∀x u,H x=some u->aM τ a [0] x=τ x:=λx u e=>aN (ao e ha);generalize (upd H a (.lst []))=H1 at sa ea T1 ⊢;generalize aM τ a [0]=τ1 at T1 ta Ds;refine⟨(by show 0<=sizeLine;decide),λo0 ho0=>?_⟩;have so:=aF (o:=HO.lst []) ho0;have eo:(upd H1 o0 (.lst [])) o0=some (.lst []):=ak;have noa:=ao ea ho0;have nor:=T1.R.ne ho0;have T1o:=T1.un _ ho0;have T2:=T1.same so;have ea2:=so _ _ ea;have s2:=sa.trans so;generalize (upd H1 o0 (.lst []))=H2 at so eo T2 ea2 s2 ⊢;clear T1 sa so ho0 ea;dsimp only[cG];refine fW (λσ Hc=>∃(x4 x5:Option V) (o:Addr) (qs:List Addr) (dh:List Nat) (lost:List Bool) (od:List Nat),σ=[some (.ref r),some (.ref L),some (.ref a),some (.ref o),x4,x5,none]/\RT τ1 Hc r/\Kp r H Hc/\Hc a=some (.lst (qs.map V.ref))/\qs.length=bN.length/\dh.length=bN.length/\lost.length=bN.length/\(∀(kk:Nat)(q:Addr)(z:Nat)(b:Bool),qs[kk]? = some q->dh[kk]? = some z->lost[kk]? = some b->q≠a/\q≠r/\dO Hc q 1 (dX (List.replicate z 0) b))/\Hc o=some (.lst (od.map λk:Nat=>V.int k))/\o≠a/\o≠r/\τ1 o=[]/\(∀(k n z:Nat),bN[k]? = some n->dh[k]? = some z->(od.count k:Int)=(z:Int) - n/\n<=z/\z<=38)/\(∀x∈od,x<bN.length)/\od.length<=2*bN.length) (λD' hD' Wh=>?_) ?_
  .refine⟨_,Z,L,_,Z,.inl (bH.of (s2 _ _ hL)),_,Z,by rw[aac];lia,by rw[aac];lia, ?_⟩
   rw[aac,abt]
   refine pN (lo:=0) (n:=bN.length) (λj σ Hc=>∃(x4 x5:Option V) (o:Addr) (qs:List Addr) (dh:List Nat) (lost:List Bool) (od:List Nat),σ=[some (.ref r),some (.ref L),some (.ref a),some (.ref o),x4,x5,none]/\RT τ1 Hc r/\Kp r H Hc/\Hc a=some (.lst (qs.map V.ref))/\qs.length=j/\dh.length=j/\lost.length=j/\(∀(kk:Nat)(q:Addr)(z:Nat)(b:Bool),qs[kk]? = some q->dh[kk]? = some z->lost[kk]? = some b->q≠a/\q≠r/\dO Hc q 1 (dX (List.replicate z 0) b))/\Hc o=some (.lst (od.map λk:Nat=>V.int k))/\o≠a/\o≠r/\τ1 o=[]/\(∀(k n z:Nat),bN[k]? = some n->dh[k]? = some z->(od.count k:Int)=(z:Int) - n/\n<=z/\z<=38)/\(∀x∈od,x<j)/\od.length<=2*j)
    ⟨none,none,o0,[],[],[],[],Z,T2,Kp.of_same s2,ea2,Z,Z,Z,λkk q z b e=>by simp at e,eo,noa.symm,nor,T1o,λk n z _ e=>by simp at e,by simp,aar _⟩ ?_ (λσ Hc h=>hD' _ _ h)
   rintro j σ Hc hj ⟨x4,x5,o,qs,dh,lost,od,rfl,Tc,kpc,ea,lq,lz,lb',hq,eo,noa,nor,to,cnt,odl,ol⟩;have en:bN[j]? = some bN[j]:=aad hj;have nb:=lb _ (List.getElem_mem hj);generalize bN[j]=n at en nb;have hLc:=kpc _ _ hL nLr;rw[Int.zero_add];refine⟨_,Z,_,Z,_,_,_,_,Z,Z,bH.of hLc,d7 (by rw[aah,en];rfl),_,Z,r,3,Z,Tc.R,by decide,by decide,λu Hd u0 u1 Rd kd=>⟨_,_,Z,Z, ?_⟩⟩;have Td:=Tc.draw kd Rd;obtain⟨z,ez,zn,RK⟩:∃z:Nat,(n:Int)+u=z/\n<=z/\z<=38:=⟨((n:Int)+u).toNat,by lia,by lia,by lia⟩;dsimp only;rw[ez];have ead:=Tc.keep kd ea (by rw[ta];simp);have Y9:=kd.1 _ _ eo nor;refine⟨_,Z,.inl ⟨Z,_,bH.of ead⟩,(by show 3<=sizeLine;decide),λp1 hp1=>⟨(by show 1<=sizeLine;decide),λq1 hq1=>⟨_,Z, ?_⟩⟩⟩;have Mq:=aF (o:=HO.tup [V.str "load",V.str "a",V.int 0]) hp1;have sq1:=aF (o:=HO.lst [V.ref p1]) hq1;refine⟨q1,_,_,Z,Z,ak,by lia,by lia,by rw[sizeLine_eq];simp;lia,λq2 hq2=>?_⟩;rw[abt,rep1];have sq2:=aF (o:=HO.lst (List.replicate z (V.ref p1))) hq2;have Y8:=sq2 _ _ (sq1 _ _ (ak (H:=Hd) (a:=p1) (o:=HO.tup [V.str "load",V.str "a",V.int 0])));have Y6:(upd (upd (upd Hd p1 (.tup [V.str "load",V.str "a",V.int 0])) q1 (.lst [V.ref p1])) q2 (.lst (List.replicate z (V.ref p1)))) q2=some (.lst (List.replicate z (V.ref p1))):=ak;have Sa:=(Mq.trans sq1).trans sq2;generalize (upd (upd (upd Hd p1 (.tup [V.str "load",V.str "a",V.int 0])) q1 (.lst [V.ref p1])) q2 (.lst (List.replicate z (V.ref p1))))=Ha at Y8 Y6 Sa ⊢;have fq2:Hd q2=none:=Mq.free (sq1.free hq2);clear Mq sq1 sq2 hq2;refine⟨_,Z,(by show 2<=sizeLine;decide),λp3 hp3=>⟨(by show 1<=sizeLine;decide),λq3 YJ=>?_⟩⟩;have Xh:=aF (o:=HO.tup [V.str "go",V.int z]) hp3;have sq3:=aF (o:=HO.lst [V.ref p3]) YJ;have Y7:=sq3 _ _ (ak (H:=Ha) (a:=p3) (o:=HO.tup [V.str "go",V.int z]));have eq3:(upd (upd Ha p3 (.tup [V.str "go",V.int z])) q3 (.lst [V.ref p3])) q3=some (.lst [V.ref p3]):=ak;have Sb:=Xh.trans sq3;have fq3:Ha q3=none:=Xh.free YJ;generalize (upd (upd Ha p3 (.tup [V.str "go",V.int z])) q3 (.lst [V.ref p3]))=Hb at Y7 eq3 Sb ⊢;have Z_:=Sa.trans Sb;have Tb:=Td.same Z_;clear Xh sq3;refine⟨_,Z,r,3,Z,Tb.R,by decide,by decide,λv He v0 v1 Re ke=>⟨Z,.inr ⟨_,Z, ?_⟩⟩⟩;have Te:=Tb.draw ke Re;have nq2:q2≠r:=Td.R.ne fq2;have nq3:q3≠r:=(Td.same Sa).R.ne fq3;have ab1:=ke.1 _ _ (Sb _ _ Y6) nq2;have ab0:=ke.1 _ _ eq3 nq3;have ab4:=ke.tups Tb.R _ _ (Sb _ _ Y8);have ab3:=ke.tups Tb.R _ _ Y7;have eae:=Tb.keep ke (Z_ _ _ ead) (by rw[ta];simp);have eoe:=ke.1 _ _ (Z_ _ _ Y9) nor;generalize hbu:decide (V.int v=V.int 0)=bu;refine⟨q3,_,_,Z,Z,ab0,by split<;>decide,by split<;>decide,by rw[sizeLine_eq];split<;>simp,λq4 hq4=>?_⟩;have e4:(List.replicate (if bu=true then (1:Int) else 0).toNat [V.ref p3]).flatten=if bu then [V.ref p3] else []:=by cases bu<;>rfl
   rw[e4] at *;have sq4:=aF (o:=HO.lst (if bu then [V.ref p3] else [])) hq4;refine⟨q2,q4,_,_,Z,Z,sq4 _ _ ab1,ak,by rw[abS,sizeLine_eq];split<;>simp<;>lia,λq5 Mr=>?_⟩;have sq5:=aF (o:=HO.lst (List.replicate z (V.ref p1)++if bu then [V.ref p3] else [])) Mr;have eq5:(upd (upd He q4 (.lst (if bu then [V.ref p3] else []))) q5 (.lst (List.replicate z (V.ref p1)++if bu then [V.ref p3] else []))) q5=some (.lst (List.replicate z (V.ref p1)++if bu then [V.ref p3] else [])):=ak;have Se:=sq4.trans sq5;have nq5:q5≠r:=(Te.same sq4).R.ne Mr;have aa7:q5≠a:=(ao (sq4 _ _ eae) Mr).symm;generalize (upd (upd He q4 (.lst (if bu then [V.ref p3] else []))) q5 (.lst (List.replicate z (V.ref p1)++if bu then [V.ref p3] else [])))=Hf at eq5 Se ⊢;have eaf:=Se _ _ eae;have eof:=Se _ _ eoe;have RH:dO Hf q5 1 (dX (List.replicate z 0) bu):=Xu eq5 (Se _ _ ab4) (Se _ _ ab3) (by lia);have tup:∀y ys,Hf y=some (.tup ys)->(upd Hf a (.lst (qs.map V.ref++[V.ref q5]))) y=some (.tup ys):=λy ys e=>by rw[aC (cY e eaf (by intro z;cases z))];exact e
   refine⟨a,_,_,Z,Z,eaf,by rw[aac,sizeLine_eq];lia, ?_⟩;have kpf:∀x u,Hc x=some u->x≠r->Hf x=some u:=λx u e n=>Se _ _ (ke.1 _ _ (Z_ _ _ (kd.1 _ _ e n)) n);have Tg':=(Te.same Se).set (u:= .lst (qs.map V.ref++[V.ref q5])) eaf (by rw[ta];simp);have eag:(upd Hf a (.lst (qs.map V.ref++[V.ref q5]))) a=some (.lst ((qs++[q5]).map V.ref)):=by rw[ak,abo];rfl
   have eog:(upd Hf a (.lst (qs.map V.ref++[V.ref q5]))) o=some (.lst (od.map λk:Nat=>V.int k)):=by rw[aC noa];exact eof
   have kpg:Kp r H (upd Hf a (.lst (qs.map V.ref++[V.ref q5]))):=λx u e n=>by rw[aC (ao e ha)];exact kpf _ _ (kpc _ _ e n) n
   have hqg:∀(kk:Nat)(q:Addr)(y:Nat)(b:Bool),(qs++[q5])[kk]? = some q->(dh++[z])[kk]? = some y->(lost++[bu])[kk]? = some b->q≠a/\q≠r/\dO (upd Hf a (.lst (qs.map V.ref++[V.ref q5]))) q 1 (dX (List.replicate y 0) b):=λkk q y b h1 h2 h3=>by
    rcases jQ h1 with h1|⟨e1,rfl⟩
    .have kl:=(aae.mp h1).1
     rw[abb (by lia)] at h2 h3;obtain⟨n1,n2,R'⟩:=hq kk q y b h1 h2 h3;refine⟨n1,n2,R'.keep (λo e=>?_) (λy ys e=>tup _ _ (Se _ _ (ke.tups Tb.R _ _ (Z_ _ _ (kd.tups Tc.R _ _ e)))))⟩;rw[aC n1];exact kpf _ _ e n2
    .rw[e1,lq,←lz,aa' (aar _)] at h2
     rw[e1,lq,←lb',aa' (aar _)] at h3;simp at h2 h3;subst h2 h3;exact⟨aa7,nq5,RH.keep (λo e=>by rw[aC aa7];exact e) tup⟩
   have hLg:=kpg _ _ hL nLr;generalize (upd Hf a (.lst (qs.map V.ref++[V.ref q5])))=Hg at Tg' eag eog kpg hqg hLg ⊢;clear RH tup kpf Se Te ke Tb Z_ Sa Sb eaf eof eae eoe eq5 ab1 ab0 ab4 ab3 hq hq4 Mr e4 Y8 Y7 Y6 eq3 fq2 fq3 ead Y9 kd Td;refine⟨_,Z,_,Z,(by show 1<=sizeLine;decide),λp4 hp4=>?_⟩;have sp4:=aF (o:=HO.lst [V.int (j:Nat)]) hp4;refine⟨_,Z,_,Z,_,Z,_,_,_,_,Z,Z,bH.of (sp4 _ _ hLg),d7 (by rw[aah,en];rfl),_,_,Z,Z, ?_⟩;refine⟨p4,_,_,Z,Z,ak,by lia,by lia,by rw[sizeLine_eq];simp;lia,λp5 hp5=>?_⟩;have sp5:=aF (o:=HO.lst (List.replicate ((z:Int) - n).toNat [V.int (j:Nat)]).flatten) hp5
   have er:(List.replicate ((z:Int) - n).toNat [V.int (j:Nat)]).flatten=(List.replicate (z - n) j).map λk:Nat=>V.int k:=by
    rw[show ((z:Int) - n).toNat=z - n by lia,rep1,List.map_replicate]
   rw[er] at sp5 ⊢;have s45:=sp4.trans sp5;refine⟨o,p5,_,_,Z,Z,s45 _ _ eog,ak,by rw[aac,aac,abS,sizeLine_eq];lia,λo' ho'=>?_⟩;have so':=aF (o:=HO.lst ((od.map λk:Nat=>V.int k)++(List.replicate (z - n) j).map λk:Nat=>V.int k)) ho';have s4o:=s45.trans so';refine⟨_,_,o',qs++[q5],dh++[z],lost++[bu],od++List.replicate (z - n) j,Z,Tg'.same s4o,kpg.trans (.of_same s4o),s4o _ _ eag,by simp[lq],by simp[lz],by simp[lb'],λkk q y b h1 h2 h3=>(let ⟨b1,b2,b3⟩:=hqg kk q y b h1 h2 h3;⟨b1,b2,b3.same s4o⟩),by rw[abo];exact ak,(ao (s45 _ _ eag) ho').symm,(Tg'.same s45).R.ne ho',(Tg'.same s45).un _ ho',λkk n' y h1 h2=>?_,λx hx=>?_,by rw[aa_,abS];lia⟩
   .rw[List.count_append,List.count_replicate]
    rcases jQ h2 with h2|⟨e1,rfl⟩
    .have kl:=(aae.mp h2).1
     have:=cnt kk n' y h1 h2;rw[acK (by simp;lia)];lia
    .rw[e1,lz,en] at h1
     cases h1;have:od.count kk=0:=List.count_eq_zero.mpr λz=>by have:=odl _ z;lia
     rw[this,e1,lz,acM (by simp)];lia
   .rcases abF.mp hx with hx|hx
    .have:=odl x hx;lia
    .rw[(List.mem_replicate.mp hx).2];lia
  .rintro σ Hc ⟨x4,x5,o,qs,dh,lost,od,rfl,Tc,kpc,ea,lq,lz,lb',hq,eo,noa,nor,to,cnt,odl,ol⟩
   refine⟨_,Z,(by show 2<=sizeLine;decide),λp0 hp0=>?_⟩;have sp:=aF (o:=HO.tup [V.int 1,V.ref a]) hp0;have Z2:(upd Hc p0 (.tup [V.int 1,V.ref a])) p0=some (.tup [V.int ((1:Nat):Int),V.ref a]):=ak;have ea5:=sp _ _ ea;have Wt:=sp _ _ eo;have T5:=Tc.same sp;have lzw:(List.zipWith dX (jV dh) lost).length=bN.length:=by unfold jV;rw[List.length_zipWith,aac];lia
   have Mr:∀(kk:Nat)(q:Addr)(x:List Rw),qs[kk]? = some q->(List.zipWith dX (jV dh) lost)[kk]? = some x->dO (upd Hc p0 (.tup [V.int 1,V.ref a])) q 1 x:=λkk q x h1 h2=>by
    have kl:=(aae.mp h1).1;obtain⟨z,ez⟩:∃z,dh[kk]? = some z:=⟨_,aad (by lia)⟩;obtain⟨b,eb⟩:∃b,lost[kk]? = some b:=⟨_,aad (by lia)⟩;have er:(jV dh)[kk]? = some (List.replicate z 0):=by unfold jV;rw[aah,ez];rfl
    rw[List.getElem?_zipWith,er,eb] at h2;cases h2;exact(hq kk q z b h1 ez eb).2.2.same sp
   have kp5:Kp r H (upd Hc p0 (.tup [V.int 1,V.ref a])):=kpc.trans (.of_same sp);generalize (upd Hc p0 (.tup [V.int 1,V.ref a]))=H5 at sp Z2 ea5 Wt Mr T5 kp5 ⊢;clear hq ea eo Tc kpc;refine λwo dx hwo hdx ndx=>?_;have abx:(upd H5 dx (.own wo)) wo=none:=by rw[aC ndx.symm];exact hwo
   have Xj:Same H5 (upd (upd H5 dx (.own wo)) wo (.ins aq dx [])):=(aF hdx).trans (aF abx);have aa4:uf 1 [0]:=⟨Z,λx hx=>by rw[abP.mp hx];exact⟨by decide,by decide⟩⟩;refine⟨1,τ1,wo,dx,p0,a,qs,1,.non,[0],List.zipWith dX (jV dh) lost,Z,ak,Xj _ _ Z2,Xj _ _ ea5,by lia,λkk q' x h1 h2=>(Mr kk q' x h1 h2).same Xj,by lia,by decide,T5.un.same Xj,by decide,by decide,.inl ⟨Z,Z⟩,λ_ τa W Ha ewo wa tg kp=>⟨Z, ?_⟩,λbad=>acP aa4 bad⟩;have s5a:Same H5 Ha:=λx u e=>kp _ _ (Xj _ _ e) (ao e hwo);have tga:∀x u,H5 x=some u->τa x=τ1 x:=λx u e=>tg x u (Xj _ _ e) (ao e hwo);have Ta:RT τa Ha r:=T5.made s5a tga wa.un;have gda:gn (Cv 1 [0] (List.zipWith dX (jV dh) lost)):=Lj aa4.2;have eoa:=s5a _ _ Wt;have toa:τa o=[]:=(tga _ _ Wt).trans to
   have Ga:=Qi (loads:=jV dh) (lost:=lost) (by unfold jV;rw[aac];lia) λrow hr c hc=>by
    unfold jV at hr;obtain⟨z,_,rfl⟩:=abG.mp hr;rw[(List.mem_replicate.mp hc).2];decide
   have kpa:Kp r H Ha:=kp5.trans (.of_same s5a)
   have tgH:∀x u,H x=some u->τa x=τ x:=λx u e=>by
    by_cases n:x=r
    .have e1:∃u,H5 r=some u:=T5.R.at
     obtain⟨u',e1⟩:=e1;rw[n,tga _ _ e1];exact Ds _ _ (n▸e)
    .rw[tga _ _ (kp5 _ _ e n)];exact Ds _ _ e
   have abV:V.ref wo=V.ref W.o:=by rw[ewo]
   rw[abV];clear kp tg Xj abx abV Mr Z2 ea5 Wt T5 kp5 sp;have mS:(Cv 1 [0] (List.zipWith dX (jV dh) lost)).m<=100:=by show 1<=100;decide
   have tS:(((Cv 1 [0] (List.zipWith dX (jV dh) lost)).ts.length:Nat):Int)=(List.replicate (jV dh).length (0:Int)).sum:=by simp;rfl
   generalize Cv 1 [0] (List.zipWith dX (jV dh) lost)=S at wa gda Ga mS tS;dsimp only[cG];refine fW (λσ Hx=>∃(S:gU) (ga:List Int) (x4:Option V),σ=[some (.ref r),some (.ref L),some (.ref a),some (.ref o),x4,x5,some (.ref W.o)]/\jw aq au 1 τa Hx W S/\gn S/\S.m<=100/\o7 S [0] (jV dh) lost ga/\(S.ts.length:Int)=ga.sum/\(∀k:Nat,k<dh.length->gI ga k=(od.count k:Int))/\RT τa Hx r/\Kp r H Hx) (λD' hD' Wh=>?_) ?_
   .refine⟨_,Z,o,Z,⟨_,bH.of eoa⟩,oK (K:=K) (xs:=od.map λk:Nat=>V.int k) (λi σ Hx=>∃(S:gU) (ga:List Int) (x4:Option V),σ=[some (.ref r),some (.ref L),some (.ref a),some (.ref o),x4,x5,some (.ref W.o)]/\jw aq au 1 τa Hx W S/\gn S/\S.m<=100/\o7 S [0] (jV dh) lost ga/\(S.ts.length:Int)=ga.sum/\(∀k:Nat,k<dh.length->gI ga k=((od.take i).count k:Int))/\RT τa Hx r/\Kp r H Hx/\Hx o=some (.lst (od.map λk:Nat=>V.int k))) ⟨S,_,_,Z,wa,gda,mS,Ga,tS,λk _=>?_,Ta,kpa,eoa⟩ (by rintro i σ Hx _ ⟨_,_,_,_,_,_,_,_,_,_,_,_,e⟩;exact bH.of e) ?_ (by rintro σ Hx ⟨S,ga,x4,h1,h2,h3,h4,h5,h6,h7,h8,h9,_⟩;rw[aac,abQ] at h7;exact hD' _ _ ⟨S,ga,x4,h1,h2,h3,h4,h5,h6,h7,h8,h9⟩)⟩
    .rw[List.take_zero]
     unfold gI;rw[acB];split<;>rfl
    rintro i v σ Hx hi ⟨S,ga,x4,rfl,wx,gd,ml,G,qO,gk,Tx,kpx,eox⟩;rw[aah] at hi
    obtain⟨k,ek,rfl⟩:∃k:Nat,od[i]? = some k/\v = .int k:=by
     cases e:od[i]? with
     | none=>rw[e] at hi;cases hi
     | some q=>rw[e] at hi;exact⟨q,Z,(aa6 hi).symm⟩
    have kl:=odl k (aaK ek);obtain⟨z,ez⟩:∃z,dh[k]? = some z:=⟨_,aad (by lia)⟩;obtain⟨n,en⟩:∃n,bN[k]? = some n:=⟨_,aad kl⟩;have cn:=cnt k n z en ez;have g0:=gk k (by lia);have tk:od.take (i+1)=od.take i++[k]:=by rw[abU,ek];rfl
    have cl:(od.take (i+1)).count k<=od.count k:=List.Sublist.count_le _ (List.take_sublist _ _);rw[tk,List.count_append,List.count_singleton_self] at cl;obtain⟨⟨s,hs1,hs2,hs3⟩,G',ts'⟩:=Jg G qO ez (by lia)
    have tb:=vH G qO (by lia) (λz hz=>by
     obtain⟨kk,hk,e⟩:=acC hz;have:=cnt kk (bN[kk]'(by lia)) z (aad _) (by rw[aad hk,e]);lia)
    have kga:k<ga.length:=by rw[G.gl];unfold jV;rw[aac];lia
    refine⟨_,Z,W.o,W.dx,_,Z,wx.o,Z,_,Z,1,τa,W,S,k,Z,wx,by lia,λk' s' rr t Hy e1 e2 e3 e4 e5 e6 e7 wy st=>?_,λz=>acP ?_ z,λk' s' e1 e2 e3=>?_⟩
    .obtain rfl:k'=k:=by lia
     refine⟨fK S k',_,_,Z,wy,gd.turn k', ?_,G',ts',λx hx=>?_,Tx.stp st,λx u e n=>st.keep _ _ (kpx _ _ e n) (by rw[tgH x u e];exact t1 x u e),st.keep _ _ eox (by rw[toa];simp)⟩
     .rw[Ae];exact ml
     .rw[oJ kga,tk,List.count_append]
      have:=gk x hx
      by_cases q:x=k'
      .subst q
       rw[acM rfl,List.count_singleton_self];lia
      .rw[acK q,List.count_singleton,acK (by simp;lia)]
       lia
    .exact⟨by lia,by have:=(aae.mp hs1).1;lia⟩
    .obtain rfl:k'=k:=by lia
     rw[hs1] at e2;cases e2;exact e3 hs2
   .rintro σ Hx ⟨S,ga,x4,rfl,wx,gd,ml,G,qO,gk,Tx,kpx⟩
    refine⟨_,Z,k τa W S dh lost ga Hx wx gd ml G qO lz (λkk n z h1 h2=>?_) (λz hz=>?_) Tx tgH kpx⟩
    .have:=cnt kk n z h1 h2
     rw[gk kk (by have:=(aae.mp h2).1;lia)];lia
    .obtain⟨kk,hk,e⟩:=acC hz
     have:=cnt kk (bN[kk]'(by lia)) z (aad _) (by rw[aad hk,e]);lia
theorem BR{p:Addr}{H:Hp}{o:HO}:Kp p H (upd H p o):=λx u e n=>by rw[aC n];exact e
noncomputable def lJ(CW CH:Addr)(K:PySem.W.Frag):Sp:=λvs H Q _=>∃(i:Nat) (τ:Tg) (W:u6) (S:gU) (dh:List Nat) (lost:List Bool) (ga:List Int) (ls l ru hd c a:Addr) (xs cxs axs:List V) (fr:List Nat) (kd wh to hw:Int),vs=[.ref ls,.ref l,.ref ru,.ref hd,.ref W.o]/\jw CW CH i τ H W S/\gn S/\S.m<=100/\o7 S [0] (jV dh) lost ga/\(S.ts.length:Int)=ga.sum/\dh.length<=8/\(∀z∈dh,z<=38)/\H ls=some (.lst xs)/\xs.length<=2400/\H l=some (.lst (fr.map λk:Nat=>V.int k))/\fr≠[]/\fr.length<=100/\H ru=some (.tup [.int kd,.int wh,.int to,.int hw])/\0<=kd/\kd<3/\H hd=some (.tup [.ref c,.ref a])/\H c=some (.lst cxs)/\H a=some (.lst axs)/\ls≠l/\c≠ls/\c≠l/\a≠ls/\a≠l/\a≠c/\τ ls=[]/\τ l=[]/\τ c=[]/\τ a=[] /\
 ∀(D t:Addr)(S':gU)(Gd:List Int)(H':Hp),H D=none->H t=none->H' D=some (.lst (fr.map λk:Nat=>V.int k))->H' t=some (.tup [.ref D,.ref l])->H' ls=some (.lst (xs++[.ref t]))->H' l=some (.lst (if hw=0 then [] else fr.map λk:Nat=>V.int k))->jw CW CH i τ H' W S'->gn S'->S'.m<=100->o7 S' [0] (jV dh) lost Gd->(S'.ts.length:Int)=Gd.sum->(∀x o,H x=some o->x≠ls->x≠l->x≠c->x≠a->(τ x).head?≠some i->H' x=some o)->(∀x ys,H x=some (.tup ys)->H' x=some (.tup ys))->(hw≠2 -> ∀x o,H x=some o->x≠ls->x≠l->H' x=some o)->(∃ys,H' c=some (.lst ys))->(∃ys,H' a=some (.lst ys))->Q (.int (fL kd wh to fr xs.length)) H'
theorem Eb{aq au aR dj:Addr}{f:Addr}{fd:FuncData}(F:gD K "_law_chosen" "_law_chosen" tW f fd)(aJ:cT K aq)(CV:FnAt P w K mg base 1 "_law_pick" ["free","rule","at"] (Gn K))(fV:MethAt P w K mg base 1 aq "counts" ["self"] (nR aq au K))(oY:MethAt P w K mg base 4 aq "how" ["self","hand"] (λvs H Q _=>Jk aq au aR K vs H Q λ_ _ _=>False))(iu:MethAt P w K mg base 7 aq "turn" ["self","hand"] (λvs H Q _=>vL aq au aR dj K vs H Q λ_ _ _=>False))(Bt:pR mg):bO P w K mg base iy 9 f fd ["seen","free","rule","handed","works"] (lJ aq au K):=by
 refine F.ok qm (λvs H Q E h=>?_) (λcdv A outer s H vs Q E hr h=>?_)
 .obtain⟨i,τ,W,S,dh,lost,ga,ls,l,ru,hd,c,a,xs,cxs,axs,fr,kd,wh,to,hw,rfl,_⟩:=h
  rfl
 .obtain⟨i,τ,W,S,dh,lost,ga,ls,l,ru,hd,c,a,xs,cxs,axs,fr,kd,wh,to,hw,rfl,w0,gd,ml,G,qO,l8,RK,hls,xl,hl,Qo,f1,hu,k0,k1,hhd,hc,ha,n1,n2,n3,n4,n5,n6,t1,t2,t3,t4,k⟩:=h
  refine⟨_,(aB (bA (i:=5) qm.nd rfl (Or.inl rfl) (bT CV (hr.mono (by decide)) (by rfl) (aj (pv 1) (aj (pv 2) (aj (aO (aW (K:=K) rfl) (by rfl) Bt.d_ cQ (aj (pv 0) aA)) aA)))))
   (aB (cF (dB (K:=K) rfl (pv 0) (aj (fj (aj (cL (bR (K:=K) rfl) (by rfl) Bt.fQ dN (aj (pv 1) aA)) (aj (pv 1) aA))) aA)))
   (aB (cA (bB eF (aQ (aU (K:=K) rfl) (pv 2) aD (λ_ _=>rfl)) aD (bC _)) (aH (cF (Bo (K:=K) rfl PySem.F.plainAttrs_list PySem.F.slot_list_clear PySem.F.type_list_clear wN (pv 1)))) bL)
   (aB (cA (bB eF (aQ (aU (K:=K) rfl) (pv 2) aD (λ_ _=>rfl)) aD (bC _)) (aB (cF (Bo (K:=K) rfl PySem.F.plainAttrs_list PySem.F.slot_list_clear PySem.F.type_list_clear wN (aQ (aU (K:=K) rfl) (pv 3) aD (λ_ _=>rfl))))
   (aB (cF (Bo (K:=K) rfl PySem.F.plainAttrs_list PySem.F.slot_list_clear PySem.F.type_list_clear wN (aQ (aU (K:=K) rfl) (pv 3) aD (λ_ _=>rfl))))
   (aH (mJ PassesOwn.never rfl (eZ (by rfl) Bt.i_ (aj (aO (aW (K:=K) rfl) (by rfl) Bt.d_ cQ (aj (cV fV aJ.cls (hr.mono (by decide)) (pv 4)) aA)) aA)) (bJ (i:=6) qm.nd rfl (Or.inl rfl))
   (aH (cA (bB eF (cC oY aJ.cls (hr.mono (by decide)) (pv 4) (aj (pv 6) aA)) cB (bC _)) (aH (cF (cC iu aJ.cls (hr.mono (by decide)) (pv 4) (aj (pv 6) aA)))) bL)))))) bL)
   (aH (bG (pv 5))))))), ?_⟩
  refine⟨_,Z,_,Z,_,Z,ls,_,Z,.inl (bH.of hls),l,ru,fr,kd,wh,to,hw,xs.length,Z,hl,Qo,f1,hu,k0,k1,λH1 s1=>?_⟩;have hls1:=s1 _ _ hls;have hl1:=s1 _ _ hl;refine⟨_,Z,.inl ⟨Z,_,bH.of hls1⟩,_,Z,l,_,Z,.inl (bH.of hl1),λD hD=>⟨_,Z,(by show 2<=sizeLine;decide),λt ht=>?_⟩⟩;have sD:=aF (o:=HO.lst (fr.map λk:Nat=>V.int k)) hD;have st:=aF (o:=HO.tup [V.ref D,V.ref l]) ht;have eD:(upd (upd H1 D (.lst (fr.map λk:Nat=>V.int k))) t (.tup [V.ref D,V.ref l])) D=some (.lst (fr.map λk:Nat=>V.int k)):=st _ _ ak;have et:(upd (upd H1 D (.lst (fr.map λk:Nat=>V.int k))) t (.tup [V.ref D,V.ref l])) t=some (.tup [V.ref D,V.ref l]):=ak;have s2:=s1.trans (sD.trans st);have fD:H D=none:=s1.free hD;have ft:H t=none:=s1.free (sD.free ht);generalize (upd (upd H1 D (.lst (fr.map λk:Nat=>V.int k))) t (.tup [V.ref D,V.ref l]))=H2 at eD et s2 ⊢;clear sD st hls1 hl1 s1 hD ht;have hls2:=s2 _ _ hls;refine⟨ls,xs,_,Z,Z,hls2,by rw[sizeLine_eq];lia, ?_⟩;have nD:∀x o,H x=some o->x≠D:=λx o e=>ao e fD;have nt:∀x o,H x=some o->x≠t:=λx o e=>ao e ft;have w3:=(w0.same s2).kp (BR (o:= .lst (xs++[V.ref t]))) hls2 (by intro xs z;cases z) t1 ⟨_,ak⟩;have up:∀x o,H2 x=some o->x≠ls->(upd H2 ls (.lst (xs++[V.ref t]))) x=some o:=λx o e n=>by rw[aC n];exact e
  have eD3:=up _ _ eD (nD _ _ hls).symm;have et3:=up _ _ et (nt _ _ hls).symm;have yO:(upd H2 ls (.lst (xs++[V.ref t]))) ls=some (.lst (xs++[V.ref t])):=ak;have f3:∀x o,H x=some o->x≠ls->(upd H2 ls (.lst (xs++[V.ref t]))) x=some o:=λx o e n=>up _ _ (s2 _ _ e) n;generalize (upd H2 ls (.lst (xs++[V.ref t])))=H3 at w3 eD3 et3 yO f3 ⊢;clear up hls2 s2 eD et;have hu3:=f3 _ _ hu (λz=>by rw[z,hls] at hu;cases hu);have hl3:=f3 _ _ hl n1.symm;dsimp only[cG];refine fW (λσ Hc=>σ=[some (.ref ls),some (.ref l),some (.ref ru),some (.ref hd),some (.ref W.o),some (.int (fL kd wh to fr xs.length)),none]/\jw aq au i τ Hc W S/\Hc D=some (.lst (fr.map λk:Nat=>V.int k))/\Hc t=some (.tup [.ref D,.ref l])/\Hc ls=some (.lst (xs++[.ref t]))/\Hc l=some (.lst (if hw=0 then [] else fr.map λk:Nat=>V.int k)) /\ ∀x o,H x=some o->x≠ls->x≠l->Hc x=some o) (λD' hD' _=>?_) ?_
  .refine⟨_,Z,_,_,_,_,Z,Z,cH.of hu3,Z,Z,_,Z, ?_⟩
   refine cO (λq=>?_) (λq=>?_)
   .have q:hw=0:=V.int.inj (aaO q)
    refine⟨_,Z,.inl ⟨Z,_,bH.of hl3⟩,l,_,Z,Z,hl3, ?_⟩;have up:∀x o,H3 x=some o->x≠l->(upd H3 l (.lst [])) x=some o:=λx o e n=>by rw[aC n];exact e
    exact hD' _ _ ⟨Z,w3.kp BR hl3 (by intro xs z;cases z) t2 ⟨_,ak⟩,up _ _ eD3 (nD _ _ hl).symm,up _ _ et3 (nt _ _ hl).symm,up _ _ yO n1,by rw[ak,acM q],λx o e n m=>up _ _ (f3 _ _ e n) m⟩
   .have q:hw≠0:=λz=>q (aaL (congrArg V.int z))
    exact hD' _ _ ⟨Z,w3,eD3,et3,yO,by rw[acK q];exact hl3,λx o e n m=>f3 _ _ e n⟩
  clear w3 eD3 et3 yO f3 hu3 hl3;rintro σ H4 ⟨rfl,w4,eD4,et4,agJ,el4,f4⟩;have Ur:∀(x:Addr)(ys:List V),H x=some (.tup ys)->x≠ls/\x≠l/\x≠c/\x≠a:=λx ys e=>⟨λz=>(by rw[z,hls] at e;cases e),λz=>(by rw[z,hl] at e;cases e),λz=>(by rw[z,hc] at e;cases e),λz=>(by rw[z,ha] at e;cases e)⟩;have hu4:=f4 _ _ hu (Ur _ _ hu).1 (Ur _ _ hu).2.1;have YL:=f4 _ _ hhd (Ur _ _ hhd).1 (Ur _ _ hhd).2.1;have hc4:=f4 _ _ hc n2 n3;have ha4:=f4 _ _ ha n4 n5;refine fW (λσ Hc=>∃(x6:Option V) (S':gU) (Gd:List Int),σ=[some (.ref ls),some (.ref l),some (.ref ru),some (.ref hd),some (.ref W.o),some (.int (fL kd wh to fr xs.length)),x6]/\jw aq au i τ Hc W S'/\gn S'/\S'.m<=100/\o7 S' [0] (jV dh) lost Gd/\(S'.ts.length:Int)=Gd.sum/\(∀x o,H4 x=some o->x≠c->x≠a->(τ x).head?≠some i->Hc x=some o)/\(∀x ys,H4 x=some (.tup ys)->Hc x=some (.tup ys))/\(hw≠2 -> ∀x o,H4 x=some o->Hc x=some o)/\(∃ys,Hc c=some (.lst ys))/\(∃ys,Hc a=some (.lst ys))) (λD' hD' _=>?_) ?_
  .refine⟨_,Z,_,_,_,_,Z,Z,cH.of hu4,Z,Z,_,Z, ?_⟩
   refine cO (λq=>?_) (λq=>?_)
   rotate_left
   .exact hD' _ _ ⟨_,S,ga,Z,w4,gd,ml,G,qO,λx o e _ _ _=>e,λx ys e=>e,λ_ x o e=>e,⟨_,hc4⟩,⟨_,ha4⟩⟩
   have q:hw=2:=V.int.inj (aaO q);have ne4:∀(x:Addr)(ys:List V),H4 x=some (.tup ys)->x≠c/\x≠a:=λx ys e=>⟨λz=>(by rw[z,hc4] at e;cases e),λz=>(by rw[z,ha4] at e;cases e)⟩;refine⟨_,Z,_,_,_,_,Z,Z,cH.of YL,Z,.inl ⟨Z,_,bH.of hc4⟩,c,_,Z,Z,hc4, ?_⟩;have w5:=w4.kp (BR (o:= .lst [])) hc4 (by intro xs z;cases z) t3 ⟨_,ak⟩;have ec5:(upd H4 c (.lst [])) c=some (.lst []):=ak;have f5:∀x o,H4 x=some o->x≠c->(upd H4 c (.lst [])) x=some o:=λx o e n=>by rw[aC n];exact e
   generalize (upd H4 c (.lst []))=H5 at w5 ec5 f5 ⊢;have ha5:=f5 _ _ ha4 n6;have abN:=f5 _ _ YL (ne4 _ _ YL).1;refine⟨_,Z,_,_,_,_,Z,Z,cH.of abN,Z,.inl ⟨Z,_,bH.of ha5⟩,a,_,Z,Z,ha5, ?_⟩;have w6:=w5.kp (BR (o:= .lst [])) ha5 (by intro xs z;cases z) t4 ⟨_,ak⟩;have ea6:(upd H5 a (.lst [])) a=some (.lst []):=ak;have f6:∀x o,H5 x=some o->x≠a->(upd H5 a (.lst [])) x=some o:=λx o e n=>by rw[aC n];exact e
   generalize (upd H5 a (.lst []))=H6 at w6 ea6 f6 ⊢;have ec6:=f6 _ _ ec5 n6.symm;have f46:∀x o,H4 x=some o->x≠c->x≠a->H6 x=some o:=λx o e n m=>f6 _ _ (f5 _ _ e n) m;clear w4 w5 f5 f6 abN;refine⟨_,Z,W.o,W.dx,_,Z,w6.o,Z,i,τ,W,S,Z,w6,λl7 H7 hl7 el7 s7=>⟨l7,_,Z,.inl (bH.of el7),_,Z, ?_⟩⟩;have cl:(Ft S).length=S.hs.length:=by unfold Ft;simp
   have sl:S.hs.length=dh.length:=by rw[G.len];unfold jV;rw[aac]
   rw[aac,cl];have w7:=w6.same s7;have afE:(τ c).head?≠some i:=by rw[t3];intro z;cases z
   have afF:(τ a).head?≠some i:=by rw[t4];intro z;cases z
   refine⟨by lia,by lia, ?_⟩;rw[abt];refine pN (lo:=0) (n:=S.hs.length) (λj σ Hc=>∃(x6:Option V) (S':gU) (Gd:List Int),σ=[some (.ref ls),some (.ref l),some (.ref ru),some (.ref hd),some (.ref W.o),some (.int (fL kd wh to fr xs.length)),x6]/\jw aq au i τ Hc W S'/\gn S'/\S'.m<=100/\o7 S' [0] (jV dh) lost Gd/\(S'.ts.length:Int)=Gd.sum/\nu i τ H7 Hc) ⟨_,S,ga,Z,w7,gd,ml,G,qO,.refl _ _ _⟩ ?_ (λσ Hc ⟨x6,S',Gd,h1,h2,h3,h4,h5,h6,st⟩=>hD' _ _ ⟨x6,S',Gd,h1,h2,h3,h4,h5,h6,λx o e n m t=>st.keep _ _ (s7 _ _ (f46 _ _ e n m)) t,λx ys e=>st.tup _ _ (s7 _ _ (f46 _ _ e (ne4 _ _ e).1 (ne4 _ _ e).2)),λz=>acP q z,⟨_,st.keep _ _ (s7 _ _ ec6) afE⟩,⟨_,st.keep _ _ (s7 _ _ ea6) afF⟩⟩);rintro j σ Hc hj ⟨x6,S',Gd,rfl,wx,gd',ml',G',ts',st⟩;have sl':S'.hs.length=dh.length:=by rw[G'.len];unfold jV;rw[aac]
   rw[Int.zero_add];have es:S'.hs[j]? = some S'.hs[j]:=aad (by lia);have inn:uO (j:Int) S'.hs.length:=⟨by lia,by lia⟩;refine⟨_,Z,W.o,W.dx,_,Z,wx.o,Z,_,Z,i,τ,W,S',j,Z,wx,λk' s' e1 e2=>?_,λz=>acP inn z⟩;obtain rfl:k'=j:=by lia
   rw[es] at e2;cases e2;refine⟨Z,_,Z, ?_⟩;refine cO (λq2=>?_) (λq2=>⟨_,S',Gd,Z,wx,gd',ml',G',ts',st⟩);have q2:S'.hs[k'].st = "waits" :=V.str.inj (aaO q2);obtain⟨z,ez⟩:∃z,dh[k']? = some z:=⟨_,aad (by lia)⟩;have er:(jV dh)[k']? = some (List.replicate z 0):=by unfold jV;rw[aah,ez];rfl
   obtain⟨b,eb⟩:∃b,lost[k']? = some b:=⟨_,aad (by rw[G'.ll];unfold jV;rw[aac];lia)⟩;obtain⟨g,eg,L⟩:=G'.hd k' _ _ _ es er eb;have gz:=L.st.mp q2;rw[abS] at gz;obtain⟨⟨s,hs1,hs2,hs3⟩,G2,ts2⟩:=Jg G' ts' ez (by lia);have tb:=vH G' ts' l8 RK;refine⟨_,Z,W.o,W.dx,_,Z,wx.o,Z,_,Z,i,τ,W,S',(k':Nat),Z,wx,by lia,λk2 s2 rr t2 Hy e1 e2 e3 e4 e5 e6 e7 wy st2=>?_,λz=>acP inn z,λk2 s2 e1 e2 e3=>?_⟩
   .obtain rfl:k2=k':=by lia
    exact⟨_,fK S' k2,_,Z,wy,gd'.turn k2,by rw[Ae];exact ml',G2,ts2,st.trans st2⟩
   .obtain rfl:k2=k':=by lia
    rw[es] at e2;cases e2;exact e3 q2
  rintro σ H5 ⟨x6,S',Gd,rfl,w5,gd5,ml5,G5,ts5,f5,R0,k5,hc5,ha5⟩;have off:∀x,τ x=[]->(τ x).head?≠some i:=λx e=>by rw[e];intro z;cases z
  have fresh:∀x,H x=none->(∀o,H4 x=some o->H5 x=some o):=λx e o e4=>f5 _ _ e4 (λz=>by rw[z,hc] at e;cases e) (λz=>by rw[z,ha] at e;cases e) (off _ (w0.un _ e));exact⟨_,Z,k D t S' Gd H5 fD ft (fresh _ fD _ eD4) (fresh _ ft _ et4) (f5 _ _ agJ n2.symm n4.symm (off _ t1)) (f5 _ _ el4 n3.symm n5.symm (off _ t2)) w5 gd5 ml5 G5 ts5 (λx o e m1 m2 m3 m4 m5=>f5 _ _ (f4 _ _ e m1 m2) m3 m4 m5) (λx ys e=>R0 _ _ (f4 _ _ e (Ur _ _ e).1 (Ur _ _ e).2.1)) (λz x o e m1 m2=>k5 z _ _ (f4 _ _ e m1 m2)) hc5 ha5⟩
noncomputable def RZ:Stmt->List Stmt
 | .Try b _ _ _ _=>b
 | _=>[]
noncomputable def Xm:Stmt->Option Expr
 | .Assign _ v _=>some v
 | _=>none
noncomputable def Q0:Expr->Option Expr
 | .Call _ es _ _=>es.getLast?
 | _=>none
noncomputable def lamP:Option Expr->Arguments
 | some (.Lambda p _ _ _)=>p
 | _=>cu DR
noncomputable def K9:Option Expr->Expr
 | some (.Lambda _ b _ _)=>b
 | _=> .Constant .none 0 ⟨0,0,0,0⟩
noncomputable def yK:Option Expr->Scope
 | some (.Lambda _ _ s _)=>s
 | _=>aK DR
noncomputable def lamO:Option Expr->Pos
 | some (.Lambda _ _ _ o)=>o
 | _=>⟨0,0,0,0⟩
noncomputable def jO:Option Expr:=((cW g8)[5]?).bind λt=>((RZ t)[0]?).bind λm=>(Xm m).bind Q0
noncomputable def Ho:Str:= "_law_right" ++ ".<locals>." ++ "<lambda>"
theorem Hl{CW CH:Addr}(uD:FnAt P w K mg base 9 "_law_chosen" ["seen","free","rule","handed","works"] (lJ CW CH K)):CK P w K mg base 9 ["free"] ["seen","rule","handed","works"] Ho (lamP jO) (K9 jO) (yK jO) (λvs H Q=>∃l ls ru hd wo:V,vs=[l,ls,ru,hd,wo]/\lJ CW CH K [ls,l,ru,hd,wo] H Q λ_ _ _=>False):=by
 refine⟨.of (by kernel_rfl),λpm ctv c cl us hl=>?_,λf c cl A outer s H vs Q hr h=>?_⟩
 .match us,hl with
  | [u],_=>rfl
 .obtain⟨l,ls,ru,hd,wo,rfl,h⟩:=h
  refine⟨_,(bT uD (hr.mono (by decide)) (by rfl) (aj (pv 1) (aj (pv 0) (aj (pv 2) (aj (pv 3) (aj (pv 4) aA)))))), ?_⟩;exact⟨_,Z,_,Z,_,Z,_,Z,_,Z,h⟩
noncomputable def LT(p:Addr)(H:Hp):Prop:=Zx H p (lamO jO) Ho
theorem jz{p:Addr}{H H':Hp}(h:LT p H)(s:Same H H'):LT p H':=by
 rcases h with e|⟨c,e,f⟩
 .exact .inl (s _ _ e)
 .exact .inr ⟨c,s _ _ e,s _ _ f⟩
theorem oH{p:Addr}{H:Hp}(h:LT p H):∃ps,H p=some (.pU ps):=by
 rcases h with e|⟨c,e,_⟩
 .exact⟨_,e⟩
 .exact⟨_,e⟩
theorem j7{G:Hp}{cl:List (Str×Addr)}{xs:List Str}{vs:List V}{a:Addr}{u:HO}(C:yw G cl xs vs)(h:G a=some u)(n:∀o,u≠o9 o):a∉cl.map (·.2):=λz=>by
 obtain⟨o,q,e,_⟩:=C.all a z;rw[h] at e;exact n _ (aa6 e)
theorem DQ{H H1:Hp}{cs:List Addr}(h:hide H cs=H1):Same H1 H:=λb o e=>by
 rw[←h] at e
 by_cases z:b∈cs
 .rw[gH z] at e;cases e
 .rw[bx z] at e;exact e
theorem Nu{G H':Hp}{cs:List Addr}(h:∀c∈cs,H' c=none):Same H' (Gb G H' cs):=λb o e=>by
 by_cases z:b∈cs
 .rw[h b z] at e;cases e
 .rw[gZ z];exact e
noncomputable def rD(cs:List Int)(ns:List Nt):PyData:= .tuple [.list (cs.map PyData.int),.list (ns.map nD)]
theorem JW{H:Hp}{t c a:Addr}{cs:List Int}{ns:List Nt}(h:RecAt H t c a cs ns):Dat H (.ref t) (rD cs ns):=by
 obtain⟨ht,hc,vs,ha,dv⟩:=h;simp only[rD,Dat];refine⟨t,_,Z,ht, ?_⟩;simp only[aP,and_true];exact⟨gB hc,oM ha dv⟩
theorem qg(cs:List Int)(ns:List Nt):SeqAt.shaped (rD cs ns)=true:=by
 have e1:=shaped_ints cs;have e2:=Gr ns;simp only[SeqAt.shaped,PyData.depth,PyData.depthAll,PyData.canLay0,PyData.canLayAll0,rD,abw,decide_eq_true_eq,Bool.and_true] at e1 e2 ⊢;have d1:PyData.depthAll (cs.map PyData.int)<=0:=dM _ 0 cs (λ_ _=>by show 0<=0;decide);have d2:PyData.depthAll (ns.map nD)<=1:=dM _ 1 ns (λ_ _=>by show (max 0 (max 0 (max 0 (max 0 0))))+1<=1;decide);refine⟨?_, ?_⟩<;>first |lia|exact⟨e1.1,e2.1⟩|exact⟨e1.2,e2.2⟩|skip
theorem Mz{S:gU}(g:gn S)(h:∀s∈S.hs,∀r∈s.rws,Gy S.m r):wkE S S=true:=Qt (Ib (cs:=Ft S) g h)
theorem RecAt.move{H H':Hp}{t c a:Addr}{cs:List Int}{ns:List Nt}(R:RecAt H t c a cs ns)(hc:∀xs,H c=some (.lst xs)->H' c=some (.lst xs))(ha:∀xs,H a=some (.lst xs)->H' a=some (.lst xs))(ht:∀x xs,H x=some (.tup xs)->H' x=some (.tup xs)):RecAt H' t c a cs ns:=by
 obtain⟨e1,e2,vs,e3,d⟩:=R;exact⟨ht _ _ e1,hc _ e2,vs,ha _ e3,aP.keep (λy ys e=>ht _ _ e) _ (cZ _ mR _) d⟩
noncomputable def gP(H3:Hp)(τ:Tg)(hw:Int)(ls:Addr)(xs:List (List Nat))(G:Hp):Prop:=∃ts kl fl:List Addr,G ls=some (.lst (ts.map V.ref))/\ts.length=xs.length/\(∀(j:Nat)(t k f:Addr),ts[j]? = some t->kl[j]? = some k->fl[j]? = some f->G t=some (.tup [.ref k,.ref f]))/\iU G kl xs/\iU G fl (if hw=0 then xs.map λ_=>[] else xs) /\ ∀x,x∈ts\/x∈kl\/x∈fl->H3 x=none/\τ x=[]
theorem gP.keep{H3:Hp}{τ τ':Tg}{hw:Int}{ls:Addr}{xs:List (List Nat)}{G G':Hp}(h:gP H3 τ hw ls xs G)(hl:G' ls=G ls)(k:∀x o,G x=some o->H3 x=none->τ x=[]->G' x=some o/\τ' x=[]):gP H3 τ' hw ls xs G':=by
 obtain⟨ts,kl,fl,e1,l1,et,ek,ef,hn⟩:=h;have lk:=ek.1;have lf:fl.length=xs.length:=by rw[ef.1];split<;>simp
 refine⟨ts,kl,fl,by rw[hl];exact e1,l1,λj t x f h1 h2 h3=>?_,ek.keep λx hx o e=>?_,ef.keep λx hx o e=>?_,λx hx=>?_⟩
 .have:=hn t (.inl (aaK h1))
  exact(k _ _ (et j t x f h1 h2 h3) this.1 this.2).1
 .have:=hn x (.inr (.inl hx))
  exact(k _ _ e this.1 this.2).1
 .have:=hn x (.inr (.inr hx))
  exact(k _ _ e this.1 this.2).1
 .have q:=hn x hx
  refine⟨q.1, ?_⟩;rcases hx with hx|hx|hx
  .obtain⟨j,hj,e⟩:=acC hx
   exact(k _ _ (et j x kl[j]! fl[j]! (by rw[aad hj,e]) (by rw[List.getElem!_eq_getElem?_getD,aad (by lia)];rfl) (by rw[List.getElem!_eq_getElem?_getD,aad (by lia)];rfl)) q.1 q.2).2
  .obtain⟨y,e⟩:=ek.mem hx
   exact(k _ _ e q.1 q.2).2
  .obtain⟨y,e⟩:=ef.mem hx
   exact(k _ _ e q.1 q.2).2
theorem gP.snoc{H3:Hp}{τ τ':Tg}{hw:Int}{ls D t l:Addr}{xs:List (List Nat)}{fr:List Nat}{G G':Hp}(h:gP H3 τ hw ls xs G)(k:∀x o,G x=some o->H3 x=none->τ x=[]->x≠l->x≠ls->G' x=some o/\τ' x=[])(el:G l=none)(eD:G' D=some (.lst (fr.map λk:Nat=>V.int k)))(et:G' t=some (.tup [.ref D,.ref l]))(efl:G' l=some (.lst (if hw=0 then [] else fr.map λk:Nat=>V.int k)))(els:∀vs,G ls=some (.lst vs)->G' ls=some (.lst (vs++[.ref t])))(hls:H3 ls≠none)(hD:H3 D=none/\τ' D=[])(ht:H3 t=none/\τ' t=[])(hl:H3 l=none/\τ' l=[]):gP H3 τ' hw ls (xs++[fr]) G':=by
 obtain⟨ts,kl,fl,e1,l1,et',ek,ef,hn⟩:=h;have lk:=ek.1;have lf:fl.length=xs.length:=by rw[ef.1];split<;>simp
 have go:∀x o,(x∈ts\/x∈kl\/x∈fl)->G x=some o->G' x=some o/\τ' x=[]:=λx o hx e=>by
  have q:=hn x hx;exact k _ _ e q.1 q.2 (ao e el) (λz=>hls (by rw[←z];exact q.1))
 refine⟨ts++[t],kl++[D],fl++[l], ?_,by simp[l1],λj t0 k0 f0 h1 h2 h3=>?_, ?_, ?_,λx hx=>?_⟩
 .rw[els _ e1,abo];rfl
 .rcases jQ h1 with h1|⟨e,rfl⟩
  .have jl:=(aae.mp h1).1
   rw[abb (by lia)] at h2 h3;exact(go _ _ (.inl (aaK h1)) (et' j t0 k0 f0 h1 h2 h3)).1
  .rw[e,aa' (by lia)] at h2 h3
   rw[show ts.length - kl.length=0 by lia] at h2;rw[show ts.length - fl.length=0 by lia] at h3;cases h2;cases h3;exact et
 .exact iU.snoc (ek.keep λx hx o e=>(go _ _ (.inr (.inl hx)) e).1) eD
 .have f':iU G' fl (if hw=0 then xs.map λ_=>[] else xs):=ef.keep λx hx o e=>(go _ _ (.inr (.inr hx)) e).1
  by_cases q:hw=0
  .rw[acM q] at f' efl ⊢
   rw[abo];exact iU.snoc f' efl
  .rw[acK q] at f' efl ⊢
   exact iU.snoc f' efl
 .simp only[abF,abP] at hx
  have old:(x∈ts\/x∈kl\/x∈fl)->H3 x=none/\τ' x=[]:=λhx=>by
   refine⟨(hn x hx).1, ?_⟩;have hx':=hx;rcases hx with hx|hx|hx
   .obtain⟨j,hj,e⟩:=acC hx
    exact(go _ _ hx' (et' j x kl[j]! fl[j]! (by rw[aad hj,e]) (by rw[List.getElem!_eq_getElem?_getD,aad (by lia)];rfl) (by rw[List.getElem!_eq_getElem?_getD,aad (by lia)];rfl))).2
   .obtain⟨y,e⟩:=ek.mem hx
    exact(go _ _ hx' e).2
   .obtain⟨y,e⟩:=ef.mem hx
    exact(go _ _ hx' e).2
  rcases hx with (hx|rfl)|(hx|rfl)|(hx|rfl)
  .exact old (.inl hx)
  .exact ht
  .exact old (.inr (.inl hx))
  .exact hD
  .exact old (.inr (.inr hx))
  .exact hl
structure Mh(CW CH:Addr)(F:List Nat->List Nat)(pk:List Nat->Nat->Int)(dh:List Nat)(lost:List Bool)(hw:Int)(W:u6)(ls c a:Addr)(H3:Hp)(τ0:Tg)(od:List Nat)(τ:Tg)(G:Hp):Prop where
 st:jW F pk od
 tg:∀x o,H3 x=some o->τ x=τ0 x
 keep:∀x o,H3 x=some o->x≠ls->x≠c->x≠a->(τ0 x).head?≠some 1->G x=some o
 tup:∀x ys,H3 x=some (.tup ys)->G x=some (.tup ys)
 calm:hw≠2 -> ∀x o,H3 x=some o->x≠ls->G x=some o
 hc:∃ys,G c=some (.lst ys)
 ha:∃ys,G a=some (.lst ys)
 wk:∃S ga,jw CW CH 1 τ G W S/\gn S/\S.m<=100/\o7 S [0] (jV dh) lost ga/\(S.ts.length:Int)=ga.sum
 sn:gP H3 τ hw ls (zB F od) G
section
variable{CW CH:Addr}{F:List Nat->List Nat}{pk:List Nat->Nat->Int}{dh:List Nat}{lost:List Bool}{hw:Int}{W:u6}{ls c a:Addr}{H3:Hp}{τ0:Tg}{od:List Nat}{τ τ':Tg}{G G':Hp}
theorem Mh.oth(w:Mh CW CH F pk dh lost hw W ls c a H3 τ0 od τ G)(o:Mi 2 3 4 τ G τ' G')(un:j8 τ' G')(off:∀x,(τ0 x).head?≠some 2/\(τ0 x).head?≠some 3/\(τ0 x).head?≠some 4)(hls:∃u,H3 ls=some u)(hcc:∃u,H3 c=some u)(hca:∃u,H3 a=some u):Mh CW CH F pk dh lost hw W ls c a H3 τ0 od τ' G':=by
 have g:∀x u v,H3 x=some u->G x=some v->G' x=some v/\τ' x=τ x:=λx u v e1 e2=>by
  have:=off x;rw[←w.tg x u e1] at this;exact o.keep _ _ e2 this.1 this.2.1 this.2.2
 obtain⟨vls,els⟩:=hls;obtain⟨vc,ec⟩:=hcc;obtain⟨va,ea⟩:=hca;obtain⟨yc,gc⟩:=w.hc;obtain⟨ya,YW⟩:=w.ha;obtain⟨S,ga,w1,w2,w3,w4,w5⟩:=w.wk;have sn:=w.sn;have sn':=sn;obtain⟨ts,kl,fl,eG,_⟩:=sn'
 have gin:∀x u,H3 x=some u -> ∃v,G x=some v:=λx u e=>by
  cases q:G x with
  | some v=>exact⟨v,Z⟩
  | none=>
    by_cases z1:x=ls
    .rw[z1,eG] at q;cases q
    by_cases z2:x=c
    .rw[z2,gc] at q;cases q
    by_cases z3:x=a
    .rw[z3,YW] at q;cases q
    by_cases z4:(τ0 x).head?=some 1
    .have:=w1.un _ q
     rw[w.tg x u e] at this;rw[this] at z4;cases z4
    .rw[w.keep x u e z1 z2 z3 z4] at q;cases q
 refine⟨w.st,λx u e=>?_,λx u e n1 n2 n3 n4=>(g _ _ _ e (w.keep x u e n1 n2 n3 n4)).1,λx ys e=>(g _ _ _ e (w.tup x ys e)).1,λz x u e n=>(g _ _ _ e (w.calm z x u e n)).1,⟨_,(g _ _ _ ec gc).1⟩,⟨_,(g _ _ _ ea YW).1⟩,⟨S,ga,w1.mv ⟨λx u e t=>?_,o.tup⟩ un,w2,w3,w4,w5⟩,sn.keep ?_ λx u e n t=>?_⟩
 .obtain⟨v,ev⟩:=gin x u e
  rw[(g _ _ _ e ev).2];exact w.tg x u e
 .refine o.keep _ _ e ?_ ?_ ?_<;>(rcases t with t|t<;>(rw[t];intro z;have:=aa6 z;lia))
 .rw[eG];exact(g _ _ _ els eG).1
 .have:=o.keep _ _ e (by rw[t];intro z;cases z) (by rw[t];intro z;cases z) (by rw[t];intro z;cases z)
  exact⟨this.1,this.2.trans t⟩
end
section
variable{CW CH:Addr}{F:List Nat->List Nat}{dh:List Nat}{lost:List Bool}{kd wh to hw:Int}{W:u6}{ls c a ru hd l:Addr}{H3:Hp}{τ0:Tg}{od:List Nat}{τ:Tg}{G:Hp}{cl:List (Str×Addr)}{fl:Addr}{pm:Value}
theorem acu(L:CK P w K mg base 9 ["free"] ["seen","rule","handed","works"] Ho (lamP jO) (K9 jO) (yK jO) (λvs H Q=>∃l ls ru hd wo:V,vs=[l,ls,ru,hd,wo]/\lJ CW CH K [ls,l,ru,hd,wo] H Q λ_ _ _=>False))(LF:yt H3 fl Ho (lamP jO) (K9 jO) (yK jO) pm cl)(C3:yw H3 cl ["seen","rule","handed","works"] [.ref ls,.ref ru,.ref hd,.ref W.o])(wi:Mh CW CH F (fL kd wh to) dh lost hw W ls c a H3 τ0 od τ G)(un:j8 τ G)(ol:od.length<=2400)(Qo:F od≠[])(f8:(F od).length<=100)(hl:G l=none)(els:∃u,H3 ls=some (.lst u))(ec:∃u,H3 c=some (.lst u))(ea:∃u,H3 a=some (.lst u))(eru:H3 ru=some (.tup [.int kd,.int wh,.int to,.int hw]))(ehd:H3 hd=some (.tup [.ref c,.ref a]))(k0:0<=kd)(k1:kd<3)(l8:dh.length<=8)(RK:∀z∈dh,z<=38)(ncl:c≠ls)(nal:a≠ls)(nac:a≠c)(tls:τ0 ls=[])(tc:τ0 c=[])(ta:τ0 a=[])(Kh:∀x∈cl.map (·.2),τ0 x=[])(lfx:∀b u,H3 b=some u->(∃o f,u=FnO o f)\/(∃x q,u=CdO x q)->(τ0 b).head?≠some 1):
 qK P w K mg base 10 fl [.ref l] (upd G l (.lst ((F od).map λk:Nat=>V.int k))) λv U=>v = .int (fL kd wh to (F od) od.length)/\Mv 2 τ G τ U/\Mv 3 τ G τ U/\Mv 4 τ G τ U/\j8 τ U /\
  (∀k:Nat,fL kd wh to (F od) od.length=k->k∈F od->Mh CW CH F (fL kd wh to) dh lost hw W ls c a H3 τ0 (od++[k]) τ U) /\
  ((∀k:Nat,fL kd wh to (F od) od.length=k->k∉F od)->(∀x o,H3 x=some o->x≠ls->x≠c->x≠a->(τ0 x).head?≠some 1->U x=some o)/\(∀x ys,H3 x=some (.tup ys)->U x=some (.tup ys))/\(hw≠2 -> ∀x o,H3 x=some o->x≠ls->U x=some o)/\gP H3 τ hw ls (zB F od++[F od]) U):=by
 obtain⟨uls,els⟩:=els;obtain⟨uc,ec⟩:=ec;obtain⟨ua,ea⟩:=ea;obtain⟨yc,gc⟩:=wi.hc;obtain⟨ya,YW⟩:=wi.ha;obtain⟨S,ga,w1,gd,ml,G1,qO⟩:=wi.wk;have sn0:=wi.sn;obtain⟨ts,kl,U4,eG,tl,_⟩:=sn0;have fe:F od=F od:=Z;have sn:=aF (o:=HO.lst ((F od).map λk:Nat=>V.int k)) hl;have elG:(upd G l (.lst ((F od).map λk:Nat=>V.int k))) l=some (.lst ((F od).map λk:Nat=>V.int k)):=ak;have tl0:τ l=[]:=un _ hl;have off1:∀x,τ0 x=[]->(τ0 x).head?≠some 1:=λx e=>by rw[e];intro z;cases z
 have Wa:∀x ys,H3 x=some (.tup ys)->G x=some (.tup ys):=wi.tup;have ne3:∀x ys,H3 x=some (.tup ys)->x≠ls/\x≠c/\x≠a:=λx ys e=>⟨λz=>(by rw[z,els] at e;cases e),λz=>(by rw[z,ec] at e;cases e),λz=>(by rw[z,ea] at e;cases e)⟩
 have LF':yt (upd G l (.lst ((F od).map λk:Nat=>V.int k))) fl Ho (lamP jO) (K9 jO) (yK jO) pm cl:=by
  obtain⟨c0,ctv,e1,e2⟩:=LF;exact⟨c0,ctv,sn _ _ (wi.keep _ _ e1 (λz=>(by rw[z,els] at e1;cases e1)) (λz=>(by rw[z,ec] at e1;cases e1)) (λz=>(by rw[z,ea] at e1;cases e1)) (lfx _ _ e1 (.inl ⟨_,_,Z⟩))),sn _ _ (wi.keep _ _ e2 (λz=>(by rw[z,els] at e2;cases e2)) (λz=>(by rw[z,ec] at e2;cases e2)) (λz=>(by rw[z,ea] at e2;cases e2)) (lfx _ _ e2 (.inr ⟨_,_,Z⟩)))⟩
 have cke:∀b∈cl.map (·.2),∀o,H3 b=some o->(upd G l (.lst ((F od).map λk:Nat=>V.int k))) b=some o:=λb hb o e=>by
  obtain⟨o',q,e',_⟩:=C3.all b hb;refine sn _ _ (wi.keep _ _ e (λz=>?_) (λz=>?_) (λz=>?_) (off1 _ (Kh b hb)))<;>rw[z] at e'
  .rw[els] at e';cases e'
  .rw[ec] at e';cases e'
  .rw[ea] at e';cases e'
 have C':yw (upd G l (.lst ((F od).map λk:Nat=>V.int k))) cl ["seen","rule","handed","works"] [.ref ls,.ref ru,.ref hd,.ref W.o]:=
  ⟨λb hb=>let ⟨o,q,e,f⟩:=C3.all b hb;⟨o,q,cke b hb _ e,f⟩,λj x v h1 h2=>let ⟨b,o,u,e,f,g⟩:=C3.val j x v h1 h2;⟨b,o,u,e,cke b (vo e) _ f,g⟩,C3.inj⟩
 have exG:=sn _ _ eG;have ecG:=sn _ _ gc;have eaG:=sn _ _ YW;have Y4:=sn _ _ (Wa _ _ eru);have Zb:=sn _ _ (Wa _ _ ehd);have ols:=j7 C' exG (λo z=>by cases z);have ol':=j7 C' elG (λo z=>by cases z);have oc:=j7 C' ecG (λo z=>by cases z);have oa:=j7 C' eaG (λo z=>by cases z);have oru:=j7 C' Y4 (λo z=>by cases z);have ohd:=j7 C' Zb (λo z=>by cases z);have nll:ls≠l:=ao eG hl
 have aat:∀x∈cl.map (·.2),τ x=[]:=λx hx=>by
  obtain⟨o,q,e,_⟩:=C3.all x hx;rw[wi.tg _ _ e];exact Kh x hx
 have wG:jw CW CH 1 τ (hide (upd G l (.lst ((F od).map λk:Nat=>V.int k))) (cl.map (·.2))) W S:=(w1.same sn).mv ⟨λx o e t=>⟨(by
  refine(bx λz=>?_).trans e;rw[aat x z] at t;rcases t with t|t
  .cases t
  .cases t),Z⟩,λx xs e=>by rw[bx (j7 C' e λo z=>by cases z)];exact e⟩ λx e=>by
  by_cases z:x∈cl.map (·.2)
  .exact aat x z
  .rw[bx z] at e
   exact un _ (sn.free e)
 generalize (upd G l (.lst ((F od).map λk:Nat=>V.int k)))=G' at sn elG LF' cke C' exG ecG eaG Y4 Zb ols ol' oc oa oru ohd wG ⊢;refine Vj L LF' C' rfl rfl ⟨_,_,_,_,_,Z,1,τ,W,S,dh,lost,ga,ls,l,ru,hd,c,a,ts.map V.ref,yc,ya,F od,kd,wh,to,hw,Z,wG,gd,ml,G1,qO,l8,RK,by rw[bx ols];exact exG,by rw[aac,tl];unfold zB;simp;lia,by rw[bx ol'];exact elG,Qo,f8,by rw[bx oru];exact Y4,k0,k1,by rw[bx ohd];exact Zb,by rw[bx oc];exact ecG,by rw[bx oa];exact eaG,nll,ncl,ao gc hl,nal,ao YW hl,nac,by rw[wi.tg _ _ els];exact tls,tl0,by rw[wi.tg _ _ ec];exact tc,by rw[wi.tg _ _ ea];exact ta,λD t S' Gd Hv hD ht eD et U9 Z4 wV gd' ml' G2 ts2 fr tp calm hc' ha' hcn=>?_⟩;have sV:=Nu (G:=G') hcn;have lx:(ts.map V.ref).length=od.length:=by rw[aac,tl];unfold zB;simp
 rw[lx]
 have fU:∀x o,G' x=some o->x≠ls->x≠l->x≠c->x≠a->(τ x).head?≠some 1->(Gb G' Hv (cl.map (·.2))) x=some o:=λx o e n1 n2 n3 n4 n5=>by
  by_cases z:x∈cl.map (·.2)
  .rw[vP z];exact e
  .rw[gZ z];exact fr _ _ (by rw[bx z];exact e) n1 n2 n3 n4 n5
 have tU:∀x ys,G' x=some (.tup ys)->(Gb G' Hv (cl.map (·.2))) x=some (.tup ys):=λx ys e=>by
  have z:=j7 C' e λo z=>by cases z
  rw[gZ z];exact tp _ _ (by rw[bx z];exact e)
 have cU:hw≠2 -> ∀x o,G' x=some o->x≠ls->x≠l->(Gb G' Hv (cl.map (·.2))) x=some o:=λq x o e n1 n2=>by
  by_cases z:x∈cl.map (·.2)
  .rw[vP z];exact e
  .rw[gZ z];exact calm q _ _ (by rw[bx z];exact e) n1 n2
 have ahA:D∉cl.map (·.2):=λz=>by rw[hcn D z] at eD;cases eD
 have ael:t∉cl.map (·.2):=λz=>by rw[hcn t z] at et;cases et
 have fD:G D=none:=sn.free (by rw[bx ahA] at hD;exact hD);have ft:G t=none:=sn.free (by rw[bx ael] at ht;exact ht);have eD:=sV _ _ eD;have et:=sV _ _ et;have U9:=sV _ _ U9;have Z4:=sV _ _ Z4;have wU:=wV.same sV;have hc':∃ys,(Gb G' Hv (cl.map (·.2))) c=some (.lst ys):=hc'.imp λ_ e=>sV _ _ e;have ha':∃ys,(Gb G' Hv (cl.map (·.2))) a=some (.lst ys):=ha'.imp λ_ e=>sV _ _ e;generalize (Gb G' Hv (cl.map (·.2)))=U at fU tU cU eD et U9 Z4 wU hc' ha' ⊢;clear wG wV fr tp calm sV C' LF' L;have aeu:τ ls=[]:=by rw[wi.tg _ _ els];exact tls
 have tc':τ c=[]:=by rw[wi.tg _ _ ec];exact tc
 have ta':τ a=[]:=by rw[wi.tg _ _ ea];exact ta
 have mv:∀j,j≠1->Mv j τ G τ U:=λj hj=>⟨λx o e t=>by
  have hne:τ x≠[]:=λz=>by
   rw[z] at t;rcases t with t|t
   .cases t
   .cases t
  refine⟨fU _ _ (sn _ _ e) (λz=>hne (by rw[z];exact aeu)) (λz=>hne (by rw[z];exact tl0)) (λz=>hne (by rw[z];exact tc')) (λz=>hne (by rw[z];exact ta')) (λz=>?_),Z⟩;rcases t with t|t
  .rw[t] at z;cases z
  .rw[t] at z;exact hj (aa6 z),
  λx xs e=>tU _ _ (sn _ _ e)⟩
 have nl3:∀x o,H3 x=some o->x≠l:=λx o e z=>by
  have w2:τ x=τ0 x:=wi.tg x o e
  by_cases z1:x=ls
  .rw[z,] at z1;exact nll z1.symm
  by_cases z2:x=c
  .rw[←z,z2,gc] at hl;cases hl
  by_cases z3:x=a
  .rw[←z,z3,YW] at hl;cases hl
  by_cases z4:(τ0 x).head?=some 1
  .rw[←w2,z,tl0] at z4;cases z4
  .have:=wi.keep x o e z1 z2 z3 z4
   rw[z,hl] at this;cases this
 have k3:∀x o,H3 x=some o->x≠ls->x≠c->x≠a->(τ0 x).head?≠some 1->U x=some o:=λx o e n1 n2 n3 n4=>fU _ _ (sn _ _ (wi.keep x o e n1 n2 n3 n4)) n1 (nl3 _ _ e) n2 n3 (by rw[wi.tg x o e];exact n4);have t3:∀x ys,H3 x=some (.tup ys)->U x=some (.tup ys):=λx ys e=>tU _ _ (sn _ _ (wi.tup x ys e));have c3:hw≠2 -> ∀x o,H3 x=some o->x≠ls->U x=some o:=λq x o e n=>cU q _ _ (sn _ _ (wi.calm q x o e n)) n (nl3 _ _ e)
 have n3:∀x,G x=none->H3 x=none:=λx e=>by
  cases q:H3 x with
  | none=>rfl
  | some o=>
    by_cases z1:x=ls
    .rw[z1,eG] at e;cases e
    by_cases z2:x=c
    .rw[z2,gc] at e;cases e
    by_cases z3:x=a
    .rw[z3,YW] at e;cases e
    by_cases z4:(τ0 x).head?=some 1
    .rw[←wi.tg x o q,un _ e] at z4;cases z4
    .rw[wi.keep x o q z1 z2 z3 z4] at e;cases e
 have snU:gP H3 τ hw ls (zB F od++[F od]) U:=wi.sn.snoc (λx o e h3 t n1 n2=>⟨fU _ _ (sn _ _ e) n2 n1 (λz=>(by rw[z,ec] at h3;cases h3)) (λz=>by rw[z,ea] at h3;cases h3) (by rw[t];intro z;cases z),t⟩) hl eD et Z4 (λvs e=>by rw[eG] at e;cases e;exact U9) (by rw[els];intro z;cases z) ⟨n3 _ fD,un _ fD⟩ ⟨n3 _ ft,un _ ft⟩ ⟨n3 _ hl,tl0⟩;refine⟨Z,mv _ (by lia),mv _ (by lia),mv _ (by lia),wU.un,λk hk hm=>⟨pB wi.st hk hm,wi.tg,k3,t3,c3,hc',ha',⟨S',Gd,wU,gd',ml',G2,ts2⟩,by rw[Eo];exact snU⟩,λ_=>⟨k3,t3,c3,snU⟩⟩
end
noncomputable def BJ(H:Hp)(τ:Tg):Tg:=λx=>match H x with
 | some (.ext _)=>[]
 | _=>τ x
section
variable{CW CH:Addr}{i:Nat}{τ:Tg}{H:Hp}{W:u6}{S:gU}
theorem Pa{x:Addr}{u:HO}(h:H x=some u)(n:∀f,u ≠ .ext f):BJ H τ x=τ x:=by
 unfold BJ;rw[h];cases u<;>first |rfl|exact acP rfl (n _)
theorem Uq{x:Addr}{f:Heap->Prop}(h:H x=some (.ext f)):BJ H τ x=[]:=by
 unfold BJ;rw[h]
theorem Pb{x:Addr}{j:Nat}(h:(BJ H τ x).head?=some j):(τ x).head?=some j:=by
 unfold BJ at h;split at h
 .cases h
 .exact h
theorem vm{x:Addr}(h:τ x=[]):BJ H τ x=[]:=by
 unfold BJ;split
 .rfl
 .exact h
theorem jw.V6(w:jw CW CH i τ H W S):jw CW CH i (BJ H τ) H W S:=by
 have l:∀{x xs},H x=some (.lst xs)->BJ H τ x=τ x:=λe=>Pa e (by intro f z;cases z);have n:∀{x c d fs},H x=some (.ins c d fs)->BJ H τ x=τ x:=λe=>Pa e (by intro f z;cases z);refine⟨λx e=>?_,w.i0,w.o,w.pg,w.L,w.nb,w.hl,w.tn,(n w.o).trans w.to,(l w.nb).trans w.tb,(l w.hl).trans w.tl,(l w.tn).trans w.tt,(l w.L).trans w.tL,w.rl,λk r s h1 h2=>?_,w.len,λk A s h1 h2=>?_,w.ok,w.sl,w.nl,w.hn⟩
 .unfold BJ
  rw[e];exact w.un _ e
 .obtain⟨t,R⟩:=w.rs k r s h1 h2
  have rr:=R;obtain⟨ts,hr,_⟩:=rr;exact⟨(l hr).trans t,R⟩
 .obtain⟨c,r,tr,th,tb,ty⟩:=w.hd k A s h1 h2
  have rr:=r;obtain⟨ts,hr,_⟩:=rr;exact⟨c,r,(l hr).trans tr,(n c.h).trans th,(l c.b).trans tb,(l c.y).trans ty⟩
end
noncomputable def jg(τ:Tg):Tg:=λx=>if τ x=[0]\/(τ x).head?=some 1\/(τ x).head?=some 5 then τ x else []
theorem gW{τ:Tg}{x:Addr}(h:τ x=[]):jg τ x=[]:=by
 unfold jg;split
 .exact h
 .rfl
theorem Kl{τ:Tg}{x:Addr}{j:Nat}(h:(jg τ x).head?=some j):(τ x).head?=some j:=by
 unfold jg at h;split at h
 .exact h
 .cases h
theorem Nh(τ:Tg)(x:Addr):(jg τ x).head?≠some 2/\(jg τ x).head?≠some 3/\(jg τ x).head?≠some 4:=by
 unfold jg;split
 .rename_i q
  rcases q with q|q|q
  .rw[q]
   refine⟨?_, ?_, ?_⟩<;>(intro z;have:=aa6 z;lia)
  .rw[q]
   refine⟨?_, ?_, ?_⟩<;>(intro z;have:=aa6 z;lia)
  .rw[q]
   refine⟨?_, ?_, ?_⟩<;>(intro z;have:=aa6 z;lia)
 .refine⟨?_, ?_, ?_⟩<;>(intro z;cases z)
structure zZ(p:Addr)(hw:Int)(ls c a:Addr)(Hb:Hp)(τb:Tg)(X:List (List Nat))(τ:Tg)(H:Hp):Prop where
 un:j8 τ H
 tg:∀x o,Hb x=some o->τ x=jg τb x
 keep:∀x o,Hb x=some o->x≠p->x≠ls->x≠c->x≠a->(jg τb x).head?≠some 1->H x=some o
 tup:∀x ys,Hb x=some (.tup ys)->H x=some (.tup ys)
 calm:hw≠2 -> ∀x o,Hb x=some o->x≠p->x≠ls->H x=some o
 lt:LT p H
 sn:gP Hb τ hw ls X H
theorem gP.same{Hb:Hp}{τ:Tg}{hw:Int}{ls:Addr}{X:List (List Nat)}{G H:Hp}(h:gP Hb τ hw ls X G)(s:Same G H):gP Hb τ hw ls X H:=by
 have h':=h;obtain⟨ts,kl,fl,e1,_⟩:=h';exact h.keep (by rw[e1];exact s _ _ e1) λx o e _ t=>⟨s _ _ e,t⟩
theorem zZ.same{p:Addr}{hw:Int}{ls c a:Addr}{Hb:Hp}{τb:Tg}{X:List (List Nat)}{τ:Tg}{G H:Hp}(h:zZ p hw ls c a Hb τb X τ G)(s:Same G H):zZ p hw ls c a Hb τb X τ H:=
 ⟨h.un.same s,h.tg,λx o e n1 n2 n3 n4 n5=>s _ _ (h.keep x o e n1 n2 n3 n4 n5),λx ys e=>s _ _ (h.tup x ys e),λz x o e n1 n2=>s _ _ (h.calm z x o e n1 n2),jz h.lt s,h.sn.same s⟩
noncomputable def Bp(CN:Addr)(emp:Bool)(od:List Nat)(v5 v6:V)(H:Hp):Prop:=(emp=true/\v5 = .non /\ ∃lo,v6 = .ref lo/\H lo=some (.lst (od.map λk:Nat=>V.int k)))\/(emp=false/\v6 = .non /\ ∃e,v5 = .ref e/\H e=some (XO CN none e))
section
variable{Q:VK}{D a:Addr}{H1:Hp}{rest:St}{ts kl fl:List Addr}
theorem HY(e:H1 a=some (.lst (ts.map V.ref)))(lk:kl.length=ts.length)(lf:fl.length=ts.length)(ht:∀(j:Nat)(t k f:Addr),ts[j]? = some t->kl[j]? = some k->fl[j]? = some f->H1 t=some (.tup [.ref k,.ref f]))(hl:ts.length<=20000)(hD:H1 D=none)(k:∀H,Same H1 H->H D=some (.lst (kl.map V.ref))->Q (.ref D) H):jf (Mt K a) (Qm K 2 (xH (cG 0) (xH (cG 1) U0))) vI (Nb 0) Q D (none::none::rest) H1:=by
 refine fY (K:=K) (xs:=ts.map V.ref) (λi σ H=>(∃u v,σ=u::v::rest)/\Same H1 H/\H D=some (.lst ((kl.take i).map V.ref))) ⟨⟨none,none,Z⟩,aF hD,ak⟩ (λi σ H _ ⟨_,sm,_⟩=>bH.of (sm _ _ e)) ?_ (λσ H ⟨_,sm,e2⟩=>k H sm (by rw[aac,←lk,abQ] at e2;exact e2));rintro i x σ H hi ⟨⟨u,v,rfl⟩,sm,e2⟩;rw[aah] at hi
 obtain⟨t,et,rfl⟩:∃t,ts[i]? = some t/\x = .ref t:=by
  cases q:ts[i]? with
  | none=>rw[q] at hi;cases hi
  | some t=>rw[q] at hi;exact⟨t,Z,(aa6 hi).symm⟩
 have il:=(aae.mp et).1;have ek:kl[i]? = some kl[i]:=aad (by lia);have ef:fl[i]? = some fl[i]:=aad (by lia);refine⟨t,_,Z,cH.of (sm _ _ (ht i t _ _ et ek ef)),Z,_,_,Z,_,_,Z,Z,_,Z,_,e2, ?_,⟨_,_,Z⟩,sm.newly hD, ?_⟩
 .rw[aac,ab_,sizeLine_eq];lia
 .rw[ak,abU,ek,abo];rfl
theorem HX(e:H1 a=some (.lst (ts.map V.ref)))(lk:kl.length=ts.length)(lf:fl.length=ts.length)(ht:∀(j:Nat)(t k f:Addr),ts[j]? = some t->kl[j]? = some k->fl[j]? = some f->H1 t=some (.tup [.ref k,.ref f]))(hl:ts.length<=20000)(hD:H1 D=none)(k:∀H,Same H1 H->H D=some (.lst (fl.map V.ref))->Q (.ref D) H):jf (Mt K a) (Qm K 2 (xH (cG 0) (xH (cG 1) U0))) vI (Nb 1) Q D (none::none::rest) H1:=by
 refine fY (K:=K) (xs:=ts.map V.ref) (λi σ H=>(∃u v,σ=u::v::rest)/\Same H1 H/\H D=some (.lst ((fl.take i).map V.ref))) ⟨⟨none,none,Z⟩,aF hD,ak⟩ (λi σ H _ ⟨_,sm,_⟩=>bH.of (sm _ _ e)) ?_ (λσ H ⟨_,sm,e2⟩=>k H sm (by rw[aac,←lf,abQ] at e2;exact e2));rintro i x σ H hi ⟨⟨u,v,rfl⟩,sm,e2⟩;rw[aah] at hi
 obtain⟨t,et,rfl⟩:∃t,ts[i]? = some t/\x = .ref t:=by
  cases q:ts[i]? with
  | none=>rw[q] at hi;cases hi
  | some t=>rw[q] at hi;exact⟨t,Z,(aa6 hi).symm⟩
 have il:=(aae.mp et).1;have ek:kl[i]? = some kl[i]:=aad (by lia);have ef:fl[i]? = some fl[i]:=aad (by lia);refine⟨t,_,Z,cH.of (sm _ _ (ht i t _ _ et ek ef)),Z,_,_,Z,_,_,Z,Z,_,Z,_,e2, ?_,⟨_,_,Z⟩,sm.newly hD, ?_⟩
 .rw[aac,ab_,sizeLine_eq];lia
 .rw[ak,abU,ef,abo];rfl
end
noncomputable def lnD(X:List (List Nat)):PyData:= .list (X.map λx=> .list ((x.map λk:Nat=>(k:Int)).map PyData.int))
theorem iU.dat{H:Hp}{D:Addr}{ls:List Addr}{X:List (List Nat)}(h:iU H ls X)(e:H D=some (.lst (ls.map V.ref))):Dat H (.ref D) (lnD X):=by
 refine oM e ?_;clear e;obtain⟨l,h⟩:=h
 induction ls generalizing X with
 | nil=>cases X with
   | nil=>exact trivial
   | cons _ _=>cases l
 | cons a ls ih=>cases X with
   | nil=>cases l
   | cons x X=>
     simp only[List.map_cons,aP];refine⟨gB ?_,ih (Nat.succ.inj l) λi b y h1 h2=>h (i+1) b y h1 h2⟩;rw[abZ];exact h 0 a x rfl rfl
theorem N_{X:List (List Nat)}(l:X.length<=20000)(h:∀x∈X,x.length<=20000):Zu 3 (lnD X):=⟨by rw[aac];exact l,λd hd=>by
 obtain⟨x,hx,rfl⟩:=abG.mp hd;exact Zu.ints (by rw[aac];exact h x hx)⟩
noncomputable def tE(p CW CH:Addr)(K:PySem.W.Frag):Sp:=λvs H Q _=>∃(τ:Tg) (t c a ru L:Addr) (W:u6) (S:gU) (dh bN:List Nat) (lost:List Bool) (ga:List Int) (cs:List Int) (ns:List Nt) (kd wh to hw:Int),vs=[.ref W.o,.ref t,.ref ru,.ref L]/\jw CW CH 1 τ H W S/\gn S/\S.m<=100/\o7 S [0] (jV dh) lost ga/\(S.ts.length:Int)=ga.sum/\dh.length=bN.length/\(∀(k n z:Nat),bN[k]? = some n->dh[k]? = some z->gI ga k=(z:Int) - n/\n<=z)/\(∀z∈dh,z<=38)/\H L=some (.lst (bN.map λn:Nat=>V.int n))/\(τ L).head?≠some 1/\RecAt H t c a cs ns/\(τ c).head?≠some 1/\(τ a).head?≠some 1/\yh cs ns/\cs.length=bN.length/\bN.length<=8/\H ru=some (.tup [.int kd,.int wh,.int to,.int hw])/\0<=kd/\kd<3/\0<=hw/\hw<3/\LT p H/\τ p=[] /\ ∀H',(∀x o,H x=some o->x≠p->(τ x).head?≠some 1->H' x=some o)->LT p H'->Q (.bl true) H'
theorem GR{aq au aR dj j_ qL:Addr}{p f:Addr}{fd:FuncData}(F:FW K "_law_right" "_law_right" g8 p f fd)(aJ:cT K aq)(Cz:NeO K aq)(mY:MethAt P w K mg base 9 aq "twin" ["self"] (Ah aq au K))(yj:MethAt P w K mg base 3 aq "__eq__" ["self","other"] (Nk aq au K))(bV:Xr K mg aR "NoHand")(ju:Xr K mg dj "Over")(je:Xo K mg aR j_ "NoteError" true)(CG:Xo K mg aR qL "Held" false)(gC:yg K aR dj false)(uD:FnAt P w K mg base 9 "_law_chosen" ["seen","free","rule","handed","works"] (lJ aq au K))(Ro:zY P w K mg base 12 "played" ["works","record","choose"] (vM P w mg base 10 aq au aR K))(Zy:FnAt P w K mg base 2 "_law_due" ["loads","counts","some","rule"] (Jl K))(o8:FnAt P w K mg base 4 "_law_alike" ["found","due"] (qX 3 K))(BM:Bm mg base)(Bt:pR mg):bO P w K mg base iy 13 f fd ["works","record","rule","loads"] (tE p aq au K):=by
 refine F.ok dz (λvs H Q E h=>?_) (λcdv A outer s H vs Q E hcd hr h=>?_)
 .obtain⟨τ,t,c,a,ru,L,W,S,dh,bN,lost,ga,cs,ns,kd,wh,to,hw,rfl,_⟩:=h
  rfl
 .obtain⟨τ,t,c,a,ru,L,W,S,dh,bN,lost,ga,cs,ns,kd,wh,to,hw,rfl,w0,gd,ml,G0,qO,lz,cnt,RK,hL,tL,R,tc,ta,yx,lc,l8,hu,k0,k1,hw0,hw3,lt,tp,k⟩:=h
  have uY:=hr.units;have LC:Rm (yK jO) (aK g8) ["works","record","rule","loads","seen","caught","told","before","handed","e","order","lists","refused","above"] ["seen","rule","handed","works"] [4,2,8,0]:= .of (by kernel_rfl);have LA:=Hl (P:=P) (w:=w) (K:=K) (mg:=mg) (base:=base) uD
  refine⟨_,(aB (bA (i:=4) dz.nd rfl (Or.inr rfl) (cR aA))
   (aB (bA (i:=5) dz.nd rfl (Or.inl rfl) gK)
   (aB (bA (i:=6) dz.nd rfl (Or.inl rfl) gK)
   (aB (bA (i:=7) dz.nd rfl (Or.inl rfl) (cV mY aJ.cls (hr.mono (by decide)) (pv 0)))
   (aB (bA (i:=8) dz.nd rfl (Or.inr rfl) (fj (aj (cL (bR (K:=K) rfl) (by rfl) Bt.fQ dN (aj (aQ (aU (K:=K) rfl) (pv 1) aD (λ_ _=>rfl)) aA)) (aj (cL (bR (K:=K) rfl) (by rfl) Bt.fQ dN (aj (aQ (aU (K:=K) rfl) (pv 1) aD (λ_ _=>rfl)) aA)) aA))))
   (aB (XF (i:=9) rfl rfl rfl rfl dz.nd rfl rfl (by rfl) je.bd je.hd (λ_ _ _ _ hR=>(aH (bA (i:=6) dz.nd rfl (Or.inl rfl) (Ku (PyProof.Rows.envOfC "_law_right" (aK g8) s.heap.objs.size f (.ref cdv)) rfl (scope:=yK jO) (xs:=["seen","rule","handed","works"]) (caps:=[4,2,8,0]) Ro rfl hR (hr.mono (by decide)) (by rfl) (aj (pv 0) (aj (pv 8) (aj (Oe (PyProof.Rows.envOfC "_law_right" (aK g8) s.heap.objs.size f (.ref cdv)) ((mg "__name__").getD .none) rfl rfl BM rfl hcd (λy hy e=> .inl (LC.free y hy e))) aA))) (λ_=>rfl) LC.free LC.mem LC.len LC.cap)))) (λ_=>(aH (bA (i:=5) dz.nd rfl (Or.inl rfl) (pv 9)))))
   (aB (qu (bT Zy (hr.mono (by decide)) (by rfl) (aj (pv 3) (aj (aQ (aU (K:=K) rfl) (pv 1) aD (λ_ _=>rfl)) (aj (aQ (aU (K:=K) rfl) (pv 1) aD (λ_ _=>rfl)) (aj (pv 2) aA))))) (rH (K:=K) (n:=3) rfl rfl (d8 (bJ (i:=10) dz.nd rfl (Or.inl rfl)) (d8 (bJ (i:=11) dz.nd rfl (Or.inl rfl)) (d8 (bJ (i:=12) dz.nd rfl (Or.inl rfl)) rG)))))
   (aB (cA (PW.pt (v8 (bB uI (aQ (aU (K:=K) rfl) (pv 2) aD (λ_ _=>rfl)) aD (bC _)) (rF (PW.pt (rE (bB (Jt (K:=K) rfl uY) (pv 8) (pv 1) (bC _)) (oh (bB (X_ Cz yj (hr.mono (by decide))) (pv 0) (pv 7) (bC _)))))))) (aH (bG oA)) bL)
   (aB (cA (gq (dR (bT o8 (hr.mono (by decide)) (by rfl) (aj (dY rfl (N:=["kept","free"]) (own:=["kept","free"]) (caps:=[]) (bw.of (by kernel_rfl)) (cI (K:=K) rfl (pv 4)) (λ_ _ _ _=>(rH (K:=K) (n:=2) rfl rfl (d8 (bJ (i:=0) (show List.Nodup (["kept","free"]:List Str) by decide +kernel) rfl (Or.inl rfl)) (d8 (bJ (i:=1) (show List.Nodup (["kept","free"]:List Str) by decide +kernel) rfl (Or.inl rfl)) rG)))) (λ_ _ _ _=>dG) (λ_ _ _ _=>(pv 0))) (aj (pv 11) aA))))) (aH (bG oA)) bL)
   (aB (cA (PW.pt (v8 (bB V2 (aQ (aU (K:=K) rfl) (pv 2) aD (λ_ _=>rfl)) aD (bC _)) (rF (gq (dR (bT o8 (hr.mono (by decide)) (by rfl) (aj (dY rfl (N:=["kept","free"]) (own:=["kept","free"]) (caps:=[]) (bw.of (by kernel_rfl)) (cI (K:=K) rfl (pv 4)) (λ_ _ _ _=>(rH (K:=K) (n:=2) rfl rfl (d8 (bJ (i:=0) (show List.Nodup (["kept","free"]:List Str) by decide +kernel) rfl (Or.inl rfl)) (d8 (bJ (i:=1) (show List.Nodup (["kept","free"]:List Str) by decide +kernel) rfl (Or.inl rfl)) rG)))) (λ_ _ _ _=>dG) (λ_ _ _ _=>(pv 1))) (aj (pv 11) aA)))))))) (aH (bG oA)) bL)
   (aB (cA (dR (pv 12)) (aB (bA (i:=13) dz.nd rfl (Or.inl rfl) (jt (aO (FJ (K:=K) (c:= .type "ValueError") (cv:= .ty "ValueError") rfl (λ_ h=>h)) (by rfl) Bt.bK bF (aj (pv 5) (aj (dH (v:= .ty "ValueError") (by rfl) Bt.Cw yP rfl) aA))) (jr (GK (aO (Ma (K:=K) rfl) (by rfl) Bt.bK bF (aj (pv 5) (aj (fj (aj (g_ (v:= .ref qL) (by rfl) CG.bd rfl) (aj (g_ (v:= .ref dj) (by rfl) ju.bd rfl) aA))) aA)))))))
   (aH (bG (jt (pv 13) (jr (aO (FJ (K:=K) (c:= .ref aR) (cv:= .ref aR) rfl (λ_ h=>h)) (by rfl) Bt.bK bF (aj (pv 5) (aj (g_ (v:= .ref aR) (by rfl) bV.bd rfl) aA)))))))) bL)
   (aH (bG (jt (dZ wI (pv 5) gK (bC _)) (jr (bT o8 (hr.mono (by decide)) (by rfl) (aj (pv 6) (aj (pv 10) aA)))))))))))))))))), ?_⟩
  have zR:=yx.1;refine⟨(by show 0<=sizeLine;decide),λls hls=>?_⟩;have sl:=aF (o:=HO.lst []) hls;have els:(upd H ls (.lst [])) ls=some (.lst []):=ak;have w1:=w0.same sl;have tls:τ ls=[]:=w0.un _ hls;generalize (upd H ls (.lst []))=H1 at sl els w1 ⊢;dsimp only[cG];refine⟨_,Z,W.o,W.dx,_,Z,w1.o,Z,1,5,τ,W,S,Z,w1,gd,ml,by decide,λτ5 W5 H2 w25 tg2 s2=>?_⟩;have w21:=w1.mv (Mv.tags s2 tg2) w25.un;have Jp:=sl.trans s2;have R2:=R.same Jp;obtain⟨eR,ec,vs,ea,dv⟩:=id R2;refine⟨_,Z,_,_,_,_,Z,Z,cH.of eR,Z,c,_,Z,.inl (bH.of ec),λc2 hc2=>?_⟩;have sc2:=aF (o:=HO.lst (cs.map V.int)) hc2;refine⟨_,Z,_,_,_,_,Z,Z,cH.of (sc2 _ _ eR),Z,a,_,Z,.inl (bH.of (sc2 _ _ ea)),λa2 ha2=>⟨(by show 2<=sizeLine;decide),λhd hhd=>?_⟩⟩;have sa2:=aF (o:=HO.lst vs) ha2;have sh:=aF (o:=HO.tup [V.ref c2,V.ref a2]) hhd;have zp:Same H2 (upd (upd (upd H2 c2 (.lst (cs.map V.int))) a2 (.lst vs)) hd (.tup [V.ref c2,V.ref a2])):=(sc2.trans sa2).trans sh;have Rh:RecAt (upd (upd (upd H2 c2 (.lst (cs.map V.int))) a2 (.lst vs)) hd (.tup [V.ref c2,V.ref a2])) hd c2 a2 cs ns:=⟨ak,sh _ _ (sa2 _ _ ak),vs,sh _ _ ak,dv.same zp _⟩;have Wm:H2 c2=none:=hc2;have Wn:H2 a2=none:=sc2.free ha2;have nac:a2≠c2:=λz=>by rw[z,ak] at ha2;cases ha2
  generalize (upd (upd (upd H2 c2 (.lst (cs.map V.int))) a2 (.lst vs)) hd (.tup [V.ref c2,V.ref a2]))=Hb at zp Rh ⊢;clear sc2 sa2 sh hc2 ha2 hhd eR ec ea dv vs;have ZF:=Jp.trans zp;have s1b:=s2.trans zp;have tg5:∀x u,H x=some u->τ5 x=τ x:=λx u e=>tg2 x u (sl _ _ e);have agI:=s1b _ _ els;have wb:=w21.same zp;have wb5:=w25.same zp;have unb:=wb.un;have ltb:=jz lt ZF;obtain⟨pss,hpb⟩:=oH ltb;obtain⟨akc,hp0⟩:=oH lt;have akm:ls≠p:=λz=>by rw[z,hp0] at hls;cases hls
  have M9:τ5 ls=[]:=(tg2 _ _ els).trans tls;have Ss:τ5 c2=[]:=w25.un _ Wm;have Sv:τ5 a2=[]:=w25.un _ Wn;have R0:τ5 p=[]:=(tg5 _ _ hp0).trans tp;have wb:=wb.V6;have wb5:=wb5.V6;have tE5:∀b f,Hb b=some (.ext f)->BJ Hb τ5 b=[]:=λb f e=>Uq e;have hb1:∀x u,H x=some u->(τ x).head?≠some 1->(BJ Hb τ5 x).head?≠some 1:=λx u e n z=>n (by rw[←tg5 x u e];exact Pb z);have M9:BJ Hb τ5 ls=[]:=vm M9;have Ss:BJ Hb τ5 c2=[]:=vm Ss;have Sv:BJ Hb τ5 a2=[]:=vm Sv;have R0:BJ Hb τ5 p=[]:=vm R0;generalize BJ Hb τ5=τb at wb wb5 tE5 hb1 M9 Ss Sv R0;clear tg5 tg2 w25 w21 unb;have unb:=wb.un
  have F8:∀od,(F86 bN ns cs od).length<=100:=λod=>by
   have:(F86 bN ns cs od).length<=bN.length:=JM bN ns cs (nG cs.length od);lia
  dsimp only[cG];refine fW (λσ Hc=>∃(od:List Nat) (τ1:Tg) (v5 v6:V),σ=[some (.ref W.o),some (.ref t),some (.ref ru),some (.ref L),some (.ref ls),some v5,some v6,some (.ref W5.o),some (.ref hd),none,none,none,none,none]/\jW (F86 bN ns cs) (fL kd wh to) od/\Rv (F86 bN ns cs) (fL kd wh to) od/\od.length<=2400/\zZ p hw ls c2 a2 Hb τb (zB (F86 bN ns cs) od++if (F86 bN ns cs od).isEmpty then [] else [F86 bN ns cs od]) τ1 Hc/\Bp aR (F86 bN ns cs od).isEmpty od v5 v6 Hc) (λD' hD' Wh=>?_) ?_
  .refine⟨_,Z,_,Z,ltb,λfl H2' hfl LF RD kp2=>⟨[.ref ls,.ref ru,.ref hd,.ref W.o],Z,λH3 eh C3=>?_⟩⟩
   have LF:yt H2' fl Ho (lamP jO) (K9 jO) (yK jO) ((mg "__name__").getD .none) (d9 (PyProof.Rows.envOfC "_law_right" (aK g8) s.heap.objs.size f (.ref cdv)) (yK jO).names []):=LF;generalize d9 (PyProof.Rows.envOfC "_law_right" (aK g8) s.heap.objs.size f (.ref cdv)) (yK jO).names []=cl at *;have Bj:=DQ eh;obtain⟨ps2,hp2⟩:=oH RD;have np:∀x o,Hb x=some o->(∀q,o ≠ .pU q)->x≠p:=λx o e n z=>by rw[z,hpb] at e;cases e;exact n _ rfl
   have g3:∀x o,Hb x=some o->x≠p->H3 x=some o:=λx o e n=>Bj _ _ (kp2 _ _ e n)
   have d3:∀x,H3 x=none->Hb x=none:=λx e=>by
    cases q:Hb x with
    | none=>rfl
    | some o=>
      by_cases z:x=p
      .rw[z] at e;rw[Bj _ _ hp2] at e;cases e
      .rw[g3 x o q z] at e;cases e
   have LF3:yt H3 fl Ho (lamP jO) (K9 jO) (yK jO) ((mg "__name__").getD .none) cl:=by
    obtain⟨c0,ctv,e1,e2⟩:=LF;exact⟨c0,ctv,Bj _ _ e1,Bj _ _ e2⟩
   have ZC:j8 (jg τb) H3:=λx e=>gW (unb x (d3 x e))
   have mv3:∀j,j=1\/j=5->Mv j τb Hb (jg τb) H3:=λj hj=>⟨λx o e q=>by
    have n:x≠p:=λz=>by
     rw[z,R0] at q;rcases q with q|q
     .cases q
     .cases q
    refine⟨g3 _ _ e n, ?_⟩;unfold jg;rw[acM ?_];rcases q with q|q
    .exact .inl q
    .rcases hj with rfl|rfl
     .exact .inr (.inl q)
     .exact .inr (.inr q),λx xs e=>g3 _ _ e (np _ _ e (by intro q z;cases z))⟩
   have w3:=wb.mv (mv3 1 (.inl rfl)) ZC;have Yv:∀x xs,Hb x=some (.lst xs)->H3 x=some (.lst xs):=λx xs e=>g3 _ _ e (np _ _ e (by intro q z;cases z));have WK:∀x xs,Hb x=some (.tup xs)->H3 x=some (.tup xs):=λx xs e=>g3 _ _ e (np _ _ e (by intro q z;cases z));have R3:=Rh.move (λxs e=>Yv _ _ e) (λxs e=>Yv _ _ e) WK;have yO:=Yv _ _ agI;have agE:=WK _ _ (ZF _ _ hu);obtain⟨agQ,Va,vs3,Z5,_⟩:=id R3;have afT:c2≠ls:=λz=>by rw[z,s2 _ _ els] at Wm;cases Wm
   have afW:a2≠ls:=λz=>by rw[z,s2 _ _ els] at Wn;cases Wn
   have hce:∀b∈cl.map (·.2),Hb b=none/\H2' b=none:=λb hb=>by
    have e2:H2' b=none:=by rw[←eh,gH hb]
    refine⟨?_,e2⟩;cases q:Hb b with
    | none=>rfl
    | some o=>
      by_cases z:b=p
      .rw[z,hp2] at e2;cases e2
      .rw[kp2 _ _ q z] at e2;cases e2
   have Kh:∀b∈cl.map (·.2),jg τb b=[]:=λb hb=>gW (unb _ (hce b hb).1)
   have text:∀b f,H3 b=some (.ext f)->jg τb b=[]:=λb f e=>by
    cases q:Hb b with
    | none=>exact gW (unb _ q)
    | some u=>
      by_cases z:b=p
      .rw[z,Bj _ _ hp2] at e;cases e
      .rw[g3 _ _ q z] at e
       cases e;exact gW (tE5 _ _ q)
   have off1:∀x,jg τb x=[]->(jg τb x).head?≠some 1:=λx e=>by rw[e];intro z;cases z
   have szl:dh.length<=8:=by lia
   have sl8:S.hs.length=cs.length:=by rw[G0.len];unfold jV;rw[aac];lia
   have gz:∀k:Nat,gI (List.replicate cs.length 0) k=0:=λk=>by
    unfold gI;rw[acB];split<;>rfl
   have G86:yS S dh bN lost cs (List.replicate cs.length 0):=⟨⟨ga,G0,λk n z h1 h2=>by rw[gz];have:=(cnt k n z h1 h2).1;lia⟩,lz,λk n z h1 h2=>(cnt k n z h1 h2).2,by rw[abS];exact lc,lc,λk hk=>by rw[gz];exact⟨by lia,(zR.gI k).1⟩⟩;have frE:∀(ns':List Nt)(od:List Nat),ns'.Perm ns->jW (F86 bN ns cs) (fL kd wh to) od->ig S cs ns' od=F86 bN ns cs od:=λns' od pm st=>Y0 (agw G86 od st) pm
   have fin:∀(G:Hp)(τ1:Tg)(X:List (List Nat)),j8 τ1 G->(∀x o,H3 x=some o->τ1 x=jg τb x)->(∀x o,H3 x=some o->x≠ls->x≠c2->x≠a2->(jg τb x).head?≠some 1->G x=some o)->(∀x ys,H3 x=some (.tup ys)->G x=some (.tup ys))->(hw≠2 -> ∀x o,H3 x=some o->x≠ls->G x=some o)->gP H3 τ1 hw ls X G->zZ p hw ls c2 a2 Hb τb X τ1 (hide G (cl.map (·.2))):=λG τ1 X un tg ke tu ca sn=>by
    have ho:∀x o,Hb x=some o->x∉cl.map (·.2):=λx o e z=>by rw[(hce x z).1] at e;cases e
    have tg':∀x o,Hb x=some o->τ1 x=jg τb x:=λx o e=>by
     cases q:H3 x with
     | none=>rw[d3 x q] at e;cases e
     | some u=>exact tg x u q
    have sn':=sn;obtain⟨ts,kl,U4,eG,_⟩:=sn'
    have c3':∀b∈cl.map (·.2),∃o,H3 b=some o:=λb hb=>by
     obtain⟨o,q,e,_⟩:=C3.all b hb;exact⟨_,e⟩
    refine⟨λx e=>?_,tg',λx o e n0 n1 n2 n3 n4=>?_,λx ys e=>?_,λz x o e n0 n1=>?_, ?_, ?_⟩
    .by_cases z:x∈cl.map (·.2)
     .obtain⟨o,e'⟩:=c3' x z
      rw[tg x o e'];exact Kh x z
     .rw[bx z] at e;exact un x e
    .rw[bx (ho x o e)];exact ke _ _ (g3 x o e n0) n1 n2 n3 n4
    .rw[bx (ho x _ e)];exact tu _ _ (WK x ys e)
    .rw[bx (ho x o e)];exact ca z _ _ (g3 x o e n0) n1
    .have gp:∀x o,H2' x=some o->x≠ls->x≠c2->x≠a2->jg τb x=[]->hide G (cl.map (·.2)) x=some o:=λx o e n1 n2 n3 t=>by
      rw[bx (λz=>by rw[(hce x z).2] at e;cases e)];exact ke _ _ (Bj _ _ e) n1 n2 n3 (off1 _ t)
     have pl:∀x o,H2' x=some o->(∀xs,o ≠ .lst xs)->x≠ls/\x≠c2/\x≠a2:=λx o e n=>⟨λz=>by have e:=Bj _ _ e;rw[z,yO] at e;exact n _ (aa6 e).symm,λz=>by have e:=Bj _ _ e;rw[z,Va] at e;exact n _ (aa6 e).symm,λz=>by have e:=Bj _ _ e;rw[z,Z5] at e;exact n _ (aa6 e).symm⟩;rcases RD with e|⟨c0,e,q⟩
     .obtain⟨n1,n2,n3⟩:=pl _ _ e (by intro xs z;cases z)
      exact .inl (gp _ _ e n1 n2 n3 (gW R0))
     .obtain⟨n1,n2,n3⟩:=pl _ _ e (by intro xs z;cases z)
      obtain⟨m1,m2,m3⟩:=pl _ _ q (by intro xs z;cases z);exact .inr ⟨c0,gp _ _ e n1 n2 n3 (gW R0),gp _ _ q m1 m2 m3 (text _ _ (Bj _ _ q))⟩
    .have q:gP Hb τ1 hw ls X G:=by
      obtain⟨ts,kl,U4,e1,e2,e3,e4,e5,e6⟩:=sn;exact⟨ts,kl,U4,e1,e2,e3,e4,e5,λx hx=>⟨d3 x (e6 x hx).1,(e6 x hx).2⟩⟩
     have h3n:∀x,x∈cl.map (·.2)->τ1 x=[]:=λx hx=>by
      obtain⟨o,e⟩:=c3' x hx;rw[tg x o e];exact Kh x hx
     obtain⟨ts,kl,U4,e1,e2,e3,e4,e5,e6⟩:=sn
     have nc:∀x,H3 x=none->x∉cl.map (·.2):=λx e z=>by
      obtain⟨o,e'⟩:=c3' x z;rw[e] at e';cases e'
     have lk:=e4.1;have lf:U4.length=X.length:=by rw[e5.1];split<;>simp
     refine⟨ts,kl,U4,by rw[bx (λz=>by obtain⟨o,q,e,_⟩:=C3.all ls z;rw[yO] at e;cases e)];exact e1,e2,λj t' k' f' h1 h2 h3=>?_,e4.keep λx hx o e=>?_,e5.keep λx hx o e=>?_,λx hx=>⟨d3 x (e6 x hx).1,(e6 x hx).2⟩⟩
     .rw[bx (nc _ (e6 t' (.inl (aaK h1))).1)];exact e3 j t' k' f' h1 h2 h3
     .rw[bx (nc _ (e6 x (.inr (.inl hx))).1)];exact e
     .rw[bx (nc _ (e6 x (.inr (.inr hx))).1)];exact e
   refine⟨1,2,3,4,jg τb,hd,c2,a2,fl,W,S,cs,ns,Mh aq au (F86 bN ns cs) (fL kd wh to) dh lost hw W ls c2 a2 H3 (jg τb),Z,w3,gd,ml,by have:=vH G0 qO szl RK;lia,R3,yx,sl8.symm,by lia,by lia,by lia,by lia,by lia,by lia,by lia,λns' pm=>⟨λτ1 G sg tg un=>?_,λod τ1 G1 τ2 G2 wi ot un=>wi.oth ot un (Nh τb) ⟨_,yO⟩ ⟨_,Va⟩ ⟨_,Z5⟩,λod τ1 G l ol wi un Qo hl=>?_,λod τ1 G l wi un fz el fl0=>?_⟩⟩
   .exact⟨Du,tg,λx o e _ _ _ _=>sg _ _ e,λx ys e=>sg _ _ e,λ_ x o e _=>sg _ _ e,⟨_,sg _ _ Va⟩,⟨_,sg _ _ Z5⟩,⟨S,ga,w3.mv (Mv.tags sg tg) un,gd,ml,G0,qO⟩,⟨[],[],[],sg _ _ yO,Z,λj t' k' f' h=>by simp at h,⟨Z,λi l x h=>by simp at h⟩,⟨by split<;>rfl,λi l x h=>by simp at h⟩,λx hx=>by simp at hx⟩⟩
   .rw[frE ns' od pm wi.st] at Qo ⊢
    refine(acu LA LF3 C3 wi un ol Qo (F8 od) hl ⟨_,yO⟩ ⟨_,Va⟩ ⟨_,Z5⟩ agE agQ k0 k1 szl RK afT afW nac (gW M9) (gW Ss) (gW Sv) Kh (λb u e q=>off1 _ (by
     rcases q with ⟨o,f,rfl⟩|⟨x,q,rfl⟩
     .exact text _ _ e
     .exact text _ _ e))).imp λv U ⟨ev,m2,m3,m4,unU,Hq,Yz⟩=>⟨_,τ1,ev,m2,m3,m4,unU,Hq,λz Hz sz=>⟨_,Z,je.pr.sub,λe he=>⟨_,Z, ?_⟩⟩⟩
    obtain⟨q1,q2,q3,q4⟩:=Yz z;have A:=fin Hz τ1 _ (unU.same sz) wi.tg (λx o e n1 n2 n3 n4=>sz _ _ (q1 x o e n1 n2 n3 n4)) (λx ys e=>sz _ _ (q2 x ys e)) (λw x o e n=>sz _ _ (q3 w x o e n)) (q4.same sz)
    have emp:(F86 bN ns cs od).isEmpty=false:=by
     cases q:F86 bN ns cs od with
     | nil=>exact acP q Qo
     | cons x y=>rfl
    refine hD' _ _ ⟨od,τ1,.ref e,.non,Z,wi.st,z,ol, ?_,.inr ⟨emp,Z,e,Z,ak⟩⟩;rw[emp];exact A.same (aF he)
   .rw[frE ns' od pm wi.st] at fz
    have A:=fin G τ1 _ un wi.tg wi.keep wi.tup wi.calm wi.sn;have dsm:=lQ (qD lc zR od wi.st).1;have sg:=(qD lc zR od wi.st).2;have c24:=Af zR;refine hD' _ _ ⟨od,τ1,.non,.ref l,Z,wi.st,λk _ hk=>?_,by lia, ?_,.inl ⟨?_,Z,l,Z, ?_⟩⟩
    .rw[fz] at hk;cases hk
    .rw[fz]
     show zZ p hw ls c2 a2 Hb τb (zB (F86 bN ns cs) od++[]) τ1 _;rw[List.append_nil];exact A
    .rw[fz];rfl
    .rw[bx λz=>?_]
     .exact el
     .obtain⟨o,q,e,_⟩:=C3.all l z
      rw[fl0] at e;cases e
  .rintro σ Hc ⟨od,τ1,v5,v6,rfl,st,en,ol,A,O⟩
   have np:∀x o,Hb x=some o->(∀q,o ≠ .pU q)->x≠p:=λx o e n z=>by rw[z,hpb] at e;cases e;exact n _ rfl
   have off:∀x,(τb x).head?≠some 1->(jg τb x).head?≠some 1:=λx n z=>n (Kl z)
   have old:∀x o,H x=some o->(∀q,o ≠ .pU q)->(τ x).head?≠some 1->Hc x=some o:=λx o e n t=>by
    have eb:=ZF _ _ e;exact A.keep x o eb (np _ _ eb n) (ao e hls) (λz=>by rw[z] at e;rw[Jp _ _ e] at Wm;cases Wm) (λz=>by rw[z] at e;rw[Jp _ _ e] at Wn;cases Wn) (off _ (hb1 _ _ e t))
   have Rc:RecAt Hc t c a cs ns:=R.move (λxs e=>old _ _ e (by intro q z;cases z) tc) (λxs e=>old _ _ e (by intro q z;cases z) ta) (λx xs e=>A.tup _ _ (ZF _ _ e));have hLc:=old _ _ hL (by intro q z;cases z) tL;have huc:=A.tup _ _ (ZF _ _ hu);obtain⟨eR,ec,vs,ea,dv⟩:=id Rc;refine⟨_,Z,_,Z,_,_,_,_,Z,Z,cH.of eR,Z,_,Z,_,_,_,_,Z,Z,cH.of eR,Z,_,Z,L,c,a,ru,bN,ns,cs,kd,wh,to,hw,Z,hLc,ec,⟨vs,ea,dv⟩,yx.2.1,yx.2.2,zR,lc,huc,k0,k1,λtt o ll lss od' H' st' en' ol' ett eo ell hls' sm=>?_⟩;have Y9:od'=od:=Km st' st en' en;rw[Y9] at ett eo hls';clear st' en' ol' Y9;refine⟨tt,_,Z,cH.of ett,Z,_,_,Z,_,_,Z,_,_,Z,Z, ?_⟩;have A:=A.same sm;have Rc:=Rc.same sm;have huc:=sm _ _ huc
   have O:Bp aR (F86 bN ns cs od).isEmpty od v5 v6 H':=by
    rcases O with ⟨a1,a2,lo,a3,a4⟩|⟨a1,a2,e,a3,a4⟩
    .exact .inl ⟨a1,a2,lo,a3,sm _ _ a4⟩
    .exact .inr ⟨a1,a2,e,a3,sm _ _ a4⟩
   clear hLc eR ec ea dv old sm;dsimp only[cG];refine fW (λσ H7=>σ=[some (.ref W.o),some (.ref t),some (.ref ru),some (.ref L),some (.ref ls),some v5,some v6,some (.ref W5.o),some (.ref hd),none,some (.ref o),some (.ref ll),some (.bl (!(F86 bN ns cs od).isEmpty)),none]/\Same H' H7) (λD' hD' Wh=>?_) ?_
   .refine⟨_,Z,_,_,_,_,Z,Z,cH.of huc,Z,_,_,Z,Z,_,Z, ?_⟩
    by_cases q2:hw<2
    rotate_left
    .rw[aaN q2]
     exact dU (dU (hD' _ _ ⟨Z,Same.refl _⟩))
    rw[aaL q2];refine fM ?_;have n2:hw≠2:=by lia
    have abm:∀x xs,Hb x=some (.lst xs)->x≠ls->H' x=some (.lst xs):=λx xs e n=>A.calm n2 _ _ e (np _ _ e (by intro q z;cases z)) n;have Ur:∀x,H2 x=none->x≠ls:=λx e z=>by rw[z,s2 _ _ els] at e;cases e
    have Rq:=Rh.move (H':=H') (λxs e=>abm _ _ e (Ur _ Wm)) (λxs e=>abm _ _ e (Ur _ Wn)) A.tup;refine⟨_,Z,_,Z,_,_,JW Rq,JW Rc,qg _ _,qg _ _, ?_⟩;refine⟨_,Z, ?_⟩;rw[acM rfl,Qt (qg _ _)];refine dU ?_
    have mvc:∀j,j=1\/j=5->Mv j τb Hb τ1 H':=λj hj=>⟨λx o e q=>by
     have n1:x≠p:=λz=>by
      rw[z,R0] at q;rcases q with q|q
      .cases q
      .cases q
     have n2':x≠ls:=λz=>by
      rw[z,M9] at q;rcases q with q|q
      .cases q
      .cases q
     refine⟨A.calm n2 _ _ e n1 n2', ?_⟩;rw[A.tg _ _ e];unfold jg;rw[acM ?_];rcases q with q|q
     .exact .inl q
     .rcases hj with rfl|rfl
      .exact .inr (.inl q)
      .exact .inr (.inr q),λx xs e=>A.tup _ _ e⟩
    have wH:=wb.mv (mvc 1 (.inl rfl)) A.un;have wH5:=wb5.mv (mvc 5 (.inr rfl)) A.un;refine⟨_,Z,_,Z,W.o,W5.o,W.dx,W5.dx,_,_,Z,Z,wH.o,wH5.o,1,5,τ1,τ1,W,W5,S,S,Z,wH,wH5,gd,gd,λH7 s7=>⟨_,Z, ?_⟩⟩;rw[Mz gd wH.yx];exact⟨_,Z,dU (hD' _ _ ⟨Z,s7⟩)⟩
   .rintro σ H7 ⟨rfl,s7⟩
    have A:=A.same s7;have ab7:=s7 _ _ ell;have eo7:=s7 _ _ eo;have Qd:=hls'.same s7;have agg:=s7 _ _ huc
    have O:Bp aR (F86 bN ns cs od).isEmpty od v5 v6 H7:=by
     rcases O with ⟨a1,a2,lo,a3,a4⟩|⟨a1,a2,e,a3,a4⟩
     .exact .inl ⟨a1,a2,lo,a3,s7 _ _ a4⟩
     .exact .inr ⟨a1,a2,e,a3,s7 _ _ a4⟩
    obtain⟨ts,kl,U4,U8,tl7,tt7,kl7,fl7,aku⟩:=id A.sn
    have xl:(zB (F86 bN ns cs) od++if (F86 bN ns cs od).isEmpty then [] else [F86 bN ns cs od]).length<=2401:=by
     rw[aa_];unfold zB;rw[aac,List.length_range];split<;>simp<;>lia
    have xm:∀x∈zB (F86 bN ns cs) od++(if (F86 bN ns cs od).isEmpty then [] else [F86 bN ns cs od]),x.length<=20000:=λx hx=>by
     rcases abF.mp hx with hx|hx
     .unfold zB at hx
      obtain⟨j,_,rfl⟩:=abG.mp hx;have:=F8 (od.take j);lia
     .split at hx
      .cases hx
      .rw[abP.mp hx]
       have:=F8 od;lia
    generalize (zB (F86 bN ns cs) od++if (F86 bN ns cs od).isEmpty then [] else [F86 bN ns cs od])=X at *;have lkl:kl.length=ts.length:=by rw[kl7.1,tl7]
    have lfl:U4.length=ts.length:=by rw[fl7.1,tl7];split<;>simp
    refine⟨_,Z,ls,Z,⟨_,bH.of U8⟩,λD hD=>?_⟩;refine HY U8 lkl lfl tt7 (by lia) hD λH8 s8 eD8=>?_;refine⟨_,Z,_,_,_,Z,iU.dat (kl7.same s8) eD8,iU.dat (Qd.same s8) (s8 _ _ ab7),N_ (by lia) xm,λH9 s9=>⟨_,Z,dU ?_⟩⟩;have S8:=s8.trans s9;have A9:=A.same S8
    have O9:Bp aR (F86 bN ns cs od).isEmpty od v5 v6 H9:=by
     rcases O with ⟨a1,a2,lo,a3,a4⟩|⟨a1,a2,e,a3,a4⟩
     .exact .inl ⟨a1,a2,lo,a3,S8 _ _ a4⟩
     .exact .inr ⟨a1,a2,e,a3,S8 _ _ a4⟩
    unfold VD;dsimp only;refine fW (λσ Hx=>σ=[some (.ref W.o),some (.ref t),some (.ref ru),some (.ref L),some (.ref ls),some v5,some v6,some (.ref W5.o),some (.ref hd),none,some (.ref o),some (.ref ll),some (.bl (!(F86 bN ns cs od).isEmpty)),none]/\Same H9 Hx) (λD' hD' Wh=>?_) ?_
    .refine⟨_,Z,_,_,_,_,Z,Z,cH.of (S8 _ _ agg),Z,_,_,Z,Z,_,Z, ?_⟩
     by_cases q0:0<hw
     rotate_left
     .rw[aaN (by lia)]
      exact dU (dU (hD' _ _ ⟨Z,Same.refl _⟩))
     rw[aaL (by lia)];refine fM ?_;rw[acK (show hw≠0 by lia)] at fl7;have tt9:∀(j:Nat)(t k f:Addr),ts[j]? = some t->kl[j]? = some k->U4[j]? = some f->H9 t=some (.tup [.ref k,.ref f]):=λj t k f h1 h2 h3=>S8 _ _ (tt7 j t k f h1 h2 h3);refine⟨_,Z,ls,Z,⟨_,bH.of (S8 _ _ U8)⟩,λD hD=>?_⟩;refine HX (S8 _ _ U8) lkl lfl tt9 (by lia) hD λMu s10 ag1=>?_;have Xq:=S8.trans s10;exact⟨_,Z,_,_,_,Z,iU.dat (fl7.same Xq) ag1,iU.dat (Qd.same Xq) (Xq _ _ ab7),N_ (by lia) xm,λH11 s11=>⟨_,Z,dU (hD' _ _ ⟨Z,s10.trans s11⟩)⟩⟩
    rintro σ Hx ⟨rfl,sx⟩
    have kx:∀Hy,Same Hx Hy->Q (.bl true) Hy:=λHy sy=>by
     have AY:=A9.same (sx.trans sy);refine k Hy (λx o e n t=>?_) AY.lt;have eb:=ZF _ _ e;exact AY.keep x o eb n (ao e hls) (λz=>by rw[z] at e;rw[Jp _ _ e] at Wm;cases Wm) (λz=>by rw[z] at e;rw[Jp _ _ e] at Wn;cases Wn) (off _ (hb1 _ _ e t))
    refine⟨_,Z,_,Z, ?_⟩;rcases O9 with ⟨a1,rfl,lo,rfl,a4⟩|⟨a1,rfl,e,rfl,a4⟩
    .rw[a1]
     refine dU ?_;have eox:=sx _ _ (S8 _ _ eo7);have a4:=sx _ _ a4;have Y9:(od.map λk:Nat=>V.int k)=(od.map λk:Nat=>(k:Int)).map V.int:=by rw[abZ];rfl
     rw[Y9] at eox a4;refine⟨_,Z,Z,_,Z,fM ?_⟩;exact⟨_,Z,_,Z,_,_,_,Z,gB a4,gB eox,Zu.ints (by rw[aac];lia),λHy sy=>kx Hy sy⟩
    .rw[a1]
     refine fM ?_;have ee:=sx _ _ a4;refine⟨_,Z,e,_,true,Z,ee,bV.xc,La bV.ve,_,Z,fM ?_⟩;refine⟨_,Z,(by show 2<=sizeLine;decide),λt' ht'=>?_⟩;have st':=aF (o:=HO.tup [V.ref qL,V.ref dj]) ht'
     refine⟨e,t',_,[qL,dj],false,Z,st' _ _ ee,bV.xc,ak,uM (by
      intro D hD;simp only[List.mem_cons,List.not_mem_nil,or_false] at hD;rcases hD with rfl|rfl
      .exact CG.kit
      .exact JF ju.hd gC),_,Z, ?_⟩
     exact⟨_,Z,_,Z,fM ⟨_,Z,e,_,true,Z,st' _ _ ee,bV.xc,PN,kx _ st'⟩⟩
theorem RT.abd{H:Hp}{r:Addr}(R:eX H r):RT (λ_=>[]) H r:=⟨R,λx o e t=>acP rfl t,λ_ _=>rfl⟩
theorem gG{p r:Addr}{H H':Hp}(h:LT p H)(R:eX H r)(k:Kp r H H'):LT p H':=by
 obtain⟨g,c,gs,cs,u,t,e1,_⟩:=R;have ne:∀x o,H x=some o->(∀xs,o ≠ .lst xs)->x≠r:=λx o e n z=>by rw[z,e1] at e;exact n _ (aa6 e).symm
 rcases h with e|⟨c,e,f⟩
 .exact .inl (k _ _ e (ne _ _ e (by intro xs z;cases z)))
 .exact .inr ⟨c,k _ _ e (ne _ _ e (by intro xs z;cases z)),k _ _ f (ne _ _ f (by intro xs z;cases z))⟩
theorem RT.agy{τ:Tg}{H H':Hp}{r p:Addr}(h:RT τ H r)(lt:LT p H)(k:∀x o,H x=some o->x≠p->(τ x).head?≠some 1->H' x=some o):eX H' r:=by
 obtain⟨g,c,gs,cs,u,t,e1,e2,e3,q⟩:=h.R;obtain⟨ps,hp⟩:=oH lt;have np:∀x xs,H x=some (.lst xs)->x≠p:=λx xs e z=>by rw[z,hp] at e;cases e
 have tr:τ r=[]:=by
  by_cases z:τ r=[]
  .exact z
  .exact acP rfl (h.off r _ e1 z).1
 have tg:τ g=[]:=by
  by_cases z:τ g=[]
  .exact z
  .exact acP rfl ((h.off g _ e2 z).2 _ _ _ _ e1).1
 have tc:τ c=[]:=by
  by_cases z:τ c=[]
  .exact z
  .exact acP rfl ((h.off c _ e3 z).2 _ _ _ _ e1).2
 exact⟨g,c,gs,cs,u,t,k _ _ e1 (np _ _ e1) (by rw[tr];simp),k _ _ e2 (np _ _ e2) (by rw[tg];simp),k _ _ e3 (np _ _ e3) (by rw[tc];simp),q⟩
noncomputable def Jj(p:Addr)(K:PySem.W.Frag):Sp:=λvs H Q _=>∃(a:Addr) (ns:List Int),vs=[.ref a]/\bH K H a (ns.map V.int)/\ns.length<=63/\H p=some (.pU #[]) /\ ∀H',Q (.bl true) H'
theorem Yg{aq au:Addr}{f:Addr}{fd:FuncData}(F:gD K "law" "law" DR f fd)(Vw:FnAt P w K mg base 1 "_law_reel" ["script"] (Ji K))(cN:FnAt P w K mg base 1 "_law_draw" ["reel","many"] (qU K))(Rt:FnAt P w K mg base 3 "_law_notes" ["reel","counts"] (zj K))(Ru:FnAt P w K mg base 9 "_law_begun" ["reel","loads"] (tG aq au K))(Rp:FnAt P w K mg base 13 "_law_right" ["works","record","rule","loads"] (tE p aq au K))(Bt:pR mg):bO P w K mg base iy 14 f fd ["script"] (Jj p K):=by
 refine F.ok jh (λvs H Q E h=>?_) (λcdv A outer s H vs Q E hr h=>?_)
 .obtain⟨a,ns,rfl,_⟩:=h
  rfl
 .obtain⟨sc,ns0,rfl,hs0,hlen,lt,k⟩:=h
  have lt:LT p H:= .inl lt;have uY:=hr.units
  refine⟨_,(aB (bA (i:=1) jh.nd rfl (Or.inr rfl) (bT Vw (hr.mono (by decide)) (by rfl) (aj (pv 0) aA)))
   (aB (mJ PassesOwn.never rfl (eZ (by rfl) Bt.i_ (aj (bM iI aD (aO (zT rfl) (by rfl) Bt.Wv Q6 (aj (aO (aW (K:=K) rfl) (by rfl) Bt.d_ cQ (aj (pv 0) aA)) (aj aD aA)))) aA)) (bJ (i:=2) jh.nd rfl (Or.inl rfl))
   (aB (bA (i:=3) jh.nd rfl (Or.inl rfl) (bT cN (hr.mono (by decide)) (by rfl) (aj (pv 1) (aj aD aA))))
   (aB (bA (i:=4) jh.nd rfl (Or.inl rfl) (aQ (aZ (K:=K) rfl) (cR (aj aD (aj (bM oE (bM lB aD aD) aD) (aj (bM oE aD (bM lB aD aD)) aA)))) (bM T_ (bT cN (hr.mono (by decide)) (by rfl) (aj (pv 1) (aj aD aA))) aD) (λ_ _=>rfl)))
   (aB (bA (i:=5) jh.nd rfl (Or.inl rfl) (bM iI (bM oE (bT cN (hr.mono (by decide)) (by rfl) (aj (pv 1) (aj aD aA))) aD) (pv 4)))
   (aB (bA (i:=6) jh.nd rfl (Or.inl rfl) (fj (aj (bT cN (hr.mono (by decide)) (by rfl) (aj (pv 1) (aj aD aA))) (aj (aQ (aZ (K:=K) rfl) (cR (aj aD (aj (bT cN (hr.mono (by decide)) (by rfl) (aj (pv 1) (aj aD aA))) aA))) (pv 3) (λ_ _=>rfl)) (aj (pv 5) (aj (bT cN (hr.mono (by decide)) (by rfl) (aj (pv 1) (aj aD aA))) aA))))))
   (aB (bA (i:=7) jh.nd rfl (Or.inr rfl) (aQ (aZ (K:=K) rfl) (cR (aj aD (aj aD aA))) (cL uw (by rfl) Bt.FP xU (aj (jt (dZ eF (pv 2) aD (bC _)) (jr (dZ eF (bT cN (hr.mono (by decide)) (by rfl) (aj (pv 1) (aj aD aA))) aD (bC _)))) aA)) (λ_ _=>rfl)))
   (aB (mH (i:=8) rfl jh.nd rfl (Or.inl rfl) (N:=["at","reel","most"]) (own:=["at"]) (caps:=[1,7]) (bw.of (by kernel_rfl)) (eZ (by rfl) Bt.i_ (aj (bM iI aD (bT cN (hr.mono (by decide)) (by rfl) (aj (pv 1) (aj aD aA)))) aA)) (λ_ _ _ _=>(bJ (i:=0) (show List.Nodup (["at","reel","most"]:List Str) by decide +kernel) rfl (Or.inl rfl))) (λ_ _ _ _=>dG) (λ_ _ _ _=>(bT cN (hr.mono (by decide)) (by rfl) (aj (pv 1) (aj (pv 2) aA)))))
   (aB (mH (i:=9) rfl jh.nd rfl (Or.inl rfl) (N:=["load","reel","most"]) (own:=["load"]) (caps:=[1,7]) (bw.of (by kernel_rfl)) (cI (K:=K) rfl (pv 8)) (λ_ _ _ _=>(bJ (i:=0) (show List.Nodup (["load","reel","most"]:List Str) by decide +kernel) rfl (Or.inl rfl))) (λ_ _ _ _=>dG) (λ_ _ _ _=>(bT cN (hr.mono (by decide)) (by rfl) (aj (pv 1) (aj (bM iI (pv 2) aD) aA)))))
   (aB (bA (i:=10) jh.nd rfl (Or.inl rfl) (bT Rt (hr.mono (by decide)) (by rfl) (aj (pv 1) (aj (pv 9) aA))))
   (aB (bA (i:=11) jh.nd rfl (Or.inl rfl) (bT Ru (hr.mono (by decide)) (by rfl) (aj (pv 1) (aj (pv 8) aA))))
   (aH (cA (gq (dR (bT Rp (hr.mono (by decide)) (by rfl) (aj (pv 11) (aj (fj (aj (pv 9) (aj (pv 10) aA))) (aj (pv 6) (aj (pv 8) aA))))))) (aH (bG oA)) bL))))))))))))
   (aH (bG oA)))), ?_⟩
  refine⟨_,Z,sc,ns0,Z,hs0,hlen,λr H1 hr0 R1 s1=>?_⟩;have lt1:=jz lt s1;have scg:=Nj hs0 λo e=>s1 _ _ e;refine⟨_,Z,sc,_,Z,.inl scg,_,_,Z,_,_,Z,Z,_,Z, ?_, ?_, ?_⟩
  .rw[aac];split<;>lia
  .rw[aac];split<;>lia
  have stl:((1:Int)+(if 16<((ns0.map V.int).length:Int) then 16 else ((ns0.map V.int).length:Int))).toNat<=400:=by
   rw[aac];split<;>lia
  generalize ((1:Int)+(if 16<((ns0.map V.int).length:Int) then 16 else ((ns0.map V.int).length:Int))).toNat=stp at stl ⊢;refine pN (lo:=0) (n:=stp) (λj σ Hc=>∃(x2 x3 x4 x5 x6 x7 x8 x9 x10 x11:Option V),σ=[some (.ref sc),some (.ref r),x2,x3,x4,x5,x6,x7,x8,x9,x10,x11]/\eX Hc r/\LT p Hc) ⟨_,_,_,_,_,_,_,_,_,_,Z,R1,lt1⟩ ?_ (λσ Hc _=>k Hc);clear R1 lt1 s1 scg hs0;rintro j σ Hc hj ⟨x2,x3,x4,x5,x6,x7,x8,x9,x10,x11,rfl,Rc,ltc⟩;dsimp only[cG];have Tc:=RT.abd Rc;refine⟨_,Z,r,2,Z,Tc.R,by decide,by decide,λoft H2 o0 o1 R2 k2=>?_⟩;have T2:=Tc.draw k2 R2;have RD:=gG ltc Tc.R k2.1;have aci:CZ 10 30:=⟨by decide,by decide,by decide⟩;dsimp only[cG];refine⟨_,_,Z,Z,aci,_,_,Z,Z,_,_,Z,Z,aci,_,_,Z,Z,(by show 3<=sizeLine;decide),λp1 hp1=>?_⟩;have Mq:=aF (o:=HO.lst [V.int 0,V.int (10 ^ Int.toNat 30 - 10),V.int (11 - 10 ^ Int.toNat 30)]) hp1;have Y8:(upd H2 p1 (.lst [V.int 0,V.int (10 ^ Int.toNat 30 - 10),V.int (11 - 10 ^ Int.toNat 30)])) p1=some (.lst [V.int 0,V.int (10 ^ Int.toNat 30 - 10),V.int (11 - 10 ^ Int.toNat 30)]):=ak;have T3:=T2.same Mq;have lt3:=jz RD Mq;have np1:=T2.R.ne hp1;generalize (upd H2 p1 (.lst [V.int 0,V.int (10 ^ Int.toNat 30 - 10),V.int (11 - 10 ^ Int.toNat 30)]))=H3 at Mq Y8 T3 lt3 ⊢;refine⟨_,Z,r,8,Z,T3.R,by decide,by decide,λu H4 u0 u1 R4 k4=>⟨_,_,Z,Z,⟨by decide,by decide⟩, ?_⟩⟩;have T4:=T3.draw k4 R4;have lt4:=gG lt3 T3.R k4.1;have ep4:=k4.1 _ _ Y8 np1
  obtain⟨fv,efv⟩:∃fv:Int,Ij [V.int 0,V.int (10 ^ Int.toNat 30 - 10),V.int (11 - 10 ^ Int.toNat 30)] (u / 3)=some (.int fv):=by
   rcases(show u / 3=0\/u / 3=1\/u / 3=2 by lia) with e|e|e<;>rw[e]<;>exact⟨_,rfl⟩
  refine⟨_,_,_,_,Z,Z,bH.of ep4,efv, ?_⟩;dsimp only[cG];refine⟨_,Z,r,11,Z,T4.R,by decide,by decide,λtd H5 t0 t1 R5 k5=>⟨_,_,Z,Z,_,Z,_,_,Z,Z, ?_⟩⟩;have T5:=T4.draw k5 R5;have lt5:=gG lt4 T4.R k5.1;dsimp only[cG];refine⟨_,Z,r,3,Z,T5.R,by decide,by decide,λkd H6 kd0 kd1 R6 k6=>⟨_,Z,r,12,Z,R6,by decide,by decide,λw1 H7 w10 w11 R7 k7=>⟨(by show 2<=sizeLine;decide),λp2 hp2=>?_⟩⟩⟩;have T6:=T5.draw k6 R6;have T7:=T6.draw k7 R7;have lt7:=gG (gG lt5 T5.R k6.1) T6.R k7.1;have Xi:=aF (o:=HO.lst [V.int 999,V.int w1]) hp2
  obtain⟨wh,ewh⟩:∃wh:Int,Ij [V.int 999,V.int w1] oft=some (.int wh):=by
   rcases(show oft=0\/oft=1 by lia) with e|e<;>rw[e]<;>exact⟨_,rfl⟩
  have ep2:(upd H7 p2 (.lst [V.int 999,V.int w1])) p2=some (.lst [V.int 999,V.int w1]):=ak;have T8:=T7.same Xi;have lt8:=jz lt7 Xi;generalize (upd H7 p2 (.lst [V.int 999,V.int w1]))=H8 at Xi ep2 T8 lt8 ⊢;refine⟨_,Z,_,_,_,_,Z,Z,bH.of ep2,ewh, ?_⟩;clear T3 T4 T6 lt3 lt4 Y8 ep4 Mq k2 k4 k5 k6 k7 R2 R4 R5 R6 R7 T2 RD T5 lt5 T7 lt7 Xi ep2;refine⟨_,Z,_,Z,r,3,Z,T8.R,by decide,by decide,λhw H9 hw0 hw1 R9 k9=>⟨(by show 4<=sizeLine;decide),λru hru=>?_⟩⟩;have T9:=T8.draw k9 R9;have lt9:=gG lt8 T8.R k9.1;have sru:=aF (o:=HO.tup [V.int kd,V.int wh,V.int (td - 2+fv),V.int hw]) hru;have eru:(upd H9 ru (.tup [V.int kd,V.int wh,V.int (td - 2+fv),V.int hw])) ru=some (.tup [V.int kd,V.int wh,V.int (td - 2+fv),V.int hw]):=ak;have T10:=T9.same sru;have lt10:=jz lt9 sru;generalize (upd H9 ru (.tup [V.int kd,V.int wh,V.int (td - 2+fv),V.int hw]))=Mu at sru eru T10 lt10 ⊢;clear T9 lt9 T8 lt8 sru k9 R9;dsimp only[cG];refine fW (λσ Hx=>∃mo:Nat,σ=[some (.ref sc),some (.ref r),some (.int (0+(j:Int))),some (.int oft),some (.int fv),some (.int (td - 2+fv)),some (.ref ru),some (.int mo),x8,x9,x10,x11]/\0<mo/\mo<=35/\eX Hx r/\LT p Hx/\Hx ru=some (.tup [.int kd,.int wh,.int (td - 2+fv),.int hw])) (λD' hD' Wh=>?_) ?_
  .refine⟨(by show 2<=sizeLine;decide),λp3 hp3=>?_⟩
   have Xh:=aF (o:=HO.lst [V.int 7,V.int 35]) hp3;have Y7:(upd Mu p3 (.lst [V.int 7,V.int 35])) p3=some (.lst [V.int 7,V.int 35]):=ak;have Ra:=T10.same Xh;have K5:=jz lt10 Xh;have zN:=Xh _ _ eru;have np3:=T10.R.ne hp3;generalize (upd Mu p3 (.lst [V.int 7,V.int 35]))=H11 at Y7 Ra K5 zN ⊢;refine⟨_,Z,Z,_,Z, ?_⟩;refine cO (λ_=>?_) (λ_=>?_)
   .refine⟨_,Z,r,32,Z,Ra.R,by decide,by decide,λz Hz z0 z1 Rz kz=>⟨Z,.inr ⟨_,Z, ?_⟩⟩⟩
    have ab2:=kz.1 _ _ Y7 np3;have abW:=kz.tups Ra.R _ _ zN;have ltz:=gG K5 Ra.R kz.1;generalize decide (V.int z=V.int 31)=bb;cases bb with
    | true=>exact⟨_,_,_,_,Z,Z,bH.of ab2,Z,hD' _ _ ⟨35,Z,by decide,by decide,Rz,ltz,abW⟩⟩
    | false=>exact⟨_,_,_,_,Z,Z,bH.of ab2,Z,hD' _ _ ⟨7,Z,by decide,by decide,Rz,ltz,abW⟩⟩
   .exact .inr ⟨_,Z,_,_,_,_,Z,Z,bH.of Y7,Z,hD' _ _ ⟨7,Z,by decide,by decide,Ra.R,K5,zN⟩⟩
  clear T10 lt10 eru;rintro σ H11 ⟨mo,rfl,mo0,mo1,R11,K5,zN⟩;have Ra:=RT.abd R11;refine⟨_,Z,r,7,Z,Ra.R,by decide,by decide,λhz H12 h0 h1 R12 k12=>?_⟩;refine⟨_,_,Z,Z,_,Z,by lia,by lia,λL hL0=>?_⟩;have T12:=Ra.draw k12 R12;have abl:=gG K5 Ra.R k12.1;have Ws:=k12.tups Ra.R _ _ zN;obtain⟨n,en,n2,n8⟩:∃n:Nat,(2:Int)+hz=n/\2<=n/\n<=8:=⟨(2+hz).toNat,by lia,by lia,by lia⟩;rw[en,abt];refine T12.drawn (n:=n) (m:=mo) hL0 (by lia) (λv Hd F Rd kF=>⟨_,Z,_,Z,r,mo,Z,Rd,by lia,by lia,λy H' y0 y1 R' k'=>kF y H' y0 y1 R' k'⟩) (λbN H13 ln on eL Zr akP WX af7=>?_);have Uu:=gG abl T12.R af7;have Wr:=WX _ _ Ws;have tL:aM (λ_=>[]) L [0] L=[0]:=bD
  have K1:∀x,(aM (λ_=>[]) L [0] x).head?≠some 1/\(x≠L->aM (λ_=>[]) L [0] x=[]):=λx=>by
   by_cases z:x=L
   .rw[z,tL];exact⟨by simp,λq=>acP rfl q⟩
   .rw[aN z];exact⟨by simp,λ_=>rfl⟩
  have npL:p≠L:=λz=>by
   obtain⟨ps,e⟩:=oH Uu;rw[z,eL] at e;cases e
  have WR:=(K1 p).2 npL;have K1:=λx=>(K1 x).1;generalize aM (λ_=>[]) L [0]=τ1 at Zr tL K1 WR;dsimp only[cG];refine⟨_,Z,L,Z,⟨_,bH.of eL⟩,λcl hcl=>?_⟩;refine Zr.Ze (K:=K) (val:=V.int) (m:=mo+2) hcl eL (by rw[tL];simp) (by rw[aac];lia) (λv Hd τd F Td kF=>⟨_,Z,_,Z,_,_,Z,Z,r,_,Z,Td.R,by lia,by lia,λy H' y0 y1 R' k'=>kF y H' y0 y1 (Td.draw k' R') (Dr.draw Td k')⟩) (λcs H14 ly oy ecl T14 Zh=>?_);rw[aac,ln] at ly;have ab9:=Zh.k _ _ eL (by rw[tL];simp);have Yt:=gG Uu Zr.R Zh.p;have Wq:=Zh.t _ _ Wr;have ncL:L≠cl:=ao eL hcl
  have npc:p≠cl:=λz=>by
   obtain⟨ps,e⟩:=oH Uu;rw[z,hcl] at e;cases e
  have Kh:aM τ1 cl [0] cl=[0]:=bD;have SJ:aM τ1 cl [0] L=[0]:=by rw[aN ncL];exact tL
  have WQ:aM τ1 cl [0] p=[]:=by rw[aN npc];exact WR
  have Yo:∀x,(aM τ1 cl [0] x).head?≠some 1:=λx=>by
   by_cases z:x=cl
   .rw[z,Kh];simp
   .rw[aN z];exact K1 x
  generalize aM τ1 cl [0]=τ2 at T14 Kh SJ WQ Yo;have ach:yV cs:=⟨by lia,λx hx=>by have:=oy x hx;lia⟩;dsimp only[cG];refine⟨_,Z,_,Z,r,cl,τ2,cs,Z,T14,ecl,Kh,ach,λa ns H15 YM N15 nl O_ T15 Z7=>?_⟩;have Vb:=Z7.k _ _ ab9 (by rw[SJ];simp);have Qx:=Z7.k _ _ ecl (by rw[Kh];simp);have abk:=gG Yt T14.R Z7.p;have abY:=Z7.t _ _ Wq;have naL:L≠a:=ao ab9 YM;have nac:cl≠a:=ao ecl YM
  have npa:p≠a:=λz=>by
   obtain⟨ps,e⟩:=oH Yt;rw[z,YM] at e;cases e
  have ta:aM τ2 a [0] a=[0]:=bD;have WY:aM τ2 a [0] cl=[0]:=by rw[aN nac];exact Kh
  have Sy:aM τ2 a [0] L=[0]:=by rw[aN naL];exact SJ
  have aam:aM τ2 a [0] p=[]:=by rw[aN npa];exact WQ
  have aa3:∀x,(aM τ2 a [0] x).head?≠some 1:=λx=>by
   by_cases z:x=a
   .rw[z,ta];simp
   .rw[aN z];exact Yo x
  generalize aM τ2 a [0]=τ3 at T15 ta WY Sy aam aa3;clear tL Kh SJ WQ Yo WR K1 T14 Zr T12 Ra K5 abl Uu Yt zN Ws Wr Wq;dsimp only[cG];refine⟨_,Z,_,Z,r,L,τ3,bN,Z,T15,Vb,Sy,by lia,λx hx=>by have:=on x hx;lia,λx o _=>aa3 x,λτ4 W S dh lost ga H16 w16 gd ml G qO lz cnt RK T16 Sq K_=>?_⟩;have O5:∀x,τ3 x≠[] -> ∀o,H15 x=some o->x≠r:=λx t o e=>(T15.off x o e t).1;have ag0:=K_ _ _ Vb (O5 _ (by rw[Sy];simp) _ Vb);have ab8:=K_ _ _ Qx (O5 _ (by rw[WY];simp) _ Qx);obtain⟨vs,Zc,ag5⟩:=N15;have agZ:=K_ _ _ Zc (O5 _ (by rw[ta];simp) _ Zc);have ag4:aP H16 vs (ns.map nD):=aP.keep (λy ys e=>T15.R.tups K_ _ _ e) _ (cZ _ mR _) ag5;have abX:=T15.R.tups K_ _ _ abY;have abj:=gG abk T15.R K_
  have aek:τ4 p=[]:=by
   obtain⟨ps,e⟩:=oH abk;rw[Sq _ _ e];exact aam
  dsimp only[cG];refine⟨_,Z,_,Z,_,Z,(by show 2<=sizeLine;decide),λt ht=>?_⟩;have st:=aF (o:=HO.tup [V.ref cl,V.ref a]) ht;refine⟨_,Z,_,Z,τ4,t,cl,a,ru,L,W,S,dh,bN,lost,ga,cs,ns,kd,wh,td - 2+fv,hw,Z,w16.same st,gd,ml,G,qO,lz,cnt,RK,st _ _ ag0,by rw[Sq _ _ Vb,Sy];simp,⟨ak,st _ _ ab8,vs,st _ _ agZ,ag4.same st _⟩,by rw[Sq _ _ Qx,WY];simp,by rw[Sq _ _ Zc,ta];simp,⟨ach,by lia,O_⟩,by lia,by lia,st _ _ abX,kd0,kd1,hw0,hw1,jz abj st,aek,λH18 k18 af0=>⟨_,Z,dU ?_⟩⟩;exact⟨_,_,_,_,_,_,_,_,_,_,Z,(T16.same st).agy (jz abj st) k18,af0⟩
end
theorem len0{us:List Value}(h:us.length=0):us=[]:=List.eq_nil_of_length_eq_zero h
theorem Hh{us:List Value}{n:Nat}(h:us.length=n+1):∃a vs,us=a::vs/\vs.length=n:=by
 cases us with
 | nil=>cases h
 | cons a t=>exact⟨a,t,Z,Nat.succ.inj h⟩
theorem xY{K:PySem.W.Frag}{T:Addr}{tc:Value}{td:Option Addr}{tn:Nat}{RW:Array (Option Value)}(d:K.lookup T=some ⟨tc,td,.seq #[.none] tn,RW⟩){kV doc pm:Value}{an:Option Addr}{cdv ct:Value}:Binds K (PySem.W.fnOf "__init__" "Works.__init__" (cu bQ) (cW bQ) (aK bQ) (.ref T) kV doc pm an cdv ct) ["self","program","cells"] []:=by
 intro s us KX hl;have hl:us.length=3:=by simpa using hl
 obtain⟨_,_,rfl,h1⟩:=Hh hl;obtain⟨_,_,rfl,h2⟩:=Hh h1;obtain⟨_,_,rfl,h3⟩:=Hh h2;cases len0 h3;exact PySem.W.binds_K KX rfl d rfl rfl rfl
theorem xX{K:PySem.W.Frag}{T:Addr}{tc:Value}{td:Option Addr}{tn:Nat}{RW:Array (Option Value)}(d:K.lookup T=some ⟨tc,td,.seq #[.none] tn,RW⟩){kV doc pm:Value}{an:Option Addr}{cdv ct:Value}:Binds K (PySem.W.fnOf "__init__" "Works.__init__" (cu bQ) (cW bQ) (aK bQ) (.ref T) kV doc pm an cdv ct) ["self","program","cells"] [.none]:=by
 intro s us KX hl;have hl:us.length=2:=by simpa using hl
 obtain⟨_,_,rfl,h1⟩:=Hh hl;obtain⟨_,_,rfl,h2⟩:=Hh h1;cases len0 h2;exact PySem.W.binds_K KX rfl d rfl rfl rfl
theorem xW{K:PySem.W.Frag}{T:Addr}{tc:Value}{td:Option Addr}{tn:Nat}{RW:Array (Option Value)}(d:K.lookup T=some ⟨tc,td,.seq #[.none] tn,RW⟩){kV doc pm:Value}{an:Option Addr}{cdv ct:Value}(s:Shared)(us:List Value)(z:Value)(KX:K.In s.heap)(hl:(us++[z]).length=(["self","program","cells"]:List Str).length):BindsTo s (PySem.W.fnOf "__init__" "Works.__init__" (cu bQ) (cW bQ) (aK bQ) (.ref T) kV doc pm an cdv ct) ⟨us,[("cells",z)]⟩ ((["self","program","cells"]:List Str).zip (us++[z])):=by
 have hl:us.length=2:=by simpa using hl
 obtain⟨_,_,rfl,h1⟩:=Hh hl;obtain⟨_,_,rfl,h2⟩:=Hh h1;cases len0 h2;exact PySem.W.binds_K KX rfl d rfl rfl rfl
theorem all_mk{l:PySem.W.OpenLaw}{w:World}{K:PySem.W.Frag}{h:Heap}{mg:Str->Option Value}{fa p Wo Zr au aq aL aR dj bY j_ qL:Addr}(X:K.In h)(G:h.Ns mainGlobals mg)(hfa:mg "law" = some (.ref fa))(CP:Io K "Hand" au)(fZ:Io K "Works" aq)(sG:Io K "Replay" aL)(z_:Vr K au ["rows","at","in_boxes","sayings","state"])(vB:Vr K aq ["program","numbers","hands","turns"])(sJ:Vr K aL ["record","firsts","stage","progress"])(ycg:XcI K)(sO:PySem.W.findIn K (.ref aq) "__ne__" = some (some (.builtin "object.__ne__")))(sS:PySem.W.findIn K (.ref aq) "__class__" = some (some (.builtin "object.__class__")))(o_:PySem.W.mroIn K aq (.type "object")=some true)(sW:Vo K "NoHand" aR)(Ab:Vo K "Over" dj)(nO:Vo K "NoNumber" bY)(lV:Vo K "NoteError" j_)(Ac:Vo K "Held" qL)(gC:yg K aR dj false)(gQ:yg K aR j_ true)(lH:yg K aR qL false)(xcc:XcI K)(sU:XrI K aR)(Aa:XrI K dj)(nM:XrI K bY){Qh:Tok}(Ca:PySem.W.nsIn K mainGlobals "BOXES" = some (some (.str "abcdefgh" Qh))){Qg:Tok}(B_:PySem.W.nsIn K mainGlobals "ROUND" = some (some (.int 1000 Qg))){qy:Tok}(h_:PySem.W.nsIn K mainGlobals "MOST_UNTOUCHING" = some (some (.int 60 qy)))(wZ:∀T∈L2.acd,PySem.W.subIn K (.ref aq) (.type T)=some false)(q0:jB K "is_whole" qp)(q1:jB K "is_below" qt)(q2:iV K au "__init__" "Hand.__init__" n_)(q3:jB K "cell_of" tV)(q4:iV K au "value_of" "Hand.value_of" gF)(q5:iV K au "holds" "Hand.holds" mG)(q6:iV K au "take" "Hand.take" nZ)(q7:iV K au "do" "Hand.do" tX)(q8:iV K au "lead_on" "Hand.lead_on" jJ)(q9:jB K "check_numbers" jm)(NP:iV K aq "touch_by" "Works.touch_by" iD)(q11:iV K aq "hand_of" "Works.hand_of" jq)(VR:iV K aq "turn" "Works.turn" mF){afG ahh:Option Addr}{aeP:Array (Option Value)}{afH af_ ag8 afB acn ag':Value}{aex:Value}{WX:Option Addr}{aes:Nat}{aak:Array (Option Value)}(a13:PySem.W.findIn K (.ref aq) "__init__" = some (some (.ref Wo)))(l13:K.lookup Wo=some ⟨afH,afG,.func (PySem.W.fnOf "__init__" "Works.__init__" (cu bQ) (cW bQ) (aK bQ) (.ref Zr) af_ ag8 afB ahh acn ag'),aeP⟩)(c13:PySem.W.codeIn K acn "Works.__init__" = true)(k13:PySem.W.keepIn K (.ref Wo)=true)(n13:PySem.W.isFn K (.ref Wo)=true)(xM:K.lookup Zr=some ⟨aex,WX,.seq #[.none] aes,aak⟩)(q14:iV K aq "cells" "Works.cells" kY)(q15:iV K aq "how" "Works.how" nY)(q16:iV K aq "counts" "Works.counts" jF)(q17:iV K au "another" "Hand.another" jK)(q18:iV K aq "twin" "Works.twin" mD)(q19:iV K au "picture" "Hand.picture" jH)(q20:iV K aq "picture" "Works.picture" jo)(q21:iV K aq "__eq__" "Works.__eq__" jG)(q22:jB K "firsts_of" nW)(q23:jB K "is_note" tR)(q24:jB K "is_between" mC)(q25:jB K "check_notes" kW)(q26:jB K "has" Nv)(q27:iV K aL "is_over" "Replay.is_over" iG)(q28:iV K aL "holding" "Replay.holding" iH)(q29:iV K aL "free" "Replay.free" lu)(q30:iV K aL "turn" "Replay.turn" kZ)(q31:iV K aL "__init__" "Replay.__init__" k_)(q32:jB K "played" vX)(q33:jB K "_law_reel" Az)(q34:jB K "_law_draw" Bg)(ZG:jB K "_law_alike" rB)(q36:jB K "_law_note" Bd)(q37:jB K "_law_notes" vY)(q38:jB K "_law_free" Bf)(q39:jB K "_law_pick" A_)(q40:jB K "_law_due" Gx)(q41:jB K "_law_chosen" tW)(q42:Rx K "_law_right" g8 p)(q43:jB K "_law_begun" vZ)(q44:jB K "law" DR)(zb:Rg K ["ValueError","all","bool","enumerate","int","isinstance","len","list","max","min","range","sorted","str","sum","tuple","zip"]):
 (K.lookup p=none /\ ∃c,PySem.W.codeHdIn K c p=true) /\ ∃fd:FuncData,(∀(s:Shared)(v:Value),BindsTo s fd ⟨[v],[]⟩ [("script",v)]) /\ ∀base:Heap,K.In base->base.Ns mainGlobals mg->Bm mg base->bO l.prog w K mg base iy 14 fa fd ["script"] (Jj p K):=by
 obtain⟨fl,fdl,al,Fl⟩:=q44;cases hfa.symm.trans (PySem.W.mg_of X G al);obtain⟨z0,z1,z2,z3,z4,z5,z6,z7,z8,z9,z10,z11,z12,z13,z14,z15,_⟩:=zb.mg X G;have Bt:pR mg:=⟨z0,z1,z2,z3,z4,z5,z6,z7,z8,z9,z10,z11,z12,z13,z14,z15⟩;obtain⟨n0,n1,n2,n3,n4,_⟩:=z_;have aG:eU K au:=⟨CP.cls,n0,n1,n2,n3,n4⟩;obtain⟨n0,n1,n2,n3,_⟩:=vB;have aJ:cT K aq:=⟨fZ.cls,n0,n1,n2,n3⟩;obtain⟨n0,n1,n2,n3,_⟩:=sJ;have aV:iW K aL:=⟨sG.cls,n0,n1,n2,n3⟩;have Cz:NeO K aq:=⟨sO,o_⟩;have vA:IsO K mg aq "Works" :=⟨PySem.W.mg_of X G fZ.a,sS,ycg.cg,ycg.ct,o_⟩;have gj:Gv mg "BOXES" (.str "abcdefgh"):=⟨_,PySem.W.mg_of X G Ca,⟨_,Z⟩⟩;have iw:Gv mg "ROUND" (.int 1000):=⟨_,PySem.W.mg_of X G B_,⟨_,Z⟩⟩;have fG:Gv mg "MOST_UNTOUCHING" (.int 60):=⟨_,PySem.W.mg_of X G h_,⟨_,Z⟩⟩;have bV:=sW.r X G sU xcc;have ju:=Ab.r X G Aa xcc;have iQ:=nO.r X G nM xcc;have je:=lV.o X G gQ;have CG:=Ac.o X G lH;have F13:Vv K "__init__" "Works.__init__" bQ [.none] Wo _:=⟨⟨_,_,_,_,_,_,_,_,_,_,_,_,_,_,Z,l13,c13,xM⟩,k13⟩;refine⟨q42.at, ?_⟩;refine⟨fdl,Fl.bind1 (by kernel_rfl),λbase _ _ BM=>?_⟩;have Y:Vz l.prog w K mg base:=⟨_,X,G⟩;have A0:=Y.fn q0 λF=>D_ F Bt;have A1:=Y.fn q1 λF=>Ea F A0;have A2:=Y.ma CP q2 (sp:=vf au K) λF=>OD F aG gj;have A3:=Y.fn q3 λF=>KQ F;have ahs:=Y.me q4 (sp:=vK au 0 K) λF=>Uc F;have ahr:=Y.me q4 λF=>Jv (n:=0) F ahs aG gj iw;have A4:=Y.me q4 λF=>Jv (n:=1) F ahr aG gj iw;have A5:=Y.me q5 (sp:=Ao au K) λF=>Oz F A4 aG;have A6:=Y.me q6 (sp:=Ai au K) λF=>Ug F aG gj;have A7:=Y.me q7 (sp:=Xg au K) λF=>aa1 F A4 A6 A5 aG;have A8:=Y.me q8 (sp:=Am au K) λF=>Ui F A3 A7 aG fG Bt;have A9:=Y.fnX q9 (sp:=qe bY K) λF=>Ec F A1 iw Bt iQ;have A10:=Y.me NP (sp:=sZ aq au K) λF=>GQ F A3 A4 A6 aJ aG;have A11:=Y.meX q11 (sp:=qT aq au aR K) λF=>KC F A1 aJ Bt bV;have A12:=Y.meX VR (sp:=vL aq au aR dj K) λF=>Ue F A11 A10 A8 aJ aG ju;have G13:=Ot F13 aJ aG A9 A2 A8 Bt;have A13:mX l.prog w K mg base 7 aq "Works" ["self","program","cells"] [] (pC aq au bY K):=⟨Wo,_,_,G13,⟨fZ.ms,a13,n13,fZ.kp⟩,PySem.W.mg_of X G fZ.a,xY xM,.nil⟩;have acO:mX l.prog w K mg base 7 aq "Works" ["self","program","cells"] [.non] (pC aq au bY K):=⟨Wo,_,_,G13,⟨fZ.ms,a13,n13,fZ.kp⟩,PySem.W.mg_of X G fZ.a,xX xM,.cons rfl .nil⟩;have ajB:Vt l.prog w K mg base 7 aq "Works" ["self","program","cells"] "cells" (pC aq au bY K):=⟨Wo,_,G13,⟨fZ.ms,a13,n13,fZ.kp⟩,PySem.W.mg_of X G fZ.a,xW xM⟩;have A14:=Y.me q14 (sp:=Ar aq au K) λF=>O4 F aJ Bt;have A15:=Y.meX q15 (sp:=Jk aq au aR K) λF=>Yh F A11 aJ aG;have A16:=Y.me q16 (sp:=nR aq au K) λF=>KN F aJ Bt;have A17:=Y.me q17 (sp:=tH au K) λF=>G6 F aG A2 Bt;have A18:=Y.me q18 (sp:=Ah aq au K) λF=>Ud F aJ aG A13.calm A17 Bt;have A19:=Y.me q19 (sp:=Gp au K) λF=>Uj F aG Bt;have A20:=Y.me q20 (sp:=Nm aq au K) λF=>Ye F aJ aG A19 A14 A16 Bt;have A21:=Y.me q21 (sp:=Nk aq au K) λF=>Yd F aJ vA A20 Bt;have A22:=Y.fn q22 λF=>KJ F;have A23:=Y.fn q23 λF=>GZ F A0 Bt;have A24:=Y.fn q24 λF=>yG F A1 A23 Bt;have A25:=Y.fn q25 λF=>wJ F A24 Bt;have A26:=Y.fn q26 λF=>Yi F;have A27:=Y.me q27 (sp:=qR aL aq au K) λF=>Kz F aV aJ A15.calm Bt;have A28:=Y.me q28 (sp:=Aq aL aq au K) λF=>G3 F aV A26 Bt;have A29:=Y.me q29 (sp:=Al aL aq au K) λF=>Ow F aV A27 A28 Bt;have A30:=Y.meX q30 (sp:=Aj aL aq au aR dj K) λF=>Ou F bV ju aV aJ A1 A27 A28 A12 Bt;have A31:=Y.maX sG q31 (sp:=Ak aL aq au aR K) λF=>Ov F bV aV aJ A25 A16 A22 A18 Bt;have A32:=Y.fnX q32 (sp:=vM l.prog w mg base 10 aq au aR K) λF=>Kw F bV aV A31 A29 A30 Bt;have A33:=Y.fn q33 λF=>Ox F Bt;have A34:=Y.fn q34 λF=>O1 F Bt;have acA:=Y.fn ZG (sp:=qX 0 K) λF=>KY F;have acz:=Y.fn ZG λF=>ud (n:=0) F acA Bt;have acy:=Y.fn ZG λF=>ud (n:=1) F acz Bt;have A35:=Y.fn ZG λF=>ud (n:=2) F acy Bt;have A36:=Y.fn q36 λF=>Ky F A34 Bt;have A37:=Y.fn q37 λF=>GX F A34 A36 Bt;have A38:=Y.fn q38 λF=>KD F Bt;have A39:=Y.fn q39 λF=>Uh F Bt;have A40:=Y.fn q40 λF=>OJ F A38 A39 Bt;have A41:=Y.fn q41 (sp:=lJ aq au K) λF=>Eb F aJ A39 A16 A15.calm A12.calm Bt;have A42:=Y.fnL q42 (sp:=tE p aq au K) λF=>GR F aJ Cz A18 A21 bV ju je CG gC A41 A32 A40 A35 BM Bt;have A43:=Y.fn q43 (sp:=tG aq au K) λF=>G4 F aJ A34 acO.calm A12.calm Bt;exact Yg Fl A33 A34 A37 A43 A42 Bt
theorem walk{l:PySem.W.OpenLaw}{p:Addr}{q:Program}{loose:List Str}{XP:(Str->Option Value)->Heap->Prop}{YP:World->Heap->Prop}{d:DefRec}{K:Params->PySem.W.Frag}(hn:l.most=some 63)(hdf:d.params.defaults=[])(hY:∀(w:World)(h:Heap),YP w h->(K w.params).In h)(hT:∀(w:World)(h:Heap),YP w h->h.get? p=some (PySem.W.tabObj #[]))(F:∀(w:World)(mg:Str->Option Value)(fa:Addr)(h:Heap),(K w.params).In h->h.Ns mainGlobals mg->mg d.name=some (.ref fa) ->
   ((K w.params).lookup p=none /\ ∃c,PySem.W.codeHdIn (K w.params) c p=true) /\ ∃fd:FuncData,(∀(s:Shared)(u:Value),BindsTo s fd ⟨[u],[]⟩ [("script",u)]) /\ ∀base:Heap,(K w.params).In base->base.Ns mainGlobals mg->Bm mg base->bO l.prog w (K w.params) mg base iy 14 fa fd ["script"] (Jj p (K w.params))):
 PySem.W.WalkO q loose XP YP l.row.toRowW d [] (λf vs=>PySem.call f vs):=
 L2.MJ (n:=63) (k:=14) (x:= "script") (CX:=λ_=>iy) (sp:=λw=>Jj p (K w.params)) hn (by decide) hdf ⟨Z,by decide,by decide⟩ hY hT F (λ_ _ a ns hl _ hS hH=>⟨a,ns,Z,hS,hl,hH,λ_=>rfl⟩) λ_ _ _ _ _ z=>z
end Prf
namespace PySem.W.Fast
noncomputable def tw16115857929471398479:=()
noncomputable def tw8162139020708443156:=()
noncomputable def tw17187022751941647817:=()
noncomputable def tw679898603328554809:=()
noncomputable def tw15760678276982716727:=()
noncomputable def tw12236408691202845286:=()
noncomputable def tw12574898855536516905:=()
noncomputable def tw7165200192281049945:=()
noncomputable def tw4279327219075122850:=()
noncomputable def tw11894733273062212324:=()
noncomputable def tw12715897035687299478:=()
noncomputable def tw618102132749171992:=()
noncomputable def tw7848890120102162364:=()
noncomputable def tw12633070124435051658:=()
noncomputable def tw13319347383456364974:=()
noncomputable def tw14537038085601459199:=()
noncomputable def tw2291771738851510201:=()
noncomputable def tw16099909601936358746:=()
noncomputable def tw7213518761756447696:=()
noncomputable def tw16951513754624996829:=()
noncomputable def tw17608324513642946401:=()
noncomputable def tw8285105379752632166:=()
noncomputable def tw10240089139879715284:=()
noncomputable def tw16345697759407275551:=()
noncomputable def tw13771973673520512444:=()
noncomputable def tw10904852285201677092:=()
noncomputable def tw2812810291258914548:=()
noncomputable def tw16190727146321881622:=()
noncomputable def tw15762598652822479046:=()
noncomputable def tw17730437249905419101:=()
noncomputable def tw850545861644827346:=()
noncomputable def tw3631145639201270506:=()
noncomputable def tw5881414612660983940:=()
noncomputable def tw7806235084329639437:=()
noncomputable def tw11117215549050054162:=()
noncomputable def tw15750821102672720989:=()
noncomputable def tw5051210058909549804:=()
noncomputable def tw13511155207981366743:=()
noncomputable def tw10797938651644998312:=()
noncomputable def tw7617168964197540881:=()
noncomputable def tw17846929378250804303:=()
noncomputable def tw17896469072210197728:=()
noncomputable def tw7197736338363739410:=()
noncomputable def tw14552163801014597850:=()
noncomputable def tw9233020880345383761:=()
noncomputable def tw14521987670791689253:=()
noncomputable def tw16358669577188796279:=()
noncomputable def tw14891008371471619989:=()
noncomputable def tw16409490853977225668:=()
noncomputable def tw10055837499530254973:=()
noncomputable def tw7592738351628456076:=()
noncomputable def tw13252266061259592026:=()
noncomputable def tw1993707674387316896:=()
noncomputable def tw15276156448498562717:=()
noncomputable def tw6234418574512262857:=()
noncomputable def tw14419865696101115771:=()
noncomputable def tw2153527122911760282:=()
noncomputable def tw15993468025707573826:=()
noncomputable def tw2925827210374676977:=()
noncomputable def tw10162604647032247455:=()
noncomputable def tw7149814894986534047:=()
noncomputable def tw10655935350238029737:=()
noncomputable def tw4065534811217638165:=()
noncomputable def tw2183759518681266449:=()
noncomputable def tw2090990864990568585:=()
noncomputable def tw8988706964984659400:=()
noncomputable def tw6393929671485896819:=()
noncomputable def tw10591913679813443022:=()
noncomputable def tw11400612375706810765:=()
noncomputable def tw17274820741803545780:=()
noncomputable def tw605244789287443724:=()
noncomputable def tw14753327340107250259:=()
noncomputable def tw1258500675253117695:=()
noncomputable def tw17243535665925283645:=()
noncomputable def tw4488022220313647162:=()
noncomputable def tw9695310168689018316:=()
noncomputable def tw12937754380797895412:=()
noncomputable def tw7398100287571540682:=()
noncomputable def tw6811319622165572023:=()
noncomputable def tw18386061705643178524:=()
noncomputable def tw3119254904551584411:=()
noncomputable def tw10249380467477096536:=()
noncomputable def tw6140333015698720454:=()
noncomputable def tw14866731941213897834:=()
noncomputable def tw10333812665357837130:=()
noncomputable def tw359082425111485218:=()
noncomputable def tw6952070570544744827:=()
noncomputable def tw10879693820700514867:=()
noncomputable def tw15628352182035218124:=()
noncomputable def tw3857349820258948232:=()
noncomputable def tw17620467156404539079:=()
noncomputable def tw15155511069764397346:=()
noncomputable def tw15247459557115478347:=()
noncomputable def tw15566443692291220733:=()
noncomputable def tw13703260303690091877:=()
noncomputable def tw13262165612059738794:=()
noncomputable def tw1492727083320839917:=()
noncomputable def tw16718486562815442890:=()
noncomputable def tw10548842453496753557:=()
noncomputable def tw15147390877235663721:=()
noncomputable def tw12303711693222638297:=()
noncomputable def tw7474620855015661161:=()
noncomputable def tw13104013360431477018:=()
noncomputable def tw1742197681262588095:=()
noncomputable def tw10546790610157432679:=()
noncomputable def tw17785444530823292041:=()
noncomputable def tw6431753998537372402:=()
noncomputable def tw12496553244134681045:=()
noncomputable def tw15600859433621210661:=()
noncomputable def tw12043351713233058563:=()
noncomputable def tw1447618053623038849:=()
noncomputable def tw9106838570068951427:=()
noncomputable def tw8580628615928431820:=()
noncomputable def tw10641779955857546235:=()
noncomputable def tw2270429764758981996:=()
noncomputable def tw1686265048668893103:=()
noncomputable def tw645160461120204338:=()
noncomputable def tw2291819778541189390:=()
noncomputable def tw6901033035325653779:=()
noncomputable def tw1332547409559197783:=()
noncomputable def tw14217615186785351363:=()
noncomputable def tw15737506007710243421:=()
noncomputable def tw4012280444557808287:=()
noncomputable def tw4276096329470688316:=()
noncomputable def tw7869474224701669131:=()
noncomputable def tw6939697103472071137:=()
noncomputable def tw13909422369003609221:=()
noncomputable def tw8893067820453570068:=()
noncomputable def tw7292138652907383478:=()
noncomputable def tw17365847818875359376:=()
noncomputable def tw6404992961727376969:=()
noncomputable def tw16294375101809728313:=()
noncomputable def tw9956886224625682341:=()
noncomputable def tw17295336695955072551:=()
noncomputable def tw18412599707265792804:=()
noncomputable def tw10852093781913736075:=()
noncomputable def tw17651634417531734925:=()
noncomputable def tw15828484833145430891:=()
noncomputable def tw11387118750891012596:=()
noncomputable def tw1668019198971397020:=()
noncomputable def tw13109596008133399907:=()
noncomputable def tw1312762330543470978:=()
noncomputable def tw13166865948302403956:=()
noncomputable def tw11289062856206369283:=()
noncomputable def tw9895097423484762644:=()
noncomputable def tw11733060859332614298:=()
noncomputable def tw15078058011875399414:=()
noncomputable def tw9897557112887725097:=()
noncomputable def tw5028993279263942252:=()
noncomputable def tw6624256989370983943:=()
noncomputable def tw7956321919346768344:=()
noncomputable def tw11840859199297499252:=()
noncomputable def tw5473866289965986379:=()
noncomputable def tw6409912029053381203:=()
noncomputable def tw11928081445013169734:=()
noncomputable def tw4911924420828299028:=()
noncomputable def tw985568812669370641:=()
noncomputable def tw18328447243954246947:=()
noncomputable def tw1663646400618293208:=()
noncomputable def tw9236028423746904882:=()
noncomputable def tw16865442693357240939:=()
noncomputable def tw17128802908241086756:=()
noncomputable def tw17611875139846266993:=()
noncomputable def tw874277119033351047:=()
noncomputable def tw8817318444233234266:=()
noncomputable def tw12118460813920024749:=()
noncomputable def tw8341633508574381795:=()
noncomputable def tw15642963432625793572:=()
noncomputable def tw12791561355149349029:=()
noncomputable def tw13952218128749180624:=()
noncomputable def tw675565235067886037:=()
noncomputable def tw7565355998824840453:=()
noncomputable def tw10876893016917835598:=()
noncomputable def tw1841499619384819468:=()
noncomputable def tw14111332293468521081:=()
noncomputable def tw3746350858879422085:=()
noncomputable def tw1834159754077844077:=()
noncomputable def tw7739730842006862132:=()
noncomputable def tw8534889208870600066:=()
noncomputable def tw1668164598315052673:=()
noncomputable def tw17643067043403048560:=()
noncomputable def tw10646884415643723849:=()
noncomputable def tw8373908905655313255:=()
noncomputable def tw12135571501459383816:=()
noncomputable def tw7211010035757002515:=()
noncomputable def tw1872451171068145853:=()
noncomputable def tw3237684899815984711:=()
noncomputable def tw11742414892790145631:=()
noncomputable def tw11454527162419946028:=()
noncomputable def tw7566915730152930656:=()
noncomputable def tw17492047296333976859:=()
noncomputable def tw17067025188398447488:=()
noncomputable def tw2040797434128414651:=()
noncomputable def tw1663297019826405322:=()
noncomputable def tw1390552267425798927:=()
noncomputable def tw8374327057706721133:=()
noncomputable def tw6053312475638542274:=()
noncomputable def tw7099979943527498505:=()
noncomputable def tw8290941419212289195:=()
noncomputable def tw918764763485751525:=()
noncomputable def tw10219586670550867548:=()
noncomputable def tw10349558806352831522:=()
noncomputable def tw17333407613897879919:=()
noncomputable def tw8508798900700829760:=()
noncomputable def tw7955567374106621313:=()
noncomputable def tw15306464530883273388:=()
noncomputable def tw11709922442428721217:=()
noncomputable def tw17427456305505655346:=()
noncomputable def tw9524143718778881802:=()
noncomputable def tw9662218586989790558:=()
noncomputable def tw5530741619387590283:=()
noncomputable def tw30708109388872114:=()
noncomputable def tw11431707965663247528:=()
noncomputable def tw8944802646771767732:=()
noncomputable def tw4998365854418804023:=()
noncomputable def tw2641199368466560881:=()
noncomputable def tw16532184868409744341:=()
noncomputable def tw12898302058040462649:=()
noncomputable def tw11585690279257820350:=()
noncomputable def tw4560423021631800465:=()
noncomputable def tw17269605009062851010:=()
noncomputable def tw8308184964921670460:=()
noncomputable def tw15931667890087665536:=()
noncomputable def tw4916922888891385434:=()
noncomputable def tw12992365561773485231:=()
noncomputable def tw255240115836778336:=()
noncomputable def tw18053269915627284911:=()
noncomputable def tw11661125823982206768:=()
noncomputable def tw14190518439050531872:=()
noncomputable def tw12945859598882591029:=()
noncomputable def tw10846484654717068041:=()
noncomputable def tw7210933630848860810:=()
noncomputable def tw4012007034343864955:=()
noncomputable def tw1671507911619625541:=()
noncomputable def tw8666366229557741475:=()
noncomputable def tw6203057668951392570:=()
noncomputable def tw15239545207672811505:=()
noncomputable def tw8778552468913414929:=()
noncomputable def tw17447988353628796660:=()
noncomputable def tw9767577475428498971:=()
noncomputable def tw8422355823439608365:=()
noncomputable def tw17314713170919677435:=()
noncomputable def tw7062394005293745566:=()
noncomputable def tw16089988932472736428:=()
noncomputable def tw16518042635996231349:=()
noncomputable def tw13072771945917195790:=()
noncomputable def tw7016611461910773374:=()
noncomputable def tw11309770959814630042:=()
noncomputable def tw2706661565821423759:=()
noncomputable def tw2553775354626514998:=()
noncomputable def tw7993494368001480984:=()
noncomputable def tw2440283697240225888:=()
noncomputable def tw15841281974088880227:=()
noncomputable def tw10646271695488359669:=()
noncomputable def tw17066456633395923191:=()
noncomputable def tw14036297943070417989:=()
noncomputable def tw10606881581491573620:=()
noncomputable def tw7216757051980953768:=()
noncomputable def tw2449156651865928129:=()
noncomputable def tw2246816319063761351:=()
noncomputable def tw3438047974385434849:=()
noncomputable def tw2290586512657072790:=()
noncomputable def tw5739065116824154992:=()
noncomputable def tw7515764874876366054:=()
noncomputable def tw17432624164779101216:=()
noncomputable def tw15396138978912217976:=()
noncomputable def tw4105526981070125977:=()
noncomputable def tw5715832770185642980:=()
noncomputable def tw10563847214370703918:=()
noncomputable def tw8541784336244427633:=()
noncomputable def tw6952642669586119792:=()
noncomputable def tw1369601886081454792:=()
noncomputable def tw8682978208774605193:=()
noncomputable def tw17453901380442758234:=()
noncomputable def tw62846512428299290:=()
noncomputable def tw18279014238118043974:=()
noncomputable def tw8327921232702001181:=()
noncomputable def tw17527073813072476073:=()
noncomputable def tw12926922276569198178:=()
noncomputable def tw8905662765403308238:=()
noncomputable def tw9392977722950291964:=()
noncomputable def tw718469031486554842:=()
noncomputable def tw14840150492760381034:=()
noncomputable def tw9707248656806595737:=()
noncomputable def tw16519498117358243980:=()
noncomputable def tw12596367048824997024:=()
noncomputable def tw9784860782501966766:=()
noncomputable def tw10788866833619969165:=()
noncomputable def tw7721195753215438977:=()
noncomputable def tw842618546844194979:=()
noncomputable def tw18239544955103550012:=()
noncomputable def tw12520501283977352921:=()
noncomputable def tw8368020370241164372:=()
noncomputable def tw12020839403837617999:=()
noncomputable def tw6973759603452279059:=()
noncomputable def tw13616702792426172353:=()
noncomputable def tw1564900971703802740:=()
noncomputable def tw10420989679054926487:=()
noncomputable def tw6446695674089611631:=()
noncomputable def tw12301115503935048942:=()
noncomputable def tw4284552992179485997:=()
noncomputable def tw6652137584826744205:=()
noncomputable def tw11679453012748822100:=()
noncomputable def tw5468664955492447897:=()
noncomputable def tw10686012994190143877:=()
noncomputable def tw5153172020421452358:=()
noncomputable def tw13478748913278987388:=()
noncomputable def tw17694190682838454236:=()
noncomputable def tw16249755614455822850:=()
noncomputable def tw16910385215235927145:=()
noncomputable def tw1244823102771138894:=()
noncomputable def tw10215816592212674753:=()
noncomputable def tw17233856702689185752:=()
noncomputable def tw4694150870089940429:=()
noncomputable def tw2973907146521609747:=()
noncomputable def tw12297278316496278775:=()
noncomputable def tw2051163144378100517:=()
noncomputable def tw8381364535111129793:=()
noncomputable def tw12089364177012630326:=()
noncomputable def tw14928857574215100173:=()
noncomputable def tw11979783327550940564:=()
noncomputable def tw2110560772894483461:=()
noncomputable def tw154752028767713060:=()
noncomputable def tw7696403084112456110:=()
noncomputable def tw17231263699742550841:=()
noncomputable def tw11602307216311298889:=()
noncomputable def tw2689173548191306392:=()
noncomputable def tw11798589773622547518:=()
noncomputable def tw8008976609202748569:=()
noncomputable def tw5249222666625029499:=()
noncomputable def tw12772050014261664161:=()
noncomputable def tw4321894430239145449:=()
noncomputable def tw2838792160760989632:=()
noncomputable def tw13172909411344303412:=()
noncomputable def tw3277841396142259267:=()
noncomputable def tw8904570706188223690:=()
noncomputable def tw14642136781772561760:=()
noncomputable def tw14270082512081422550:=()
noncomputable def tw15624229941208209782:=()
noncomputable def tw9348540637638076892:=()
noncomputable def tw5795820558538810052:=()
noncomputable def tw11694494167621098519:=()
noncomputable def tw12651132205631228128:=()
noncomputable def tw13468923724680772873:=()
noncomputable def tw3281283589072861409:=()
noncomputable def tw11913947052105362321:=()
noncomputable def tw12242772908047207989:=()
noncomputable def tw6421927148973658933:=()
noncomputable def tw4768749919741371267:=()
noncomputable def tw14404780445324533916:=()
noncomputable def tw18150817545555699187:=()
noncomputable def tw11264996050566552416:=()
noncomputable def tw14294868780374855890:=()
noncomputable def tw9444601204660397010:=()
noncomputable def tw13285323164204126216:=()
noncomputable def tw2012625266730652903:=()
noncomputable def tw12381715771361533552:=()
noncomputable def tw12462542740419253271:=()
noncomputable def tw13948366841716584989:=()
noncomputable def tw13655481424991244283:=()
noncomputable def tw4905105321871823087:=()
noncomputable def tw12844338111311763033:=()
noncomputable def tw2322326716707303490:=()
noncomputable def tw5635111657747867628:=()
noncomputable def tw12117907254605828208:=()
noncomputable def tw12678262994363163410:=()
noncomputable def tw11381627572224358788:=()
noncomputable def tw7246558068817449333:=()
noncomputable def tw5054671392816322197:=()
noncomputable def tw5490537318308784472:=()
noncomputable def tw13894583712913442444:=()
noncomputable def tw17976277374496049590:=()
noncomputable def tw1372208253901252448:=()
noncomputable def tw6483915731013333080:=()
noncomputable def tw12602806810579875651:=()
noncomputable def tw2181967863010326844:=()
noncomputable def tw15259497036017983178:=()
noncomputable def tw17872076475634012278:=()
noncomputable def tw14809289544937205056:=()
noncomputable def tw11135782494254214323:=()
noncomputable def tw13344111875515521749:=()
noncomputable def tw2471134069623196989:=()
noncomputable def tw11208353933772898370:=()
noncomputable def tw12994421569757571359:=()
noncomputable def tw13218251959480754311:=()
noncomputable def tw1532379027301031183:=()
noncomputable def tw3966267746052682109:=()
noncomputable def tw9101803968419930688:=()
noncomputable def tw4476844483412194010:=()
noncomputable def tw18147537666909364931:=()
noncomputable def tw11809930260253990088:=()
noncomputable def tw950708690013545843:=()
noncomputable def tw12728475902567830704:=()
noncomputable def tw5243001224847312756:=()
noncomputable def tw16135471939844697332:=()
noncomputable def tw16353257037865228214:=()
noncomputable def tw11252093216975477902:=()
noncomputable def tw12434991291019139620:=()
noncomputable def tw14928142846974131339:=()
noncomputable def tw9502381491751295:=()
noncomputable def tw7152727181076419:=()
noncomputable def tw16682513261691507025:=()
noncomputable def tw15764867732272157572:=()
noncomputable def tw12677254920238658652:=()
noncomputable def tw8317248853192062343:=()
noncomputable def tw9418065888967508990:=()
noncomputable def tw9206807539321642972:=()
noncomputable def tw11009220666711985175:=()
noncomputable def tw8175190638889986563:=()
noncomputable def tw7251106694823691500:=()
noncomputable def tw17071545829809767028:=()
noncomputable def tw5614079020198197502:=()
noncomputable def tw4849473687175301947:=()
noncomputable def tw14736987496220632277:=()
noncomputable def tw18041484566164360866:=()
noncomputable def tw11718943079517639838:=()
noncomputable def tw11967358312537865144:=()
noncomputable def tw8433576126440147722:=()
noncomputable def tw17555445775206734132:=()
noncomputable def tw10651491157966438621:=()
noncomputable def tw1241493037679330303:=()
noncomputable def tw16602424522764634867:=()
noncomputable def tw12640585780974479303:=()
noncomputable def tw9375306204127039927:=()
noncomputable def tw13650685018026376118:=()
noncomputable def tw17297592229994118861:=()
noncomputable def tw8877494207757685474:=()
noncomputable def tw6928349220728861852:=()
noncomputable def tw10087844645382176455:=()
noncomputable def tw14885847142949144931:=()
noncomputable def tw6054568310696712520:=()
noncomputable def tw15435003946993132119:=()
noncomputable def tw16413909092606078240:=()
noncomputable def tw10400811638895170934:=()
noncomputable def tw1826489595762702560:=()
noncomputable def tw9142676669445727174:=()
noncomputable def tw2636106248130321401:=()
noncomputable def tw5475369102476304826:=()
noncomputable def tw3853585841992844171:=()
noncomputable def tw12965202060900069093:=()
noncomputable def tw17644776846231569878:=()
noncomputable def tw5822165012213190834:=()
noncomputable def tw3040056538756102045:=()
noncomputable def tw12726295148929030864:=()
noncomputable def tw6296195043316441084:=()
noncomputable def tw8461687423469090266:=()
noncomputable def tw10810429356208733396:=()
noncomputable def tw4673183852510403551:=()
noncomputable def tw8010680146256614027:=()
noncomputable def tw15660710406838124357:=()
noncomputable def tw3032028544806659281:=()
noncomputable def tw12843260626677197268:=()
noncomputable def tw10204354175083100274:=()
noncomputable def tw14788569233791378854:=()
noncomputable def tw4813500496880078521:=()
noncomputable def tw8164986379959045712:=()
noncomputable def tw8514570555433269462:=()
noncomputable def tw649940952437974767:=()
noncomputable def tw420784461722047922:=()
noncomputable def tw14622810013151198687:=()
noncomputable def tw7882278954763538697:=()
noncomputable def tw7883217001240818460:=()
noncomputable def tw11905782258514812712:=()
noncomputable def tw13829338144838691974:=()
noncomputable def tw15728733731284777243:=()
noncomputable def tw16748425175936496280:=()
noncomputable def tw12992725019332876853:=()
noncomputable def tw4953662729991761450:=()
noncomputable def tw4366071564906192492:=()
noncomputable def tw15093320652946068958:=()
noncomputable def tw12493991338450291030:=()
noncomputable def tw5370400102543651692:=()
noncomputable def tw16717197175773845859:=()
noncomputable def tw15963432057645776614:=()
noncomputable def tw14684566556048302219:=()
noncomputable def tw7618634321370308515:=()
noncomputable def tw6907949203197015846:=()
noncomputable def tw9636826211065469636:=()
noncomputable def tw8307272463212220000:=()
noncomputable def tw13296140534571620347:=()
noncomputable def tw11849518095009185480:=()
noncomputable def tw6791950605664462755:=()
noncomputable def tw3839019764694054595:=()
noncomputable def tw1560054321876448643:=()
noncomputable def tw12405953700806631977:=()
noncomputable def tw18410939844236642400:=()
noncomputable def tw9846520712457209791:=()
noncomputable def tw9583863888793886444:=()
noncomputable def tw12997474278914527657:=()
noncomputable def tw9321373619468943065:=()
noncomputable def tw14914289948454797808:=()
noncomputable def tw3741487186380269794:=()
noncomputable def tw5828353492849143085:=()
noncomputable def tw3510203689291908257:=()
noncomputable def tw15655578647979418879:=()
noncomputable def tw1095899698490166309:=()
noncomputable def tw9737986772826716223:=()
noncomputable def tw17185862568544828036:=()
noncomputable def tw18260763772867560209:=()
noncomputable def tw9457182473364255734:=()
noncomputable def tw13641586556126740114:=()
noncomputable def tw12771507545629537915:=()
noncomputable def tw8356522436100101616:=()
noncomputable def tw16865644226083376617:=()
noncomputable def tw286176162518118305:=()
noncomputable def tw1779675667014851859:=()
noncomputable def tw3451682816889964405:=()
noncomputable def tw12233794714288119316:=()
noncomputable def tw14476987533539458437:=()
noncomputable def tw14119067068014943225:=()
noncomputable def tw8653114229545180767:=()
noncomputable def tw773311553440660936:=()
noncomputable def tw15139847409167775884:=()
noncomputable def tw2544977333769185664:=()
noncomputable def tw15839367785781908862:=()
noncomputable def tw13784407516548585045:=()
noncomputable def tw9854061399190015491:=()
noncomputable def tw9937761393796034333:=()
noncomputable def tw11341733551048153980:=()
noncomputable def tw10768983676963935515:=()
noncomputable def tw8230137223005723252:=()
noncomputable def tw36196857626487883:=()
noncomputable def tw1347401171494498110:=()
noncomputable def tw18069749238079649425:=()
noncomputable def tw10664431894215125119:=()
noncomputable def tw10837299203891668650:=()
end PySem.W.Fast
open PySem PySem.W PyProof.Rows
set_option maxRecDepth 100000 in
set_option maxHeartbeats 0 in
theorem PySem.Challenge.cw_fewnotes_k86_whole_played_holds : PySem.Challenge.rw_fewnotes_k86_whole_played.Holds := by
 w_on;o_law;k_head;(case hw=>w_witness2)
 k_fill
 refine Prf.walk (l:=PySem.Challenge.rw_fewnotes_k86_whole_played) rfl rfl (fun w h Y=>PySem.W.km_in_of Y) (fun w h Y=>PySem.W.km_tabs_of Y _ (List.Mem.head _)) ?F
 case F=>
  intro w mg fa h KX G hmg
  replace hmg:mg (Str.ofString "law")=some (.ref fa):=hmg
  refine' Prf.all_mk KX G hmg ?CP ?fZ ?sG ?z_ ?vB ?sJ ?ycg ?sO ?sS ?o_ ?sW ?Ab ?nO ?lV ?Ac ?gC ?gQ ?lH ?xcc ?sU ?Aa ?nM ?Ca ?B_ ?h_ ?wZ ?q0 ?q1 ?q2 ?q3 ?q4 ?q5 ?q6 ?q7 ?q8 ?q9 ?NP ?q11 ?VR ?a13 ?l13 ?c13 ?k13 ?n13 ?xM ?q14 ?q15 ?q16 ?q17 ?q18 ?q19 ?q20 ?q21 ?q22 ?q23 ?q24 ?q25 ?q26 ?q27 ?q28 ?q29 ?q30 ?q31 ?q32 ?q33 ?q34 ?ZG ?q36 ?q37 ?q38 ?q39 ?q40 ?q41 ?q42 ?q43 ?q44 ?zb
  (case CP|fZ|sG=>constructor<;>k_is)
  (case z_=>refine' ⟨?_, ?_, ?_, ?_, ?_,trivial⟩<;>k_is)
  (case vB|sJ=>refine' ⟨?_, ?_, ?_, ?_,trivial⟩<;>k_is)
  (case ycg=>constructor<;>k_is)
  (case sO|sS|o_=>k_is)
  (case sW|Ab|nO|lV|Ac=>constructor;k_is;rfl;k_is;k_is)
  (case gC|gQ|lH=>constructor;rfl;k_is)
  (case xcc=>constructor<;>k_is)
  (case sU|Aa|nM=>constructor;k_is;k_is;k_is;k_is;k_is;k_is;k_exc)
  (case Ca|B_|h_=>k_is)
  (case wZ=>intro T hT;simp only [L2.acd,List.mem_cons,List.not_mem_nil,or_false] at hT;rcases hT with rfl|rfl|rfl|rfl|rfl|rfl|rfl<;>kernel_rfl)
  (case q0|q1=>apply L2.Lr<;>k_is)
  (case q2=>apply L2.QB<;>k_is)
  (case q3=>apply L2.Lr<;>k_is)
  (case q4|q5|q6|q7|q8=>apply L2.QB<;>k_is)
  (case q9=>apply L2.Lr<;>k_is)
  (case NP|q11|VR=>apply L2.QB<;>k_is)
  (case a13|l13|c13|k13|n13|xM=>k_is)
  (case q14|q15|q16|q17|q18|q19|q20|q21=>apply L2.QB<;>k_is)
  (case q22|q23|q24|q25|q26=>apply L2.Lr<;>k_is)
  (case q27|q28|q29|q30|q31=>apply L2.QB<;>k_is)
  (case q32|q33|q34|ZG|q36|q37|q38|q39|q40|q41=>apply L2.Lr<;>k_is)
  (case q42=>apply L2.ag6;k_is;k_is;k_is;k_is;kernel_rfl;kernel_rfl)
  (case q43|q44=>apply L2.Lr<;>k_is)
  (case zb=>refine' ⟨?_, ?_, ?_, ?_, ?_, ?_, ?_, ?_, ?_, ?_, ?_, ?_, ?_, ?_, ?_, ?_,trivial⟩<;>k_is)
#print axioms PySem.Challenge.cw_fewnotes_k86_whole_played_holds
