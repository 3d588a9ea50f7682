import PyProof.Rows.All
import Wide.All
import OpenK.AllK
import Wide.FinOn
import Lean
import PyProof.EqAt
import PyProof.EqKinds
import PyProof.TupleCall
import PyProof.EqLayable
import PyProof.ExcArgsOwn
import PyProof.ExcAttrAll.Exception
import PyProof.RulesAs
import PyProof.ExcBaseAll.ValueError
import PyProof.NsDelKeeps
import KE.KRevSl
import OpenK.KOps
import OpenK.KWalk
import PyProof.TupleIter
import PyProof.ZipIter
import PyProof.DictUpdate
import PyProof.StrLawsIdx
import PyProof.DictTruth
import PyProof.DictDisplay
import KE.KLam
import KE.KNestM
import KE.KMinKey
import PyProof.NeKinds
import PySem.Challenge.RW_fewnotes_k60_whole_both_ways
set_option Elab.async false
set_option linter.all false
set_option maxRecDepth 100000
noncomputable section
section
open PySem PySem.Spec PyProof.Rows
theorem Z {α:Sort _} {a:α}:a=a:=rfl
def aad:=@List.length_map
def aae:=@List.getElem?_eq_getElem
def aaf:=@List.getElem?_eq_some_iff
def aag:=@List.getElem?_map
def aai:=@Heap.get?_push_of_some
def aaj:=@Heap.get?_push_size
def aal:=@Heap.lt_size
def aap:=@Nat.le_refl
def aay:=@wpAny_bind
def aaB:=@wpAny_pure
def aaC:=@wpS_bind
def aaJ:=@wpS_pure
def aaK:=@Array.length_toList
def aaL:=@List.mem_of_getElem?
def aaM:=@decide_eq_true
def aaN:=@decide_eq_false
def aaO:=@of_decide_eq_true
def aaP:=@Bool.false_ne_true
def aaQ:=@List.size_toArray
def aaR:=@Option.some.inj
def aaS:=@List.length_append
def aaT:=@List.getElem?_append_right
def aaU:=@List.getElem?_append_left
def aaV:=@Nat.ne_of_lt
def aaW:=@Nat.lt_of_lt_of_le
def aaX:=@List.map_append
def aaY:=@Int.toNat_natCast
def aaZ:=@Bool.and_eq_true
def aa0:=@List.mem_cons_of_mem
def aa1:=@List.mem_append
def aa2:=@List.mem_map
def aa3:=@List.take_length
def aa4:=@List.length_singleton
def aa5:=@List.take_add_one
def aa6:=@List.length_set
def aa7:=@List.length_take
def aa8:=@List.mem_filter
def aa9:=@List.mem_range
def abn:=@List.filter_cons
def abo:=@List.length_cons
def abD:=@Int.eq_ofNat_of_zero_le
def abF:=@Nat.lt_irrefl
def abG:=@Nat.le_trans
def abL:=@List.filter_append
def abN:=@if_neg
def abW:=@if_pos
def abZ:=@absurd
end
namespace L2
open PySem PySem.Spec PyProof.Rows
noncomputable abbrev Key:=Sum Int Str
noncomputable def yh:Key->Value->Bool
 | .inl k,v=>Value.isInt k v
 | .inr x,v=>Value.isStrOf x v
noncomputable def agn(w:World):Key->Int
 | .inl k=>hashInt k
 | .inr x=>hashStr w x
theorem dJ:∀{k:Key}{v:Value},yh k v=true->(∃i t,k=Sum.inl i/\v=Value.int i t)\/(∃x t,k=Sum.inr x/\v=Value.str x t)
 | .inl i,v,h=>by
   obtain⟨t,e⟩:=Value.isInt_shape (k:=i) (v:=v) h;exact .inl ⟨i,t,Z,e⟩
 | .inr x,v,h=>by
   obtain⟨t,e⟩:=Value.isStrOf_shape (x:=x) (v:=v) h;exact .inr ⟨x,t,Z,e⟩
theorem Ox(i:Int)(t:Tok):yh (.inl i) (.int i t)=true:=by simp[yh,Value.isInt]
theorem Ow(x:Str)(t:Tok):yh (.inr x) (.str x t)=true:=by simp[yh,Value.isStrOf]
theorem ZP(a b:Int):decide ((Sum.inl a:Key)=Sum.inl b)=(a==b):=by
 by_cases e:a=b
 .subst e;simp
 .have h:¬(Sum.inl a:Key)=Sum.inl b:=λq=>e (Sum.inl.inj q)
  rw[aaN h];exact(beq_eq_false_iff_ne.mpr e).symm
theorem ZK(a b:Str):decide ((Sum.inr a:Key)=Sum.inr b)=decide (a=b):=by
 by_cases e:a=b
 .subst e;simp
 .have h:¬(Sum.inr a:Key)=Sum.inr b:=λq=>e (Sum.inr.inj q)
  rw[aaN h,aaN e]
theorem ZM(a:Int)(b:Str):decide ((Sum.inl a:Key)=Sum.inr b)=false:=aaN (λq=>nomatch q)
theorem ZL(a:Str)(b:Int):decide ((Sum.inr a:Key)=Sum.inl b)=false:=aaN (λq=>nomatch q)
noncomputable def cU(prog:Program)(w:World):PySem.KeyKind prog w Key where
 is:=yh
 hash:=agn w
 inj:=λv a b ha hb=>by
  rcases dJ ha with ⟨i,t,rfl,rfl⟩|⟨x,t,rfl,rfl⟩
  .rcases dJ hb with ⟨j,u,rfl,e⟩|⟨y,u,rfl,e⟩
   .injection e with e1 _;rw[e1]
   .exact nomatch e
  .rcases dJ hb with ⟨j,u,rfl,e⟩|⟨y,u,rfl,e⟩
   .exact nomatch e
   .injection e with e1 _;rw[e1]
 byValue:=λk v h=>by
  rcases dJ h with ⟨i,t,rfl,rfl⟩|⟨x,t,rfl,rfl⟩<;>rfl
 pyHash:=λhv h=>by
  rcases dJ hv with ⟨i,t,rfl,rfl⟩|⟨x,t,rfl,rfl⟩
  .exact wpAny_pyHash_int h
  .exact wpAny_pyHash_str h
 eqBool:=λhu hv h=>by
  rcases dJ hu with ⟨i,t,rfl,rfl⟩|⟨x,t,rfl,rfl⟩
  .rcases dJ hv with ⟨j,u,rfl,rfl⟩|⟨y,u,rfl,rfl⟩
   .rw[ZP] at h;exact wpAny_eqBool_int h
   .rw[ZM] at h;exact SeqAt.EqAt.int_str i t y u _ _ _ _ h
  .rcases dJ hv with ⟨j,u,rfl,rfl⟩|⟨y,u,rfl,rfl⟩
   .rw[ZL] at h;exact SeqAt.EqAt.str_int x t j u _ _ _ _ h
   .rw[ZK] at h;exact wpAny_eqBool_str h
 «strs» :=λk x t v h=>by
  rcases dJ h with ⟨i,u,rfl,e⟩|⟨y,u,rfl,e⟩
  .exact nomatch e
  .injection e with e1 _
   subst e1;cases v<;>rfl
theorem Je(prog:Program)(w:World)(k:Key)(v:Value):(cU prog w).is k v=yh k v:=Z
theorem Gg(prog:Program)(w:World)(i:Int)(t:Tok):(cU prog w).is (.inl i) (.int i t)=true:=Ox i t
theorem Gf(prog:Program)(w:World)(x:Str)(t:Tok):(cU prog w).is (.inr x) (.str x t)=true:=Ow x t
inductive V where
 | non|bl (b:Bool)|int (i:Int)|str (x:Str)|JK (b:Array UInt8)|flt (b:UInt64)|ref (a:Addr)|ty (n:String)
 deriving DecidableEq
noncomputable def RelV:V->Value->Prop
 | .non,u=>u=Value.none
 | .bl b,u=>u=Value.bool b
 | .int i,u=>∃t,u=Value.int i t
 | .str x,u=>∃t,u=Value.str x t
 | .JK b,u=>∃t,u=Value.bytes b t
 | .flt b,u=>∃t,u=Value.float b t
 | .ref a,u=>u=Value.ref a
 | .ty n,u=>u=Value.type n
noncomputable abbrev Vals:List V->List Value->Prop:=Paired RelV
theorem Vals.length{xs:List V}{us:List Value}(r:Vals xs us):xs.length=us.length:=Paired.length r
theorem Vals.get:∀{xs:List V}{us:List Value}{i:Nat}{x:V},Vals xs us->xs[i]? = some x -> ∃u,us[i]? = some u/\RelV x u
 | _,_,_,_,.nil,e=>by simp at e
 | _,_,0,_,.cons r _,e=>by simp at e;subst e;exact⟨_,Z,r⟩
 | _,_,i+1,x,.cons _ t,e=>by
   obtain⟨u,h1,h2⟩:=Vals.get (i:=i) (x:=x) t (by simpa using e);exact⟨u,by simpa using h1,h2⟩
theorem Vals.set{x:V}{u:Value}(r:RelV x u):∀{xs:List V}{us:List Value}(i:Nat),Vals xs us->Vals (xs.set i x) (us.set i u)
 | _,_,_,.nil=> .nil
 | _,_,0,.cons _ t=> .cons r t
 | _,_,i+1,.cons q t=> .cons q (Vals.set r i t)
theorem Vals.append{xs ys:List V}{us ws:List Value}(h:Vals xs us)(s:Vals ys ws):Vals (xs++ys) (us++ws):=by
 induction h with
 | nil=>exact s
 | cons r t ih=>exact .cons r ih
theorem Vals.take:∀{xs:List V}{us:List Value}(n:Nat),Vals xs us->Vals (xs.take n) (us.take n)
 | _,_,0,_=> .nil
 | _,_,_+1,.nil=> .nil
 | _,_,n+1,.cons r t=> .cons r (Vals.take n t)
theorem Vals.drop:∀{xs:List V}{us:List Value}(n:Nat),Vals xs us->Vals (xs.drop n) (us.drop n)
 | _,_,0,r=>r
 | _,_,_+1,.nil=> .nil
 | _,_,n+1,.cons _ t=>Vals.drop n t
noncomputable def mY:Option V->Option Value->Prop
 | some v,some u=>RelV v u
 | none,none=>True
 | _,_=>False
noncomputable def KV{κ:Type}:List (κ×V)->List (κ×Value)->Prop:=Paired λ(p:κ×V) (q:κ×Value)=>p.1=q.1/\RelV p.2 q.2
noncomputable def kV:Key->V
 | .inl i=> .int i
 | .inr x=> .str x
inductive HO where
 | lst (xs:List V)
 | tup (xs:List V)
 | dK (kvs:List (Key×V))|dT (kvs:List (List Key×V))
 | set (S:Int->Bool) (n:Nat)
 | ins (C dx:Addr) (fs:List (Str×V))
 | own (x:Addr)
 | xd (fs:List (Str×V))
 | met (f x:Addr)
 | rng (lo hi:Int)
 | mJ (o:Obj) (u:HO)
 | Va (ps:Array Value)
 | ext (φ:Heap->Prop)
noncomputable abbrev Hp:=Addr->Option HO
noncomputable def upd(H:Hp)(a:Addr)(o:HO):Hp:=λb=>if b=a then some o else H b
theorem ak{H:Hp}{a:Addr}{o:HO}:upd H a o a=some o:=by unfold upd;rw[abW rfl]
theorem aF{H:Hp}{a b:Addr}{o:HO}(h:b≠a):upd H a o b=H b:=by unfold upd;rw[abN h]
theorem Kw{H:Hp}{a:Addr}{o u:HO}:upd (upd H a o) a u=upd H a u:=by
 funext b;unfold upd;split<;>rfl
theorem cH{H:Hp}{a b:Addr}{o u:HO}(h:H a=some o)(h':H b=some u)(d:o≠u):a≠b:=by
 intro e;subst e;rw[h] at h';exact d (aaR h')
theorem au{H:Hp}{a b:Addr}{o:HO}(h:H a=some o)(h':H b=none):a≠b:=by
 intro e;subst e;rw[h] at h';cases h'
section
variable(P:Program)(w:World)
noncomputable def cW(H:Hp)(h:Heap)(a:Addr):HO->Prop
 | .lst xs=>xs.length<=sizeLine /\ ∃(its:List Value) (n:Nat),Vals xs its/\h.get? a=some {cls:= .type "list",data:= .seq its.toArray n}
 | .tup xs=>xs.length<=sizeLine /\ ∃its:List Value,Vals xs its/\IsTup h a its.toArray
 | .dK kvs=>kvs.length<=sizeLine/\(a==sysModules)=false /\ ∃vs,KV kvs vs/\h.DictOf (cU P w) a vs
 | .dT kvs=>kvs.length<=sizeLine/\(a==sysModules)=false /\ ∃xs:List (List Key×Addr×Value),
    Paired (λ(p:List Key×V) (q:List Key×Addr×Value)=>p.1=q.1/\H q.2.1=some (.tup (p.1.map kV))/\RelV p.2 q.2.2) kvs xs /\
    ∃o es ep,h.get? a=some o/\o.ExactDict/\o.data = .dict es ep/\es.toList=xs.map (entryOfKey (tupleKind (cU P w)))/\(xs.map (·.1)).Nodup
 | .set S n=>h.SetOf (intKind P w) a S n
 | .ins C dx fs=>H dx=some (.own a)/\fs.length<=1000/\dx≠a/\h.get? a=some (PySem.W.instObj C dx) /\
    ∃mA,h.Ns1 dx mA/\(∀f,mY (fs.lookup f) (mA f))/\PySem.Within mA (fs.map (·.1))
 | .own _=>∃o,h.get? a=some o
 | .xd fs=>∃mA,h.Ns1 a mA /\ ∀f,mY (fs.lookup f) (mA f)
 | .rng lo hi=>∃t u v,h.get? a=some {cls:= .type "range",data:= .fields #[.int lo t,.int hi u,.int 1 v]}
 | .mJ o u=>h.get? a=some o/\cW H h a u
 | .Va ps=>h.get? a=some {cls:= .none,data:= .fields ps}
 | .met f x=>h.get? a=some (PySem.W.methodObj (.ref f) (.ref x))
 | .ext φ=>φ h/\(∃o,h.get? a=some o) /\ ∀h1 h2:Heap,φ h1->(∀o,h1.get? a=some o->h2.get? a=some o)->φ h2
noncomputable def lK(H:Hp)(h:Heap):Prop:=∀a o,H a=some o->cW P w H h a o
end
section
variable{P:Program}{w:World}{H H':Hp}{h h':Heap}{a:Addr}{o:HO}
theorem cW.lt(x:cW P w H h a o):a<h.objs.size:=by
 cases o with
 | lst xs=>obtain⟨_,_,_,_,e⟩:=x;exact aal e
 | tup xs=>obtain⟨_,_,_,p⟩:=x;exact p.lt
 | dK kvs=>obtain⟨_,_,_,_,o,_,_,e,_⟩:=x;exact aal e
 | dT kvs=>obtain⟨_,_,_,_,o,_,_,e,_⟩:=x;exact aal e
 | set S n=>obtain⟨o,_,_,_,e,_⟩:=x;exact aal e
 | ins C dx fs=>obtain⟨_,_,_,e,_⟩:=x;exact aal e
 | own y=>obtain⟨_,e⟩:=x;exact aal e
 | xd fs=>obtain⟨_,⟨_,_,_,e,_⟩,_⟩:=x;exact aal e
 | rng lo hi=>obtain⟨_,_,_,e⟩:=x;exact aal e
 | mJ ob u=>obtain⟨e,_⟩:=x;exact aal e
 | Va ps=>exact aal (show h.get? a=some _ from x)
 | met f y=>exact aal (show h.get? a=some _ from x)
 | ext φ=>obtain⟨_,⟨_,e⟩,_⟩:=x;exact aal e
theorem Paired.ab8{α β:Type}{F G:α->β->Prop}:∀{l₁:List α}{l₂:List β},Paired F l₁ l₂->(∀a b,F a b->G a b)->Paired G l₁ l₂
 :=by
 intro l₁ l₂ h f
 induction h with
 | nil=>exact .nil
 | cons r t ih=>exact .cons (f _ _ r) ih
theorem cW.stay(x:cW P w H h a o)(k:∀b u,(b=a\/H b=some (.own a))->h.get? b=some u->h'.get? b=some u)(ho:∀b,H b=some (.own a)->H' b=some (.own a))(ht:∀b xs,H b=some (.tup xs)->H' b=some (.tup xs)):cW P w H' h' a o:=by
 induction o with
 | lst xs=>obtain⟨z,its,n,r,e⟩:=x;exact⟨z,its,n,r,k _ _ (.inl rfl) e⟩
 | tup xs=>obtain⟨z,its,r,ob,e,c⟩:=x;exact⟨z,its,r,ob,k _ _ (.inl rfl) e,c⟩
 | dK kvs=>obtain⟨z,y,vs,r,ob,es,ep,e,c⟩:=x;exact⟨z,y,vs,r,ob,es,ep,k _ _ (.inl rfl) e,c⟩
 | dT kvs=>
   obtain⟨z,y,xs,r,ob,es,ep,e,c⟩:=x;exact⟨z,y,xs,Paired.ab8 r λp q z=>⟨z.1,ht _ _ z.2.1,z.2.2⟩,ob,es,ep,k _ _ (.inl rfl) e,c⟩
 | set S n=>obtain⟨ob,es,ep,t,e,c⟩:=x;exact⟨ob,es,ep,t,k _ _ (.inl rfl) e,c⟩
 | ins C dx fs=>
   obtain⟨d,z,ne,e,mA,⟨od,es,ep,e2,c⟩,r⟩:=x;exact⟨ho _ d,z,ne,k _ _ (.inl rfl) e,mA,⟨od,es,ep,k _ _ (.inr d) e2,c⟩,r⟩
 | own y=>obtain⟨ob,e⟩:=x;exact⟨ob,k _ _ (.inl rfl) e⟩
 | xd fs=>obtain⟨mA,⟨od,es,ep,e,c⟩,r⟩:=x;exact⟨mA,⟨od,es,ep,k _ _ (.inl rfl) e,c⟩,r⟩
 | rng lo hi=>obtain⟨t,u,v,e⟩:=x;exact⟨t,u,v,k _ _ (.inl rfl) e⟩
 | mJ ob u ih=>obtain⟨e,q⟩:=x;exact⟨k _ _ (.inl rfl) e,ih q⟩
 | Va ps=>
   have e:h.get? a=some {cls:= .none,data:= .fields ps}:=x;show h'.get? a=some {cls:= .none,data:= .fields ps};exact k a _ (.inl rfl) e
 | met f y=>
   have e:h.get? a=some (PySem.W.methodObj (.ref f) (.ref y)):=x;show h'.get? a=some (PySem.W.methodObj (.ref f) (.ref y));exact k a _ (.inl rfl) e
 | ext φ=>obtain⟨p,⟨o,e⟩,st⟩:=x;exact⟨st _ _ p λo q=>k _ _ (.inl rfl) q,⟨o,k _ _ (.inl rfl) e⟩,st⟩
theorem lK.lt(x:lK P w H h)(e:H a=some o):a<h.objs.size:=(x a o e).lt
theorem lK.fresh(x:lK P w H h)(e:h.objs.size<=a):H a=none:=by
 cases q:H a with
 | none=>rfl
 | some u=>exact abZ (aaW (x.lt q) e) (abF _)
theorem lK.kept(x:lK P w H h)(k:∀b u,h.get? b=some u->h'.get? b=some u):lK P w H h':=λa o e=>
 (x a o e).stay (λb u _ q=>k b u q) (λ_ q=>q) λ_ _ q=>q
theorem lK.laid(x:lK P w H h)(k:∀b u,h.get? b=some u->h'.get? b=some u)(hp:h.objs.size<=a)(new:cW P w (upd H a o) h' a o):lK P w (upd H a o) h':=λb u e=>by
 have hn:=x.fresh hp
 by_cases hb:b=a
 .subst hb;rw[ak] at e;cases e;exact new
 .rw[aF hb] at e
  exact(x b u e).stay (λc v _ q=>k c v q) (λc q=>by rw[aF (au q hn)];exact q) λc xs q=>by rw[aF (au q hn)];exact q
end
noncomputable def Rd(H:Hp)(a:Addr)(u:HO):Prop:=H a=some u \/ ∃o,H a=some (.mJ o u)
theorem Rd.ok{P:Program}{w:World}{H:Hp}{h:Heap}{a:Addr}{u:HO}(r:Rd H a u)(x:lK P w H h):cW P w H h a u:=by
 rcases r with r|⟨o,r⟩
 .exact x a u r
 .obtain⟨_,q⟩:=x a _ r
  exact q
noncomputable def Mut:Option HO->Prop
 | some (.lst _)=>True
 | some (.dK _)=>True
 | some (.dT _)=>True
 | some (.set _ _)=>True
 | some (.ins _ _ _)=>True
 | some (.ext _)=>True
 | _=>False
section
variable{P:Program}{w:World}{H:Hp}{h h':Heap}{x e:Addr}{o':HO}
theorem lK.write(ok:lK P w H h)(mu:Mut (H x))(he:e=x\/H e=some (.own x))(k:∀b u,b≠e->h.get? b=some u->h'.get? b=some u)(heo:∃u,h'.get? e=some u)(new:cW P w (upd H x o') h' x o'):lK P w (upd H x o') h':=λb u q=>by
 have ab3:∀c y,H c=some (.own y)->c≠x:=λc y r z=>by subst z;rw[r] at mu;exact mu
 have afX:∀c xs,H c=some (.tup xs)->c≠x:=λc xs r z=>by subst z;rw[r] at mu;exact mu
 by_cases hb:b=x
 .subst hb;rw[ak] at q;cases q;exact new
 .rw[aF hb] at q
  by_cases hbe:b=e
  .have q':H b=some (.own x):=by
    rcases he with z|z
    .exact abZ (hbe.trans z) hb
    .rw[hbe];exact z
   rw[q] at q';cases q';obtain⟨v,hv⟩:=heo;exact⟨v,by rw[hbe];exact hv⟩
  .refine(ok b u q).stay (λc v hc r=>k c v ?_ r) (λc r=>by rw[aF (ab3 c b r)];exact r) λc xs r=>by rw[aF (afX c xs r)];exact r
   rcases hc with rfl|hc
   .exact hbe
   .rintro rfl
    rcases he with z|z
    .exact ab3 c b hc z
    .rw[hc] at z;cases z;exact hb rfl
end
structure Un(fs ex:List Addr)(H H':Hp)(h h':Heap):Prop where
 keep:∀b o,h.get? b=some o->H b=none->b∉fs->b∉ex->h'.get? b=some o
 slot:∀b o,h.get? b=some o->H b=none->b∈fs->b∉ex -> ∃sl,h'.get? b=some {o with slots:=sl}
 free:∀b o,h.get? b=some o->H b=none->b∉ex->H' b=none
 there:∀b o,h.get? b=some o->b∉ex -> ∃o',h'.get? b=some o'
 tups:∀b xs,H b=some (.tup xs)->H' b=some (.tup xs)
 uw:∀b o u,H b=some (.mJ o u)->H' b=some (.mJ o u)
 v9:∀b ps,H b=some (.Va ps) -> ∃more,H' b=some (.Va (ps++more))
section
variable{fs fs' ex ex':List Addr}{H H1 H2:Hp}{h h1 h2 h':Heap}{a x e:Addr}{o:HO}
theorem Un.any(u:Un fs ex H H1 h h1){b:Addr}{ob:Obj}(q:h.get? b=some ob)(n:H b=none)(hx:b∉ex):∃sl,h1.get? b=some {ob with slots:=sl}:=by
 by_cases hb:b∈fs
 .exact u.slot b ob q n hb hx
 .exact⟨ob.slots,u.keep b ob q n hb hx⟩
theorem Un.kept(k:∀b u,h.get? b=some u->h'.get? b=some u):Un fs ex H H h h':=
 ⟨λb ob q _ _ _=>k b ob q,λb ob q _ _ _=>⟨ob.slots,k b ob q⟩,λ_ _ _ n _=>n,λb ob q _=>⟨ob,k b ob q⟩,λ_ _ q=>q,λ_ _ _ q=>q,λ_ ps q=>⟨#[],by rw[q];simp⟩⟩
theorem Un.refl:Un fs ex H H h h:=Un.kept λ_ _ q=>q
theorem Un.laid(k:∀b u,h.get? b=some u->h'.get? b=some u)(hp:h.objs.size<=a)(hn:H a=none):Un fs ex H (upd H a o) h h' where
 keep:=λb u q _ _ _=>k b u q
 slot:=λb u q _ _ _=>⟨u.slots,k b u q⟩
 free:=λb u q n _=>by rw[aF (aaV (aaW (aal q) hp))];exact n
 there:=λb u q _=>⟨u,k b u q⟩
 tups:=λb xs q=>by rw[aF (au q hn)];exact q
 uw:=λb u xs q=>by rw[aF (au q hn)];exact q
 v9:=λb ps q=>⟨#[],by rw[aF (au q hn),q];simp⟩
theorem Un.write(mu:Mut (H x))(he:e=x\/H e=some (.own x))(k:∀b u,b≠e->h.get? b=some u->h'.get? b=some u)(heo:∃u,h'.get? e=some u):Un fs ex H (upd H x o) h h':=by
 have hx:∀b,H b=none->b≠x:=λb n z=>by subst z;rw[n] at mu;exact mu
 have hb:∀b,H b=none->b≠e:=λb n z=>by
  subst z;rcases he with r|r
  .exact hx b n r
  .rw[n] at r;cases r
 have hm:∀b u,H b=some u -> ¬Mut (some u)->b≠x:=λb u q nm z=>by subst z;rw[q] at mu;exact nm mu
 refine⟨λb u q n _ _=>k b u (hb b n) q,λb u q n _ _=>⟨u.slots,k b u (hb b n) q⟩,λb u q n _=>by rw[aF (hx b n)];exact n,λb u q _=>?_,
  λb xs q=>by rw[aF (hm b _ q λz=>z)];exact q,λb u xs q=>by rw[aF (hm b _ q λz=>z)];exact q,λb ps q=>⟨#[],by rw[aF (hm b _ q λz=>z),q];simp⟩⟩
 by_cases hbe:b=e
 .subst hbe;exact heo
 .exact⟨u,k b u hbe q⟩
end
noncomputable def Yt(h:Heap)(H:Hp):List Addr:=(List.range h.objs.size).filter λa=>(H a).isSome
noncomputable def CQ(h:Heap)(H:Hp):Heap:=PySem.W.hideAll h (Yt h H)
theorem O1(h:Heap)(H:Hp):(CQ h H).objs.size=h.objs.size:=PySem.W.hideAll_size _ _
theorem SN{h:Heap}{H:Hp}{b:Addr}{o:Obj}(e:h.get? b=some o)(n:H b=none):(CQ h H).get? b=some o:=
 PySem.W.hideAll_get _ e λhm=>by
  have q:(H b).isSome=true:=(aa8.mp hm).2;rw[n] at q;simp at q
theorem V2{h:Heap}{H:Hp}{b:Addr}{o:Obj}(e:(CQ h H).get? b=some o):h.get? b=some o/\H b=none:=by
 have e':h.get? b=some o:=PySem.W.of_hideAll (Yt h H) e;refine⟨e', ?_⟩;cases q:H b with
 | none=>rfl
 | some x=>
   have hm:b∈Yt h H:=aa8.mpr ⟨aa9.mpr (aal e'),by simp[q]⟩;have z:(CQ h H).get? b=none:=PySem.W.hideAll_none (Yt h H) hm;rw[z] at e;cases e
noncomputable def Xd(g h:Heap)(L:Addr):List (Addr×Obj):=(List.range h.objs.size).filterMap λa=>if a=L\/(g.get? a).isSome=true then none else (h.get? a).map λo=>(a,o)
noncomputable def rest(g h:Heap)(L d:Addr):List (Addr×Obj):=(Xd g h L).filter λp=>decide (p.1≠d)
structure Mod(K:PySem.W.Frag)(mg:Str->Option Value)(base:Heap):Prop where
 Sy:K.In base
 glob:base.Ns mainGlobals mg
 blt:∃mb,base.Ns builtinsNs mb /\ ∀x:Str,x ≠ "__name__" -> mb x=bootBuiltins x
 nolimit:base.NoLimit
structure Cx where
 prog:Program
 w:World
 K:PySem.W.Frag
 mg:Str->Option Value
 base:Heap
 A:Around
 N:List Str
 s₀:Shared
 H₀:Hp
 env:Env
 outer:List Env
 stack:List Env
 ex:List Addr
 fn:Str->Bool
 calm:Bool
 pn:List (Addr×Obj)
 xe:Value->Shared->Prop
noncomputable def frs(l:List Env):List Addr:=l.filterMap (·.frame)
noncomputable abbrev Cx.fs(X:Cx):List Addr:=frs X.outer
noncomputable def Vis(sc:Scope)(x:Str):Prop:=sc.names.lookup x=some .local\/sc.names.lookup x=some .cell\/sc.names.lookup x=some .free
noncomputable def Loc(sc:Scope)(x:Str):Prop:=sc.names.lookup x=some .local\/sc.names.lookup x=some .cell
noncomputable def Look(env:Env)(h:Heap)(m:Str->Option Value)(x:Str)(u:Value):Prop:=
 (env.kindOf x=some .local/\m x=some u)\/((env.kindOf x=some .cell\/env.kindOf x=some .free) /\ ∃c,env.cells.lookup x=some c/\h.IsCell c (some u))
structure Cx.Ok(X:Cx):Prop where
 mod:Mod X.K X.mg X.base
 kind:X.env.scope.kind = .function
 glob:X.env.globals=mainGlobals
 blt:X.env.builtins=builtinsNs
 above:X.s₀.heap.objs.size<=X.env.locals
 inj:∀x y c,X.env.cells.lookup x=some c->X.env.cells.lookup y=some c->x=y
 has:∀x,(X.env.kindOf x=some .cell\/X.env.kindOf x=some .free) -> ∃c,X.env.cells.lookup x=some c
 cab:∀x c,X.fn x=true->X.env.cells.lookup x=some c->X.s₀.heap.objs.size<=c
 hd:X.calm=true->X.A.handled=none
 frames:X.A.frames=some X.stack
 stk:X.stack=X.outer\/(X.stack=X.env::X.outer/\X.env.frame=some X.env.locals)
 exf:∀b∈X.ex,b≠X.env.locals /\ ∀x c,X.env.cells.lookup x=some c->c≠b
 bs:∀b o,X.base.get? b=some o->X.s₀.heap.get? b=some o/\X.H₀ b=none
 W_:X.base.objs.size<=X.s₀.heap.objs.size
 RZ:∀b o,X.base.get? b=some o->b∉X.ex
 Ww:∀b∈X.ex,b∉X.fs
 ur:X.s₀.heap.FunFrames X.base X.outer
 Z8:∀b∈X.fs,X.H₀ b=none
structure Inv(X:Cx)(pins:List (Addr×Obj))(σ:List (Option V))(H:Hp)(s:Shared):Prop where
 ok:X.Ok
 os:s.os=X.s₀.os
 bare:AllBare s.gens
 base:Un X.fs X.ex X.H₀ H X.s₀.heap s.heap
 loc:∃m,s.heap.Ns X.env.locals m /\ ∀(i:Nat)(x:Str)(v:V),X.N[i]? = some x->σ[i]? = some (some v)->Vis X.env.scope x -> ∃u,RelV v u/\Look X.env s.heap m x u
 cell:∀x c,X.env.cells.lookup x=some c -> ∃v,s.heap.IsCell c v
 free:H X.env.locals=none
 lC:∀x c,X.env.cells.lookup x=some c->H c=none
 pin:∀p∈X.pn++pins,s.heap.get? p.1=some p.2/\H p.1=none/\p.1≠X.env.locals/\p.1∉X.fs /\ ∀v,p.2.data ≠ .cell v
 hok:lK X.prog X.w H s.heap
 len:σ.length=X.N.length
section
variable{X:Cx}{pins:List (Addr×Obj)}{σ:List (Option V)}{H H':Hp}{s:Shared}{h':Heap}
theorem Cx.Ok.af4(ok:X.Ok){b:Addr}{o:Obj}(e:X.base.get? b=some o):b∉X.fs:=λhb=>by
 have:=(ok.ur.mem hb).1;rw[e] at this;cases this
theorem Inv.bs(I:Inv X pins σ H s):∀b o,X.base.get? b=some o->s.heap.get? b=some o/\H b=none:=λb o e=>
 ⟨I.base.keep b o (I.ok.bs b o e).1 (I.ok.bs b o e).2 (I.ok.af4 e) (I.ok.RZ b o e),I.base.free b o (I.ok.bs b o e).1 (I.ok.bs b o e).2 (I.ok.RZ b o e)⟩
theorem Inv.bk(I:Inv X pins σ H s):∀b o,X.base.get? b=some o->s.heap.get? b=some o:=λb o e=>(I.bs b o e).1
theorem Inv.mod(I:Inv X pins σ H s):Mod X.K X.mg X.base:=I.ok.mod
theorem Inv.mH(I:Inv X pins σ H s):X.K.In s.heap:=I.ok.mod.Sy.keeps I.bk
theorem Inv.lt(I:Inv X pins σ H s):X.env.locals<s.heap.objs.size:=let ⟨_,hn,_⟩:=I.loc;hn.lt
theorem Inv.sz(I:Inv X pins σ H s):X.s₀.heap.objs.size<=s.heap.objs.size:=abG I.ok.above (Nat.le_of_lt I.lt)
theorem Inv.af3(I:Inv X pins σ H s){a:Addr}(h:s.heap.objs.size<=a):a∉X.fs:=λhb=>by
 obtain⟨_,o,ho,_⟩:=I.ok.ur.mem hb;exact abZ (aaW (aal ho) (abG I.sz h)) (abF _)
theorem Inv.cne(I:Inv X pins σ H s):∀x c,X.env.cells.lookup x=some c->c≠X.env.locals:=λx c e z=>by
 obtain⟨v,o,ho,hd⟩:=I.cell x c e;obtain⟨m,⟨o',es,ep,ho',hd',_⟩,_⟩:=I.loc;rw[z,ho'] at ho;cases ho;rw[hd'] at hd;cases hd
theorem Inv.ur(I:Inv X pins σ H s):s.heap.FunFrames X.base X.outer:=by
 have all:∀(l:List Env),(∀b∈frs l,b∈X.fs)->X.s₀.heap.FunFrames X.base l->s.heap.FunFrames X.base l:=by
  intro l
  induction l with
  | nil=>intro _ _;trivial
  | cons env r ih=>
    intro hs hl;obtain⟨hk,⟨L,o,hf,hn,ho,hd⟩,hr⟩:=hl;have hL:L∈X.fs:=hs L (by unfold frs;rw[List.filterMap_cons,hf];exact List.mem_cons_self);obtain⟨sl,e⟩:=I.base.slot L o ho (I.ok.Z8 L hL) hL λz=>I.ok.Ww L z hL;exact⟨hk,⟨L,_,hf,hn,e,hd⟩,ih (λb hb=>hs b (by unfold frs;rw[List.filterMap_cons,hf];exact aa0 _ hb)) hr⟩
 exact all X.outer (λ_ hb=>hb) I.ok.ur
theorem Inv.stack(I:Inv X pins σ H s):s.heap.FunFrames X.base X.stack:=by
 rcases I.ok.stk with e|⟨e,hf⟩
 .rw[e];exact I.ur
 .rw[e]
  obtain⟨m,hn,_⟩:=I.loc;refine .cons (by rw[I.ok.kind];decide) hf hn ?_ I.ur;exact Heap.get?_none_of_le (abG I.ok.W_ I.ok.above)
theorem Inv.wz(I:Inv X pins σ H s):∀b∈frs X.stack,b∈X.env.locals::X.fs:=λb hb=>by
 rcases I.ok.stk with e|⟨e,hf⟩
 .rw[e] at hb;exact aa0 _ hb
 .rw[e] at hb
  unfold frs at hb;rw[List.filterMap_cons,hf] at hb;exact hb
theorem Inv.Bl(I:Inv X pins σ H s):∀b∈frs X.stack,H b=none:=λb hb=>by
 rcases List.mem_cons.mp (I.wz b hb) with e|hb
 .rw[e];exact I.free
 .obtain⟨_,o,ho,_⟩:=I.ok.ur.mem hb
  exact I.base.free b o ho (I.ok.Z8 b hb) λz=>I.ok.Ww b z hb
theorem Inv.step{g':Array GenState}{t':Nat}{d':Drawn}{ch:List Addr}(I:Inv X pins σ H s)(hch:∀b∈ch,(b∈X.ex\/X.s₀.heap.objs.size<=b)/\b≠X.env.locals/\(∀x c,X.env.cells.lookup x=some c->c≠b) /\ ∀p∈X.pn++pins,p.1≠b)(keep:∀b o,b≠X.env.locals->b∉X.fs->b∉ch->s.heap.get? b=some o->H b=none->h'.get? b=some o)(slot:∀b o,b≠X.env.locals->b∈X.fs->b∉ch->s.heap.get? b=some o->H b=none -> ∃sl,h'.get? b=some {o with slots:=sl})(free:∀b o,b∉ch->s.heap.get? b=some o->H b=none->H' b=none)(there:∀b o,b∉ch->s.heap.get? b=some o -> ∃o',h'.get? b=some o')(tups:∀b xs,H b=some (.tup xs)->H' b=some (.tup xs))(uw:∀b o u,H b=some (.mJ o u)->H' b=some (.mJ o u))(v9:∀b ps,H b=some (.Va ps) -> ∃more,H' b=some (.Va (ps++more)))(ns:∀m,s.heap.Ns X.env.locals m->h'.Ns X.env.locals m)(hok:lK X.prog X.w H' h')(hg:AllBare g'):
 Inv X pins σ H' {s with heap:=h',gens:=g',drawn:=d',toks:=t'}:=by
 have neL:∀b o,X.s₀.heap.get? b=some o->b≠X.env.locals:=λb o e=>aaV (aaW (aal e) I.ok.above)
 have neC:∀b o,X.s₀.heap.get? b=some o->b∉X.ex->b∉ch:=λb o e hx hb=>by
  rcases(hch b hb).1 with z|z
  .exact hx z
  .exact abZ (aaW (aal e) z) (abF _)
 have cellK:∀x c,X.env.cells.lookup x=some c -> ∀v,s.heap.IsCell c v->h'.IsCell c v:=λx c e v ⟨o,ho,hd⟩=>by
  have nch:c∉ch:=λz=>(hch c z).2.2.1 x c e rfl
  by_cases hc:c∈X.fs
  .obtain⟨sl,q⟩:=slot c o (I.cne x c e) hc nch ho (I.lC x c e)
   exact⟨_,q,hd⟩
  .exact⟨o,keep c o (I.cne x c e) hc nch ho (I.lC x c e),hd⟩
 refine⟨I.ok,I.os,hg,⟨λb o e n hb hx=>?_,λb o e n hb hx=>?_,λb o e n hx=>?_,λb o e hx=>?_,λb xs e=>tups b xs (I.base.tups b xs e),λb o xs e=>uw b o xs (I.base.uw b o xs e),λb ps e=>?_⟩, ?_,λx c e=>?_, ?_,λx c e=>?_,λp hp=>?_,hok,I.len⟩
 .exact keep b o (neL b o e) hb (neC b o e hx) (I.base.keep b o e n hb hx) (I.base.free b o e n hx)
 .obtain⟨sl,e1⟩:=I.base.slot b o e n hb hx
  obtain⟨sl',e2⟩:=slot b _ (neL b o e) hb (neC b o e hx) e1 (I.base.free b o e n hx);exact⟨sl',e2⟩
 .obtain⟨o',e1⟩:=I.base.there b o e hx
  exact free b o' (neC b o e hx) e1 (I.base.free b o e n hx)
 .obtain⟨o',e1⟩:=I.base.there b o e hx
  exact there b o' (neC b o e hx) e1
 .obtain⟨m1,e1⟩:=I.base.v9 b ps e
  obtain⟨m2,e2⟩:=v9 b _ e1;exact⟨m1++m2,by rw[e2,Array.append_assoc]⟩
 .obtain⟨m,hn,hl⟩:=I.loc
  refine⟨m,ns m hn,λi x v e1 e2 e3=>?_⟩;obtain⟨u,r,l⟩:=hl i x v e1 e2 e3;refine⟨u,r, ?_⟩;rcases l with l|⟨k,c,e,z⟩
  .exact .inl l
  .exact .inr ⟨k,c,e,cellK x c e _ z⟩
 .obtain⟨v,z⟩:=I.cell x c e
  exact⟨v,cellK x c e v z⟩
 .obtain⟨m,⟨o,_,_,ho,_⟩,_⟩:=I.loc
  exact free _ o (λz=>(hch _ z).2.1 rfl) ho I.free
 .obtain⟨v,o,ho,hd⟩:=I.cell x c e
  exact free c o (λz=>(hch c z).2.2.1 x c e rfl) ho (I.lC x c e)
 .obtain⟨e,n,ne,nf,d⟩:=I.pin p hp
  have nch:p.1∉ch:=λz=>(hch p.1 z).2.2.2 p hp rfl;exact⟨keep p.1 p.2 ne nf nch e n,free p.1 p.2 nch e n,ne,nf,d⟩
theorem Inv.un{t':Nat}(I:Inv X pins σ H s)(u:Un X.fs [] H H' s.heap h')(hok:lK X.prog X.w H' h'):Inv X pins σ H' {s with heap:=h',toks:=t'}:=by
 obtain⟨m,⟨o,es,ep,ho,r⟩,_⟩:=id I.loc;obtain⟨sl,hL⟩:=u.any ho I.free (by simp)
 exact I.step (g':=s.gens) (d':=s.drawn) (ch:=[]) (λ_ z=>nomatch z) (λb o _ hb _ e n=>u.keep b o e n hb (by simp)) (λb o _ hb _ e n=>u.slot b o e n hb (by simp)) (λb o _ e n=>u.free b o e n (by simp)) (λb o _ e=>u.there b o e (by simp)) u.tups u.uw u.v9 (λm' hm=>by
  obtain⟨o',es',ep',ho',r'⟩:=hm;rw[ho] at ho';cases ho';exact⟨_,es',ep',hL,r'⟩) hok I.bare
theorem Inv.call{g':Array GenState}{t':Nat}{d':Drawn}{ch:List Addr}(I:Inv X pins σ H s)(u:Un (frs X.stack) ch H H' s.heap h')(hok:lK X.prog X.w H' h')(hg:AllBare g')(hch:∀b∈ch,(b∈X.ex\/X.s₀.heap.objs.size<=b)/\b≠X.env.locals/\(∀x c,X.env.cells.lookup x=some c->c≠b) /\ ∀p∈X.pn++pins,p.1≠b):
 Inv X pins σ H' {s with heap:=h',gens:=g',drawn:=d',toks:=t'}:=by
 obtain⟨m,⟨o,es,ep,ho,r⟩,_⟩:=id I.loc;obtain⟨sl,hL⟩:=u.any ho I.free λz=>(hch _ z).2.1 rfl
 exact I.step (ch:=ch) hch (λb o hL hb hc e n=>u.keep b o e n (λz=>(List.mem_cons.mp (I.wz b z)).elim hL hb) hc) (λb o _ _ hc e n=>u.any e n hc) (λb o hc e n=>u.free b o e n hc) (λb o hc e=>u.there b o e hc) u.tups u.uw u.v9 (λm' hm=>by
  obtain⟨o',es',ep',ho',r'⟩:=hm;rw[ho] at ho';cases ho';exact⟨_,es',ep',hL,r'⟩) hok hg
theorem Inv.turned{t':Nat}{it:Addr}(I:Inv X pins σ H s)(k:∀b o,b≠it->s.heap.get? b=some o->h'.get? b=some o)(hn:H it=none)(hL:it≠X.env.locals)(h1:it∈X.ex\/X.s₀.heap.objs.size<=it)(h2:∀x c,X.env.cells.lookup x=some c->c≠it)(h3:∀p∈X.pn++pins,p.1≠it):Inv X pins σ H {s with heap:=h',toks:=t'}:=by
 have ZC:∀b u,H b=some u->b≠it:=λb u e z=>by rw[z,hn] at e;cases e
 refine I.step (g':=s.gens) (d':=s.drawn) (ch:=[it]) (λb hb=>?_) (λb o _ _ hc e _=>k b o (λz=>hc (by simp[z])) e) (λb o _ _ hc e _=>⟨o.slots,k b o (λz=>hc (by simp[z])) e⟩) (λ_ _ _ _ n=>n)
  (λb o hc e=>⟨o,k b o (λz=>hc (by simp[z])) e⟩) (λ_ _ e=>e) (λ_ _ _ e=>e) (λb ps e=>⟨#[],by rw[e];simp⟩) (λm hm=>?_) (λb u e=>?_) I.bare
 .have e:b=it:=by simpa using hb
  subst e;exact⟨h1,hL,h2,h3⟩
 .obtain⟨o,es,ep,ho,r⟩:=hm
  exact⟨o,es,ep,k _ o (Ne.symm hL) ho,r⟩
 .refine(I.hok b u e).stay (λc v hc q=>k c v ?_ q) (λ_ q=>q) λ_ _ q=>q
  rcases hc with z|z
  .rw[z];exact ZC b u e
  .exact ZC c _ z
theorem Inv.tok(I:Inv X pins σ H s)(t:Nat):Inv X pins σ H {s with toks:=t}:=I.un (h':=s.heap) (t':=t) Un.refl I.hok
theorem Inv.kept{t':Nat}(I:Inv X pins σ H s)(k:∀b u,s.heap.get? b=some u->h'.get? b=some u):Inv X pins σ H {s with heap:=h',toks:=t'}:=I.un (Un.kept k) (I.hok.kept k)
theorem Inv.laid{a:Addr}{o:HO}{t':Nat}(I:Inv X pins σ H s)(k:∀b u,s.heap.get? b=some u->h'.get? b=some u)(hp:s.heap.objs.size<=a)(new:cW X.prog X.w (upd H a o) h' a o):
 Inv X pins σ (upd H a o) {s with heap:=h',toks:=t'}:=I.un (Un.laid k hp (I.hok.fresh hp)) (I.hok.laid k hp new)
theorem Inv.write{x e:Addr}{o:HO}{t':Nat}(I:Inv X pins σ H s)(mu:Mut (H x))(he:e=x\/H e=some (.own x))(k:∀b u,b≠e->s.heap.get? b=some u->h'.get? b=some u)(heo:∃u,h'.get? e=some u)(new:cW X.prog X.w (upd H x o) h' x o):Inv X pins σ (upd H x o) {s with heap:=h',toks:=t'}:=I.un (Un.write mu he k heo) (I.hok.write mu he k heo new)
theorem Inv.La{Lb:List (Addr×Obj)}(I:Inv X pins σ H s)(h:∀p∈Lb,s.heap.get? p.1=some p.2/\H p.1=none/\p.1≠X.env.locals/\p.1∉X.fs /\ ∀v,p.2.data ≠ .cell v):Inv X Lb σ H s:=
 ⟨I.ok,I.os,I.bare,I.base,I.loc,I.cell,I.free,I.lC,λp hp=>(aa1.mp hp).elim (λz=>I.pin p (List.mem_append_left _ z)) (h p),I.hok,I.len⟩
theorem FZ{N:List Str}(hN:N.Nodup){i j:Nat}{x:Str}(a:N[i]? = some x)(b:N[j]? = some x):i=j:=by
 obtain⟨h1,e1⟩:=aaf.mp a;obtain⟨h2,e2⟩:=aaf.mp b;exact(List.getElem_inj hN).mp (e1.trans e2.symm)
theorem zT{M:Model}{A:Around}{E:Value->Shared->Prop}{i:Nat}{x:Str}{v:V}{u:Value}{Q:Unit->Shared->Prop}(I:Inv X pins σ H s)(hN:X.N.Nodup)(hi:X.N[i]? = some x)(hx:Loc X.env.scope x)(r:RelV v u)(h:∀s',Inv X pins (σ.set i (some v)) H s'->(∃a,Heap.SameBut a s.heap s'.heap/\(a=X.env.locals\/X.env.cells.lookup x=some a))->Q () s')(hf:X.fn x=true\/X.env.scope.names.lookup x=some .local:=by first |exact .inl rfl|exact .inr rfl|assumption):wpAny M A (storeName X.env x u) Q E s:=by
 obtain⟨m,hn,hl⟩:=id I.loc;have hcls:(X.env.scope.kind == .class||(X.env.scope.kind == .module&&X.env.locals != X.env.globals))=false:=by rw[I.ok.kind];rfl
 have ai4:i<σ.length:=by rw[I.len];exact(aaf.mp hi).1
 have cne:=I.cne
 have tracked:∀{a:Addr}{h':Heap},(∃o,s.heap.get? a=some o/\H a=none)->Heap.SameBut a s.heap h'->lK X.prog X.w H h':=fun {a h'} ha hs b ob e=>by
  obtain⟨_,_,hfree⟩:=ha;refine(I.hok b ob e).stay (λc w' hc q=>(hs.2 c ?_).trans q) (λ_ q=>q) λ_ _ q=>q;rintro rfl;rcases hc with rfl|hc
  .rw[hfree] at e;cases e
  .rw[hfree] at hc;cases hc
 rcases hx with hk|hk
 .refine wpAny_storeName_local hk hn (λh' hn' hs=>?_) hcls
  obtain⟨oL,_,_,hoL,_⟩:=id hn;refine h _ ⟨I.ok,I.os,I.bare,⟨λb o e n hb hx=>?_,λb o e n hb hx=>?_,I.base.free,λb o e hx=>?_,I.base.tups,I.base.uw,I.base.v9⟩,⟨_,hn',λj y v' e1 e2 e3=>?_⟩,λy c e=>?_,I.free,I.lC,λp hp=>?_,tracked ⟨oL,hoL,I.free⟩ hs,by simpa using I.len⟩ ⟨_,hs,.inl rfl⟩
  .exact(hs.2 b (aaV (aaW (aal e) I.ok.above))).trans (I.base.keep b o e n hb hx)
  .obtain⟨sl,e1⟩:=I.base.slot b o e n hb hx
   exact⟨sl,(hs.2 b (aaV (aaW (aal e) I.ok.above))).trans e1⟩
  .obtain⟨o',e1⟩:=I.base.there b o e hx
   exact⟨o',(hs.2 b (aaV (aaW (aal e) I.ok.above))).trans e1⟩
  .by_cases hj:j=i
   .subst hj
    rw[hi] at e1;cases e1;rw[List.getElem?_set_self ai4] at e2;cases e2;exact⟨u,r,.inl ⟨hk,by simp⟩⟩
   .rw[List.getElem?_set_ne (Ne.symm hj)] at e2
    obtain⟨u',r',q⟩:=hl j y v' e1 e2 e3;refine⟨u',r', ?_⟩;rcases q with ⟨k,e⟩|⟨k,c,e,z⟩
    .refine .inl ⟨k, ?_⟩
     have:y≠x:=λe=>hj (FZ hN e1 (e▸hi));simp[this,e]
    .exact .inr ⟨k,c,e,z.sameBut hs (cne y c e)⟩
  .obtain⟨w',z⟩:=I.cell y c e
   exact⟨w',z.sameBut hs (cne y c e)⟩
  .obtain⟨e,n,ne,nf,d⟩:=I.pin p hp
   exact⟨(hs.2 p.1 ne).trans e,n,ne,nf,d⟩
 .have hfn:X.fn x=true:=by
   rcases hf with z|z
   .exact z
   .rw[z] at hk;cases hk
  obtain⟨c,hc⟩:=I.ok.has x (.inl hk);obtain⟨w',z⟩:=I.cell x c hc;refine wpAny_storeName_cell I.ok.kind hk hc z (λh' hc' hs=>?_);obtain⟨oc,hoc,agH⟩:=id z;refine h {s with heap:=h'} ⟨I.ok,I.os,I.bare,⟨λb o e n hb hx=>?_,λb o e n hb hx=>?_,I.base.free,λb o e hx=>?_,I.base.tups,I.base.uw,I.base.v9⟩,⟨m,hn.sameBut hs (Ne.symm (cne x c hc)),λj y v' e1 e2 e3=>?_⟩,λy c' e=>?_,I.free,I.lC,λp hp=>?_,tracked ⟨oc,hoc,I.lC x c hc⟩ hs,by simpa using I.len⟩ ⟨c,hs,.inr hc⟩
  .exact(hs.2 b (aaV (aaW (aal e) (I.ok.cab x c hfn hc)))).trans (I.base.keep b o e n hb hx)
  .obtain⟨sl,e1⟩:=I.base.slot b o e n hb hx
   exact⟨sl,(hs.2 b (aaV (aaW (aal e) (I.ok.cab x c hfn hc)))).trans e1⟩
  .obtain⟨o',e1⟩:=I.base.there b o e hx
   exact⟨o',(hs.2 b (aaV (aaW (aal e) (I.ok.cab x c hfn hc)))).trans e1⟩
  .by_cases hj:j=i
   .subst hj
    rw[hi] at e1;cases e1;rw[List.getElem?_set_self ai4] at e2;cases e2;exact⟨u,r,.inr ⟨.inl hk,c,hc,hc'⟩⟩
   .rw[List.getElem?_set_ne (Ne.symm hj)] at e2
    obtain⟨u',r',q⟩:=hl j y v' e1 e2 e3;refine⟨u',r', ?_⟩;rcases q with q|⟨k,c',e,z'⟩
    .exact .inl q
    .refine .inr ⟨k,c',e,z'.sameBut hs ?_⟩
     rintro rfl;exact hj (FZ hN e1 (I.ok.inj _ _ _ e hc▸hi))
  .by_cases hcc:c'=c
   .subst hcc;exact⟨_,hc'⟩
   .obtain⟨w2,z2⟩:=I.cell y c' e
    exact⟨w2,z2.sameBut hs hcc⟩
  .obtain⟨e,n,ne,nf,d⟩:=I.pin p hp
   refine⟨(hs.2 p.1 ?_).trans e,n,ne,nf,d⟩;intro q;rw[q,hoc] at e;have q':oc=p.2:=aaR e;exact d w' (by rw[←q'];exact agH)
theorem wj{M:Model}{A:Around}{E:Value->Shared->Prop}{i:Nat}{x:Str}{v:V}{u:Value}{Q:Unit->Shared->Prop}(I:Inv X pins σ H s)(hN:X.N.Nodup)(hi:X.N[i]? = some x)(hx:Loc X.env.scope x)(r:RelV v u)(h:∀s',Inv X pins (σ.set i (some v)) H s'->Q () s')(hf:X.fn x=true\/X.env.scope.names.lookup x=some .local:=by first |exact .inl rfl|exact .inr rfl|assumption):wpAny M A (storeName X.env x u) Q E s:=
 zT I hN hi hx r (λs' I' _=>h s' I') hf
theorem Inv.call'{s':Shared}{ch:List Addr}(I:Inv X pins σ H s)(ho:s'.os=s.os)(u:Un (frs X.stack) ch H H' s.heap s'.heap)(hok:lK X.prog X.w H' s'.heap)(hg:AllBare s'.gens)(hch:∀b∈ch,(b∈X.ex\/X.s₀.heap.objs.size<=b)/\b≠X.env.locals/\(∀x c,X.env.cells.lookup x=some c->c≠b) /\ ∀p∈X.pn++pins,p.1≠b):Inv X pins σ H' s':=by
 obtain⟨h',g',d',t',o'⟩:=s';have e:o'=s.os:=ho;subst e;exact I.call (g':=g') (t':=t') (d':=d') u hok hg hch
end
noncomputable abbrev XK:=Value->Option Addr->Hp->Prop
noncomputable abbrev St:=List (Option V)
noncomputable abbrev VK:=V->Hp->Prop
noncomputable abbrev TE:=St->Hp->VK->Prop
noncomputable abbrev TT:=St->Hp->(Bool->Hp->Prop)->Prop
noncomputable abbrev TA:=St->Hp->(List V->Hp->Prop)->Prop
structure Ends where
 nx:St->Hp->Prop
 rt:VK
 bk:St->Hp->Prop:=λ_ _=>False
 ct:St->Hp->Prop:=λ_ _=>False
noncomputable abbrev TS:=Ends->St->Hp->Prop
noncomputable def EP(X:Cx)(pins:List (Addr×Obj))(σ:St)(Q:VK)(u:Value)(s':Shared):Prop:=∃v H',Inv X pins σ H' s'/\RelV v u/\Q v H'
noncomputable def TP(X:Cx)(pins:List (Addr×Obj))(σ:St)(Q:Bool->Hp->Prop)(b:Bool)(s':Shared):Prop:=∃H',Inv X pins σ H' s'/\Q b H'
noncomputable def AP(X:Cx)(pins:List (Addr×Obj))(σ:St)(Q:List V->Hp->Prop)(us:List Value)(s':Shared):Prop:=∃vs H',Inv X pins σ H' s'/\Vals vs us/\Q vs H'
noncomputable def SP(X:Cx)(pins:List (Addr×Obj))(D:Ends)(f:Flow)(s':Shared):Prop:=
 match f with
 | .next=>∃σ' H',Inv X pins σ' H' s'/\D.nx σ' H'
 | .brk=>∃σ' H',Inv X pins σ' H' s'/\D.bk σ' H'
 | .cont=>∃σ' H',Inv X pins σ' H' s'/\D.ct σ' H'
 | .ret u=>∃v σ' H',Inv X pins σ' H' s'/\RelV v u/\D.rt v H'
noncomputable def PE(X:Cx)(e:Expr)(t:TE):Prop:=
 ∀(pins:List (Addr×Obj))(s:Shared)(σ:St)(H:Hp)(Q:VK),Inv X pins σ H s->t σ H Q->wpAny (model X.prog X.w) X.A (eval e X.env) (EP X pins σ Q) X.xe s
noncomputable def PT(X:Cx)(e:Expr)(t:TT):Prop:=
 ∀(pins:List (Addr×Obj))(s:Shared)(σ:St)(H:Hp)(Q:Bool->Hp->Prop),Inv X pins σ H s->t σ H Q->wpAny (model X.prog X.w) X.A (isTrue e X.env (eval e X.env)) (TP X pins σ Q) X.xe s
noncomputable def PW(X:Cx)(e:Expr)(t:TT):Prop:=
 ∀(whole:Sem Value)(pins:List (Addr×Obj))(s:Shared)(σ:St)(H:Hp)(Q:Bool->Hp->Prop),Inv X pins σ H s->t σ H Q->wpAny (model X.prog X.w) X.A (isTrue e X.env whole) (TP X pins σ Q) X.xe s
theorem PW.pt{X:Cx}{e:Expr}{t:TT}(h:PW X e t):PT X e t:=h _
noncomputable def PA(X:Cx)(es:List Expr)(t:TA):Prop:=
 ∀(pos:Pos)(pins:List (Addr×Obj))(s:Shared)(σ:St)(H:Hp)(Q:List V->Hp->Prop),Inv X pins σ H s->t σ H Q->wpAny (model X.prog X.w) X.A (spliced (backTo pos (starEach es X.env))) (AP X pins σ Q) X.xe s
noncomputable def PS(X:Cx)(st:Stmt)(t:TS):Prop:=
 ∀(pins:List (Addr×Obj))(s:Shared)(σ:St)(H:Hp)(D:Ends),Inv X pins σ H s->t D σ H->wpAny (model X.prog X.w) X.A (exec st X.env) (SP X pins D) X.xe s
noncomputable def J0(X:Cx)(st:List Stmt)(t:TS):Prop:=
 ∀(pins:List (Addr×Obj))(s:Shared)(σ:St)(H:Hp)(D:Ends),Inv X pins σ H s->t D σ H->wpAny (model X.prog X.w) X.A (execs st X.env) (SP X pins D) X.xe s
theorem cY{α:Type}{t:Sem α}{Q Q':α->Shared->Prop}{M:Model}{A:Around}{E:Value->Shared->Prop}{s:Shared}(h:wpAny M A t Q E s)(hQ:∀a s,Q a s->Q' a s):wpAny M A t Q' E s:=wpAny_mono h hQ λ_ _ x=>x
section
variable{X:Cx}
noncomputable def zy(i:Nat):TE:=λσ H Q=>∃v,σ[i]? = some (some v)/\Q v H
noncomputable def tC(v:V):TE:=λ_ H Q=>Q v H
theorem Zg{i:Nat}{x:Str}{pos:Pos}(hN:X.N[i]? = some x)(hv:Vis X.env.scope x)(hd:(x==("__debug__" :Str))=false:=by decide)(hcd:(x==("__classdict__" :Str))=false:=by decide):PE X (.Name x pos) (zy i):=by
 intro pins s σ H Q I h;obtain⟨v,e,h⟩:=h;obtain⟨m,hn,hl⟩:=I.loc;obtain⟨u,r,l⟩:=hl i x v hN e hv;have fin:EP X pins σ Q u s:=⟨v,H,I,r,h⟩;rcases l with ⟨hk,hm⟩|⟨hk,c,hc,hcell⟩
 .exact wpAny_Name (wpAny_loadName_local I.ok.kind hk hn hm fin) hd
 .rcases hk with hk|hk
  .exact wpAny_Name (wpAny_loadName_cell I.ok.kind hk hc hcell fin) hd
  .exact wpAny_Name (wpAny_loadName_free I.ok.kind hk hc hcell fin hcd) hd
theorem aA{i j pos}:PE X (.Constant (.int i) j pos) (tC (.int i)):=λ_ _ _ H _ I h=>wpAny_Constant_int ⟨.int i,H,I.tok _,⟨_,Z⟩,h⟩
theorem mR{b j pos}:PE X (.Constant (.bool b) j pos) (tC (.bl b)):=λ_ _ _ H _ I h=>Constant_bool ⟨.bl b,H,I,Z,h⟩
theorem jh{j pos}:PE X (.Constant .none j pos) (tC .non):=λ_ _ _ H _ I h=>Constant_none ⟨.non,H,I,Z,h⟩
theorem bD{x j pos}:PE X (.Constant (.str x) j pos) (tC (.str x)):=λ_ _ _ H _ I h=>Calls.Constant_str ⟨.str x,H,I.tok _,⟨_,Z⟩,h⟩
noncomputable def Gl(X:Cx)(x:Str):Prop:=X.env.kindOf x=some .globalImplicit
theorem jZ{E:Value->Shared->Prop}{pins:List (Addr×Obj)}{s:Shared}{σ:St}{H:Hp}{x:Str}{u:Value}{pos:Pos}{Q:Value->Shared->Prop}(I:Inv X pins σ H s)(hg:Gl X x)(hm:X.mg x=some u)(h:Q u s)(hd:(x==("__debug__" :Str))=false:=by decide):wpAny (model X.prog X.w) X.A (eval (.Name x pos) X.env) Q E s:=
 Calls.Name_function_global I.ok.kind hg (Calls.loadGlobal_global (by rw[I.ok.glob];exact I.mod.glob.keeps I.bk) hm h) hd
theorem qw{E:Value->Shared->Prop}{pins:List (Addr×Obj)}{s:Shared}{σ:St}{H:Hp}{x:Str}{u:Value}{pos:Pos}{Q:Value->Shared->Prop}(I:Inv X pins σ H s)(hg:Gl X x)(hm:X.mg x=none)(hv:bootBuiltins x=some u)(h:Q u s)(hn:x ≠ "__name__" :=by decide)(hd:(x==("__debug__" :Str))=false:=by decide):wpAny (model X.prog X.w) X.A (eval (.Name x pos) X.env) Q E s:=by
 obtain⟨mb,h1,h2⟩:=I.mod.blt;exact Calls.Name_function_global I.ok.kind hg (Calls.loadGlobal_builtin (by rw[I.ok.glob];exact I.mod.glob.keeps I.bk) hm (by rw[I.ok.blt];exact h1.keeps I.bk) ((h2 x hn).trans hv) h) hd
theorem mD{x:Str}{v:V}{u:Value}{pos:Pos}(hg:Gl X x)(hm:X.mg x=some u)(r:RelV v u)(hd:(x==("__debug__" :Str))=false:=by decide):PE X (.Name x pos) (tC v):=
 λ_ _ _ H _ I h=>jZ I hg hm ⟨v,H,I,r,h⟩ hd
theorem eE{x:Str}{v:V}{u:Value}{pos:Pos}(hg:Gl X x)(hm:X.mg x=none)(hv:bootBuiltins x=some u)(r:RelV v u)(hn:x ≠ "__name__" :=by decide)(hd:(x==("__debug__" :Str))=false:=by decide):PE X (.Name x pos) (tC v):=
 λ_ _ _ H _ I h=>qw I hg hm hv ⟨v,H,I,r,h⟩ hn hd
variable{a b:Expr}{ta tb:TE}{pos:Pos}
noncomputable def PC(X:Cx)(op:CmpOp)(a b:Expr)(t:TE):Prop:=
 ∀(pins:List (Addr×Obj))(s:Shared)(σ:St)(H:Hp)(Q:VK),Inv X pins σ H s->t σ H Q ->
  wpAny (model X.prog X.w) X.A (eval a X.env) (λv s₁=>wpAny (model X.prog X.w) X.A (eval b X.env) (λu s₂=>wpAny (model X.prog X.w) X.A (compareOp op v u) (EP X pins σ Q) X.xe s₂) X.xe s₁) X.xe s
theorem R6(b:Expr){op:CmpOp}(h:op ≠ .In)(h2:op ≠ .NotIn):behindInMarks op b=false:=by
 have e1:(op==CmpOp.In)=false:=by cases op<;>first |rfl|exact abZ rfl h
 have e2:(op==CmpOp.NotIn)=false:=by cases op<;>first |rfl|exact abZ rfl h2
 cases b<;>simp[behindInMarks,e1,e2]
noncomputable def tB(t:TE):TT:=λσ H Q=>t σ H λx H1=>∃c,x = .bl c/\Q c H1
theorem Y9{op:CmpOp}{t:TE}(h:PC X op a b t)(h1:behindInMarks op b=false:=by first |exact R6 _ (by decide) (by decide)|rfl):PT X (.Compare a [op] [b] pos) (tB t):=by
 intro pins s σ H Q I hw;refine wpAny_isTrue_Compare1 (cY (h pins s σ H _ I hw) λv s1 h1=>cY h1 λu s2 h2=>cY h2 λc s3 ⟨x,H1,I1,r1,q1⟩=>?_) h1;obtain⟨d,rfl,q⟩:=q1;cases r1;exact wpAny_truthy_bool ⟨H1,I1,q⟩
theorem eX{e:Expr}{t:TE}(h:PE X e t)(he:∀whole,isTrue e X.env whole=(do let v ←whole;standAt e.pos;holding [v] (truthy v)):=by intro _;rfl):PT X e (tB t):=by
 intro pins s σ H Q I hw;refine isTrue_plain (cY (h pins s σ H _ I hw) λv s1 ⟨x,H1,I1,r1,q1⟩=>?_) (he _);obtain⟨d,rfl,q⟩:=q1;cases r1;exact wpAny_truthy_bool ⟨H1,I1,q⟩
variable{tA tB':TT}{rest:List Expr}
noncomputable def aeS(t u:TT):TT:=λσ H Q=>t σ H λc H1=>if c=true then u σ H1 Q else Q false H1
noncomputable def tOr(t u:TT):TT:=λσ H Q=>t σ H λc H1=>if c=true then Q true H1 else u σ H1 Q
noncomputable def aeL(t:TT):TT:=λσ H Q=>t σ H λc H1=>Q (!c) H1
theorem qW(ha:PT X a tA):PW X (.BoolOp .And [a] pos) tA:=by
 intro wh pins s σ H Q I h;refine isTrue_and (cY (ha pins s σ H Q I h) λc s1 e=>?_);cases c with
 | true=>exact isTrue_and_nil e
 | false=>exact e
theorem jJ(ha:PT X a tA):PW X (.BoolOp .Or [a] pos) tA:=by
 intro wh pins s σ H Q I h;refine isTrue_or (cY (ha pins s σ H Q I h) λc s1 e=>?_);cases c with
 | false=>exact isTrue_or_nil e
 | true=>exact e
theorem xG(ha:PT X a tA)(hb:PW X (.BoolOp .And (b::rest) pos) tB'):PW X (.BoolOp .And (a::b::rest) pos) (aeS tA tB'):=by
 intro wh pins s σ H Q I h;refine isTrue_and (cY (ha pins s σ H _ I h) λc s1 ⟨H1,I1,q1⟩=>?_);cases c with
 | true=>exact hb wh pins s1 σ H1 Q I1 q1
 | false=>exact⟨H1,I1,q1⟩
theorem lu(ha:PT X a tA)(hb:PW X (.BoolOp .Or (b::rest) pos) tB'):PW X (.BoolOp .Or (a::b::rest) pos) (tOr tA tB'):=by
 intro wh pins s σ H Q I h;refine isTrue_or (cY (ha pins s σ H _ I h) λc s1 ⟨H1,I1,q1⟩=>?_);cases c with
 | true=>exact⟨H1,I1,q1⟩
 | false=>exact hb wh pins s1 σ H1 Q I1 q1
theorem iI(ha:PT X a tA):PT X (.UnaryOp .Not a pos) (aeL tA):=by
 intro pins s σ H Q I h;exact isTrue_not (ha pins s σ H (λc H1=>Q (!c) H1) I h)
noncomputable def abB(ta tb:TE):TE:=λσ H Q=>ta σ H λx H1=>∃c,x = .bl c/\if c=true then tb σ H1 Q else Q (.bl false) H1
noncomputable def abr(ta tb:TE):TE:=λσ H Q=>ta σ H λx H1=>∃c,x = .bl c/\if c=true then Q (.bl true) H1 else tb σ H1 Q
noncomputable def abt(ta:TE):TE:=λσ H Q=>ta σ H λx H1=>∃c,x = .bl c/\Q (.bl (!c)) H1
theorem nO{op}{t:TE}(h:PE X a t):PE X (.BoolOp op [a] pos) t:=λpins s σ H Q I hw=>BoolOp_one (h pins s σ H Q I hw)
theorem ql(ha:PE X a ta)(hb:PE X (.BoolOp .And (b::rest) pos) tb):PE X (.BoolOp .And (a::b::rest) pos) (abB ta tb):=by
 intro pins s σ H Q I h;refine BoolOp_and (cY (ha pins s σ H _ I h) λv s1 gW=>?_);obtain⟨x,H1,I1,r1,q1⟩:=gW;obtain⟨c,rfl,q1⟩:=q1;cases r1;refine wpAny_truthy_bool ?_;cases c with
 | true=>exact hb pins s1 σ H1 Q I1 q1
 | false=>exact⟨.bl false,H1,I1,Z,q1⟩
theorem Rg(ha:PE X a ta)(hb:PE X (.BoolOp .Or (b::rest) pos) tb):PE X (.BoolOp .Or (a::b::rest) pos) (abr ta tb):=by
 intro pins s σ H Q I h;refine BoolOp_or (cY (ha pins s σ H _ I h) λv s1 gW=>?_);obtain⟨x,H1,I1,r1,q1⟩:=gW;obtain⟨c,rfl,q1⟩:=q1;cases r1;refine wpAny_truthy_bool ?_;cases c with
 | false=>exact hb pins s1 σ H1 Q I1 q1
 | true=>exact⟨.bl true,H1,I1,Z,q1⟩
theorem Rh(ha:PE X a ta):PE X (.UnaryOp .Not a pos) (abt ta):=by
 intro pins s σ H Q I h;refine UnaryOp_ (cY (ha pins s σ H _ I h) λv s1 gW=>?_);obtain⟨x,H1,I1,r1,q1⟩:=gW;obtain⟨c,rfl,q1⟩:=q1;cases r1;exact not_of (wpAny_truthy_bool ⟨.bl (!c),H1,I1,Z,q1⟩)
noncomputable def tIf(t:TT)(ta tb:TE):TE:=λσ H Q=>t σ H λc H1=>if c=true then ta σ H1 Q else tb σ H1 Q
theorem jK{c:Expr}(hc:PT X c tA)(ha:PE X a ta)(hb:PE X b tb):PE X (.IfExp c a b pos) (tIf tA ta tb):=by
 intro pins s σ H Q I h;refine wpAny_IfExp (cY (hc pins s σ H _ I h) λd s1 ⟨H1,I1,q1⟩=>?_);cases d with
 | true=>exact ha pins s1 σ H1 Q I1 q1
 | false=>exact hb pins s1 σ H1 Q I1 q1
end
noncomputable def bB(K:PySem.W.Frag)(H:Hp)(a:Addr)(xs:List V):Prop:=
 Rd H a (.lst xs) \/
  ∃(o:Obj) (its:Array Value) (n:Nat),K.lookup a=some o/\o.cls = .type "list" /\ o.dict=none/\o.data = .seq its n/\its.size<=sizeLine/\Vals xs its.toList
noncomputable def bO(K:PySem.W.Frag)(H:Hp)(a:Addr)(xs:List V):Prop:=
 Rd H a (.tup xs) \/
  ∃(o:Obj) (its:Array Value) (n:Nat),K.lookup a=some o/\o.cls = .type "tuple" /\ o.data = .seq its n/\its.size<=sizeLine/\Vals xs its.toList
noncomputable def ahz:Value->Option V
 | .none=>some .non
 | .bool b=>some (.bl b)
 | .int i _=>some (.int i)
 | .str x _=>some (.str x)
 | .bytes b _=>some (.JK b)
 | .float b _=>some (.flt b)
 | .ref a=>some (.ref a)
 | .type n=>some (.ty n)
 | _=>none
theorem RelV.abs{x:V}{u:Value}(r:RelV x u):ahz u=some x:=by
 cases x with
 | non=>cases r;rfl
 | bl _=>cases r;rfl
 | int _=>obtain⟨t,rfl⟩:=r;rfl
 | str _=>obtain⟨t,rfl⟩:=r;rfl
 | JK _=>obtain⟨t,rfl⟩:=r;rfl
 | flt _=>obtain⟨t,rfl⟩:=r;rfl
 | ref _=>cases r;rfl
 | ty _=>cases r;rfl
theorem RelV.inj{x y:V}{u:Value}(r:RelV x u)(q:RelV y u):x=y:=aaR (r.abs.symm.trans q.abs)
theorem Vals.inj{xs ys:List V}{us:List Value}(h:Vals xs us)(h':Vals ys us):xs=ys:=by
 induction h generalizing ys with
 | nil=>cases h';rfl
 | cons r t ih=>cases h' with
   | cons r' t'=>rw[r.inj r',ih t']
section
variable{X:Cx}{pins:List (Addr×Obj)}{σ:St}{H:Hp}{s:Shared}{a:Addr}{xs ys:List V}
theorem bB.of{K:PySem.W.Frag}(h:H a=some (.lst xs)):bB K H a xs:= .inl (.inl h)
theorem bO.of{K:PySem.W.Frag}(h:H a=some (.tup xs)):bO K H a xs:= .inl (.inl h)
theorem Inv.list(I:Inv X pins σ H s)(h:bB X.K H a xs):∃its:List Value,Vals xs its/\PlainL s.heap a its.toArray/\xs.length<=sizeLine:=by
 rcases h with h|⟨o,its,n,hk,hc,hd,hs,hz,r⟩
 .obtain⟨z,its,n,r,e⟩:=h.ok I.hok
  exact⟨its,r,⟨_,n,e,Z,Z,Z⟩,z⟩
 .refine⟨its.toList,r,⟨o,n,I.mH a o hk,hc,hd,by simpa using hs⟩, ?_⟩
  have e:=r.length;simp only[aaK] at e;lia
theorem Inv.tuple(I:Inv X pins σ H s)(h:bO X.K H a xs):∃its:List Value,Vals xs its/\IsTup s.heap a its.toArray/\xs.length<=sizeLine:=by
 rcases h with h|⟨o,its,n,hk,hc,hs,hz,r⟩
 .obtain⟨z,its,r,p⟩:=h.ok I.hok
  exact⟨its,r,p,z⟩
 .refine⟨its.toList,r,⟨o,I.mH a o hk,hc,n,by simpa using hs⟩, ?_⟩
  have e:=r.length;simp only[aaK] at e;lia
theorem Inv.rm(I:Inv X pins σ H s)(h:bB X.K H a xs)(h':bB X.K H a ys):xs=ys:=by
 obtain⟨its,r,⟨o,n,e,_,_,d⟩,_⟩:=I.list h;obtain⟨its',r',⟨o',n',e',_,_,d'⟩,_⟩:=I.list h';rw[e] at e';cases e';rw[d] at d';injection d' with d1 _
 have:its=its':=by simpa using congrArg Array.toList d1
 subst this;exact r.inj r'
theorem Inv.Ng(I:Inv X pins σ H s)(h:bO X.K H a xs)(h':bO X.K H a ys):xs=ys:=by
 obtain⟨its,r,⟨o,e,_,n,d⟩,_⟩:=I.tuple h;obtain⟨its',r',⟨o',e',_,n',d'⟩,_⟩:=I.tuple h';rw[e] at e';cases e';rw[d] at d';injection d' with d1 _
 have:its=its':=by simpa using congrArg Array.toList d1
 subst this;exact r.inj r'
end
noncomputable abbrev Cx.wish(X:Cx)(E:Value->Shared->Prop):Cx:={X with xe:=E}
noncomputable abbrev Cx.nox(X:Cx):Cx:=X.wish λ_ _=>False
theorem Cx.Ok.wish{X:Cx}(ok:X.Ok)(E:Value->Shared->Prop):(X.wish E).Ok:=
 ⟨ok.mod,ok.kind,ok.glob,ok.blt,ok.above,ok.inj,ok.has,ok.cab,ok.hd,ok.frames,ok.stk,ok.exf,ok.bs,ok.W_,ok.RZ,ok.Ww,ok.ur,ok.Z8⟩
theorem Cx.Ok.m9{X:Cx}{E:Value->Shared->Prop}(ok:(X.wish E).Ok):X.Ok:=
 ⟨ok.mod,ok.kind,ok.glob,ok.blt,ok.above,ok.inj,ok.has,ok.cab,ok.hd,ok.frames,ok.stk,ok.exf,ok.bs,ok.W_,ok.RZ,ok.Ww,ok.ur,ok.Z8⟩
section
variable{X:Cx}{pins:List (Addr×Obj)}{σ:St}{H:Hp}{s:Shared}{E:Value->Shared->Prop}
theorem Inv.wish(I:Inv X pins σ H s)(E:Value->Shared->Prop):Inv (X.wish E) pins σ H s:=⟨I.ok.wish E,I.os,I.bare,I.base,I.loc,I.cell,I.free,I.lC,I.pin,I.hok,I.len⟩
theorem Inv.m9(I:Inv (X.wish E) pins σ H s):Inv X pins σ H s:=⟨I.ok.m9,I.os,I.bare,I.base,I.loc,I.cell,I.free,I.lC,I.pin,I.hok,I.len⟩
theorem SP.m9{D:Ends}{f:Flow}{s':Shared}(h:SP (X.wish E) pins D f s'):SP X pins D f s':=by
 cases f with
 | next=>obtain⟨σ',H',I,q⟩:=h;exact⟨σ',H',I.m9,q⟩
 | brk=>obtain⟨σ',H',I,q⟩:=h;exact⟨σ',H',I.m9,q⟩
 | cont=>obtain⟨σ',H',I,q⟩:=h;exact⟨σ',H',I.m9,q⟩
 | ret u=>obtain⟨v,σ',H',I,r,q⟩:=h;exact⟨v,σ',H',I.m9,r,q⟩
theorem J0.nox{st:List Stmt}{t:TS}(h:J0 X.nox st t):J0 X st t:=λpins s σ H D I hw=>
 wpAny_mono (h pins s σ H D (I.wish _) hw) (λ_ _ q=>q.m9) λ_ _ z=>False.elim z
end
section
variable{X:Cx}{st:Stmt}{rest:List Stmt}{t u:TS}{e:Expr}{te:TE}{pos:Pos}
noncomputable def Xq:TS:=λD σ H=>D.nx σ H
noncomputable def Qu(t u:TS):TS:=λD σ H=>t {D with nx:=u D} σ H
theorem bw:J0 X [] Xq:=λ_ _ σ H _ I h=>wpAny_execs_nil ⟨σ,H,I,h⟩
theorem ao(h1:PS X st t)(h2:J0 X rest u):J0 X (st::rest) (Qu t u):=by
 intro pins s σ H D I h;refine wpAny_execs_cons (cY (h1 pins s σ H {D with nx:=u D} I h) λf s1 q=>?_);cases f with
 | next=>
   obtain⟨σ',H',I',q⟩:=q;exact h2 pins s1 σ' H' D I' q
 | ret v=>exact q
 | brk=>exact q
 | cont=>exact q
theorem aG(h1:PS X st t):J0 X [st] t:=by
 intro pins s σ H D I h;refine wpAny_execs_cons (cY (h1 pins s σ H D I h) λf s1 q=>?_);cases f with
 | next=>exact wpAny_execs_nil q
 | ret v=>exact q
 | brk=>exact q
 | cont=>exact q
theorem Inv.quiet{pins:List (Addr×Obj)}{σ:St}{H:Hp}{s:Shared}(I:Inv X pins σ H s):interactive X.env=false:=by simp[interactive,I.ok.kind]
noncomputable def aby(te:TE):TS:=λD σ H=>te σ H λ_ H1=>D.nx σ H1
theorem cF(he:PE X e te)(hs:swapsWith e none pos.line X.env=pure false:=by rfl):PS X (.Expr e pos) (aby te):=by
 intro pins s σ H D I h;exact wpAny_Expr_any (cY (he pins s σ H _ I h) λv s1 ⟨x,H1,I1,r1,q1⟩=>⟨σ,H1,I1,q1⟩) I.quiet hs
noncomputable def Yx(te:TE):TS:=λD σ H=>te σ H D.rt
theorem aU(he:PE X e te):PS X (.Return (some e) pos) (Yx te):=by
 intro pins s σ H D I h;exact wpAny_Return_some (cY (he pins s σ H _ I h) λv s1 ⟨x,H1,I1,r1,q1⟩=>⟨x,σ,H1,I1,r1,q1⟩)
noncomputable def abp:TS:=λD _ H=>D.rt .non H
theorem Vp:PS X (.Return none pos) abp:=λ_ _ σ H _ I h=>wpAny_Return_none ⟨.non,σ,H,I,Z,h⟩
noncomputable def abw(c:TT)(t u:TS):TS:=λD σ H=>c σ H λb H1=>if b=true then t D σ H1 else u D σ H1
theorem cj{c:Expr}{a b:List Stmt}{tc:TT}(hc:PT X c tc)(ha:J0 X a t)(hb:J0 X b u):PS X (.If c a b pos) (abw tc t u):=by
 intro pins s σ H D I h;refine wpAny_If (cY (hc pins s σ H _ I h) λd s1 ⟨H1,I1,q1⟩=>?_);cases d with
 | true=>exact ha pins s1 σ H1 D I1 q1
 | false=>exact hb pins s1 σ H1 D I1 q1
end
noncomputable abbrev TG:=V->St->Hp->(St->Hp->Prop)->Prop
noncomputable abbrev Yh:=List V->St->Hp->(St->Hp->Prop)->Prop
noncomputable def PG(X:Cx)(target:Expr)(t:TG):Prop:=
 ∀(pins:List (Addr×Obj))(s:Shared)(σ:St)(H:Hp)(v:V)(u:Value)(Q:St->Hp->Prop),Inv X pins σ H s->RelV v u->t v σ H Q ->
  wpAny (model X.prog X.w) X.A (assign target X.env u) (λ_ s'=>∃σ' H',Inv X pins σ' H' s'/\Q σ' H') X.xe s
noncomputable def PGs(X:Cx)(ts:List Expr)(t:Yh):Prop:=
 ∀(pins:List (Addr×Obj))(s:Shared)(σ:St)(H:Hp)(vs:List V)(us:List Value)(Q:St->Hp->Prop),Inv X pins σ H s->Vals vs us->t vs σ H Q ->
  wpAny (model X.prog X.w) X.A (assignInOrder ((assignEach ts X.env).map (·.2)) us) (λ_ s'=>∃σ' H',Inv X pins σ' H' s'/\Q σ' H') X.xe s
noncomputable abbrev aax:=V->V->V->Hp->(Hp->Prop)->Prop
noncomputable def ac7(X:Cx)(t:aax):Prop:=
 ∀(pins:List (Addr×Obj))(s:Shared)(σ:St)(H:Hp)(o i v:V)(ov iv u:Value)(Q:Hp->Prop),Inv X pins σ H s->RelV o ov->RelV i iv->RelV v u->t o i v H Q ->
  wpAny (model X.prog X.w) X.A (setItem ov iv u) (λ_ s'=>∃H',Inv X pins σ H' s'/\Q H') X.xe s
noncomputable abbrev TIp:=V->V->Hp->VK->Prop
noncomputable def PIp(X:Cx)(op:Operator)(t:TIp):Prop:=
 ∀(pins:List (Addr×Obj))(s:Shared)(σ:St)(H:Hp)(x y:V)(v u:Value)(Q:VK),Inv X pins σ H s->RelV x v->RelV y u->t x y H Q ->
  wpAny (model X.prog X.w) X.A (inplaceOp op v u) (EP X pins σ Q) X.xe s
section
variable{X:Cx}{pos:Pos}
noncomputable def gR(i:Nat):TG:=λv σ H Q=>Q (σ.set i (some v)) H
theorem aZ{i:Nat}{x:Str}(hN:X.N.Nodup)(hi:X.N[i]? = some x)(hx:Loc X.env.scope x)(hf:X.fn x=true\/X.env.scope.names.lookup x=some .local:=by first |exact .inl rfl|exact .inr rfl|assumption):PG X (.Name x pos) (gR i):=by
 intro pins s σ H v u Q I r h;exact wpAny_assign_Name (wj I hN hi hx r (λs' I'=>⟨_,H,I',h⟩) hf)
noncomputable def acP:Yh:=λvs σ H Q=>vs=[]/\Q σ H
noncomputable def Td(t:TG)(u:Yh):Yh:=λvs σ H Q=>∃v r,vs=v::r/\t v σ H λσ' H'=>u r σ' H' Q
theorem jW:PGs X [] acP:=by
 intro pins s σ H vs us Q I r h;obtain⟨e,h⟩:=h;subst e;cases r;exact assignInOrder_nil ⟨σ,H,I,h⟩
theorem cQ{e:Expr}{es:List Expr}{t:TG}{u:Yh}(h1:PG X e t)(h2:PGs X es u)(hs:(assignEach (e::es) X.env).map (·.2)=assign e X.env::(assignEach es X.env).map (·.2):=by rfl):PGs X (e::es) (Td t u):=by
 intro pins s σ H vs us Q I r h;obtain⟨v,vr,e1,h⟩:=h;subst e1;cases r with
 | cons r rr=>
   rw[hs];refine assignInOrder_cons (cY (h1 pins s σ H _ _ _ I r h) λ_ s1 gW=>?_);obtain⟨σ1,H1,I1,q1⟩:=gW;exact h2 pins s1 σ1 H1 _ _ Q I1 rr q1
noncomputable def Z6(K:PySem.W.Frag)(n:Nat)(t:Yh):TG:=λv σ H Q=>∃a xs,v = .ref a/\bO K H a xs/\xs.length=n/\t xs σ H Q
theorem Zf{es:List Expr}{k:Nat}{t:Yh}{n:Nat}(hc:X.calm=true)(h:PGs X es t)(hn:(assignEach es X.env).length=n:=by rfl)(hst:(assignEach es X.env).findIdx? (·.1)=none:=by rfl):PG X (.Tuple es k pos) (Z6 X.K n t):=by
 intro pins s σ H v u Q I r hw;obtain⟨a,xs,e1,hq,hl,hw⟩:=hw;subst e1;cases r;obtain⟨its,rv,ht,hz⟩:=I.tuple hq;refine assign_Tuple_tuple (I.ok.hd hc) ht (by simp[hn,←hl,rv.length]) hst λh' hx=>?_;have I1:Inv X pins σ H {s with heap:=h'}:=I.kept (t':=s.toks) λb o e=>hx b o (aaV (aal e)) e;exact h pins _ σ H xs _ Q I1 (by simpa using rv) hw
noncomputable def agX(to ti:TE)(t:aax):TG:=λv σ H Q=>to σ H λo H1=>ti σ H1 λi H2=>t o i v H2 λH3=>Q σ H3
theorem jg{o i:Expr}{to ti:TE}{t:aax}(ho:PE X o to)(hi:PE X i ti)(hs:ac7 X t)(ha:∀v,assign (.Subscript o i pos) X.env v=(do
   let ov ←holding [v] (eval o X.env)
   let iv ←holding [v,ov] (eval i X.env)
   standAt pos
   holding [v,ov,iv] (setItem ov iv v)
   release [v,ov,iv] []):=by intro _;rfl):PG X (.Subscript o i pos) (agX to ti t):=by
 intro pins s σ H v u Q I r h;rw[ha];refine aay (wpAny_holding (cY (ho pins s σ H _ I h) λov s1 gW=>?_));obtain⟨x,H1,I1,r1,q1⟩:=gW;refine aay (wpAny_holding (cY (hi pins s1 σ H1 _ I1 q1) λiv s2 gW=>?_));obtain⟨y,H2,I2,r2,q2⟩:=gW;refine aay (wpAny_standAt (aay (wpAny_holding (cY (hs pins s2 σ H2 x y v ov iv u _ I2 r1 r2 r q2) λ_ s3 ⟨H3,I3,q3⟩=>?_))));exact wpAny_release ⟨σ,H3,I3,q3⟩
noncomputable def Vd(te:TE)(g:TG):TS:=λD σ H=>te σ H λx H1=>g x σ H1 D.nx
theorem g8{tg e:Expr}{te:TE}{g:TG}(he:PE X e te)(hg:PG X tg g)(hs:swapsWithSole [tg] e pos.line X.env=pure false:=by rfl)(hw:swappedStores [tg] e X.env=pure none:=by rfl)(h1:(assignEach [tg] X.env).map (·.2)=[assign tg X.env]:=by rfl):PS X (.Assign [tg] e pos) (Vd te g):=by
 intro pins s σ H D I h;refine wpAny_Assign_stores (cY (he pins s σ H _ I h) λv s1 ⟨x,H1,I1,r1,q1⟩=>?_) hs hw;rw[h1];exact cY (hg pins s1 σ H1 x v _ I1 r1 q1) λ_ s2 q=>q
theorem aQ{i:Nat}{x:Str}{e:Expr}{te:TE}{pos':Pos}(hN:X.N.Nodup)(hi:X.N[i]? = some x)(hx:Loc X.env.scope x)(he:PE X e te)(hs:swapsWith e (some (.Name x pos')) pos.line X.env=pure false:=by rfl)(hf:X.fn x=true\/X.env.scope.names.lookup x=some .local:=by first |exact .inl rfl|exact .inr rfl|assumption):
 PS X (.Assign [.Name x pos'] e pos) (Vd te (gR i)):=by
 intro pins s σ H D I h;refine wpAny_Assign_Name (cY (he pins s σ H _ I h) λv s1 ⟨y,H1,I1,r1,q1⟩=>?_) hs;exact wj I1 hN hi hx r1 (λs2 I2=>⟨_,H1,I2,q1⟩) hf
noncomputable def aeR(i:Nat)(te:TE)(ti:TIp):TS:=λD σ H=>∃x,σ[i]? = some (some x)/\te σ H λy H1=>ti x y H1 λz H2=>D.nx (σ.set i (some z)) H2
theorem Za{i:Nat}{x:Str}{e:Expr}{te:TE}{op:Operator}{ti:TIp}{pos':Pos}(hN:X.N.Nodup)(hi:X.N[i]? = some x)(hx:Loc X.env.scope x)(he:PE X e te)(ho:PIp X op ti)(hf:X.fn x=true\/X.env.scope.names.lookup x=some .local:=by first |exact .inl rfl|exact .inr rfl|assumption):
 PS X (.AugAssign (.Name x pos') op e pos) (aeR i te ti):=by
 intro pins s σ H D I h;obtain⟨v,e1,h⟩:=h;obtain⟨m,hn,hl⟩:=I.loc;have vis:Vis X.env.scope x:=by rcases hx with k|k;exact .inl k;exact .inr (.inl k)
 obtain⟨u,r,l⟩:=hl i x v hi e1 vis;refine wpAny_AugAssign_Name ?_
 have go:wpAny (model X.prog X.w) X.A (eval e X.env) (λw s₂=>wpAny (model X.prog X.w) X.A (inplaceOp op u w) (λr s₃=>wpAny (model X.prog X.w) X.A (storeName X.env x r) (λ_=>SP X pins D .next) X.xe s₃) X.xe s₂) X.xe s:=by
  refine cY (he pins s σ H _ I h) λw s1 gW=>?_;obtain⟨y,H1,I1,r1,q1⟩:=gW;refine cY (ho pins s1 σ H1 v y u w _ I1 r r1 q1) λz s2 gW=>?_;obtain⟨zv,H2,I2,r2,q2⟩:=gW;exact wj I2 hN hi hx r2 (λs3 I3=>⟨_,H2,I3,q2⟩) hf
 rcases l with ⟨hk,hm⟩|⟨hk,c,hc,hcell⟩
 .exact wpAny_loadName_local I.ok.kind hk hn hm go
 .rcases hk with hk|hk
  .exact wpAny_loadName_cell I.ok.kind hk hc hcell go
  .rcases hx with k|k
   .have:X.env.scope.names.lookup x=some .free:=hk
    rw[k] at this;cases this
   .have:X.env.scope.names.lookup x=some .free:=hk
    rw[k] at this;cases this
noncomputable def ipI(f:Int->Int->Int):TIp:=λx y H Q=>∃i j,x = .int i/\y = .int j/\Q (.int (f i j)) H
theorem Jl:PIp X .Add (ipI λi j=>i+j):=by
 intro pins s σ H x y v u Q I r1 r2 h;obtain⟨i,j,e1,e2,q⟩:=h;subst e1;subst e2;obtain⟨t,rfl⟩:=r1;obtain⟨t',rfl⟩:=r2;exact iadd_int ⟨.int _,H,I.tok _,⟨_,Z⟩,q⟩
end
section
variable{X:Cx}{pos:Pos}
noncomputable def Yw(c:TT)(tb:TS):TS:=λD σ H=>∃W:Nat->St->Hp->Prop,(∃m,W m σ H) /\ ∀m σ H,W m σ H ->
 c σ H λb H1=>if b=true then ∃N:St->Hp->Prop,(∀σ' H',N σ' H' -> ∃m',m'<m/\W m' σ' H')/\tb {D with nx:=N,ct:=N,bk:=D.nx} σ H1 else D.nx σ H1
theorem Rb{c:Expr}{body:List Stmt}{tc:TT}{tb:TS}(hp:PassesOwn (model X.prog X.w) X.A X.env X.xe)(hc:PT X c tc)(hb:J0 X body tb):PS X (.While c body [] pos) (Yw tc tb):=by
 intro pins s σ H D I h;obtain⟨W,⟨m0,w0⟩,turn⟩:=h;refine wpAny_While (codeAny_whileLoop (λn s'=>∃σ' H',Inv X pins σ' H' s'/\W n σ' H') ?_ m0 ⟨σ,H,I,w0⟩);rintro n s1 ⟨σ1,H1,I1,w1⟩;refine wpAny_passesOwn hp (cY (hc pins s1 σ1 H1 _ I1 (turn n σ1 H1 w1)) λb s2 ⟨H2,I2,q2⟩=>?_);cases b with
 | true=>
   obtain⟨N,hN,q2⟩:=q2;rw[abW rfl];refine wpAny_passesOwn hp (cY (hb pins s2 σ1 H2 _ I2 q2) λf s3 q3=>?_);cases f with
   | next=>
     obtain⟨σ3,H3,I3,n3⟩:=q3;obtain⟨m',hm,w3⟩:=hN σ3 H3 n3;exact⟨m',hm,σ3,H3,I3,w3⟩
   | cont=>
     obtain⟨σ3,H3,I3,n3⟩:=q3;obtain⟨m',hm,w3⟩:=hN σ3 H3 n3;exact⟨m',hm,σ3,H3,I3,w3⟩
   | brk=>exact q3
   | ret v=>exact q3
 | false=>
   rw[abN aaP];exact wpAny_execs_nil ⟨σ1,H2,I2,q2⟩
end
structure It where
 go:Nat->Hp->Prop
 UL:Nat->Hp->V->Hp->Prop
 stop:Nat->Hp->Prop
noncomputable def pI(X:Cx)(pins:List (Addr×Obj))(H:Hp)(b:Addr):Prop:=
 H b=none/\b≠X.env.locals/\b∉X.fs/\(b∈X.ex\/X.s₀.heap.objs.size<=b)/\(∀x c,X.env.cells.lookup x=some c->c≠b) /\ ∀p∈X.pn++pins,p.1≠b
theorem Inv.vo{X:Cx}{pins:List (Addr×Obj)}{σ:St}{H H':Hp}{s:Shared}{b:Addr}(I:Inv X pins σ H s)(hb:s.heap.objs.size<=b)(hn:H' b=none):pI X pins H' b:=by
 refine⟨hn,Nat.ne_of_gt (aaW I.lt hb),I.af3 hb,.inr (abG I.sz hb),λx c e z=>?_,λp hp z=>?_⟩
 .obtain⟨v,q⟩:=I.cell x c e
  exact abZ (aaW q.lt (by rw[z];exact hb)) (abF _)
 .exact abZ (aaW (aal (I.pin p hp).1) (by rw[z];exact hb)) (abF _)
structure Turn(P:Program)(w:World)(K:PySem.W.Frag)(tg:Expr)(J:It)(fp:List Addr)(it:Addr)(tn:Nat->Heap->Prop):Prop where
 mem:it∈fp
 obj:∀i h,tn i h -> ∀b∈fp,∃o,h.get? b=some o /\ ∀v,o.data ≠ .cell v
 keep:∀i h h',tn i h->(∀b∈fp,∀o,h.get? b=some o->h'.get? b=some o)->tn i h'
 item:∀(X:Cx),X.prog=P->X.w=w->X.K=K->X.calm=true -> ∀(i:Nat)(pins:List (Addr×Obj))(s:Shared)(σ:St)(H:Hp)(E:Value->Shared->Prop),Inv X pins σ H s->(∀b∈fp,pI X pins H b)->tn i s.heap->J.go i H ->
  wpAny (model P w) X.A (pyNext (.ref it)) (λr s1=>∃u,r=some u /\
   wpAny (model P w) X.A (letOwnedTupleGo tg (.ref it) u) (λ_ s2=>∃x H',Inv X pins σ H' s2/\RelV x u/\J.UL i H x H'/\tn (i+1) s2.heap /\ ∀b∈fp,H' b=none) E s1) E s
 done:∀(X:Cx),X.prog=P->X.w=w->X.K=K->X.calm=true -> ∀(i:Nat)(pins:List (Addr×Obj))(s:Shared)(σ:St)(H:Hp)(E:Value->Shared->Prop),Inv X pins σ H s->(∀b∈fp,pI X pins H b)->tn i s.heap->J.stop i H ->
  wpAny (model P w) X.A (pyNext (.ref it)) (λr s1=>r=none/\Inv X pins σ H s1) E s
 self:∀(A:Around)(i:Nat)(s:Shared)(Q:Value->Shared->Prop)(E:Value->Shared->Prop),tn i s.heap->Q (.ref it) s->wpAny (model P w) A (pyIter (.ref it)) Q E s
noncomputable abbrev TI:=St->Hp->(It->Hp->Prop)->Prop
noncomputable def PIE(X:Cx)(pins:List (Addr×Obj))(σ:St)(tg:Expr)(R:It->Hp->Prop)(itv:Value)(s2:Shared):Prop:=
 ∃(it:Addr) (fp:List Addr) (tn:Nat->Heap->Prop) (J:It) (H':Hp),itv = .ref it/\Inv X pins σ H' s2/\Turn X.prog X.w X.K tg J fp it tn/\tn 0 s2.heap/\(∀b∈fp,pI X pins H' b)/\R J H'
noncomputable def PI(X:Cx)(tg iter:Expr)(wi:TI):Prop:=
 ∀(pins:List (Addr×Obj))(s:Shared)(σ:St)(H:Hp)(R:It->Hp->Prop),Inv X pins σ H s->wi σ H R ->
  wpAny (model X.prog X.w) X.A (eval iter X.env) (λv s1=>wpAny (model X.prog X.w) X.A (pyIter v) (PIE X pins σ tg R) X.xe s1) X.xe s
theorem yx{M:Model}{A:Around}{E:Value->Shared->Prop}{s:Shared}{tg:Expr}{it:Addr}{u:Value}{o:Obj}{n:String}{vs:Array Value}{Q:Unit->Shared->Prop}(ho:s.heap.get? it=some o)(hc:o.cls = .type n)(hd:o.data = .fields vs)(hn:["enumerate","zip","dict_itemiterator","dict_reverseitemiterator","odict_iterator","itertools.zip_longest","itertools.pairwise"].contains n=false)(hQ:Q () s):wpAny M A (letOwnedTupleGo tg (.ref it) u) Q E s:=by
 unfold letOwnedTupleGo
 cases tg<;>first
  | exact aaB hQ
  | (cases u<;>first
      | exact aaB hQ
      | (refine aay (wpAny_load ho ?_)
         rw[hc,hd];show wpAny M A (if (["enumerate","zip","dict_itemiterator","dict_reverseitemiterator","odict_iterator","itertools.zip_longest","itertools.pairwise"].contains n&&vs[0]? == some (rawInt _))=true then _ else _) Q E s;rw[abN (by intro h;rw[hn,Bool.false_and] at h;cases h)];exact aaB hQ))
noncomputable def Yk(K:PySem.W.Frag)(a:Addr):It:=
 ⟨λi H=>∃xs x,bB K H a xs/\xs[i]? = some x,λi H x H'=>H'=H /\ ∀xs,bB K H a xs->xs[i]? = some x,λi H=>∃xs,bB K H a xs/\xs.length<=i⟩
noncomputable def Itt(K:PySem.W.Frag)(a:Addr):It:=
 ⟨λi H=>∃xs x,bO K H a xs/\xs[i]? = some x,λi H x H'=>H'=H /\ ∀xs,bO K H a xs->xs[i]? = some x,λi H=>∃xs,bO K H a xs/\xs.length<=i⟩
noncomputable def Yj(lo:Int)(n:Nat):It:=⟨λi _=>i<n,λi H x H'=>H'=H/\x = .int (lo+i),λi _=>n<=i⟩
theorem M_{P:Program}{w:World}{K:PySem.W.Frag}{tg:Expr}(a it:Addr):Turn P w K tg (Yk K a) [it] it (λi h=>h.IsListIter it a i) where
 mem:=by simp
 obj:=λi h st b hb=>by
  have e:b=it:=by simpa using hb
  subst e;obtain⟨o,e,c,d⟩:=st;exact⟨o,e,λv z=>by rw[d] at z;cases z⟩
 keep:=λi h h' st k=>st.at λo e=>k it (by simp) o e
 item:=by
  intro X hP hw hK hc i pins s σ H E I hf st hg;subst hP hw hK;obtain⟨xs,x,hq,hx⟩:=hg;obtain⟨its,rv,p,hz⟩:=I.list hq;obtain⟨u,hu,ru⟩:=rv.get hx;obtain⟨f0,f1,f2,f3,f4,f5⟩:=hf it (by simp);refine wpAny_pyNext_list_item st p.isList (x:=u) (by simpa using hu) λh' st' sb=>?_;have I1:Inv X pins σ H {s with heap:=h'}:=I.turned (t':=s.toks) (λb o hb e=>(sb.2 b hb).trans e) f0 f1 f3 f4 f5;obtain⟨o,e,c,d⟩:=id st';exact⟨u,Z,yx (s:={s with heap:=h'}) e c d (by decide) ⟨x,H,I1,ru,⟨Z,λys hy=>by rw[I.rm hy hq];exact hx⟩,st',λb hb=>(hf b hb).1⟩⟩
 done:=by
  intro X hP hw hK hc i pins s σ H E I hf st hg;subst hP hw hK;obtain⟨xs,hq,hx⟩:=hg;obtain⟨its,rv,p,hz⟩:=I.list hq;obtain⟨f0,f1,f2,f3,f4,f5⟩:=hf it (by simp);have hl:=rv.length;exact wpAny_pyNext_list_end (I.ok.hd hc) st p.isList (by simp;lia) λh' eb=>⟨Z,I.turned (t':=s.toks) (λb o hb e=>eb b o hb e) f0 f1 f3 f4 f5⟩
 self:=λ_ _ _ _ _ st h=>wpAny_pyIter_listiter st h
theorem Hw{P:Program}{w:World}{K:PySem.W.Frag}{tg:Expr}(a it:Addr):Turn P w K tg (Itt K a) [it] it (λi h=>h.IsTupleIter it a i) where
 mem:=by simp
 obj:=λi h st b hb=>by
  have e:b=it:=by simpa using hb
  subst e;obtain⟨o,e,c,d⟩:=st;exact⟨o,e,λv z=>by rw[d] at z;cases z⟩
 keep:=λi h h' st k=>st.at λo e=>k it (by simp) o e
 item:=by
  intro X hP hw hK hc i pins s σ H E I hf st hg;subst hP hw hK;obtain⟨xs,x,hq,hx⟩:=hg;obtain⟨its,rv,p,hz⟩:=I.tuple hq;obtain⟨u,hu,ru⟩:=rv.get hx;obtain⟨f0,f1,f2,f3,f4,f5⟩:=hf it (by simp);refine wpAny_pyNext_tuple_item st (show s.heap.IsTuple a its.toArray from p) (x:=u) (by simpa using hu) λh' st' sb=>?_;have I1:Inv X pins σ H {s with heap:=h'}:=I.turned (t':=s.toks) (λb o hb e=>(sb.2 b hb).trans e) f0 f1 f3 f4 f5;obtain⟨o,e,c,d⟩:=id st';exact⟨u,Z,yx (s:={s with heap:=h'}) e c d (by decide) ⟨x,H,I1,ru,⟨Z,λys hy=>by rw[I.Ng hy hq];exact hx⟩,st',λb hb=>(hf b hb).1⟩⟩
 done:=by
  intro X hP hw hK hc i pins s σ H E I hf st hg;subst hP hw hK;obtain⟨xs,hq,hx⟩:=hg;obtain⟨its,rv,p,hz⟩:=I.tuple hq;obtain⟨f0,f1,f2,f3,f4,f5⟩:=hf it (by simp);have hl:=rv.length;exact wpAny_pyNext_tuple_end (I.ok.hd hc) st (show s.heap.IsTuple a its.toArray from p) (by simp;lia) λh' eb=>⟨Z,I.turned (t':=s.toks) (λb o hb e=>eb b o hb e) f0 f1 f3 f4 f5⟩
 self:=λ_ _ _ _ _ st h=>wpAny_pyIter_tupleiter st h
theorem Hx{P:Program}{w:World}{K:PySem.W.Frag}{tg:Expr}(it:Addr)(lo:Int)(n:Nat):Turn P w K tg (Yj lo n) [it] it (λi h=>IsRangeIter h it (lo+(i:Nat)*1) ((n:Int) - (i:Nat)) 1) where
 mem:=by simp
 obj:=λi h st b hb=>by
  have e:b=it:=by simpa using hb
  subst e
  exact⟨_,st,λv z=>by
   have z':Data.fields _=Data.cell v:=z;cases z'⟩
 keep:=λi h h' st k=>k it (by simp) _ st
 item:=by
  intro X hP hw hK hc i pins s σ H E I hf st hg;subst hP hw hK;obtain⟨f0,f1,f2,f3,f4,f5⟩:=hf it (by simp);have W:=Walks.range (prog:=X.prog) (w:=X.w) (I.ok.hd hc) it lo 1 n;refine W.item i s _ _ hg st λv h' tk hv st' kk=>?_;obtain⟨t,rfl⟩:=hv;have I1:Inv X pins σ H {s with heap:=h',toks:=tk}:=I.turned (λb o hb e=>kk b o (by simpa using hb) e) f0 f1 f3 f4 f5;refine⟨_,Z,yx (s:={s with heap:=h',toks:=tk}) (n:= "range_iterator") st' rfl rfl (by decide) ⟨.int (lo+i),H,I1,⟨t, ?_⟩,⟨Z,Z⟩,st',λb hb=>(hf b hb).1⟩⟩;rw[Int.mul_one]
 done:=by
  intro X hP hw hK hc i pins s σ H E I hf st hg;subst hP hw hK;obtain⟨f0,f1,f2,f3,f4,f5⟩:=hf it (by simp);exact wpAny_pyNext_range_end (I.ok.hd hc) st (by have:n<=i:=hg;lia) λh' eb=>⟨Z,I.turned (t':=s.toks) (λb o hb e=>eb b o hb e) f0 f1 f3 f4 f5⟩
 self:=λ_ _ _ _ _ st h=>wpAny_pyIter_rangeiter st h
section
variable{X:Cx}{tg:Expr}
noncomputable def X4(K:PySem.W.Frag)(tl:TE):TI:=λσ H R=>tl σ H λx H1=>∃a,x = .ref a/\(∃xs,bB K H1 a xs)/\R (Yk K a) H1
noncomputable def ach(K:PySem.W.Frag)(tl:TE):TI:=λσ H R=>tl σ H λx H1=>∃a,x = .ref a/\(∃xs,bO K H1 a xs)/\R (Itt K a) H1
theorem Vs{l:Expr}{tl:TE}(hl:PE X l tl):PI X tg l (X4 X.K tl):=by
 intro pins s σ H R I h;refine cY (hl pins s σ H _ I h) λv s1 gW=>?_;obtain⟨x,H1,I1,r1,q1⟩:=gW;obtain⟨a,e,⟨xs,hq⟩,q⟩:=q1;subst e;cases r1;obtain⟨its,rv,p,hz⟩:=I1.list hq;refine wpAny_pyIter_list p.isList ?_;refine⟨s1.heap.objs.size,[s1.heap.objs.size],_,_,H1,Z,I1.kept (t':=s1.toks) λb o e=>aai _ e,M_ a _,⟨_,aaj _ rfl,Z,Z⟩,λb hb=>?_,q⟩;have e:b=s1.heap.objs.size:=by simpa using hb
 subst e;exact I1.vo (aap _) (I1.hok.fresh (aap _))
theorem Zd{l:Expr}{tl:TE}(hl:PE X l tl):PI X tg l (ach X.K tl):=by
 intro pins s σ H R I h;refine cY (hl pins s σ H _ I h) λv s1 gW=>?_;obtain⟨x,H1,I1,r1,q1⟩:=gW;obtain⟨a,e,⟨xs,hq⟩,q⟩:=q1;subst e;cases r1;obtain⟨its,rv,p,hz⟩:=I1.tuple hq;refine wpAny_pyIter_tuple (show s1.heap.IsTuple a its.toArray from p) ?_;refine⟨s1.heap.objs.size,[s1.heap.objs.size],_,_,H1,Z,I1.kept (t':=s1.toks) λb o e=>aai _ e,Hw a _,⟨_,aaj _ rfl,Z,Z⟩,λb hb=>?_,q⟩;have e:b=s1.heap.objs.size:=by simpa using hb
 subst e;exact I1.vo (aap _) (I1.hok.fresh (aap _))
theorem QZ{pins:List (Addr×Obj)}{σ:St}{H:Hp}{s:Shared}{R:It->Hp->Prop}{E:Value->Shared->Prop}{lo hi:Int}{t u v:Tok}{tk:Nat}(I:Inv X pins σ H s)(h1: -(2 ^ 62)<=lo)(h2:lo<2 ^ 62)(h3: -(2 ^ 62)<=hi)(h4:hi<2 ^ 62)(q:R (Yj lo (hi - lo).toNat) H):wpAny (model X.prog X.w) X.A (pyIter (.ref s.heap.objs.size)) (PIE X pins σ tg R) E {s with heap:=s.heap.push {cls:= .type "range",data:= .fields #[.int lo t,.int hi u,.int 1 v]},toks:=tk}:=by
 refine wpAny_pyIter_range (IsRange.new ..) (small_one h1 h2 h3 h4) ?_;have I1:Inv X pins σ H {s with heap:=s.heap.push {cls:= .type "range",data:= .fields #[.int lo t,.int hi u,.int 1 v]},toks:=tk}:=I.kept λb o e=>aai _ e
 refine⟨(s.heap.push {cls:= .type "range",data:= .fields #[.int lo t,.int hi u,.int 1 v]}).objs.size,[(s.heap.push {cls:= .type "range",data:= .fields #[.int lo t,.int hi u,.int 1 v]}).objs.size],_,_,H,Z,
  I1.kept (t':=tk) λb o e=>aai _ e,Hx _ lo (hi - lo).toNat, ?_,λb hb=>?_,q⟩
 .have e1:lo+((0:Nat):Int)*1=lo:=by simp
  have e2:(((hi - lo).toNat:Nat):Int) - ((0:Nat):Int)=Builtin.Range.rangeSize lo hi 1:=by rw[rangeSize_one];split<;>lia
  show IsRangeIter _ _ (lo+((0:Nat):Int)*1) ((((hi - lo).toNat:Nat):Int) - ((0:Nat):Int)) 1;rw[e1,e2];exact aaj _ rfl
 .have e:b=(s.heap.push {cls:= .type "range",data:= .fields #[.int lo t,.int hi u,.int 1 v]}).objs.size:=by simpa using hb
  subst e;exact I1.vo (aap _) (I1.hok.fresh (aap _))
noncomputable def acj(ta:TA):TI:=λσ H R=>ta σ H λvs H1=>∃j:Int,vs=[.int j] /\ -(2 ^ 62)<=j/\j<2 ^ 62/\R (Yj 0 j.toNat) H1
theorem fV{a:Expr}{ta:TA}{p pos:Pos}(hg:Gl X "range")(hm:X.mg "range" = none)(ha:PA X [a] ta)(hs:starEach [a] X.env=[(false,eval a X.env)]:=by rfl):PI X tg (.Call (.Name "range" p) [a] [] pos) (acj ta):=by
 intro pins s σ H R I h;refine Call_ (qw I hg hm boot_range (PyProof.Rows.callWith_type1 (cY (ha pos pins s σ H _ I h) λus s1 ⟨vs,H1,I1,r1,q1⟩=>?_) hs rfl));obtain⟨j,e,q1,q2,q⟩:=q1;subst e;cases r1 with
 | cons r rr=>
   cases rr;obtain⟨t,rfl⟩:=r;exact call_range_1 (QZ I1 (by lia) (by lia) q1 q2 (by simpa using q))
noncomputable def aeN(wi:TI)(g:TG)(tb:TS):TS:=λD σ H=>wi σ H λJ H1=>∃W:Nat->Nat->St->Hp->Prop,(∃m,W 0 m σ H1) /\ ∀i m σ H,W i m σ H ->
 (J.stop i H/\D.nx σ H)\/(J.go i H /\ ∃N:St->Hp->Prop,(∀σ' H',N σ' H' -> ∃m',m'<m/\W (i+1) m' σ' H') /\ ∀x H',J.UL i H x H'->g x σ H' λσ2 H2=>tb {D with nx:=N,ct:=N,bk:=D.nx} σ2 H2)
noncomputable def xO(fp:List Addr)(h:Heap):List (Addr×Obj):=fp.filterMap λb=>(h.get? b).map λo=>(b,o)
theorem mF{fp:List Addr}{h:Heap}{b:Addr}{o:Obj}(hb:b∈fp)(e:h.get? b=some o):(b,o)∈xO fp h:=List.mem_filterMap.mpr ⟨b,hb,by rw[e];rfl⟩
theorem Ol{fp:List Addr}{h:Heap}{p:Addr×Obj}(hp:p∈xO fp h):p.1∈fp/\h.get? p.1=some p.2:=by
 obtain⟨b,hb,e⟩:=List.mem_filterMap.mp hp;cases q:h.get? b with
 | none=>rw[q] at e;cases e
 | some o=>
   rw[q] at e;have e':(b,o)=p:=aaR e;subst e';exact⟨hb,q⟩
theorem Inv.pinned{pins:List (Addr×Obj)}{σ:St}{H:Hp}{s:Shared}{fp:List Addr}(I:Inv X pins σ H s)(hf:∀b∈fp,pI X pins H b)(ho:∀b∈fp,∃o,s.heap.get? b=some o /\ ∀v,o.data ≠ .cell v):Inv X (pins++xO fp s.heap) σ H s:=
 I.La λp hp=>(aa1.mp hp).elim (λz=>I.pin p (List.mem_append_right _ z)) λz=>by
  obtain⟨hb,e⟩:=Ol z;obtain⟨f0,f1,f2,_⟩:=hf p.1 hb;obtain⟨o,e',d⟩:=ho p.1 hb;rw[e] at e';cases e';exact⟨e,f0,f1,f2,d⟩
theorem Inv.qK{pins pl:List (Addr×Obj)}{σ:St}{H:Hp}{s:Shared}(I:Inv X (pins++pl) σ H s):Inv X pins σ H s:=I.La λp hp=>I.pin p (List.mem_append_right _ (List.mem_append_left _ hp))
theorem eY{iter:Expr}{body:List Stmt}{wi:TI}{g:TG}{tb:TS}{pos:Pos}(hp:PassesOwn (model X.prog X.w) X.A X.env X.xe)(hc:X.calm=true)(hi:PI X tg iter wi)(hg:PG X tg g)(hb:J0 X body tb)(hs:∀x,foldedSetIterable iter X.env x=pure x:=by intro _;rfl):PS X (.For tg iter body [] pos) (aeN wi g tb):=by
 intro pins s σ H D I h;refine wpAny_For (cY (hi pins s σ H _ I h) λv s1 h1=>cY h1 λitv s2 h2=>?_) hs;obtain⟨it,fp,tn,J,H2,e,I2,T,st2,f2,W,⟨m0,w0⟩,turn⟩:=h2;subst e;have stat:∀{H':Hp},(∀b∈fp,H' b=none) -> ∀b∈fp,pI X pins H' b:=λhn b hb=>⟨hn b hb,(f2 b hb).2⟩;refine codeAny_forLoop_any (λn s'=>∃i σ' H',Inv X pins σ' H' s'/\tn i s'.heap/\(∀b∈fp,H' b=none)/\W i n σ' H') ?_ m0 ⟨0,σ,H2,I2,st2,λb hb=>(f2 b hb).1,w0⟩;rintro n s3 ⟨i,σ3,H3,I3,st3,fr3,w3⟩;rcases turn i n σ3 H3 w3 with ⟨stop,qn⟩|⟨go,N,hN,step⟩
 .refine wpAny_passesOwn hp (cY (T.done X rfl rfl rfl hc i pins s3 σ3 H3 X.xe I3 (stat fr3) st3 stop) λr s4 ⟨hr,I4⟩=>?_)
  subst hr;exact wpAny_execs_nil ⟨σ3,H3,I4,qn⟩
 .refine wpAny_passesOwn hp (cY (T.item X rfl rfl rfl hc i pins s3 σ3 H3 X.xe I3 (stat fr3) st3 go) λr s4 ⟨u,hr,h4⟩=>?_)
  subst hr;refine wpAny_passesOwn hp (cY h4 λ_ s5 gW=>?_);obtain⟨x,H5,I5,r5,y5,Vh,fr5⟩:=gW;have I5':=I5.pinned (stat fr5) (T.obj _ _ Vh);refine wpAny_passesOwn hp (cY (hg _ s5 σ3 H5 x u _ I5' r5 (step x H5 y5)) λ_ s6 gW=>?_);obtain⟨σ6,H6,I6,q6⟩:=gW;refine wpAny_passesOwn hp (cY (hb _ s6 σ6 H6 _ I6 q6) λf s7 q7=>?_)
  have again:∀{σ7:St}{H7:Hp},Inv X (pins++xO fp s5.heap) σ7 H7 s7->N σ7 H7 -> ∃m,m<n /\ ∃i σ' H',Inv X pins σ' H' s7/\tn i s7.heap/\(∀b∈fp,H' b=none)/\W i m σ' H':=fun {σ7 H7} I7 n7=>by
   obtain⟨m',hm,w7⟩:=hN σ7 H7 n7;refine⟨m',hm,i+1,σ7,H7,I7.qK,T.keep _ _ _ Vh λb hb o e=>(I7.pin (b,o) (List.mem_append_right _ (List.mem_append_right _ (mF hb e)))).1,λb hb=>?_,w7⟩;obtain⟨o,e,d⟩:=T.obj _ _ Vh b hb;exact(I7.pin (b,o) (List.mem_append_right _ (List.mem_append_right _ (mF hb e)))).2.1
  cases f with
  | next=>obtain⟨σ7,H7,I7,n7⟩:=q7;exact again I7 n7
  | cont=>obtain⟨σ7,H7,I7,n7⟩:=q7;exact again I7 n7
  | brk=>obtain⟨σ7,H7,I7,q7⟩:=q7;exact⟨σ7,H7,I7.qK,q7⟩
  | ret v=>obtain⟨x7,σ7,H7,I7,r7,q7⟩:=q7;exact⟨x7,σ7,H7,I7.qK,r7,q7⟩
end
theorem gC{K:PySem.W.Frag}{a:Addr}{xs:List V}{g:TG}{tb:TS}{D:Ends}{σ:St}{H:Hp}(Pv:Nat->St->Hp->Prop)(h0:Pv 0 σ H)(hl:∀i σ H,i<=xs.length->Pv i σ H->bB K H a xs)(hs:∀i x σ H,xs[i]? = some x->Pv i σ H->g x σ H λσ2 H2=>tb {D with nx:=Pv (i+1),ct:=Pv (i+1),bk:=D.nx} σ2 H2)(hd:∀σ H,Pv xs.length σ H->D.nx σ H):
 ∃W:Nat->Nat->St->Hp->Prop,(∃m,W 0 m σ H) /\ ∀i m σ H,W i m σ H ->
  ((Yk K a).stop i H/\D.nx σ H)\/((Yk K a).go i H /\ ∃N:St->Hp->Prop,(∀σ' H',N σ' H' -> ∃m',m'<m/\W (i+1) m' σ' H') /\ ∀x H',(Yk K a).UL i H x H'->g x σ H' λσ2 H2=>tb {D with nx:=N,ct:=N,bk:=D.nx} σ2 H2):=by
 refine⟨λi m σ H=>m=xs.length - i/\i<=xs.length/\Pv i σ H,⟨xs.length,by simp,Nat.zero_le _,h0⟩, ?_⟩;rintro i m σ H ⟨rfl,hi,p⟩;have q:=hl i σ H hi p
 by_cases hlt:i<xs.length
 .refine .inr ⟨⟨xs,xs[i],q,by simp[hlt]⟩,Pv (i+1),λσ' H' p'=>⟨xs.length - (i+1),by lia,Z,hlt,p'⟩,λx H' y=>?_⟩
  obtain⟨e,y⟩:=y;subst e;exact hs i x σ _ (y xs q) p
 .have e:i=xs.length:=by lia
  subst e;exact .inl ⟨⟨xs,q,aap _⟩,hd σ H p⟩
theorem Wt{K:PySem.W.Frag}{a:Addr}{xs:List V}{g:TG}{tb:TS}{D:Ends}{σ:St}{H:Hp}(Pv:Nat->St->Hp->Prop)(h0:Pv 0 σ H)(hl:∀i σ H,i<=xs.length->Pv i σ H->bO K H a xs)(hs:∀i x σ H,xs[i]? = some x->Pv i σ H->g x σ H λσ2 H2=>tb {D with nx:=Pv (i+1),ct:=Pv (i+1),bk:=D.nx} σ2 H2)(hd:∀σ H,Pv xs.length σ H->D.nx σ H):
 ∃W:Nat->Nat->St->Hp->Prop,(∃m,W 0 m σ H) /\ ∀i m σ H,W i m σ H ->
  ((Itt K a).stop i H/\D.nx σ H)\/((Itt K a).go i H /\ ∃N:St->Hp->Prop,(∀σ' H',N σ' H' -> ∃m',m'<m/\W (i+1) m' σ' H') /\ ∀x H',(Itt K a).UL i H x H'->g x σ H' λσ2 H2=>tb {D with nx:=N,ct:=N,bk:=D.nx} σ2 H2):=by
 refine⟨λi m σ H=>m=xs.length - i/\i<=xs.length/\Pv i σ H,⟨xs.length,by simp,Nat.zero_le _,h0⟩, ?_⟩;rintro i m σ H ⟨rfl,hi,p⟩;have q:=hl i σ H hi p
 by_cases hlt:i<xs.length
 .refine .inr ⟨⟨xs,xs[i],q,by simp[hlt]⟩,Pv (i+1),λσ' H' p'=>⟨xs.length - (i+1),by lia,Z,hlt,p'⟩,λx H' y=>?_⟩
  obtain⟨e,y⟩:=y;subst e;exact hs i x σ _ (y xs q) p
 .have e:i=xs.length:=by lia
  subst e;exact .inl ⟨⟨xs,q,aap _⟩,hd σ H p⟩
theorem Ah{lo:Int}{n:Nat}{g:TG}{tb:TS}{D:Ends}{σ:St}{H:Hp}(Pv:Nat->St->Hp->Prop)(h0:Pv 0 σ H)(hs:∀i σ H,i<n->Pv i σ H->g (.int (lo+i)) σ H λσ2 H2=>tb {D with nx:=Pv (i+1),ct:=Pv (i+1),bk:=D.nx} σ2 H2)(hd:∀σ H,Pv n σ H->D.nx σ H):
 ∃W:Nat->Nat->St->Hp->Prop,(∃m,W 0 m σ H) /\ ∀i m σ H,W i m σ H ->
  ((Yj lo n).stop i H/\D.nx σ H)\/((Yj lo n).go i H /\ ∃N:St->Hp->Prop,(∀σ' H',N σ' H' -> ∃m',m'<m/\W (i+1) m' σ' H') /\ ∀x H',(Yj lo n).UL i H x H'->g x σ H' λσ2 H2=>tb {D with nx:=N,ct:=N,bk:=D.nx} σ2 H2):=by
 refine⟨λi m σ H=>m=n - i/\i<=n/\Pv i σ H,⟨n,by simp,Nat.zero_le _,h0⟩, ?_⟩;rintro i m σ H ⟨rfl,hi,p⟩
 by_cases hlt:i<n
 .refine .inr ⟨hlt,Pv (i+1),λσ' H' p'=>⟨n - (i+1),by lia,Z,hlt,p'⟩,λx H' y=>?_⟩
  obtain⟨e,y⟩:=y;subst e y;exact hs i σ _ hlt p
 .have e:i=n:=by lia
  subst e;exact .inl ⟨aap _,hd σ H p⟩
noncomputable abbrev R2:=V->V->Hp->VK->Prop
noncomputable def pR(X:Cx)(f:Value->Value->Sem Value)(r:R2):Prop:=
 ∀(pins:List (Addr×Obj))(s:Shared)(σ:St)(H:Hp)(x y:V)(v u:Value)(Q:VK),Inv X pins σ H s->RelV x v->RelV y u->r x y H Q ->
  wpAny (model X.prog X.w) X.A (f v u) (EP X pins σ Q) X.xe s
noncomputable def UnR(X:Cx)(f:Value->Sem Value)(r:V->Hp->VK->Prop):Prop:=
 ∀(pins:List (Addr×Obj))(s:Shared)(σ:St)(H:Hp)(x:V)(v:Value)(Q:VK),Inv X pins σ H s->RelV x v->r x H Q ->
  wpAny (model X.prog X.w) X.A (f v) (EP X pins σ Q) X.xe s
noncomputable def jr(X:Cx)(f:Value)(r:List V->Hp->VK->Prop):Prop:=
 ∀(pins:List (Addr×Obj))(s:Shared)(σ:St)(H:Hp)(xs:List V)(us:List Value)(Q:VK),Inv X pins σ H s->Vals xs us->r xs H Q ->
  wpAny (model X.prog X.w) X.A (call f us) (EP X pins σ Q) X.xe s
noncomputable def ahD(X:Cx)(r:V->Hp->(Bool->Hp->Prop)->Prop):Prop:=
 ∀(pins:List (Addr×Obj))(s:Shared)(σ:St)(H:Hp)(x:V)(v:Value)(Q:Bool->Hp->Prop),Inv X pins σ H s->RelV x v->r x H Q ->
  wpAny (model X.prog X.w) X.A (truthy v) (TP X pins σ Q) X.xe s
noncomputable def Hz(r:R2)(ta tb:TE):TE:=λσ H Q=>ta σ H λx H1=>tb σ H1 λy H2=>r x y H2 Q
noncomputable def tUn(r:V->Hp->VK->Prop)(ta:TE):TE:=λσ H Q=>ta σ H λx H1=>r x H1 Q
noncomputable def rI(C:Int->Int->Prop)(g:Int->Int->V):R2:=λx y H Q=>∃i j,x = .int i/\y = .int j/\C i j/\Q (g i j) H
noncomputable def Y5(g:Int->Int->V):R2:=λx y H Q=>∃i j,x = .int i/\y = .int j/\Q (g i j) H
noncomputable def rU(g:Int->V):V->Hp->VK->Prop:=λx H Q=>∃i,x = .int i/\Q (g i) H
section
variable{X:Cx}{a b c:Expr}{ta tb tc:TE}{pos:Pos}
theorem aat(ha:PE X a ta)(hb:PE X b tb){pins:List (Addr×Obj)}{s:Shared}{σ:St}{H:Hp}{R:V->V->Hp->Prop}(I:Inv X pins σ H s)(h:ta σ H λx H1=>tb σ H1 λy H2=>R x y H2){Q:Value->Shared->Prop}{f:Value->Value->Sem Value}(hf:∀v u s2 x y H2,Inv X pins σ H2 s2->RelV x v->RelV y u->R x y H2->wpAny (model X.prog X.w) X.A (f v u) Q X.xe s2):
 wpAny (model X.prog X.w) X.A (eval a X.env) (λv s₁=>wpAny (model X.prog X.w) X.A (eval b X.env) (λu s₂=>wpAny (model X.prog X.w) X.A (f v u) Q X.xe s₂) X.xe s₁) X.xe s:=by
 refine cY (ha pins s σ H _ I h) λv s1 gW=>?_;obtain⟨x,H1,I1,r1,q1⟩:=gW;refine cY (hb pins s1 σ H1 _ I1 q1) λu s2 gW=>?_;obtain⟨y,H2,I2,r2,q2⟩:=gW;exact hf v u s2 x y H2 I2 r1 r2 q2
theorem bQ{op:Operator}{r:R2}(ho:pR X (binaryOp op) r)(ha:PE X a ta)(hb:PE X b tb):PE X (.BinOp a op b pos) (Hz r ta tb):=by
 intro pins s σ H Q I h;exact wpAny_BinOp (aat ha hb I h λv u s2 x y H2 I2 rx ry q=>ho pins s2 σ H2 x y v u Q I2 rx ry q)
theorem uN{op:UnaryOp}{r:V->Hp->VK->Prop}(ho:UnR X (unaryOp op) r)(ha:PE X a ta):PE X (.UnaryOp op a pos) (tUn r ta):=by
 intro pins s σ H Q I h;exact UnaryOp_ (cY (ha pins s σ H _ I h) λv s1 ⟨x,H1,I1,r1,q1⟩=>ho pins s1 σ H1 x v Q I1 r1 q1)
theorem opI{f:Value->Value->Sem Value}{C:Int->Int->Prop}{g:Int->Int->Int}(rule:∀(i j:Int)(t u:Tok)(s:Shared)(Q:Value->Shared->Prop)(E:Value->Shared->Prop),C i j->Q (.int (g i j) s.toks) {s with toks:=s.toks+1}->wpAny (model X.prog X.w) X.A (f (.int i t) (.int j u)) Q E s):
 pR X f (rI C λi j=> .int (g i j)):=by
 intro pins s σ H x y v u Q I rx ry h;obtain⟨i,j,rfl,rfl,hc,q⟩:=h;obtain⟨t,rfl⟩:=rx;obtain⟨t',rfl⟩:=ry;exact rule i j t t' s _ _ hc ⟨.int (g i j),H,I.tok _,⟨_,Z⟩,q⟩
theorem abY{f:Value->Value->Sem Value}{g:Int->Int->Int}(rule:∀(i j:Int)(t u:Tok)(s:Shared)(Q:Value->Shared->Prop)(E:Value->Shared->Prop),Q (.int (g i j) s.toks) {s with toks:=s.toks+1}->wpAny (model X.prog X.w) X.A (f (.int i t) (.int j u)) Q E s):
 pR X f (Y5 λi j=> .int (g i j)):=by
 intro pins s σ H x y v u Q I rx ry h;obtain⟨i,j,rfl,rfl,q⟩:=h;obtain⟨t,rfl⟩:=rx;obtain⟨t',rfl⟩:=ry;exact rule i j t t' s _ _ ⟨.int (g i j),H,I.tok _,⟨_,Z⟩,q⟩
theorem Zo{f:Value->Value->Sem Value}{g:Int->Int->Bool}(rule:∀(i j:Int)(t u:Tok)(s:Shared)(Q:Value->Shared->Prop)(E:Value->Shared->Prop),Q (.bool (g i j)) s->wpAny (model X.prog X.w) X.A (f (.int i t) (.int j u)) Q E s):
 pR X f (Y5 λi j=> .bl (g i j)):=by
 intro pins s σ H x y v u Q I rx ry h;obtain⟨i,j,rfl,rfl,q⟩:=h;obtain⟨t,rfl⟩:=rx;obtain⟨t',rfl⟩:=ry;exact rule i j t t' s _ _ ⟨.bl (g i j),H,I,Z,q⟩
noncomputable def aaI(i j:Int):Prop:=0<j/\j<1073741824
noncomputable def aaG(i j:Int):Prop:=0<=j/\j<=1000000/\i.natAbs<2 ^ 64
noncomputable def aaH(i j:Int):Prop:=(-(2 ^ 64)<i/\i<2 ^ 64)\/(-(2 ^ 64)<j/\j<2 ^ 64)
theorem aaH.ok{i j:Int}(h:aaH i j):IntMulOk i j:=by
 rcases h with ⟨h1,h2⟩|⟨h1,h2⟩
 .exact .of_left (intBits_le_64 h1 h2)
 .exact .of_right (intBits_le_64 h1 h2)
theorem eZ:pR X (binaryOp .Add) (Y5 λi j=> .int (i+j)):=abY λ_ _ _ _ _ _ _ q=>add_int q
theorem qm:pR X (binaryOp .Sub) (Y5 λi j=> .int (i - j)):=abY λ_ _ _ _ _ _ _ q=>sub_int q
theorem qp:pR X (binaryOp .Mult) (rI aaH λi j=> .int (i*j)):=opI λ_ _ _ _ _ _ _ hc q=>mul_int q hc.ok
theorem Li:pR X (binaryOp .FloorDiv) (rI aaI λi j=> .int (i / j)):=opI λi j _ _ _ _ _ hc q=>by
 have h1:(0:Int)<j:=hc.1;have h2:j<1073741824:=hc.2;exact floordiv_int (by lia) (by rw[Int.fdiv_eq_ediv_of_nonneg i (by lia)];exact q) (.inl (PyProof.noPylong_small (by lia)))
theorem jL:pR X (binaryOp .Mod) (rI (λ_ j=>0<j) λi j=> .int (i % j)):=opI λi j _ _ _ _ _ hc q=>by
 have h1:(0:Int)<j:=hc;exact mod_int' (by lia) (by rw[Int.fmod_eq_emod_of_nonneg i (by lia)];exact q)
theorem Rt:pR X (binaryOp .Pow) (rI aaG λi j=> .int (i ^ j.toNat)):=opI λ_ _ _ _ _ _ _ hc q=>pow_int_small hc.1 hc.2.1 hc.2.2 q
theorem unI{f:Value->Sem Value}{g:Int->Int}(rule:∀(i:Int)(t:Tok)(s:Shared)(Q:Value->Shared->Prop)(E:Value->Shared->Prop),Q (.int (g i) s.toks) {s with toks:=s.toks+1}->wpAny (model X.prog X.w) X.A (f (.int i t)) Q E s):
 UnR X f (rU λi=> .int (g i)):=by
 intro pins s σ H x v Q I rx h;obtain⟨i,rfl,q⟩:=h;obtain⟨t,rfl⟩:=rx;exact rule i t s _ _ ⟨.int (g i),H,I.tok _,⟨_,Z⟩,q⟩
theorem m_:UnR X (unaryOp .USub) (rU λi=> .int (-i)):=unI λ_ _ _ _ _ q=>neg_int q
end
noncomputable def abI:V->V->Bool
 | .non,.non=>true | .non,.int _=>true | .int _,.non=>true | .non,.bl _=>true | .bl _,.non=>true | .non,.str _=>true | .str _,.non=>true
 | .int _,.int _=>true | .bl _,.bl _=>true | .str _,.str _=>true | .JK _,.JK _=>true
 | .int _,.str _=>true | .str _,.int _=>true | .bl _,.str _=>true | .str _,.bl _=>true
 | _,_=>false
noncomputable def rEq:R2:=λx y H Q=>abI x y=true/\Q (.bl (decide (x=y))) H
noncomputable def rNe:R2:=λx y H Q=>abI x y=true/\Q (.bl (!decide (x=y))) H
theorem Mh{i j:Int}:decide (V.int i=V.int j)=(i==j):=by
 rw[Bool.eq_iff_iff];simp
theorem Tz{i j:Bool}:decide (V.bl i=V.bl j)=(i==j):=by
 rw[Bool.eq_iff_iff];simp
theorem Mf{i j:Str}:decide (V.str i=V.str j)=(i==j):=by
 rw[Bool.eq_iff_iff];simp
theorem Mi{i j:Array UInt8}:decide (V.JK i=V.JK j)=(i.toList==j.toList):=by
 rw[Bool.eq_iff_iff];cases i;cases j;simp
section
variable{X:Cx}{a b c:Expr}{ta tb tc:TE}{pos:Pos}
theorem cI{pins:List (Addr×Obj)}{σ:St}{H:Hp}{s:Shared}{Q:VK}{k k':Bool}(I:Inv X pins σ H s)(q:Q (.bl k) H)(e:k=k'):EP X pins σ Q (.bool k') s:=by
 subst e;exact⟨.bl k,H,I,Z,q⟩
theorem dN:pR X (compareOp .Eq) rEq:=by
 intro pins s σ H x y v u Q I rx ry h;obtain⟨hs,q⟩:=h;cases x with
 | non=>
   cases rx;cases y with
   | non=>cases ry;exact PySem.EqNone.eq_none_none (cI I q (by simp))
   | bl j=>cases ry;exact PySem.EqNone.eq_none_bool (cI I q (by simp))
   | int j=>obtain⟨t',rfl⟩:=ry;exact PySem.EqNone.eq_none_int (cI I q (by simp))
   | str j=>obtain⟨t',rfl⟩:=ry;exact PySem.EqNone.eq_none_str (cI I q (by simp))
   | _=>exact abZ (show false=true from hs) aaP
 | bl i=>
   cases rx;cases y with
   | non=>cases ry;exact PySem.EqNone.eq_bool_none (cI I q (by simp))
   | bl j=>cases ry;exact eq_bool (cI I q Tz)
   | str j=>obtain⟨t',rfl⟩:=ry;exact PySem.EqMixed.eq_bool_str (cI I q (by simp))
   | _=>exact abZ (show false=true from hs) aaP
 | int i=>
   obtain⟨t,rfl⟩:=rx;cases y with
   | non=>cases ry;exact PySem.EqNone.eq_int_none (cI I q (by simp))
   | int j=>obtain⟨t',rfl⟩:=ry;exact eq_int (cI I q Mh)
   | str j=>obtain⟨t',rfl⟩:=ry;exact PySem.EqMixed.eq_int_str (cI I q (by simp))
   | _=>exact abZ (show false=true from hs) aaP
 | str i=>
   obtain⟨t,rfl⟩:=rx;cases y with
   | non=>cases ry;exact PySem.EqNone.eq_str_none (cI I q (by simp))
   | bl j=>cases ry;exact PySem.EqMixed.eq_str_bool (cI I q (by simp))
   | int j=>obtain⟨t',rfl⟩:=ry;exact PySem.EqMixed.eq_str_int (cI I q (by simp))
   | str j=>obtain⟨t',rfl⟩:=ry;exact eq_str (cI I q Mf)
   | _=>exact abZ (show false=true from hs) aaP
 | JK i=>
   obtain⟨t,rfl⟩:=rx;cases y with
   | JK j=>obtain⟨t',rfl⟩:=ry;exact PySem.W.eq_bytes (cI I q Mi)
   | _=>exact abZ (show false=true from hs) aaP
 | _=>cases y<;>exact abZ (show false=true from hs) aaP
theorem iD:pR X (compareOp .NotEq) rNe:=by
 intro pins s σ H x y v u Q I rx ry h;obtain⟨hs,q⟩:=h;cases x with
 | non=>
   cases rx;cases y with
   | non=>cases ry;exact PySem.EqNone.ne_none_none (cI I q (by simp))
   | bl j=>cases ry;exact PySem.EqNone.ne_none_bool (cI I q (by simp))
   | int j=>obtain⟨t',rfl⟩:=ry;exact PySem.EqNone.ne_none_int (cI I q (by simp))
   | str j=>obtain⟨t',rfl⟩:=ry;exact PySem.EqNone.ne_none_str (cI I q (by simp))
   | _=>exact abZ (show false=true from hs) aaP
 | bl i=>
   cases rx;cases y with
   | non=>cases ry;exact PySem.EqNone.ne_bool_none (cI I q (by simp))
   | bl j=>cases ry;exact ne_bool (cI I q (congrArg not Tz))
   | str j=>obtain⟨t',rfl⟩:=ry;exact PySem.EqMixed.ne_bool_str (cI I q (by simp))
   | _=>exact abZ (show false=true from hs) aaP
 | int i=>
   obtain⟨t,rfl⟩:=rx;cases y with
   | non=>cases ry;exact PySem.EqNone.ne_int_none (cI I q (by simp))
   | int j=>obtain⟨t',rfl⟩:=ry;exact ne_int (cI I q (congrArg not Mh))
   | str j=>obtain⟨t',rfl⟩:=ry;exact PySem.EqMixed.ne_int_str (cI I q (by simp))
   | _=>exact abZ (show false=true from hs) aaP
 | str i=>
   obtain⟨t,rfl⟩:=rx;cases y with
   | non=>cases ry;exact PySem.EqNone.ne_str_none (cI I q (by simp))
   | bl j=>cases ry;exact PySem.EqMixed.ne_str_bool (cI I q (by simp))
   | int j=>obtain⟨t',rfl⟩:=ry;exact PySem.EqMixed.ne_str_int (cI I q (by simp))
   | str j=>obtain⟨t',rfl⟩:=ry;exact ne_str (cI I q (congrArg not Mf))
   | _=>exact abZ (show false=true from hs) aaP
 | JK i=>
   obtain⟨t,rfl⟩:=rx;cases y with
   | JK j=>obtain⟨t',rfl⟩:=ry;exact PySem.W.ne_bytes (cI I q (congrArg not Mi))
   | _=>exact abZ (show false=true from hs) aaP
 | _=>cases y<;>exact abZ (show false=true from hs) aaP
theorem pL:pR X (compareOp .Lt) (Y5 λi j=> .bl (decide (i<j))):=Zo λ_ _ _ _ _ _ _ q=>lt_int q
theorem abX:pR X (compareOp .LtE) (Y5 λi j=> .bl (decide (i<=j))):=Zo λ_ _ _ _ _ _ _ q=>le_int q
theorem XM:pR X (compareOp .GtE) (Y5 λi j=> .bl (decide (j<=i))):=Zo λ_ _ _ _ _ _ _ q=>ge_int q
theorem Cr:pR X (compareOp .Is) (λx y H Q=>y = .non/\Q (.bl (decide (x = .non))) H):=by
 intro pins s σ H x y v u Q I rx ry h;obtain⟨rfl,q⟩:=h;cases ry;refine is_none_gen (cI I q ?_)
 cases x<;>first
  | (cases rx;rfl)
  | (obtain⟨t,rfl⟩:=rx;rfl)
theorem Lh:pR X (compareOp .IsNot) (λx y H Q=>y = .non/\Q (.bl (!decide (x = .non))) H):=by
 intro pins s σ H x y v u Q I rx ry h;obtain⟨rfl,q⟩:=h;cases ry;refine isnot_none_gen (cI I q ?_)
 cases x<;>first
  | (cases rx;rfl)
  | (obtain⟨t,rfl⟩:=rx;rfl)
noncomputable def isObj:HO->Bool
 | .lst _=>true
 | .ins _ _ _=>true
 | _=>false
theorem aW(b:Expr){op:CmpOp}(h:op ≠ .In:=by decide)(h2:op ≠ .NotIn:=by decide):behindInMarks op b=false:=by
 have e1:(op==CmpOp.In)=false:=by cases op<;>first |rfl|exact abZ rfl h
 have e2:(op==CmpOp.NotIn)=false:=by cases op<;>first |rfl|exact abZ rfl h2
 cases b<;>simp[behindInMarks,e1,e2]
theorem fW{op:CmpOp}{r:R2}(ho:pR X (compareOp op) r)(ha:PE X a ta)(hb:PE X b tb)(hm:behindInMarks op b=false):PE X (.Compare a [op] [b] pos) (Hz r ta tb):=by
 intro pins s σ H Q I h;exact wpAny_Compare1 (aat ha hb I h λv u s2 x y H2 I2 rx ry q=>ho pins s2 σ H2 x y v u Q I2 rx ry q) hm
noncomputable def Kz(t:TE):TT:=λσ H Q=>t σ H λx H'=>∃k,x = .bl k/\Q k H'
theorem aR{op:CmpOp}{r:R2}(ho:pR X (compareOp op) r)(ha:PE X a ta)(hb:PE X b tb)(hm:behindInMarks op b=false):PT X (.Compare a [op] [b] pos) (Kz (Hz r ta tb)):=by
 intro pins s σ H Q I h
 refine wpAny_isTrue_Compare1 (cY (ha pins s σ H _ I h) λv s1 ⟨x,H1,I1,r1,q1⟩=>cY (hb pins s1 σ H1 _ I1 q1) λu s2 ⟨y,H2,I2,r2,q2⟩=>
  cY (ho pins s2 σ H2 x y v u _ I2 r1 r2 q2) λc s3 ⟨z,H3,I3,r3,k,e,q3⟩=>?_) hm
 subst e;cases r3;exact wpAny_truthy_bool ⟨H3,I3,q3⟩
noncomputable def YG(r r':R2)(ta tb tc:TE):TE:=λσ H Q=>ta σ H λx H1=>tb σ H1 λy H2=>r x y H2 λz H3=>∃k,z = .bl k /\
 (if k=true then tc σ H3 λw' H4=>r' y w' H4 Q else Q (.bl false) H3)
theorem Ro{op op':CmpOp}{r r':R2}(ho:pR X (compareOp op) r)(ho':pR X (compareOp op') r')(ha:PE X a ta)(hb:PE X b tb)(hc:PE X c tc)(hm:lastMarks [op,op'] [b,c]=false:=by with_unfolding_all rfl):PE X (.Compare a [op,op'] [b,c] pos) (YG r r' ta tb tc):=by
 intro pins s σ H Q I h
 refine Compare_chain (cY (ha pins s σ H _ I h) λv s1 ⟨x,H1,I1,r1,q1⟩=>chain_link (cY (hb pins s1 σ H1 _ I1 q1) λu s2 ⟨y,H2,I2,r2,q2⟩=>
  cY (ho pins s2 σ H2 x y v u _ I2 r1 r2 q2) λd s3 ⟨z,H3,I3,r3,k,e,q3⟩=>?_)) hm
 subst e;cases r3;refine wpAny_truthy_bool ?_;cases k with
 | false=>exact ite_ff ⟨.bl false,H3,I3,Z,q3⟩
 | true=>exact ite_tt (chain_last (cY (hc pins s3 σ H3 _ I3 q3) λw' s4 ⟨z',H4,I4,r4,q4⟩=>ho' pins s4 σ H4 y z' u w' Q I4 r2 r4 q4))
noncomputable def aaw(K:PySem.W.Frag)(x:V)(H:Hp)(k:Bool):Prop:=
 match x with
 | .non=>k=false
 | .bl b=>k=b
 | .int i=>k=(i != 0)
 | .str y=>y.length<=sizeLine/\k=((y.length:Int) != 0)
 | .JK y=>y.size<=sizeLine/\k=((y.size:Int) != 0)
 | .ref p=>(∃xs,bB K H p xs/\k = !xs.isEmpty)\/(∃xs,bO K H p xs/\k = !xs.isEmpty) \/ ∃kvs,H p=some (.dK kvs)/\k = !kvs.isEmpty
 | _=>False
theorem Jk{κ:Type}{kvs:List (κ×V)}{vs:List (κ×Value)}(r:KV kvs vs):(!vs.isEmpty) = !kvs.isEmpty:=by
 cases r<;>rfl
theorem yj{xs:List V}{its:List Value}(r:Vals xs its):(!its.toArray.isEmpty) = !xs.isEmpty:=by
 cases r<;>simp
theorem ug:(sizeLine:Nat)<2 ^ 63:=by rw[sizeLine_eq];decide
theorem Ys:ahD X (λx H Q=>∃k,aaw X.K x H k/\Q k H):=by
 intro pins s σ H x v Q I rx h;obtain⟨k,e,q⟩:=h;have hl:=ug;have hs:sizeLine=16777216:=sizeLine_eq;cases x with
 | non=>
   cases rx;have e':k=false:=e;subst e';exact truthy_none ⟨H,I,q⟩
 | bl b=>
   cases rx;have e':k=b:=e;subst e';exact wpAny_truthy_bool ⟨H,I,q⟩
 | int i=>
   obtain⟨t,rfl⟩:=rx;have e':k=(i != 0):=e;subst e';exact PySem.P.truthy_int ⟨H,I,q⟩
 | str y=>
   obtain⟨t,rfl⟩:=rx;obtain⟨hy,e'⟩:y.length<=sizeLine/\k=((y.length:Int) != 0):=e;subst e';exact PySem.P.truthy_str (by lia) ⟨H,I.tok _,q⟩
 | JK y=>
   obtain⟨t,rfl⟩:=rx;obtain⟨hy,e'⟩:y.size<=sizeLine/\k=((y.size:Int) != 0):=e;subst e';exact PySem.W.truthy_bytes (by lia) ⟨H,I.tok _,q⟩
 | ref p=>
   cases rx;have e':(∃xs,bB X.K H p xs/\k = !xs.isEmpty)\/(∃xs,bO X.K H p xs/\k = !xs.isEmpty) \/ ∃kvs,H p=some (.dK kvs)/\k = !kvs.isEmpty:=e;rcases e' with ⟨xs,hx,e'⟩|⟨xs,hx,e'⟩|⟨kvs,hx,e'⟩
   .subst e'
    obtain⟨its,r,pl,hz⟩:=I.list hx;have hlen:=r.length;exact wpAny_truthy_list pl.isList (by simp only[aaQ];lia) ⟨H,I.tok _,by rw[yj r];exact q⟩
   .subst e'
    obtain⟨its,r,pl,hz⟩:=I.tuple hx;have hlen:=r.length;exact truthy_tuple pl (by simp only[aaQ];lia) ⟨H,I.tok _,by rw[yj r];exact q⟩
   .subst e'
    obtain⟨hz,hS,vs,r,m⟩:kvs.length<=sizeLine/\(p==sysModules)=false /\ ∃vs,KV kvs vs/\s.heap.DictOf (cU X.prog X.w) p vs:=I.hok p _ hx;have hlen:kvs.length=vs.length:=Paired.length r;exact wpAny_truthy_dict hS m (by lia) ⟨H,I.tok _,by rw[Jk r];exact q⟩
 | _=>exact(show False from e).elim
theorem Ra(ha:PE X a ta)(he:∀whole,isTrue a X.env whole=(do let v ←whole;standAt a.pos;holding [v] (truthy v))):
 PT X a (λσ H Q=>ta σ H λx H'=>∃k,aaw X.K x H' k/\Q k H'):=by
 intro pins s σ H Q I h;exact isTrue_plain (cY (ha pins s σ H _ I h) λv s1 ⟨x,H1,I1,r1,q1⟩=>Ys pins s1 σ H1 x v Q I1 r1 q1) (he _)
theorem vals1{x:V}{us:List Value}(r:Vals [x] us):∃u,us=[u]/\RelV x u:=by
 cases r with
 | cons r1 r2=>cases r2;exact⟨_,Z,r1⟩
theorem vals2{x y:V}{us:List Value}(r:Vals [x,y] us):∃u w',us=[u,w']/\RelV x u/\RelV y w':=by
 cases r with
 | cons r1 r2=>
   cases r2 with
   | cons r3 r4=>cases r4;exact⟨_,_,Z,r1,r3⟩
theorem uE(hc:X.calm=true):jr X (.builtin "max") (λxs H Q=>∃i j,xs=[.int i,.int j]/\Q (.int (if j>i then j else i)) H):=by
 intro pins s σ H xs us Q I r h;obtain⟨i,j,rfl,q⟩:=h;obtain⟨u,w',rfl,⟨t,rfl⟩,⟨t',rfl⟩⟩:=vals2 r;refine max_two_ints (I.ok.hd hc) λh' tk k=>⟨_,H,I.kept k, ?_,q⟩
 by_cases hj:j>i
 .rw[abW hj,abW hj];exact⟨_,Z⟩
 .rw[abN hj,abN hj];exact⟨_,Z⟩
theorem Pq:jr X (.type "int") (λxs H Q=>(∃i,xs=[.int i]/\Q (.int i) H) \/ ∃k,xs=[.bl k]/\Q (.int (if k then 1 else 0)) H):=by
 intro pins s σ H xs us Q I r h;rcases h with ⟨i,rfl,q⟩|⟨k,rfl,q⟩
 .obtain⟨u,rfl,t,rfl⟩:=vals1 r
  exact call_int_int ⟨.int i,H,I,⟨_,Z⟩,q⟩
 .obtain⟨u,rfl,r1⟩:=vals1 r
  cases r1;exact call_int_bool ⟨.int (if k then 1 else 0),H,I.tok _,⟨_,Z⟩,q⟩
end
structure J2(h:Heap)(x dx C:Addr)(mA:Str->Option Value):Prop where
 obj:h.get? x=some (PySem.W.instObj C dx)
 ns:h.Ns1 dx mA
 ne:dx≠x
theorem Ou{h:Heap}{dx:Addr}{mA:Str->Option Value}(n:h.Ns1 dx mA):∃od,h.get? dx=some od /\ ∀name,PySem.W.lookIn name od=some (mA name):=by
 obtain⟨o,es,ep,ho,hd,hk,_,hm⟩:=n;refine⟨o,ho,λname=>?_⟩;have e:=hm name;unfold nsFind findBy at e;rw[←Array.find?_toList] at e;unfold PySem.W.lookIn;rw[hd];dsimp only;split
 .rename_i y q
  rw[q] at e;exact congrArg some e
 .rename_i q
  rw[q] at e
  have a:es.toList.any (·.refKey)=false:=by
   rw[List.any_eq_false];intro y hy;obtain⟨z,t,hkey⟩:=hk y (Array.mem_toList_iff.mp hy);simp[DictEntry.refKey,hkey]
  have a':¬es.toList.any (·.refKey)=true:=by rw[a];exact aaP
  rw[abN a'];exact congrArg some e
theorem J2.look{h:Heap}{x dx C:Addr}{mA:Str->Option Value}(I:J2 h x dx C mA):∃od,PySem.W.InstAt h x (PySem.W.instObj C dx) C (some od) /\ ∀name,PySem.W.lookIn name od=some (mA name):=
 let ⟨od,ho,hl⟩:=Ou I.ns
 ⟨od,⟨I.obj,Z,Z,ho⟩,hl⟩
section
variable{prog:Program}{w:World}{A:Around}{E:Value->Shared->Prop}{s:Shared}{K:PySem.W.Frag}{x dx C f:Addr}{mA:Str->Option Value}{name:Str}{v:Value}
theorem get_map{expr:Bool}{Q:Value->Shared->Prop}(X:K.In s.heap)(I:J2 s.heap x dx C mA)(hg:PySem.W.plainGet K C name=true)(hh:PySem.W.hasDictIn K C=true)(ha:PySem.W.findIn K (.ref C) name=some none)(hv:mA name=some v)(hv':PySem.W.handedIn v=true)(h:Q v {s with toks:=s.toks+1}):
 wpAny (model prog w) A (getAttr (.ref x) name expr) Q E s:=by
 obtain⟨od,J,hl⟩:=I.look;exact PySem.W.get_value X J (PySem.W.plainGet_of hg).1 (PySem.W.findObj_own hh ha rfl (by rw[hl,hv])) hv' h
theorem S_{pl:Sem Bool}{Q:Value×List Value->Shared->Prop}(X:K.In s.heap)(I:J2 s.heap x dx C mA)(hg:PySem.W.plainGet K C name=true)(hf:PySem.W.findIn K (.ref C) name=some (some (.ref f)))(ht:PySem.W.isFn K (.ref f)=true)(hv:mA name=none)(h:Q (.ref f,[.ref x]) s):
 wpAny (model prog w) A (getMethod (.ref x) name pl) Q E s:=by
 obtain⟨od,J,hl⟩:=I.look;exact PySem.W.method_fn X J (PySem.W.plainGet_of hg).1 (PySem.W.plainGet_of hg).2 hf (beq_iff_eq.mp ht) (by show (PySem.W.lookIn name od).map (·.isSome)=some false;rw[hl,hv];rfl) h
theorem Vi{ns:List Str}{Q:Unit->Shared->Prop}(X:K.In s.heap)(I:J2 s.heap x dx C mA)(hs:PySem.W.findIn K (.ref C) "__setattr__" = some (some (.builtin "object.__setattr__")))(hp:PySem.W.plainOver K C=true)(ht:PySem.W.takerIn K C name=some none)(hh:PySem.W.hasDictIn K C=true)(hw:PySem.Within mA ns)(hsz:ns.length<=sizeLine)(h:∀h',J2 h' x dx C (λy=>if y=name then some v else mA y)->Heap.SameBut dx s.heap h'->Q () {s with heap:=h',toks:=s.toks+2}):
 wpAny (model prog w) A (setAttr (.ref x) name v) Q E s:=by
 obtain⟨od,J,hl⟩:=I.look;refine PySem.W.set_plain X J hs (PySem.W.osa_open (s:={s with toks:=s.toks+1}) (r:=none) X J hp ht λb=>?_);obtain⟨cd,hc,hd'⟩:=PySem.W.any_some hh;have hx:s.heap.get? x=some ⟨.ref C,some dx,.plain, #[]⟩:=I.obj;refine aay (aaB (aay (aay (wpAny_loadPart hx (aay (PySem.W.Looks.here (s:={s with toks:=s.toks+1}) (PySem.W.looks_clsIn X hc) ?_))))));rw[hd'];refine aaB (a:=some dx) (aay (aaB (aay ?_)));refine wpAny_nsSet1 (s:={s with toks:=s.toks+1}) I.ns λh' hn2 hs2=>?_;obtain⟨oD,esD,epD,hoD,hdD,hcD⟩:=hn2.count (PySem.Within.cons name v hw);refine aay (wpAny_lookBehind hoD (by rw[hdD];exact pastItsLine_dict (abG hcD (by rw[abo];lia))) ?_);exact aaB (h _ ⟨(hs2.2 _ (Ne.symm I.ne)).trans I.obj,hn2,I.ne⟩ hs2)
theorem Gk{R:Result->Shared->Prop}{vs:List Value}{kw:List (Str×Value)}(X:K.In s.heap)(hm:PySem.W.makesIn K C=true)(hi:PySem.W.findIn K (.ref C) "__init__" = some (some (.ref f)))(hf:PySem.W.typeIn K (.ref f)=some (.type "function"))(h:codeAny (model prog w) (A.under (.builtin "type.__call__" ⟨.ref C::vs,kw⟩)) (.call (.ref f) ⟨.ref (s.heap.objs.size+1)::vs,kw⟩) (PySem.W.InitBack (s.heap.objs.size+1) R)
   {s with heap:=(s.heap.push PySem.W.emptyDict).push (PySem.W.instObj C s.heap.objs.size)}):
 codeAny (model prog w) A (.call (.ref C) ⟨vs,kw⟩) R s:=by
 obtain⟨hh,g,d,t,os⟩:=s;exact PySem.W.make_core (PySem.W.makes_of X hm) (PySem.W.looks_findIn X hi) (λself=>PySem.W.bind_fn X self hf) (.inl rfl) h
end
noncomputable def dz(f:Str)(v:V):List (Str×V)->List (Str×V)
 | []=>[(f,v)]
 | (g,x)::r=>if g=f then (g,v)::r else (g,x)::dz f v r
theorem uQ(f g:Str)(v:V):∀fs:List (Str×V),(dz f v fs).lookup g=if g=f then some v else fs.lookup g
 | []=>by
   show List.lookup g [(f,v)]=_
   by_cases h:g=f
   .have hb:(g==f)=true:=beq_iff_eq.mpr h
    simp only[List.lookup,hb,abW h]
   .have hb:(g==f)=false:=beq_eq_false_iff_ne.mpr h
    simp only[List.lookup,hb,abN h]
 | (k,x)::r=>by
   have ih:=uQ f g v r;rw[show dz f v ((k,x)::r)=(if k=f then (k,v)::r else (k,x)::dz f v r) from rfl]
   by_cases hk:k=f
   .rw[abW hk]
    by_cases h:g=k
    .have hb:(g==k)=true:=beq_iff_eq.mpr h
     simp only[List.lookup,hb,abW (h.trans hk)]
    .have hb:(g==k)=false:=beq_eq_false_iff_ne.mpr h
     simp only[List.lookup,hb,abN (λe:g=f=>h (e.trans hk.symm))]
   .rw[abN hk]
    by_cases h:g=k
    .have hb:(g==k)=true:=beq_iff_eq.mpr h
     simp only[List.lookup,hb,abN (λe:g=f=>hk (h.symm.trans e))]
    .have hb:(g==k)=false:=beq_eq_false_iff_ne.mpr h
     simp only[List.lookup,hb];exact ih
theorem uh(f:Str)(v:V):∀fs:List (Str×V),f∈(dz f v fs).map (·.1) /\ ∀g,g∈fs.map (·.1)->g∈(dz f v fs).map (·.1)
 | []=>⟨by simp[dz],λg h=>by simp at h⟩
 | (k,x)::r=>by
   obtain⟨i1,i2⟩:=uh f v r;rw[show dz f v ((k,x)::r)=(if k=f then (k,v)::r else (k,x)::dz f v r) from rfl]
   by_cases hk:k=f
   .rw[abW hk]
    subst hk;exact⟨by simp,λg h=>by simpa using h⟩
   .rw[abN hk]
    refine⟨?_,λg h=>?_⟩
    .rw[List.map_cons]
     exact aa0 _ i1
    .rw[List.map_cons] at h ⊢
     rcases List.mem_cons.mp h with e|e
     .exact List.mem_cons.mpr (.inl e)
     .exact aa0 _ (i2 g e)
theorem uR(f:Str)(v:V):∀fs:List (Str×V),(dz f v fs).length<=fs.length+1
 | []=>by simp[dz]
 | (k,x)::r=>by
   have ih:=uR f v r;rw[show dz f v ((k,x)::r)=(if k=f then (k,v)::r else (k,x)::dz f v r) from rfl]
   by_cases hk:k=f
   .rw[abW hk,abo,abo];lia
   .rw[abN hk,abo,abo];lia
theorem mY.some_of{v:V}{o:Option Value}(r:mY (some v) o):∃u,o=some u/\RelV v u:=by
 cases o with
 | none=>exact(show False from r).elim
 | some u=>exact⟨u,Z,r⟩
theorem mY.none_of{o:Option Value}(r:mY none o):o=none:=by
 cases o with
 | none=>rfl
 | some u=>exact(show False from r).elim
theorem O2{v:V}{u:Value}(r:RelV v u):PySem.W.handedIn u=true:=by
 cases v with
 | non=>cases (show u=Value.none from r);rfl
 | bl b=>cases (show u=Value.bool b from r);rfl
 | int i=>obtain⟨t,e⟩:=(show ∃t,u=Value.int i t from r);cases e;rfl
 | str x=>obtain⟨t,e⟩:=(show ∃t,u=Value.str x t from r);cases e;rfl
 | JK b=>obtain⟨t,e⟩:=(show ∃t,u=Value.bytes b t from r);cases e;rfl
 | flt b=>obtain⟨t,e⟩:=(show ∃t,u=Value.float b t from r);cases e;rfl
 | ref a=>cases (show u=Value.ref a from r);rfl
 | ty n=>cases (show u=Value.type n from r);rfl
section
variable{P:Program}{w:World}{H H':Hp}{h h':Heap}{a C dx:Addr}{fs fs':List (Str×V)}
theorem vU(hok:lK P w H h)(e:H a=some (.ins C dx fs)):∃mA,J2 h a dx C mA/\(∀f,mY (fs.lookup f) (mA f))/\PySem.Within mA (fs.map (·.1))/\fs.length<=1000/\H dx=some (.own a):=by
 obtain⟨d,z,ne,ob,mA,n,r,q⟩:=(show cW P w H h a (.ins C dx fs) from hok a _ e);exact⟨mA,⟨ob,n,ne⟩,r,q,z,d⟩
end
structure Cls(K:PySem.W.Frag)(C:Addr):Prop where
 pg:PySem.W.plainGet K C Str.empty=true
 hd:PySem.W.hasDictIn K C=true
 po:PySem.W.plainOver K C=true
 sa:PySem.W.findIn K (.ref C) "__setattr__" = some (some (.builtin "object.__setattr__"))
theorem Cls.get{K:PySem.W.Frag}{C:Addr}(c:Cls K C)(f:Str):PySem.W.plainGet K C f=true:=c.pg
noncomputable def gq(K:PySem.W.Frag)(C:Addr)(f:Str):Prop:=PySem.W.findIn K (.ref C) f=some none
theorem gq.taker{K:PySem.W.Frag}{C:Addr}{f:Str}(n:gq K C f):PySem.W.takerIn K C f=some none:=by
 unfold PySem.W.takerIn;rw[show PySem.W.findIn K (.ref C) f=some none from n];rfl
structure Meth(K:PySem.W.Frag)(C:Addr)(m:Str)(f:Addr):Prop where
 at_:PySem.W.findIn K (.ref C) m=some (some (.ref f))
 fn:PySem.W.isFn K (.ref f)=true
 kp:PySem.W.keepIn K (.ref f)=true
section
variable{X:Cx}{pins:List (Addr×Obj)}{σ:St}{H:Hp}{s:Shared}{a C dx:Addr}{fs:List (Str×V)}{f:Str}{v:V}{A:Around}{E:Value->Shared->Prop}
theorem yC{b:Bool}{Q:Value->Shared->Prop}(I:Inv X pins σ H s)(e:H a=some (.ins C dx fs))(c:Cls X.K C)(n:gq X.K C f)(l:fs.lookup f=some v)(h:∀u s',Inv X pins σ H s'->RelV v u->Q u s'):wpAny (model X.prog X.w) A (getAttr (.ref a) f b) Q E s:=by
 obtain⟨mA,O,r,_,_,_⟩:=vU I.hok e;obtain⟨u,hu,ru⟩:=mY.some_of (v:=v) (o:=mA f) (by rw[←l];exact r f);exact get_map I.mH O (c.get f) c.hd n hu (O2 ru) (h u _ (I.tok _) ru)
theorem qy{m:Str}{g:Addr}{pl:Sem Bool}{Q:Value×List Value->Shared->Prop}(I:Inv X pins σ H s)(e:H a=some (.ins C dx fs))(c:Cls X.K C)(k:Meth X.K C m g)(l:fs.lookup m=none)(h:Q (.ref g,[.ref a]) s):wpAny (model X.prog X.w) A (getMethod (.ref a) m pl) Q E s:=by
 obtain⟨mA,O,r,_,_,_⟩:=vU I.hok e;have hn:mA m=none:=mY.none_of (by rw[←l];exact r m);exact S_ I.mH O (c.get m) k.at_ k.fn hn h
theorem wN{y:V}{u:Value}{Q:Unit->Shared->Prop}(I:Inv X pins σ H s)(e:H a=some (.ins C dx fs))(c:Cls X.K C)(n:gq X.K C f)(hl:fs.length<1000)(ry:RelV y u)(h:∀s',Inv X pins σ (upd H a (.ins C dx (dz f y fs))) s'->Q () s'):wpAny (model X.prog X.w) A (setAttr (.ref a) f u) Q E s:=by
 obtain⟨mA,O,r,wi,_,ho⟩:=vU I.hok e;have hz:(fs.map (·.1)).length<=sizeLine:=by rw[aad,sizeLine_eq];lia
 refine Vi I.mH O c.sa c.po n.taker c.hd wi hz λh' O' sb=>h _ ?_;have hd:∃o,h'.get? dx=some o:=let ⟨o,_,_,e',_⟩:=O'.ns;⟨o,e'⟩
 refine I.write (x:=a) (e:=dx) (by rw[e];exact True.intro) (.inr ho) (λb q hb z=>(sb.2 b hb).trans z) hd ?_;refine⟨by rw[aF O.ne];exact ho, ?_,O.ne,O'.obj,_,O'.ns,λg=>?_,λg hg=>?_⟩
 .have:=uR f y fs;lia
 .show mY ((dz f y fs).lookup g) (if g=f then some u else mA g)
  rw[uQ]
  by_cases q:g=f
  .rw[abW q,abW q];exact ry
  .rw[abN q,abN q];exact r g
 .by_cases q:g=f
  .rw[q];exact(uh f y fs).1
  .refine(uh f y fs).2 g (wi g λz=>hg ?_)
   show (if g=f then some u else mA g)=none;rw[abN q];exact z
theorem Inv.made(I:Inv X pins σ H s):Inv X pins σ (upd (upd H s.heap.objs.size (.own (s.heap.objs.size+1))) (s.heap.objs.size+1) (.ins C s.heap.objs.size []))
 {s with heap:=(s.heap.push PySem.W.emptyDict).push (PySem.W.instObj C s.heap.objs.size)}:=by
 have e1:(s.heap.push PySem.W.emptyDict).get? s.heap.objs.size=some PySem.W.emptyDict:=aaj s.heap rfl
 have e2:((s.heap.push PySem.W.emptyDict).push (PySem.W.instObj C s.heap.objs.size)).get? (s.heap.objs.size+1)=some (PySem.W.instObj C s.heap.objs.size):=by
  have:=aaj (s.heap.push PySem.W.emptyDict) (o:=PySem.W.instObj C s.heap.objs.size) rfl;rwa [Heap.size_push] at this
 have e3:(s.heap.push PySem.W.emptyDict).Ns s.heap.objs.size (λ_=>none):=⟨PySem.W.emptyDict, #[],_,e1,Z,(λe he=>abZ he (by simp)),λ_=>rfl⟩;have I1:=I.laid (a:=s.heap.objs.size) (o:= .own (s.heap.objs.size+1)) (h':=s.heap.push PySem.W.emptyDict) (t':=s.toks) (λb u q=>aai _ q) (aap _) ⟨_,e1⟩;refine I1.laid (a:=s.heap.objs.size+1) (o:= .ins C s.heap.objs.size []) (t':=s.toks) (λb u q=>aai _ q) (Nat.le_of_eq (Heap.size_push _ _)) ?_;have ne:s.heap.objs.size≠s.heap.objs.size+1:=aaV (Nat.lt_succ_self _);refine⟨by rw[aF ne,ak],Nat.zero_le _,ne,e2,λ_=>none,(Heap.Ns1.of_empty e3).at λo q=>aai _ q,λ_=>True.intro,λy hy=>abZ rfl hy⟩
theorem Xc{prog:Program}{w:World}{env:Env}{e:Expr}{f:Str}{pos:Pos}{s:Shared}{Q:Value->Shared->Prop}(hb:attributeBase e f env (eval e env)=eval e env)(h:wpAny (model prog w) A (eval e env) (λo s₁=>wpAny (model prog w) A (getAttr o f true) Q E s₁) E s):wpAny (model prog w) A (eval (.Attribute e f pos) env) Q E s:=
 Attribute_any_ h (by rw[arm_eval_Attribute,hb])
end
noncomputable def abx(K:PySem.W.Frag)(ta:TE)(f:Str):TE:=λσ H Q=>ta σ H λx H1=>∃a C dx fs v,x = .ref a/\H1 a=some (.ins C dx fs)/\Cls K C/\gq K C f/\fs.lookup f=some v/\Q v H1
noncomputable def abK(K:PySem.W.Frag)(ta tv:TE)(f:Str):TS:=λD σ H=>tv σ H λy H1=>ta σ H1 λx H2=>∃a C dx fs,x = .ref a/\H2 a=some (.ins C dx fs)/\Cls K C/\gq K C f/\fs.length<1000 /\
 D.nx σ (upd H2 a (.ins C dx (dz f y fs)))
noncomputable def adb(X:Cx)(op:Operator)(rd:V->V->Hp->VK->Prop):Prop:=
 ∀(pins:List (Addr×Obj))(s:Shared)(σ:St)(H:Hp)(x y:V)(u v:Value)(Q:VK),Inv X pins σ H s->RelV x u->RelV y v->rd x y H Q->wpAny (model X.prog X.w) X.A (inplaceOp op u v) (EP X pins σ Q) X.xe s
noncomputable def K3(K:PySem.W.Frag)(ta tv:TE)(rd:V->V->Hp->VK->Prop)(f:Str):TS:=λD σ H=>ta σ H λx H1=>∃a C dx fs v,x = .ref a/\H1 a=some (.ins C dx fs)/\Cls K C/\gq K C f/\fs.lookup f=some v /\
 tv σ H1 λy H2=>rd v y H2 λz H3=>∃dx' fs',H3 a=some (.ins C dx' fs')/\fs'.length<1000/\D.nx σ (upd H3 a (.ins C dx' (dz f z fs')))
section
variable{X:Cx}{o e value:Expr}{f:Str}{pos pos' tpos:Pos}{ta tv:TE}
theorem Zi(he:PE X e ta)(hb:attributeBase e f X.env (eval e X.env)=eval e X.env):PE X (.Attribute e f pos) (abx X.K ta f):=by
 intro pins s σ H Q I h;refine Xc hb (cY (he pins s σ H _ I h) λu s1 gW=>?_);obtain⟨x,H1,I1,rx,a,C,dx,fs,v,ex,ea,c,n,l,q⟩:=gW;subst ex;obtain rfl:u=Value.ref a:=rx;exact yC I1 ea c n l λu' s2 I2 ru=>⟨v,H1,I2,ru,q⟩
theorem Y_(ha:PE X o ta)(hv:PE X value tv)(hs:swapsWith value (some (.Attribute o f pos')) pos.line X.env=pure false):PS X (.Assign [.Attribute o f pos'] value pos) (abK X.K ta tv f):=by
 intro pins s σ H D I h;refine plainObj_wpAny_Assign_Attribute (cY (hv pins s σ H _ I h) λu s1 ⟨y,H1,I1,ry,q⟩=>cY (ha pins s1 σ H1 _ I1 q) λov s2 ⟨x,H2,I2,rx,a,C,dx,fs,ex,ea,c,n,l,q2⟩=>?_) hs;subst ex;obtain rfl:ov=Value.ref a:=rx;exact wN I2 ea c n l ry λs3 I3=>⟨σ,_,I3,q2⟩
theorem NK{op:Operator}{rd:V->V->Hp->VK->Prop}(ha:PE X o ta)(hv:PE X value tv)(hop:adb X op rd):PS X (.AugAssign (.Attribute o f tpos) op value pos) (K3 X.K ta tv rd f):=by
 intro pins s σ H D I h;refine wpAny_AugAssign_AttributeAny (cY (ha pins s σ H _ I h) λov s1 gW=>?_);obtain⟨x,H1,I1,rx,a,C,dx,fs,v,ex,ea,c,n,l,q⟩:=gW;subst ex;obtain rfl:ov=Value.ref a:=rx;refine yC I1 ea c n l λu s2 I2 ru=>cY (hv pins s2 σ H1 _ I2 q) λw3 s3 ⟨y,H2,I3,ry,q3⟩=>cY (hop pins s3 σ H2 v y u w3 _ I3 ru ry q3) λw4 s4 gW=>?_;obtain⟨z,H3,I4,rz,dx',fs',ea',l',q4⟩:=gW;exact wN I4 ea' c n l' rz λs5 I5=>⟨σ,_,I5,q4⟩
end
section
variable{X:Cx}{pins:List (Addr×Obj)}{σ:St}{H:Hp}{s:Shared}{A:Around}{E:Value->Shared->Prop}{Q:Value->Shared->Prop}{c:Value}{b:Bool}
inductive rK(K:PySem.W.Frag)(H:Hp):V->Value->Prop where
 | non:rK K H .non (.type "NoneType")
 | bl (x:Bool):rK K H (.bl x) (.type "bool")
 | int (i:Int):rK K H (.int i) (.type "int")
 | str (x:Str):rK K H (.str x) (.type "str")
 | flt (x:UInt64):rK K H (.flt x) (.type "float")
 | lst {a:Addr} {xs:List V} (e:H a=some (.lst xs)):rK K H (.ref a) (.type "list")
 | mJ {a:Addr} {o:Obj} {xs:List V} (e:H a=some (.mJ o (.lst xs))):rK K H (.ref a) (.type "list")
 | tup {a:Addr} {xs:List V} (e:H a=some (.tup xs)):rK K H (.ref a) (.type "tuple")
 | dK {a:Addr} {kvs:List (Key×V)} (e:H a=some (.dK kvs)):rK K H (.ref a) (.type "dict")
 | dT {a:Addr} {kvs:List (List Key×V)} (e:H a=some (.dT kvs)):rK K H (.ref a) (.type "dict")
 | ins {a C dx:Addr} {fs:List (Str×V)} (e:H a=some (.ins C dx fs)) (cl:Cls K C) (ha:PySem.W.findIn K (.ref C) "__class__" = some (some (.builtin "object.__class__")))
    (hn:PySem.W.specialIn K (.builtin "object.__class__") "__get__" = some (some (.builtin "getset_descriptor.__get__"))) (htk:PySem.W.takesIn K (.builtin "object.__class__")=some true)
    (hm:PySem.W.mroIn K C (.type "object")=some true):rK K H (.ref a) (.ref C)
theorem Oz{x:V}{u t:Value}(I:Inv X pins σ H s)(rx:RelV x u)(ty:rK X.K H x t)(e:PySem.W.kitOne X.K t c=some b)(h:∀tk,Q (.bool b) {s with toks:=tk}):
 wpAny (model X.prog X.w) A (call (.builtin "isinstance") [u,c]) Q E s:=by
 cases ty with
 | non=>cases (show u=Value.none from rx);exact PySem.W.kia_one PySem.W.kitx_none I.mH True.intro e (λz=>nomatch z) h
 | bl y=>cases (show u=Value.bool y from rx);exact PySem.W.kia_one PySem.W.kitx_bool I.mH True.intro e (λz=>nomatch z) h
 | int i=>obtain⟨t,q⟩:=(show ∃t,u=Value.int i t from rx);cases q;exact PySem.W.kia_one PySem.W.kitx_int I.mH True.intro e (λz=>nomatch z) h
 | str y=>obtain⟨t,q⟩:=(show ∃t,u=Value.str y t from rx);cases q;exact PySem.W.kia_one PySem.W.kitx_str I.mH True.intro e (λz=>nomatch z) h
 | flt y=>obtain⟨t,q⟩:=(show ∃t,u=Value.float y t from rx);cases q;exact PySem.W.kia_one PySem.W.kitx_float I.mH True.intro e (λz=>nomatch z) h
 | @lst a xs ea=>
   cases (show u=Value.ref a from rx);obtain⟨_,_,n,_,h1⟩:=(show cW X.prog X.w H s.heap a (.lst xs) from I.hok a _ ea);exact PySem.W.kia_one PySem.W.kitx_list I.mH ⟨_,h1,Z⟩ e (λz=>nomatch z) h
 | @mJ a ob xs ea=>
   cases (show u=Value.ref a from rx);obtain⟨_,_,_,n,_,h1⟩:=(show cW X.prog X.w H s.heap a (.mJ ob (.lst xs)) from I.hok a _ ea);exact PySem.W.kia_one PySem.W.kitx_list I.mH ⟨_,h1,Z⟩ e (λz=>nomatch z) h
 | @tup a xs ea=>
   cases (show u=Value.ref a from rx);obtain⟨_,_,_,p⟩:=(show cW X.prog X.w H s.heap a (.tup xs) from I.hok a _ ea);obtain⟨o,h1,h2,_⟩:=p;exact PySem.W.kia_one PySem.W.kitx_tuple I.mH ⟨o,h1,h2⟩ e (λz=>nomatch z) h
 | @dK a kvs ea=>
   cases (show u=Value.ref a from rx);obtain⟨_,_,vs,_,p⟩:=(show cW X.prog X.w H s.heap a (.dK kvs) from I.hok a _ ea);obtain⟨o,es,ep,h1,h2,_⟩:=p;exact PySem.W.kia_one PySem.W.kitx_dict I.mH ⟨o,h1,h2.1⟩ e (λz=>nomatch z) h
 | @dT a kvs ea=>
   cases (show u=Value.ref a from rx);obtain⟨_,_,xs,_,o,es,ep,h1,h2,_⟩:=(show cW X.prog X.w H s.heap a (.dT kvs) from I.hok a _ ea);exact PySem.W.kia_one PySem.W.kitx_dict I.mH ⟨o,h1,h2.1⟩ e (λz=>nomatch z) h
 | @ins a C dx fs ea cl ha hn htk hm=>
   cases (show u=Value.ref a from rx);obtain⟨mA,O,_⟩:=vU I.hok ea;obtain⟨od,J,_⟩:=O.look;exact PySem.W.kia_one (PySem.W.kitx_own (cl.get _) cl.hd ha hn htk hm) I.mH J e (λz=>nomatch z) h
end
structure eU(k:Nat)(A:Around):Prop where
 hd:A.handled=none
 dp:A.depth+3*k+5<recursionLimit
 un:A.units+16*k+200<cLine
theorem eU.mono{j k:Nat}{A:Around}(r:eU k A)(h:j<=k):eU j A:=⟨r.hd,by have:=r.dp;lia,by have:=r.un;lia⟩
theorem eU.deeper{k:Nat}{A:Around}(r:eU (k+1) A)(env:Env):eU k (A.deeper env):=
 ⟨r.hd,by have:=r.dp;show A.depth+1+3*k+5<_;lia,by have:=r.un;show A.units+3+16*k+200<_;lia⟩
theorem Jh{A:Around}{C:Addr}{us:List Value}{kw:List (Str×Value)}:(A.under (.builtin "type.__call__" ⟨.ref C::us,kw⟩)).depth=A.depth+1:=by
 first |rfl|simp[Around.under,Code.weight,Code.isCreation,Code.isGuard,Code.isCaller,Code.frames,Code.isFrame,guardIds]
theorem Jg{A:Around}{C:Addr}{us:List Value}{kw:List (Str×Value)}:(A.under (.builtin "type.__call__" ⟨.ref C::us,kw⟩)).units=A.units+1:=by
 first |rfl|simp[Around.under,Code.cUnits,Code.frames,Code.isFrame]
theorem eU.make{k:Nat}{A:Around}(r:eU (k+1) A)(C:Addr)(us:List Value)(kw:List (Str×Value)):eU k (A.under (.builtin "type.__call__" ⟨.ref C::us,kw⟩)):=
 ⟨r.hd,by have:=r.dp;rw[Jh];lia,by have:=r.un;rw[Jg];lia⟩
theorem eU.depth{k:Nat}{A:Around}(r:eU k A):A.depth<recursionLimit:=by have:=r.dp;lia
theorem eU.units{k:Nat}{A:Around}(r:eU k A):A.units+64<cLine:=by have:=r.un;lia
noncomputable def lQ:TA:=λ_ H Q=>Q [] H
noncomputable def Qw(ta:TE)(tr:TA):TA:=λσ H Q=>ta σ H λx H1=>tr σ H1 λxs H2=>Q (x::xs) H2
section
variable{X:Cx}{e:Expr}{es:List Expr}{te:TE}{t:TA}{pos:Pos}
theorem aq:PA X [] lQ:=λ_ _ _ _ H Q I h=>Calls.spliced_nil ⟨[],H,I,.nil,h⟩
theorem aj(ha:PE X e te)(hr:PA X es t)(hs:starEach (e::es) X.env=(false,eval e X.env)::starEach es X.env:=by rfl):PA X (e::es) (Qw te t):=by
 intro pos pins s σ H Q I h;rw[hs];show wpAny _ _ (spliced ((false,eval e X.env)::backTo pos (starEach es X.env))) _ _ s;refine Calls.spliced_cons (cY (ha pins s σ H _ I h) λu s1 gW=>?_);obtain⟨x,H1,I1,r1,q1⟩:=gW;exact cY (hr pos pins s1 σ H1 _ I1 q1) λus s2 ⟨xs,H2,I2,r2,q2⟩=>⟨x::xs,H2,I2,.cons r1 r2,q2⟩
noncomputable def aeJ(t:TA):TE:=λσ H Q=>t σ H λxs H1=>xs.length<=sizeLine /\ ∀p,H1 p=none->Q (.ref p) (upd H1 p (.tup xs))
noncomputable def abu(t:TA):TE:=λσ H Q=>t σ H λxs H1=>xs.length<=sizeLine /\ ∀p,H1 p=none->Q (.ref p) (upd H1 p (.lst xs))
theorem cN{x1}(h:PA X es t):PE X (.Tuple es x1 pos) (aeJ t):=by
 intro pins s σ H Q I hq;refine wpAny_Tuple_spliced (cY (h pos pins s σ H _ I hq) λus s1 ⟨xs,H1,I1,r,z,q⟩=>⟨by rw[←r.length];exact z, ?_⟩);have hf:H1 s1.heap.objs.size=none:=I1.hok.fresh (aap _);refine⟨.ref s1.heap.objs.size,upd H1 s1.heap.objs.size (.tup xs),I1.laid (t':=s1.toks) (λb u e=>aai _ e) (aap _) ?_,Z,q _ hf⟩;exact⟨z,us,r,⟨_,aaj _ rfl,Z,_,Z⟩⟩
theorem bW(h:PA X es t):PE X (.List es pos) (abu t):=by
 intro pins s σ H Q I hq;refine wpAny_List_spliced (cY (h pos pins s σ H _ I hq) λus s1 ⟨xs,H1,I1,r,z,q⟩=>⟨by rw[←r.length];exact z, ?_⟩);have hf:H1 s1.heap.objs.size=none:=I1.hok.fresh (aap _);refine⟨.ref s1.heap.objs.size,upd H1 s1.heap.objs.size (.lst xs),I1.laid (t':=s1.toks) (λb u e=>aai _ e) (aap _) ?_,Z,q _ hf⟩;exact⟨z,us,0,r,aaj _ rfl⟩
end
noncomputable abbrev Sp:=List V->Hp->VK->XK->Prop
noncomputable abbrev Qf:=List Env->Hp->Shared->XK->Value->Shared->Prop
structure J_(P:Program)(w:World)(K:PySem.W.Frag)(mg:Str->Option Value)(base:Heap)(A:Around)(outer:List Env)(s:Shared)(H:Hp):Prop where
 frames:A.frames=some outer
 mod:Mod K mg base
 bs:∀b o,base.get? b=some o->s.heap.get? b=some o/\H b=none
 W_:base.objs.size<=s.heap.objs.size
 ur:s.heap.FunFrames base outer
 Z8:∀b∈frs outer,H b=none
 hok:lK P w H s.heap
 bare:AllBare s.gens
noncomputable def CE(outer:List Env)(P:Program)(w:World)(H:Hp)(s:Shared)(Q:VK)(u:Value)(s':Shared):Prop:=
 ∃v H',s'.os=s.os/\AllBare s'.gens/\Un (frs outer) [] H H' s.heap s'.heap/\lK P w H' s'.heap/\RelV v u/\Q v H'
noncomputable def CR(CX:Qf)(outer:List Env)(P:Program)(w:World)(H:Hp)(s:Shared)(Q:VK)(E:XK)(r:Result)(s':Shared):Prop:=
 match r with
 | .ok (.ret u)=>CE outer P w H s Q u s'
 | .ok _=>False
 | .error e=>CX outer H s E e s'
structure bL(P:Program)(w:World)(K:PySem.W.Frag)(mg:Str->Option Value)(base:Heap)(CX:Qf)(k:Nat)(f:Addr)(fd:FuncData)(ps:List Str)(sp:Sp):Prop where
 len:∀vs H Q E,sp vs H Q E->vs.length=ps.length
 run:∀(A:Around)(outer:List Env)(s:Shared)(H:Hp)(args:Args)(us:List Value)(vs:List V)(Q:VK)(E:XK),eU k A->J_ P w K mg base A outer s H->BindsTo s fd args (ps.zip us)->Vals vs us->sp vs H Q E ->
  codeAny (model P w) A (.call (.ref f) args) (CR CX outer P w H s Q E) s
theorem J_.make{P:Program}{w:World}{K:PySem.W.Frag}{mg:Str->Option Value}{base:Heap}{A:Around}{outer:List Env}{s:Shared}{H:Hp}(e:J_ P w K mg base A outer s H)(C:Addr)(us:List Value)(kw:List (Str×Value)):
 J_ P w K mg base (A.under (.builtin "type.__call__" ⟨.ref C::us,kw⟩)) outer s H:=⟨by first |exact e.frames|(simpa [Around.under,Code.envs,Code.isFrame,pushEnvs] using e.frames),e.mod,e.bs,e.W_,e.ur,e.Z8,e.hok,e.bare⟩
section
variable{X:Cx}{pins:List (Addr×Obj)}{σ:St}{H:Hp}{s s':Shared}
theorem Inv.env0(I:Inv X pins σ H s):J_ X.prog X.w X.K X.mg X.base X.A X.stack s H:=
 ⟨I.ok.frames,I.ok.mod,I.bs,abG I.ok.W_ I.sz,I.stack,I.Bl,I.hok,I.bare⟩
theorem Inv.after{Q:VK}{u:Value}(I:Inv X pins σ H s)(h:CE X.stack X.prog X.w H s Q u s'):EP X pins σ Q u s':=by
 obtain⟨v,H',os,bare,un,hok,r,q⟩:=h;obtain⟨hh,g,d,t,os'⟩:=s';obtain rfl:os'=s.os:=os;exact⟨v,H',I.call (h':=hh) (g':=g) (d':=d) (t':=t) (ch:=[]) un hok bare (λb z=>abZ z (by simp)),r,q⟩
end
noncomputable def Xv(sp:Sp)(j5:List V)(E:XK)(t:TA):TE:=λσ H Q=>t σ H λvs H1=>sp (vs++j5) H1 Q E
noncomputable def KC(C:Addr)(m:Str)(sp:Sp)(j5:List V)(E:XK)(ta:TE)(t:TA):TE:=λσ H Q=>ta σ H λx H1=>∃a dx fs,x = .ref a/\H1 a=some (.ins C dx fs)/\fs.lookup m=none /\
 t σ H1 λvs H2=>sp (x::(vs++j5)) H2 Q E
noncomputable def Xu(C:Addr)(sp:Sp)(j5:List V)(E:XK)(t:TA):TE:=λσ H Q=>t σ H λvs H1=>∀x dx,H1 x=none->H1 dx=none->dx≠x ->
 sp (.ref x::(vs++j5)) (upd (upd H1 dx (.own x)) x (.ins C dx [])) (λv H2=>v = .non/\Q (.ref x) H2) E
noncomputable def Binds(K:PySem.W.Frag)(fd:FuncData)(ps:List Str)(ds:List Value):Prop:=
 ∀(s:Shared)(us:List Value),K.In s.heap->(us++ds).length=ps.length->BindsTo s fd ⟨us,[]⟩ (ps.zip (us++ds))
theorem Binds.all{K:PySem.W.Frag}{fd:FuncData}{ps:List Str}(h:∀us:List Value,us.length=ps.length->bindArgs fd ⟨us,[]⟩=pure (ps.zip us)):Binds K fd ps []:=λs us _ hl=>by
 rw[List.append_nil] at hl ⊢;exact .of_eq (h us hl)
noncomputable def Passes(CX:Qf)(X:Cx)(E:XK):Prop:=∀(pins:List (Addr×Obj))(σ:St)(H:Hp)(s:Shared)(e:Value)(s':Shared),Inv X pins σ H s->CX X.stack H s E e s'->X.xe e s'
section
variable{X:Cx}{CX:Qf}{k:Nat}{f C:Addr}{fd:FuncData}{ps:List Str}{sp:Sp}{j5:List V}{ds:List Value}{E:XK}{x m:Str}{p pos apos:Pos}{e o:Expr}{es:List Expr}{ta:TE}{t:TA}
theorem Ij{pins:List (Addr×Obj)}{σ:St}{H:Hp}{s:Shared}{Q:VK}{us:List Value}{vs:List V}(F:bL X.prog X.w X.K X.mg X.base CX k f fd ps sp)(hr:eU k X.A)(hb:Binds X.K fd ps ds)(hd:Vals j5 ds)(hx:Passes CX X E)(I:Inv X pins σ H s)(r:Vals vs us)(h:sp (vs++j5) H Q E):wpAny (model X.prog X.w) X.A (call (.ref f) us) (EP X pins σ Q) X.xe s:=by
 have r2:Vals (vs++j5) (us++ds):=r.append hd;have hl:(us++ds).length=ps.length:=by rw[←r2.length];exact F.len _ _ _ _ h
 refine wpAny_call (codeAny_mono (F.run X.A X.stack s H ⟨us,[]⟩ (us++ds) (vs++j5) Q E hr I.env0 (hb s us I.mH hl) r2 h) λr s' hq=>?_);cases r with
 | error e=>exact hx pins σ H s e s' I hq
 | ok fl=>
   cases fl with
   | ret u=>exact I.after hq
   | next=>exact False.elim hq
   | brk=>exact False.elim hq
   | cont=>exact False.elim hq
theorem Vx(F:bL X.prog X.w X.K X.mg X.base CX k f fd ps sp)(hr:eU k X.A)(hg:Gl X x)(hm:X.mg x=some (.ref f))(hk:PySem.W.keepIn X.K (.ref f)=true)(hb:Binds X.K fd ps ds)(hd:Vals j5 ds)(hx:Passes CX X E)(ha:PA X (e::es) t)(hdb:(x==("__debug__" :Str))=false:=by decide)(he:starEach (e::es) X.env=(false,eval e X.env)::starEach es X.env:=by rfl)(hpl:(backTo pos (starEach es X.env)).any (·.1)=false:=by rfl):
 PE X (.Call (.Name x p) (e::es) [] pos) (Xv sp j5 E t):=by
 intro pins s σ H Q I h;refine wpAny_Call_Name_kw (jZ I hg hm ?_ hdb);refine PySem.W.callWith_K (h₀:=X.base) I.ok.mod.Sy hk (cY (ha pos pins s σ H _ I h) λus s1 ⟨vs,H1,I1,r,q⟩=>⟨I1.mH, ?_⟩) he hpl;exact Ij F hr hb hd hx I1 r q
theorem Vt{pl:Sem Bool}(he:PE X o ta)(c:Cls X.K C)(hm:Meth X.K C m f)(F:bL X.prog X.w X.K X.mg X.base CX k f fd ps sp)(hr:eU k X.A)(hb:Binds X.K fd ps ds)(hd:Vals j5 ds)(hx:Passes CX X E)(ha:PA X (e::es) t)(hst:starEach (e::es) X.env=(false,eval e X.env)::starEach es X.env:=by rfl)(hpl:(backTo pos (starEach es X.env)).any (·.1)=false:=by rfl)(ht:eval (.Call (.Attribute o m apos) (e::es) [] pos) X.env=(do
   let ov ←eval o X.env
   standAt apos.atName
   let (f,first) ←holding [ov] (getMethod ov m pl)
   callWith pos f first (backTo pos (starEach (e::es) X.env)) (backToKw pos (keywordEach [] X.env))):=by rfl):
 PE X (.Call (.Attribute o m apos) (e::es) [] pos) (KC C m sp j5 E ta t):=by
 intro pins s σ H Q I h;refine PySem.W.methodCall_KW (pl:=pl) (cY (he pins s σ H _ I h) λu s1 ⟨x,H1,I1,rx,a,dx,fs,ex,ea,l,q⟩=>?_) ht;subst ex;obtain rfl:u=Value.ref a:=rx;refine qy I1 ea c hm l ?_;refine PySem.W.callWith_K (first:=[.ref a]) (h₀:=X.base) I.ok.mod.Sy hm.kp (cY (ha pos pins s1 σ H1 _ I1 q) λus s2 ⟨vs,H2,I2,r,q2⟩=>⟨I2.mH, ?_⟩) hst hpl;exact Ij (us:= .ref a::us) (vs:= .ref a::vs) F hr hb hd hx I2 (.cons rfl r) q2
theorem Rk{pl:Sem Bool}(he:PE X o ta)(c:Cls X.K C)(hm:Meth X.K C m f)(F:bL X.prog X.w X.K X.mg X.base CX k f fd ps sp)(hr:eU k X.A)(hb:Binds X.K fd ps ds)(hd:Vals j5 ds)(hx:Passes CX X E)(ht:eval (.Call (.Attribute o m apos) [] [] pos) X.env=(do
   let ov ←eval o X.env
   standAt apos.atName
   let (f,first) ←holding [ov] (getMethod ov m pl)
   callWith pos f first (backTo pos (starEach [] X.env)) (backToKw pos (keywordEach [] X.env))):=by rfl):
 PE X (.Call (.Attribute o m apos) [] [] pos) (KC C m sp j5 E ta lQ):=by
 intro pins s σ H Q I h;refine PySem.W.methodCall_KW (pl:=pl) (cY (he pins s σ H _ I h) λu s1 ⟨x,H1,I1,rx,a,dx,fs,ex,ea,l,q⟩=>?_) ht;subst ex;obtain rfl:u=Value.ref a:=rx;refine qy I1 ea c hm l ?_;exact PySem.W.callWith_K0 (first:=[.ref a]) I1.mH hm.kp (Ij (us:=[.ref a]) (vs:=[.ref a]) F hr hb hd hx I1 (.cons rfl .nil) q)
structure Mk(K:PySem.W.Frag)(C f:Addr):Prop where
 makes:PySem.W.makesIn K C=true
 init:PySem.W.findIn K (.ref C) "__init__" = some (some (.ref f))
 fn:PySem.W.isFn K (.ref f)=true
 kp:PySem.W.keepIn K (.ref C)=true
theorem QM{pins:List (Addr×Obj)}{σ:St}{H:Hp}{s:Shared}{Q:VK}{us:List Value}{vs:List V}(M:Mk X.K C f)(F:bL X.prog X.w X.K X.mg X.base CX k f fd ps sp)(hr:eU (k+1) X.A)(hb:Binds X.K fd ps ds)(hd:Vals j5 ds)(hx:Passes CX X E)(I:Inv X pins σ H s)(r:Vals vs us)(h:∀x dx,H x=none->H dx=none->dx≠x->sp (.ref x::(vs++j5)) (upd (upd H dx (.own x)) x (.ins C dx [])) (λv H2=>v = .non/\Q (.ref x) H2) E):
 wpAny (model X.prog X.w) X.A (call (.ref C) us) (EP X pins σ Q) X.xe s:=by
 have hq:=h (s.heap.objs.size+1) s.heap.objs.size (I.hok.fresh (Nat.le_succ _)) (I.hok.fresh (aap _)) (aaV (Nat.lt_succ_self _));have I2:=Inv.made (C:=C) I;have r2:Vals (V.ref (s.heap.objs.size+1)::(vs++j5)) (Value.ref (s.heap.objs.size+1)::(us++ds)):= .cons rfl (r.append hd)
 have hl:(Value.ref (s.heap.objs.size+1)::us++ds).length=ps.length:=by
  have e:=r2.length;rw[F.len _ _ _ _ hq] at e;exact e.symm
 refine wpAny_call (Gk (f:=f) I.mH M.makes M.init (beq_iff_eq.mp M.fn) (codeAny_mono (F.run _ X.stack _ _ ⟨Value.ref (s.heap.objs.size+1)::us,[]⟩ (Value.ref (s.heap.objs.size+1)::(us++ds)) _ _ E (hr.make C us [])
  (I2.env0.make C us []) (hb _ (Value.ref (s.heap.objs.size+1)::us) I2.mH hl) r2 hq) λr s' hq'=>?_))
 cases r with
 | error e=>exact hx pins σ _ _ e s' I2 hq'
 | ok fl=>
   cases fl with
   | ret u=>
     obtain⟨v,H',I3,rv,ev,q3⟩:=I2.after hq';subst ev;exact⟨rv,⟨V.ref (s.heap.objs.size+1),H',I3,Z,q3⟩⟩
   | next=>exact False.elim hq'
   | brk=>exact False.elim hq'
   | cont=>exact False.elim hq'
theorem Vu(M:Mk X.K C f)(F:bL X.prog X.w X.K X.mg X.base CX k f fd ps sp)(hr:eU (k+1) X.A)(hg:Gl X x)(hm:X.mg x=some (.ref C))(hb:Binds X.K fd ps ds)(hd:Vals j5 ds)(hx:Passes CX X E)(ha:PA X (e::es) t)(hdb:(x==("__debug__" :Str))=false:=by decide)(he:starEach (e::es) X.env=(false,eval e X.env)::starEach es X.env:=by rfl)(hpl:(backTo pos (starEach es X.env)).any (·.1)=false:=by rfl):
 PE X (.Call (.Name x p) (e::es) [] pos) (Xu C sp j5 E t):=by
 intro pins s σ H Q I h;refine wpAny_Call_Name_kw (jZ I hg hm ?_ hdb);refine PySem.W.callWith_K (h₀:=X.base) I.ok.mod.Sy M.kp (cY (ha pos pins s σ H _ I h) λus s1 ⟨vs,H1,I1,r,q⟩=>⟨I1.mH, ?_⟩) he hpl;exact QM M F hr hb hd hx I1 r q
end
noncomputable def PK(X:Cx)(kws:List Keyword)(t:TA):Prop:=
 ∀(pos:Pos)(pins:List (Addr×Obj))(s:Shared)(σ:St)(H:Hp)(Q:List V->Hp->Prop),Inv X pins σ H s->t σ H Q->wpAny (model X.prog X.w) X.A (evalAll ((backToKw pos (keywordEach kws X.env)).map (·.2))) (AP X pins σ Q) X.xe s
section
variable{X:Cx}{CX:Qf}{k:Nat}{f C:Addr}{fd:FuncData}{ps ks:List Str}{sp:Sp}{E:XK}{x m:Str}{p pos apos kpos:Pos}{e o:Expr}{es:List Expr}{kws:List Keyword}{te ta:TE}{t tk:TA}{nm:Option Str}
theorem Zc:PK X [] lQ:=λ_ _ _ _ H Q I h=>wpAny_evalAll_nil ⟨[],H,I,.nil,h⟩
theorem Vr(ha:PE X e te)(hr:PK X kws t):PK X (⟨nm,e,kpos⟩::kws) (Qw te t):=by
 intro pos pins s σ H Q I h;show wpAny _ _ (evalAll ((do let v ←eval e X.env;standAt pos;pure v)::(backToKw pos (keywordEach kws X.env)).map (·.2))) _ _ s;refine wpAny_evalAll_cons (aay (cY (ha pins s σ H _ I h) λu s1 ⟨x,H1,I1,r1,q1⟩=>aay (wpAny_standAt (aaB ?_))));exact cY (hr pos pins s1 σ H1 _ I1 q1) λus s2 ⟨xs,H2,I2,r2,q2⟩=>⟨x::xs,H2,I2,.cons r1 r2,q2⟩
variable{g:List Value->List Value->List Value}{gV:List V->List V->List V}
end
structure aV(N P:List Str)(sc:Scope):Prop where
 kind:sc.kind = .function
 co:sc.isCoroutine=false
 gen:sc.isGenerator=false
 nd:N.Nodup
 pre:N.take P.length=P
 par:∀x∈P,sc.names.lookup x=some .local\/sc.names.lookup x=some .cell
 Zy:∀y∈sc.names,y.2 ≠ .free
theorem Ar{kindOf:Str->Option NameKind}{x:Str}:∀{binds:List (Str×Value)}{m:Str->Option Value},(∀v,(x,v)∉binds)->bindL kindOf binds m x=m x
 | [],_,_=>rfl
 | (n,v)::r,m,h=>by
   unfold bindL;rw[Ar λw hw=>h w (aa0 _ hw)];split
   .have:x≠n:=by rintro rfl;exact h v List.mem_cons_self
    simp[this]
   .rfl
theorem Aw{kindOf:Str->Option NameKind}{x:Str}:∀{binds:List (Str×Value)}{m:Str->Option Value},(∀v,(x,v)∉binds)->bindC kindOf binds m x=m x
 | [],_,_=>rfl
 | (n,v)::r,m,h=>by
   unfold bindC;rw[Aw λw hw=>h w (aa0 _ hw)];split
   .rfl
   .have:x≠n:=by rintro rfl;exact h v List.mem_cons_self
    simp[this]
theorem Av{kindOf:Str->Option NameKind}{x:Str}{v:Value}:∀{P:List Str}{vs:List Value}{i:Nat}{m:Str->Option Value},P.Nodup->P[i]? = some x->vs[i]? = some v->kindOf x=some .local ->
 bindL kindOf (P.zip vs) m x=some v
 | [],_,_,_,_,h,_,_=>by simp at h
 | _::_,[],_,_,_,_,h,_=>by simp at h
 | p::P,w::vs,0,m,nd,h1,h2,hk=>by
   simp at h1 h2;subst h1;subst h2;show bindL kindOf ((p,w)::P.zip vs) m p=_;unfold bindL;rw[Ar λv hv=>(List.nodup_cons.mp nd).1 (List.of_mem_zip hv).1,abW hk];simp
 | p::P,w::vs,i+1,m,nd,h1,h2,hk=>by
   show bindL kindOf ((p,w)::P.zip vs) m x=_;unfold bindL;exact Av (i:=i) (List.nodup_cons.mp nd).2 (by simpa using h1) (by simpa using h2) hk
theorem Ax{kindOf:Str->Option NameKind}{x:Str}{v:Value}:∀{P:List Str}{vs:List Value}{i:Nat}{m:Str->Option Value},P.Nodup->P[i]? = some x->vs[i]? = some v->kindOf x≠some .local ->
 bindC kindOf (P.zip vs) m x=some v
 | [],_,_,_,_,h,_,_=>by simp at h
 | _::_,[],_,_,_,_,h,_=>by simp at h
 | p::P,w::vs,0,m,nd,h1,h2,hk=>by
   simp at h1 h2;subst h1;subst h2;show bindC kindOf ((p,w)::P.zip vs) m p=_;unfold bindC;rw[Aw λv hv=>(List.nodup_cons.mp nd).1 (List.of_mem_zip hv).1,abN hk];simp
 | p::P,w::vs,i+1,m,nd,h1,h2,hk=>by
   show bindC kindOf ((p,w)::P.zip vs) m x=_;unfold bindC;exact Ax (i:=i) (List.nodup_cons.mp nd).2 (by simpa using h1) (by simpa using h2) hk
noncomputable def start(N:List Str)(vs:List V):St:=vs.map some++List.replicate (N.length - vs.length) none
noncomputable def mX(CX:Qf)(P:Program)(w:World)(K:PySem.W.Frag)(mg:Str->Option Value)(base:Heap)(N:List Str)(qual:Str)(scope:Scope)(f:Addr)(cd:Value)(A:Around)(outer:List Env)(s:Shared)(H:Hp)(E:XK):Cx where
 prog:=P
 w:=w
 K:=K
 mg:=mg
 base:=base
 A:=A.deeper (envOfC qual scope s.heap.objs.size f cd)
 N:=N
 s₀:=s
 H₀:=H
 env:=envOfC qual scope s.heap.objs.size f cd
 outer:=outer
 stack:=envOfC qual scope s.heap.objs.size f cd::outer
 ex:=[]
 calm:=true
 fn:=λ_=>true
 pn:=[]
 xe:=λe s'=>wpAny (model P w) (A.deeper (envOfC qual scope s.heap.objs.size f cd)) (leaving (envOfC qual scope s.heap.objs.size f cd) e) (λ_ s''=>CX outer H s E e s'') (λe' s''=>CX outer H s E e' s'') s'
theorem GZ{sc:Scope}{n:Nat}{x:Str}(h:sc.names.lookup x=some .cell):∃c,(cellsFrom n sc.names []).lookup x=some c:=by
 have q:=PySem.W.cellsFrom_some sc.names n [] (.inl h);exact Option.isSome_iff_exists.mp q
theorem OD{CX:Qf}{P:Program}{w:World}{K:PySem.W.Frag}{mg:Str->Option Value}{base:Heap}{N ps:List Str}{qual:Str}{scope:Scope}{f:Addr}{cd:Value}{A:Around}{outer:List Env}{s s1:Shared}{H:Hp}{E:XK}{us:List Value}{vs:List V}(S:aV N ps scope)(hd:A.handled=none)(e0:J_ P w K mg base A outer s H)(hl:vs.length=ps.length)(r:Vals vs us)(x:InCallC s s.heap.objs.size (bindL (envOfC qual scope s.heap.objs.size f cd).kindOf (ps.zip us) λ_=>none) (cellsFrom (s.heap.objs.size+1) scope.names []) (bindC (envOfC qual scope s.heap.objs.size f cd).kindOf (ps.zip us) λ_=>none) s1):
 Inv (mX CX P w K mg base N qual scope f cd A outer s H E) [] (start N vs) H s1:=by
 have hpl:ps.length<=N.length:=by have:=congrArg List.length S.pre;rw[aa7] at this;lia
 obtain⟨h1,tk,rfl,hk⟩:=x.done;have noA:∀b:Addr,b∉(mX CX P w K mg base N qual scope f cd A outer s H E).ex:=λb z=>abZ (show b∈([]:List Addr) from z) (by simp)
 refine⟨⟨e0.mod,S.kind,Z,Z,aap _,λy z c h1 h2=>?_,λy hy=>?_,λy c _ h=>?_,λ_=>hd,Around.frames_deeper e0.frames,.inr ⟨Z,Z⟩,λb z=>abZ z (noA b),e0.bs,e0.W_,λb _ _=>noA b,λb z=>abZ z (noA b),e0.ur,e0.Z8⟩,
  Z,e0.bare,Un.kept hk,⟨_,x.toInCall.ns,λi y v h1 h2 h3=>?_⟩,λy c h=>⟨_,x.cell y c h⟩,e0.hok.fresh (aap _),λy c h=>?_,λp hp=>abZ (show p∈([]:List (Addr×Obj)) from hp) (by simp),e0.hok.kept hk, ?_⟩
 .exact name_of_addr x.apart (PySem.mem_of_lookup h1) (PySem.mem_of_lookup h2)
 .have hy:scope.names.lookup y=some .cell\/scope.names.lookup y=some .free:=hy
  rcases hy with hy|hy
  .exact GZ hy
  .exact abZ rfl (S.Zy _ (PySem.mem_of_lookup hy))
 .exact Nat.le_of_lt (x.above y c (PySem.mem_of_lookup h))
 .have hi:i<vs.length:=by
   unfold start at h2
   by_cases hi:i<vs.length
   .exact hi
   .rw[aaT (by simpa using hi)] at h2
    rw[List.getElem?_replicate] at h2;split at h2<;>cases h2
  have ha:vs[i]? = some v:=by
   unfold start at h2;rw[aaU (by simpa using hi),aag] at h2;cases e:vs[i]? with
   | none=>rw[e] at h2;cases h2
   | some a=>rw[e] at h2;cases h2;rfl
  obtain⟨u,hu,rv⟩:=r.get ha
  have hp:ps[i]? = some y:=by
   rw[←S.pre,List.getElem?_take_of_lt (by lia)];exact h1
  have ndP:ps.Nodup:=by rw[←S.pre];exact S.nd.sublist (List.take_sublist _ _)
  refine⟨u,rv, ?_⟩;rcases S.par y (aaL hp) with k|k
  .exact .inl ⟨k,Av ndP hp hu k⟩
  .obtain⟨c,e⟩:=GZ (n:=s.heap.objs.size+1) k
   refine .inr ⟨.inl k,c,e, ?_⟩;have q:=x.cell y c e;rw[Ax ndP hp hu (by show scope.names.lookup y≠_;rw[k];decide)] at q;exact q
 .exact e0.hok.fresh (Nat.le_of_lt (x.above y c (PySem.mem_of_lookup h)))
 .unfold start
  show _=N.length;rw[aaS,aad,List.length_replicate];lia
theorem Ti{CX:Qf}{P:Program}{w:World}{K:PySem.W.Frag}{mg:Str->Option Value}{base:Heap}{k:Nat}{f:Addr}{name qual:Str}{params:Arguments}{body:List Stmt}{scope:Scope}{dV kV doc pm cdv ct oc:Value}{an od:Option Addr}{osl:Array (Option Value)}{N ps:List Str}{sp:Sp}(lk:K.lookup f=some ⟨oc,od,.func (PySem.W.fnOf name qual params body scope dV kV doc pm an cdv ct),osl⟩)(hcd:PySem.W.codeIn K cdv qual=true)(S:aV N ps scope)(len:∀vs H Q E,sp vs H Q E->vs.length=ps.length)(hbody:∀(A:Around)(outer:List Env)(s:Shared)(H:Hp)(vs:List V)(Q:VK)(E:XK),eU k (A.deeper (envOfC qual scope s.heap.objs.size f cdv))->sp vs H Q E ->
   ∃t,J0 (mX CX P w K mg base N qual scope f cdv A outer s H E) body t/\t {nx:=λ_ H'=>Q .non H',rt:=Q} (start N vs) H):
 bL P w K mg base CX (k+1) f (PySem.W.fnOf name qual params body scope dV kV doc pm an cdv ct) ps sp:=by
 refine⟨len,λA outer s H args us vs Q E hr e0 hb r hsp=>?_⟩;have hl:=len _ _ _ _ hsp;have KX:K.In s.heap:=e0.mod.Sy.keeps λb o e=>(e0.bs b o e).1;have lim:s.heap.NoLimit:=e0.mod.nolimit.keeps λb o e=>(e0.bs b o e).1
 have hkind:∀y∈ps.zip us,scope.names.lookup y.1=some .local\/(scope.names.lookup y.1=some .cell/\((cellsFrom (s.heap.objs.size+1) scope.names []).lookup y.1).isSome=true):=λ⟨n,v⟩ hy=>by
  rcases S.par n (List.of_mem_zip hy).1 with q|q
  .exact .inl q
  .exact .inr ⟨q,PySem.W.cellsFrom_some _ _ _ (.inl q)⟩
 refine codeAny_call_function hr.depth (KX _ _ lk) rfl S.co S.gen rfl (PySem.W.codeRec_of KX hcd) (hb _ _ _ _ ?_);refine wpAny_newFunctionEnv_cells S.kind hkind λenv he s1 x=>?_;subst he;refine⟨lim.keeps x.toInCall.keep,codeAny_func ?_⟩;obtain⟨t,ht,hq⟩:=hbody A outer s H vs Q E (hr.deeper _) hsp;have I:Inv (mX CX P w K mg base N qual scope f cdv A outer s H E) [] (start N vs) H s1:=OD S hr.hd e0 hl r x;refine wpAny_mono (ht [] s1 (start N vs) H _ I hq) (λfl s' hs=>?_) λe s' hs=>hs
 have fin:∀{σ':St}{H':Hp}{v:V}{u:Value},Inv (mX CX P w K mg base N qual scope f cdv A outer s H E) [] σ' H' s'->RelV v u->Q v H'->CE outer P w H s Q u s':=
  fun {σ' H' v u} J rv q=>⟨v,H',J.os,J.bare,J.base,J.hok,rv,q⟩
 cases fl with
 | ret u=>
   obtain⟨v,σ',H',J,rv,q⟩:=hs;exact fin J rv q
 | next=>
   obtain⟨σ',H',J,q⟩:=hs;exact fin (v:=V.non) (u:=Value.none) J rfl q
 | brk=>
   obtain⟨_,_,_,q⟩:=hs;exact False.elim q
 | cont=>
   obtain⟨_,_,_,q⟩:=hs;exact False.elim q
section
variable{X:Cx}{x:Str}{p pos:Pos}{e:Expr}{es:List Expr}{t:TA}{id T:String}{r:List V->Hp->VK->Prop}
noncomputable def tCB(r:List V->Hp->VK->Prop)(t:TA):TE:=λσ H Q=>t σ H λvs H1=>r vs H1 Q
theorem bf(hc:jr X (.builtin id) r)(hg:Gl X x)(hm:X.mg x=none)(hv:bootBuiltins x=some (.builtin id))(ha:PA X (e::es) t)(hn:x ≠ "__name__" :=by decide)(hdb:(x==("__debug__" :Str))=false:=by decide)(he:starEach (e::es) X.env=(false,eval e X.env)::starEach es X.env:=by rfl)(hpl:(backTo pos (starEach es X.env)).any (·.1)=false:=by rfl):PE X (.Call (.Name x p) (e::es) [] pos) (tCB r t):=by
 intro pins s σ H Q I h;refine wpAny_Call_Name_kw (qw I hg hm hv ?_ hn hdb);exact PyProof.Rows.callWith_builtin1 (cY (ha pos pins s σ H _ I h) λus s1 ⟨vs,H1,I1,r1,q1⟩=>hc pins s1 σ H1 vs us Q I1 r1 q1) he hpl
theorem eG(hc:jr X (.type T) r)(hg:Gl X x)(hm:X.mg x=none)(hv:bootBuiltins x=some (.type T))(ha:PA X (e::es) t)(hn:x ≠ "__name__" :=by decide)(hdb:(x==("__debug__" :Str))=false:=by decide)(he:starEach (e::es) X.env=(false,eval e X.env)::starEach es X.env:=by rfl)(hpl:(backTo pos (starEach es X.env)).any (·.1)=false:=by rfl):PE X (.Call (.Name x p) (e::es) [] pos) (tCB r t):=by
 intro pins s σ H Q I h;refine wpAny_Call_Name_kw (qw I hg hm hv ?_ hn hdb);exact PyProof.Rows.callWith_type1 (cY (ha pos pins s σ H _ I h) λus s1 ⟨vs,H1,I1,r1,q1⟩=>hc pins s1 σ H1 vs us Q I1 r1 q1) he hpl
end
end L2
namespace HT
open PySem PyProof.Rows
section
open PySem.SeqAt
open PySem.AutoSeq1 (wpAny_loadPart')
open PySem.MeetsSeq PySem.MeetsSeq2 PySem.MeetsSeq3
end
section
variable{prog:Program}{w:World}{A:Around}{E:Value->Shared->Prop}{s:Shared}
theorem W8{t b:Addr}{vs ws:List Value}{Q:Value->Shared->Prop}(ht:IsTup s.heap t vs.toArray)(hb:IsTup s.heap b ws.toArray)(hv:vs≠[])(h1:ws=[]->Q (.ref t) s)(h2:ws≠[]->Q (.ref s.heap.objs.size) {s with heap:=s.heap.push {cls:= .type "tuple",data:= .seq (vs++ws).toArray}})(hsz:vs.length+ws.length<=sizeLine):wpAny (model prog w) A (binaryOp .Add (.ref t) (.ref b)) Q E s:=by
 obtain⟨⟨cls,dd,data,sl⟩,ho,hc,n,hd⟩:=id ht;obtain⟨⟨cls2,dd2,data2,sl2⟩,ho2,hc2,n2,hd2⟩:=id hb;simp only at hc hd hc2 hd2;subst hc hd hc2 hd2;have e:vs.toArray++ws.toArray=(vs++ws).toArray:=by simp
 by_cases hw:ws=[]
 .exact concat_meets ⟨_,ho,Z⟩ ⟨_,ho2,Z⟩ noFill_tuple_add seq_tuple_add PySem.F.slot_tuple_add PySem.F.entry_tuple_add (PySem.F.args_tuple_add_2 _ _)
   (tuple_addW1 t b vs.toArray ws.toArray n n2 dd dd2 sl sl2 (by simpa using hv) (by simp[hw])) ⟨ho,ho2,h1 hw⟩
 .refine concat_meets ⟨_,ho,Z⟩ ⟨_,ho2,Z⟩ noFill_tuple_add seq_tuple_add PySem.F.slot_tuple_add PySem.F.entry_tuple_add (PySem.F.args_tuple_add_2 _ _)
   (tuple_addW2 t b vs.toArray ws.toArray n n2 dd dd2 sl sl2 (by simpa using hv) (by simpa using hw) (by rw[aaQ,aaQ];exact hsz)) ⟨ho,ho2, ?_⟩
  rw[e];exact h2 hw
noncomputable def jU(n d:Nat):Option Int->Nat
 | none=>d
 | some v=>if v<0 then (v+(n:Int)).toNat else min v.toNat n
theorem Fg(n d:Nat):jU n d none=d:=Z
theorem K1(n d k:Nat):jU n d (some (k:Int))=min k n:=by
 show (if (k:Int)<0 then ((k:Int)+(n:Int)).toNat else min (k:Int).toNat n)=min k n;rw[abN (by lia),aaY]
theorem YS(n d:Nat)(hd:d<=n)(o:Option Int):jU n d o<=n:=by
 cases o with
 | none=>exact hd
 | some v=>
   show (if v<0 then (v+(n:Int)).toNat else min v.toNat n)<=n
   by_cases hv:v<0
   .rw[abW hv];lia
   .rw[abN hv];exact Nat.min_le_right _ _
theorem Mr(v:Int)(n d:Nat):(if v<0 then max (v+(n:Int)) 0 else min v (n:Int))=((jU n d (some v):Nat):Int):=by
 show (if v<0 then max (v+(n:Int)) 0 else min v (n:Int))=(((if v<0 then (v+(n:Int)).toNat else min v.toNat n):Nat):Int)
 by_cases hv:v<0
 .simp only[abW hv];lia
 .simp only[abN hv];lia
theorem JX(lo hi:Option Int)(n:Nat):Builtin.Slice.sliceAdjust lo hi 1 (n:Int)=(((jU n 0 lo:Nat):Int),((jU n n hi:Nat):Int)):=by
 have h1:¬((1:Int)<0):=by lia
 unfold Builtin.Slice.sliceAdjust;simp only[h1,if_false];refine Prod.ext ?_ ?_
 .cases lo with
  | none=>rfl
  | some v=>exact Mr v n 0
 .cases hi with
  | none=>rfl
  | some v=>exact Mr v n n
theorem Im(i j:Nat):Builtin.Slice.slicePlaces (i:Int) (j:Int) 1=j - i:=by
 unfold Builtin.Slice.slicePlaces;have h1:(1:Int)>0:=by lia
 simp only[h1,if_true,Int.ediv_one];split<;>lia
theorem wL{v:Value}{o:Option Int}{Q:Option Int->Shared->Prop}(p:IsPart v o)(h:Q o s):wpAny (model prog w) A (Builtin.Slice.slicePartIndex v) Q E s:=by
 cases p with
 | none=>exact slicePart_none h
 | int i t=>exact slicePart_int h
theorem tE{sl:Addr}{vl vu:Value}{lo hi:Option Int}{n:Nat}{Q:Int×Int×Nat->Shared->Prop}(hs:s.heap.IsSliceOf sl vl vu .none)(pl:IsPart vl lo)(pu:IsPart vu hi)(h:Q (((jU n 0 lo:Nat):Int),1,jU n n hi - jU n 0 lo) s):wpAny (model prog w) A (Builtin.Slice.sliceApplied (.ref sl) (pure (n:Int))) Q E s:=by
 obtain⟨os,hos,hcs,hds⟩:=id hs;unfold Builtin.Slice.sliceApplied Builtin.Slice.sliceFields;refine aay (aay (wpAny_field hos hds (x:=vl) rfl (aay (wpAny_field hos hds (x:=vu) rfl (aay (wpAny_field hos hds (x:= .none) rfl (aaB ?_)))))));refine aay (slicePart_none ?_);show wpAny _ _ (if ((1:Int)==0)=true then _ else _) _ _ s;rw[abN (by decide)];refine aay (wL pl (aay (wL pu (aay (aaB ?_)))));show wpAny _ _ (match Builtin.Slice.sliceAdjust lo hi 1 (n:Int) with |(lo,hi)=>pure (lo,(1:Int),Builtin.Slice.slicePlaces lo hi 1)) _ _ s;rw[JX lo hi n];show wpAny _ _ (pure (((jU n 0 lo:Nat):Int),(1:Int),Builtin.Slice.slicePlaces ((jU n 0 lo:Nat):Int) ((jU n n hi:Nat):Int) 1)) _ _ s;rw[Im];exact aaB h
theorem Rf(xs:Array Value)(i k:Nat):((List.range k).filterMap λ(m:Nat)=>xs[((i:Int)+(m:Int)*1).toNat]?).toArray=((xs.toList.drop i).take k).toArray:=by
 have e:(λ(m:Nat)=>xs[((i:Int)+(m:Int)*1).toNat]?)=λm=>xs[i+m]? :=by
  funext m;have:((i:Int)+(m:Int)*1).toNat=i+m:=by lia
  rw[this]
 rw[e];have:=pick_run xs i k;rw[List.filterMap_map] at this;have e2:((λx=>xs[x]?)∘λx=>i+x)=λm=>xs[i+m]? :=Z;rw[e2] at this;rw[this]
theorem rD{t sl:Addr}{items:Array Value}{vl vu:Value}{lo hi:Option Int}{Q:Value->Shared->Prop}(ht:IsTup s.heap t items)(hs:s.heap.IsSliceOf sl vl vu .none)(pl:IsPart vl lo)(pu:IsPart vu hi)(hw:¬(jU items.size 0 lo=0/\jU items.size items.size hi=items.size))(h:Q (.ref s.heap.objs.size) {s with heap:=s.heap.push {cls:= .type "tuple",data:= .seq ((items.toList.drop (jU items.size 0 lo)).take (jU items.size items.size hi - jU items.size 0 lo)).toArray}})(hsz:items.size<=sizeLine):wpAny (model prog w) A (getItem (.ref t) (.ref sl)) Q E s:=by
 have LC:sizeOk (.seq ((items.toList.drop (jU items.size 0 lo)).take (jU items.size items.size hi - jU items.size 0 lo)).toArray):=by
  show ((items.toList.drop (jU items.size 0 lo)).take (jU items.size items.size hi - jU items.size 0 lo)).toArray.size<=sizeLine;rw[aaQ,aa7,List.length_drop,aaK];lia
 have hj:jU items.size items.size hi<=items.size:=YS _ _ (aap _) hi;obtain⟨os,hos,hcs,hds⟩:=id hs;have hTs:s.TypeIs (.ref sl) "slice" :=⟨os,hos,hcs⟩;unfold getItem
 try with_reducible refine wpAny_holding ?_
 first |refine aay (aaB ?_)|skip
 refine aay (wpAny_sequenceKey ht.typeIs (by decide) ?_)
 refine aay (wpAny_callSpecial?_slot (name:=Str.ofString "__getitem__") ht.typeIs PyProof.Rows.slot_tuple_getitem
  (wpAny_call_entry PyProof.Rows.slot_tuple_getitem ht.typeIs entry_tuple_getitem ?_ (args_tuple_getitem _ _)))
 show wpAny _ _ (Builtin.Tuple.tupleItemsOf (.ref t) >>= _) _ _ s;refine aay (tupleItemsOf_ ht ?_);refine aay (wpAny_typeOf hTs ?_);rw[abW (by decide)];refine aay (tE hs pl pu ?_)
 have hno:¬((((jU items.size 0 lo:Nat):Int)==0&&(1:Int)==1&&(jU items.size items.size hi - jU items.size 0 lo)==items.size)=true):=by
  intro q;rw[aaZ,aaZ] at q;have q1:((jU items.size 0 lo:Nat):Int)=0:=eq_of_beq q.1.1;have q2:jU items.size items.size hi - jU items.size 0 lo=items.size:=eq_of_beq q.2;exact hw ⟨by lia,by lia⟩
 show wpAny _ _ (if (((jU items.size 0 lo:Nat):Int)==0&&(1:Int)==1&&(jU items.size items.size hi - jU items.size 0 lo)==items.size)=true then _ else _) _ _ s;rw[abN hno,Rf]
 first
  | exact aay (m:=Builtin.Tuple.tupleExact _) (wpAny_newObj_type (aaB ⟨_,Z,aaB h⟩) LC)
  | exact aay (m:=Builtin.Tuple.tupleExact _) (wpAny_newObj_type (aay (aaB (aaB ⟨_,Z,aaB h⟩))) LC)
  | exact aay (aay (m:=Builtin.Tuple.tupleExact _) (wpAny_newObj_type (aaB (aaB ⟨_,Z,aaB h⟩)) LC))
  | exact aay (aay (m:=Builtin.Tuple.tupleExact _) (wpAny_newObj_type (aaB ⟨_,Z,aaB h⟩) LC))
end
end HT
namespace L2
open PySem PySem.Spec PyProof.Rows
noncomputable abbrev TO:=St->Hp->(Option Int->Hp->Prop)->Prop
noncomputable def PO(X:Cx)(e:Option Expr)(t:TO):Prop:=
 ∀(pins:List (Addr×Obj))(s:Shared)(σ:St)(H:Hp)(Q:Option Int->Hp->Prop),Inv X pins σ H s->t σ H Q ->
  wpAny (model X.prog X.w) X.A (evalPart e X.env) (λu s'=>∃o H',Inv X pins σ H' s'/\IsPart u o/\Q o H') X.xe s
noncomputable def Vb:TO:=λ_ H Q=>Q none H
noncomputable def abq(t:TE):TO:=λσ H Q=>t σ H λx H1=>∃i,x = .int i/\Q (some i) H1
section
variable{X:Cx}{e:Expr}{te:TE}{lo hi:Option Expr}{tl th:TO}{pos p2:Pos}
theorem vO:PO X none Vb:=by
 intro pins s σ H Q I h;rw[evalPart_none];exact aaB ⟨none,H,I,.none,h⟩
theorem vN(h:PE X e te):PO X (some e) (abq te):=by
 intro pins s σ H Q I hw;rw[evalPart_some];refine cY (h pins s σ H _ I hw) λu s1 gW=>?_;obtain⟨x,H1,I1,r1,q1⟩:=gW;obtain⟨i,rfl,q⟩:=q1;obtain⟨t,rfl⟩:=r1;exact⟨some i,H1,I1,.int i t,q⟩
noncomputable def SlR(X:Cx)(r:V->Option Int->Option Int->Hp->VK->Prop):Prop:=
 ∀(pins:List (Addr×Obj))(s:Shared)(σ:St)(H:Hp)(x:V)(v vl vu:Value)(lo hi:Option Int)(sl:Addr)(Q:VK),Inv X pins σ H s->RelV x v->s.heap.IsSliceOf sl vl vu .none->IsPart vl lo->IsPart vu hi->r x lo hi H Q ->
  ∃T id,typeLookup (.type T) "__getitem__" = pure (some (.builtin id))/\s.TypeIs v T/\wpAny (model X.prog X.w) X.A (getItem v (.ref sl)) (EP X pins σ Q) X.xe s
noncomputable def tSl(r:V->Option Int->Option Int->Hp->VK->Prop)(te:TE)(tl th:TO):TE:=λσ H Q=>te σ H λx H1=>tl σ H1 λl H2=>th σ H2 λu H3=>r x l u H3 Q
theorem qZ{r:V->Option Int->Option Int->Hp->VK->Prop}(hr:SlR X r)(he:PE X e te)(hl:PO X lo tl)(hu:PO X hi th):PE X (.Subscript e (.Slice lo hi none p2) pos) (tSl r te tl th):=by
 intro pins s σ H Q I h;refine Subscript_ (cY (he pins s σ H _ I h) λv s1 gW=>?_);obtain⟨x,H1,I1,r1,q1⟩:=gW;refine wpAny_Slice (cY (hl pins s1 σ H1 _ I1 q1) λvl s2 ⟨l,H2,I2,pl,q2⟩=>cY (hu pins s2 σ H2 _ I2 q2) λvu s3 gW=>?_);obtain⟨u,H3,I3,pu,q3⟩:=gW;rw[evalPart_none];refine aaB ?_;have I4:Inv X pins σ H3 {s3 with heap:=s3.heap.push {cls:= .type "slice",data:= .fields #[vl,vu,.none]}}:=I3.kept (t':=s3.toks) λb ob q=>aai _ q;obtain⟨T,id,hT,ht,hg⟩:=hr pins {s3 with heap:=s3.heap.push {cls:= .type "slice",data:= .fields #[vl,vu,.none]}} σ H3 x v vl vu l u s3.heap.objs.size Q I4 r1 (Heap.IsSliceOf.new ..) pl pu q3;show wpAny (model X.prog X.w) X.A (subscriptTail e (.Slice lo hi none p2) v (.ref s3.heap.objs.size)) (EP X pins σ Q) X.xe {s3 with heap:=s3.heap.push {cls:= .type "slice",data:= .fields #[vl,vu,.none]}};exact tail_any (ops:=[.ref s3.heap.objs.size,v]) ht hT hg (by with_unfolding_all rfl)
noncomputable def rF(xs:List V)(lo hi:Option Int):List V:=(xs.drop (HT.jU xs.length 0 lo)).take (HT.jU xs.length xs.length hi - HT.jU xs.length 0 lo)
theorem GP(xs:List V)(lo hi:Option Int):(rF xs lo hi).length<=xs.length:=by
 unfold rF;rw[aa7,List.length_drop];lia
noncomputable def abP(K:PySem.W.Frag):V->Option Int->Option Int->Hp->VK->Prop:=λx lo hi H Q=>∃a xs,x = .ref a/\bO K H a xs /\
 ¬(HT.jU xs.length 0 lo=0/\HT.jU xs.length xs.length hi=xs.length) /\ ∀p,H p=none->Q (.ref p) (upd H p (.tup (rF xs lo hi)))
theorem YM:SlR X (abP X.K):=by
 intro pins s σ H x v vl vu lo hi sl Q I rx hs pl pu h;obtain⟨a,xs,rfl,hx,hw,q⟩:=h;cases rx;obtain⟨its,r,ht,hz⟩:=I.tuple hx;have hlen:its.toArray.size=xs.length:=by rw[aaQ];exact r.length.symm
 refine⟨"tuple",_,PyProof.Rows.slot_tuple_getitem.lookup,ht.typeIs, ?_⟩;refine HT.rD ht hs pl pu (by rw[hlen];exact hw) ?_ (by rw[hlen];exact hz);rw[hlen];refine⟨.ref s.heap.objs.size,_,I.laid (t':=s.toks) (o:= .tup (rF xs lo hi)) (λb ob q=>aai _ q) (aap _) ?_,Z,q _ (I.hok.fresh (aap _))⟩;exact⟨abG (GP xs lo hi) hz,_,(r.drop (HT.jU xs.length 0 lo)).take (HT.jU xs.length xs.length hi - HT.jU xs.length 0 lo),IsTup.new _ _⟩
noncomputable def XD(K:PySem.W.Frag):R2:=λx y H Q=>∃a b xs ys,x = .ref a/\y = .ref b/\bO K H a xs/\bO K H b ys/\xs≠[]/\xs.length+ys.length<=sizeLine /\
 (ys=[]->Q (.ref a) H)/\(ys≠[] -> ∀p,H p=none->Q (.ref p) (upd H p (.tup (xs++ys))))
theorem Vals.Cu{xs:List V}{us:List Value}(r:Vals xs us):us=[]↔xs=[]:=by
 cases r with
 | nil=>simp
 | cons _ _=>simp
theorem Vz:pR X (binaryOp .Add) (XD X.K):=by
 intro pins s σ H x y v u Q I rx ry h;obtain⟨a,b,xs,ys,rfl,rfl,ha,hb,hx,hz,q1,q2⟩:=h;cases rx;cases ry;obtain⟨its,r1,p1,_⟩:=I.tuple ha;obtain⟨its2,r2,p2,_⟩:=I.tuple hb;refine HT.W8 p1 p2 (λz=>hx (r1.Cu.mp z)) (λz=>⟨.ref a,H,I,Z,q1 (r2.Cu.mp z)⟩) (λz=>?_) (by rw[←r1.length,←r2.length];exact hz);refine⟨.ref s.heap.objs.size,_,I.laid (t':=s.toks) (o:= .tup (xs++ys)) (λb ob q=>aai _ q) (aap _) ?_,Z,q2 (λw=>z (r2.Cu.mpr w)) _ (I.hok.fresh (aap _))⟩;exact⟨by rw[aaS];exact hz,_,r1.append r2,IsTup.new _ _⟩
end
noncomputable def Lz(n:Nat)(i:Int):Option Nat:=if 0<=i then (if i<n then some i.toNat else none) else if -(n:Int)<=i then some (i+n).toNat else none
noncomputable def pF{α:Type}(xs:List α)(i:Int):Option α:=(Lz xs.length i).bind λj=>xs[j]?
theorem Ly{n:Nat}{i:Int}{j:Nat}(h:Lz n i=some j):seqIndex? i n=some j/\j<n /\ -(n:Int)<=i/\i<n:=by
 unfold Lz at h
 by_cases h0:0<=i
 .rw[abW h0] at h
  by_cases h1:i<n
  .rw[abW h1] at h
   have e:i.toNat=j:=aaR h;exact⟨by rw[seqIndex_of h0 h1,e],by lia,by lia,h1⟩
  .rw[abN h1] at h;cases h
 .rw[abN h0] at h
  by_cases h1: -(n:Int)<=i
  .rw[abW h1] at h
   have e:(i+n).toNat=j:=aaR h;exact⟨by rw[seqIndex_neg (by lia) h1,e],by lia,h1,by lia⟩
  .rw[abN h1] at h;cases h
theorem Dm{α:Type}{xs:List α}{i:Int}{v:α}(h:pF xs i=some v):∃j,seqIndex? i xs.length=some j/\xs[j]? = some v/\j<xs.length /\ -(xs.length:Int)<=i/\i<xs.length:=by
 unfold pF at h;cases e:Lz xs.length i with
 | none=>rw[e] at h;cases h
 | some j=>
   rw[e] at h;obtain⟨h1,h2,h3,h4⟩:=Ly e;exact⟨j,h1,h,h2,h3,h4⟩
theorem bI{α:Type}{xs:List α}{j:Nat}{v:α}(h:xs[j]? = some v):pF xs (j:Int)=some v:=by
 have hj:j<xs.length:=(aaf.mp h).1
 have e:Lz xs.length (j:Int)=some j:=by
  unfold Lz;rw[abW (by lia),abW (by lia)];simp
 unfold pF;rw[e];exact h
theorem Ul{α:Type}(xs:List α)(v:α):pF (xs++[v]) (-1)=some v:=by
 have hl:(xs++[v]).length=xs.length+1:=by simp
 have e:Lz (xs++[v]).length (-1)=some xs.length:=by
  unfold Lz;rw[hl,abN (by decide),abW (by lia)];congr 1;lia
 unfold pF;rw[e];show (xs++[v])[xs.length]? = some v;simp
noncomputable def Xe(b:Expr):Prop:=∀o i,subscripted b false o i=operate [o,i] (getItem o i)
noncomputable def Qd(X:Cx)(r:R2):Prop:=
 ∀(value slice:Expr)(pins:List (Addr×Obj))(s:Shared)(σ:St)(H:Hp)(x y:V)(v u:Value)(Q:VK),Inv X pins σ H s->RelV x v->RelV y u->r x y H Q ->
  subscripted slice false v u=operate [v,u] (getItem v u)->wpAny (model X.prog X.w) X.A (subscriptTail value slice v u) (EP X pins σ Q) X.xe s
noncomputable def MtR(X:Cx)(id:String)(r:V->List V->Hp->VK->Prop):Prop:=
 ∀(pins:List (Addr×Obj))(s:Shared)(σ:St)(H:Hp)(x:V)(xs:List V)(v:Value)(us:List Value)(Q:VK),Inv X pins σ H s->RelV x v->Vals xs us->r x xs H Q ->
  wpAny (model X.prog X.w) X.A (call (.builtin id) (v::us)) (EP X pins σ Q) X.xe s
section
variable{X:Cx}{a b:Expr}{ta tb:TE}{pos:Pos}
theorem Qd.or{r r':R2}(h:Qd X r)(h':Qd X r'):Qd X (λx y H Q=>r x y H Q\/r' x y H Q):=by
 intro value slice pins s σ H x y v u Q I rx ry q hs;rcases q with q|q
 .exact h value slice pins s σ H x y v u Q I rx ry q hs
 .exact h' value slice pins s σ H x y v u Q I rx ry q hs
theorem aH{r:R2}(hr:Qd X r)(ha:PE X a ta)(hb:PE X b tb)(hs:Xe b):PE X (.Subscript a b pos) (Hz r ta tb):=by
 intro pins s σ H Q I h;exact Subscript_ (aat ha hb I h λv u s2 x y H2 I2 rx ry q=>hr a b pins s2 σ H2 x y v u Q I2 rx ry q (hs _ _))
noncomputable def Y4(K:PySem.W.Frag):R2:=λx y H Q=>∃p xs i v,x = .ref p/\y = .int i/\bB K H p xs/\pF xs i=some v/\Q v H
noncomputable def Cg(K:PySem.W.Frag):R2:=λx y H Q=>∃p xs i v,x = .ref p/\y = .int i/\bO K H p xs/\pF xs i=some v/\Q v H
noncomputable def abS:R2:=λx y H Q=>∃z i c,x = .str z/\y = .int i/\z.length<=sizeLine/\pF z.cps.toList i=some c/\Q (.str ⟨#[c]⟩) H
theorem Lx:Qd X (Y4 X.K):=by
 intro value slice pins s σ H x y v u Q I rx ry h hs;obtain⟨p,xs,i,z,rfl,rfl,hq,he,q⟩:=h;cases rx;obtain⟨t,rfl⟩:=ry;obtain⟨its,r,pl,hz⟩:=I.list hq;obtain⟨j,h1,h2,h3,h4,h5⟩:=Dm he;obtain⟨w,ew,rw'⟩:=r.get h2;have hl:=r.length;have hn:=ug;have fin:EP X pins σ Q w s:=⟨z,H,I,rw',q⟩
 by_cases h0:0<=i
 .have hj:i.toNat=j:=by
   rw[seqIndex_of h0 h5] at h1;exact aaR h1
  exact item_listR pl.isList h0 (by lia) (by rw[hj];simpa using ew) fin hs
 .have hj:(i+(its.toArray.size:Int)).toNat=j:=by
   rw[seqIndex_neg (by lia) h4] at h1;rw[aaQ,←hl];exact aaR h1
  exact subscriptTail_builtinR (x:=w) pl.isList.typeIs slot_list_getitem.lookup
   (wpAny_getItem_list_neg (Q:=λr s'=>r=w/\EP X pins σ Q r s') pl.isList (by lia) (by rw[aaQ]<;>lia) (by lia) (by rw[hj];simpa using ew) ⟨Z,fin⟩) hs
theorem SJ:Qd X (Cg X.K):=by
 intro value slice pins s σ H x y v u Q I rx ry h hs;obtain⟨p,xs,i,z,rfl,rfl,hq,he,q⟩:=h;cases rx;obtain⟨t,rfl⟩:=ry;obtain⟨its,r,pl,hz⟩:=I.tuple hq;obtain⟨j,h1,h2,h3,h4,h5⟩:=Dm he;obtain⟨w,ew,rw'⟩:=r.get h2;have hl:=r.length;have hn:=ug;have fin:EP X pins σ Q w s:=⟨z,H,I,rw',q⟩
 exact subscriptTail_builtinR (x:=w) pl.typeIs slot_tuple_getitem.lookup
  (getItem_tuple (j:=j) (Q:=λr s'=>r=w/\EP X pins σ Q r s') pl (by lia) (by lia) (by rw[aaQ,←hl];exact h1) (by simpa using ew) ⟨Z,fin⟩) hs
theorem Jj:Qd X abS:=by
 intro value slice pins s σ H x y v u Q I rx ry h hs;obtain⟨z,i,c,rfl,rfl,hz,he,q⟩:=h;obtain⟨t,rfl⟩:=rx;obtain⟨t',rfl⟩:=ry;obtain⟨j,h1,h2,h3,h4,h5⟩:=Dm he;have hl:z.cps.toList.length=z.length:=by simp[Str.length]
 rw[hl] at h1 h4 h5;have hn:=ug
 exact tail_any (typeIs_str s z t) slot_str_getitem.lookup (getItem_str (c:=c) (by
  have e1:decide (i < -(2 ^ 63:Int))=false:=aaN (by lia);have e2:decide (i≥2 ^ 63)=false:=aaN (by lia);rw[e1,e2,Bool.or_false]) (by rw[h1];simpa using h2) ⟨.str ⟨#[c]⟩,H,I.tok _,⟨_,Z⟩,q⟩) hs
noncomputable def rIx(K:PySem.W.Frag):R2:=λx y H Q=>Y4 K x y H Q\/Cg K x y H Q\/abS x y H Q
theorem ZR:Qd X (rIx X.K):=Lx.or (SJ.or Jj)
theorem Jf(its:List Value)(n j:Nat)(u:Value):Obj.mapSeq (·.setIfInBounds j u) {cls:= .type "list",data:= .seq its.toArray n}={cls:= .type "list",data:= .seq (its.set j u).toArray n}:=by
 simp[Obj.mapSeq]
theorem Inv.lst{pins:List (Addr×Obj)}{σ:St}{H:Hp}{s:Shared}{p:Addr}{xs:List V}(I:Inv X pins σ H s)(h:H p=some (.lst xs)):
 ∃(its:List Value) (n:Nat),Vals xs its/\s.heap.get? p=some {cls:= .type "list",data:= .seq its.toArray n}/\xs.length<=sizeLine:=by
 obtain⟨z,its,n,r,e⟩:=I.hok p _ h;exact⟨its,n,r,e,z⟩
theorem Inv.ZG{pins:List (Addr×Obj)}{σ:St}{H:Hp}{s:Shared}{p:Addr}{xs ys:List V}{its its':List Value}{n n':Nat}{f:Obj->Obj}(I:Inv X pins σ H s)(h:H p=some (.lst xs))(ho:s.heap.get? p=some {cls:= .type "list",data:= .seq its.toArray n})(hf:f {cls:= .type "list",data:= .seq its.toArray n}={cls:= .type "list",data:= .seq its'.toArray n'})(r:Vals ys its')(hz:ys.length<=sizeLine)(t:Nat):
 Inv X pins σ (upd H p (.lst ys)) {s with heap:=s.heap.update p f,toks:=t}:=by
 have e:(s.heap.update p f).get? p=some {cls:= .type "list",data:= .seq its'.toArray n'}:=by
  rw[Heap.get?_update_self f ho (by rw[hf]<;>rfl),hf]
 refine I.write (x:=p) (e:=p) (by rw[h];trivial) (.inl rfl) (λb u hb q=>(Heap.get?_update_other _ _ (Ne.symm hb)).trans q) ⟨_,e⟩ ?_;exact⟨hz,its',n',r,e⟩
noncomputable def abQ:V->V->V->Hp->(Hp->Prop)->Prop:=λo i v H Q=>∃p xs k j,o = .ref p/\i = .int k/\H p=some (.lst xs)/\Lz xs.length k=some j/\Q (upd H p (.lst (xs.set j v)))
theorem set_list:ac7 X abQ:=by
 intro pins s σ H o i v ov iv u Q I ro ri rv h;obtain⟨p,xs,k,j,rfl,rfl,hp,hj,q⟩:=h;cases ro;obtain⟨t,rfl⟩:=ri;obtain⟨its,n,r,ho,hz⟩:=I.lst hp;obtain⟨h1,h2,h3,h4⟩:=Ly hj;have hl:=r.length;have hn:=ug
 have I':Inv X pins σ (upd H p (.lst (xs.set j v))) {s with heap:=s.heap.update p (Obj.mapSeq (·.setIfInBounds j u))}:=
  I.ZG hp ho (Jf its n j u) (r.set rv j) (by rw[aa6];exact hz) s.toks
 by_cases h0:0<=k
 .have hk:k.toNat=j:=by
   rw[seqIndex_of h0 h4] at h1;exact aaR h1
  exact PySem.W.ki_setAt ho h0 (by lia) (by rw[aaQ,←hl];exact h4) (by rw[hk];exact⟨_,I',q⟩)
 .have hk:(k+(its.toArray.size:Int)).toNat=j:=by
   rw[seqIndex_neg (by lia) h3] at h1;rw[aaQ,←hl];exact aaR h1
  exact PySem.W.ki_setBack ho (by lia) (by rw[aaQ,←hl];exact h3) (by lia) (by rw[hk];exact⟨_,I',q⟩)
noncomputable def uU:V->Bool
 | .non=>true
 | .bl _=>true
 | .int _=>true
 | .str _=>true
 | _=>false
noncomputable def Wz:V->V->Bool
 | .non,.non=>true
 | .bl a,.bl b=>a==b
 | .bl a,.int b=>(if a then 1 else 0)==b
 | .int a,.bl b=>a==(if b then 1 else 0)
 | .int a,.int b=>a==b
 | .str a,.str b=>a==b
 | _,_=>false
theorem aah{A:Around}{s:Shared}{y x:V}{u v:Value}(ry:RelV y u)(rx:RelV x v)(fy:uU y=true)(fx:uU x=true):SeqAt.EqAt A s u v (Wz y x):=by
 cases y with
 | non=>
   cases ry;cases x with
   | non=>cases rx;exact SeqAt.EqAt.same _
   | bl b=>cases rx;exact SeqAt.EqAt.none_bool b
   | int b=>obtain⟨t,rfl⟩:=rx;exact SeqAt.EqAt.none_int b t
   | str b=>obtain⟨t,rfl⟩:=rx;exact SeqAt.EqAt.none_str b t
   | _=>exact abZ (show false=true from fx) aaP
 | bl a=>
   cases ry;cases x with
   | non=>cases rx;exact SeqAt.EqAt.bool_none a
   | bl b=>cases rx;exact SeqAt.EqAt.bool_bool a b
   | int b=>obtain⟨t,rfl⟩:=rx;exact SeqAt.EqAt.bool_int a b t
   | str b=>obtain⟨t,rfl⟩:=rx;exact SeqAt.EqAt.bool_str a b t
   | _=>exact abZ (show false=true from fx) aaP
 | int a=>
   obtain⟨t',rfl⟩:=ry;cases x with
   | non=>cases rx;exact SeqAt.EqAt.int_none a t'
   | bl b=>cases rx;exact SeqAt.EqAt.int_bool a t' b
   | int b=>obtain⟨t,rfl⟩:=rx;exact SeqAt.EqAt.int_int a t' b t
   | str b=>obtain⟨t,rfl⟩:=rx;exact SeqAt.EqAt.int_str a t' b t
   | _=>exact abZ (show false=true from fx) aaP
 | str a=>
   obtain⟨t',rfl⟩:=ry;cases x with
   | non=>cases rx;exact SeqAt.EqAt.str_none a t'
   | bl b=>cases rx;exact SeqAt.EqAt.str_bool a t' b
   | int b=>obtain⟨t,rfl⟩:=rx;exact SeqAt.EqAt.str_int a t' b t
   | str b=>obtain⟨t,rfl⟩:=rx;exact SeqAt.EqAt.str_str a t' b t
   | _=>exact abZ (show false=true from fx) aaP
 | _=>exact abZ (show false=true from fy) aaP
noncomputable def WK(x:V)(u:Value):Bool:=match u with
 | .none=>Wz .non x
 | .bool b=>Wz (.bl b) x
 | .int i _=>Wz (.int i) x
 | .str z _=>Wz (.str z) x
 | _=>false
theorem Tp{x y:V}{u:Value}(r:RelV y u)(f:uU y=true):WK x u=Wz y x:=by
 cases y with
 | non=>cases r;rfl
 | bl b=>cases r;rfl
 | int i=>obtain⟨t,rfl⟩:=r;rfl
 | str z=>obtain⟨t,rfl⟩:=r;rfl
 | _=>exact abZ (show false=true from f) aaP
theorem Dp{x:V}:∀{xs:List V}{us:List Value},Vals xs us->xs.all uU=true->us.any (WK x)=xs.any λy=>Wz y x
 | _,_,.nil,_=>rfl
 | y::xs,u::us,.cons r t,f=>by
   rw[List.all_cons,aaZ] at f;rw[List.any_cons,List.any_cons,Tp r f.1,Dp t f.2]
theorem xW{A:Around}{s:Shared}{x:V}{v:Value}(rx:RelV x v)(fx:uU x=true):∀{xs:List V}{us:List Value},Vals xs us->xs.all uU=true -> ∀u∈us,SeqAt.EqAt A s u v (WK x u)
 | _,_,.nil,_=>λu hu=>by cases hu
 | y::xs,u::us,.cons r t,f=>λu' hu=>by
   rw[List.all_cons,aaZ] at f;rcases List.mem_cons.mp hu with rfl|hu
   .rw[Tp r f.1];exact aah r rx f.1 fx
   .exact xW rx fx t f.2 u' hu
noncomputable def inV(x:V)(xs:List V):Bool:=xs.any λy=>Wz y x
noncomputable def rIn(K:PySem.W.Frag)(neg:Bool):R2:=λx y H Q=>∃p xs,y = .ref p/\(bB K H p xs\/bO K H p xs)/\uU x=true/\xs.all uU=true/\Q (.bl (if neg then !inV x xs else inV x xs)) H
theorem NZ:pR X (compareOp .In) (rIn X.K false):=by
 intro pins s σ H x y v u Q I rx ry h;obtain⟨p,xs,rfl,hq,fx,fs,q⟩:=h;cases ry;rcases hq with hq|hq
 .obtain⟨its,r,pl,hz⟩:=I.list hq
  refine SeqAt.in_listAt (WK x) pl.isList (λw hw=>xW rx fx r fs w (by simpa using hw)) ⟨.bl _,H,I,Z, ?_⟩;rw[show its.toArray.any (WK x)=its.any (WK x) by simp,Dp r fs];exact q
 .obtain⟨its,r,pl,hz⟩:=I.tuple hq
  refine SeqAt.in_tupleAt (WK x) pl (λw hw=>xW rx fx r fs w (by simpa using hw)) ⟨.bl _,H,I,Z, ?_⟩;rw[show its.toArray.any (WK x)=its.any (WK x) by simp,Dp r fs];exact q
theorem Di:jr X (.builtin "len") (λxs H Q=>∃p ys,xs=[.ref p]/\(bB X.K H p ys\/bO X.K H p ys)/\Q (.int ys.length) H):=by
 intro pins s σ H xs us Q I r h;obtain⟨p,ys,rfl,hq,q⟩:=h;obtain⟨u,rfl,rx⟩:=vals1 r;cases rx;have hn:=ug;rcases hq with hq|hq
 .obtain⟨its,r',pl,hz⟩:=I.list hq
  have hlen:=r'.length;exact Calls.call_len_list pl.isList (by simp only[aaQ]<;>lia) ⟨.int ys.length,H,I.tok _,⟨s.toks+1,by rw[aaQ,hlen]⟩,q⟩
 .obtain⟨its,r',pl,hz⟩:=I.tuple hq
  have hlen:=r'.length;exact len_tuple pl (by simp only[aaQ]<;>lia) ⟨.int ys.length,H,I.tok _,⟨s.toks+1,by rw[aaQ,hlen]⟩,q⟩
theorem Dh:jr X (.type "list") (λxs H Q=>∃p ys,xs=[.ref p]/\(bB X.K H p ys\/bO X.K H p ys) /\ ∀l,H l=none->Q (.ref l) (upd H l (.lst ys))):=by
 intro pins s σ H xs us Q I r h;obtain⟨p,ys,rfl,hq,q⟩:=h;obtain⟨u,rfl,rx⟩:=vals1 r;cases rx
 have fin:∀(its:List Value),Vals ys its->ys.length<=sizeLine -> ∀(h':Heap)(c':Nat),(∀b o',s.heap.get? b=some o'->h'.get? b=some o') ->
  h'.get? s.heap.objs.size=some {cls:= .type "list",dict:=none,data:= .seq its.toArray c',slots:= #[]}->EP X pins σ Q (.ref s.heap.objs.size) {s with heap:=h'}:=λits r' hz h' c' kp e=>
  ⟨.ref s.heap.objs.size,_,I.laid (t':=s.toks) kp (aap _) (show cW X.prog X.w _ h' _ (.lst ys) from ⟨hz,its,c',r',e⟩),Z,q _ (I.hok.fresh (aap _))⟩
 rcases hq with hq|hq
 .obtain⟨its,r',pl,hz⟩:=I.list hq
  have hlen:=r'.length;obtain⟨o,ho,hc,n,hd⟩:=pl.isList;exact call_list_seq p (.inl rfl) ho hc hd (λh' c' kp e=>fin its r' hz h' c' kp e) (by simp only[aaQ]<;>lia)
 .obtain⟨its,r',pl,hz⟩:=I.tuple hq
  have hlen:=r'.length;obtain⟨o,ho,hc,n,hd⟩:=pl;exact call_list_seq p (.inr rfl) ho hc hd (λh' c' kp e=>fin its r' hz h' c' kp e) (by simp only[aaQ]<;>lia)
noncomputable def tyV(K:PySem.W.Frag)(T:String)(x:V)(H:Hp):Prop:=match x with
 | .str _=>T = "str"
 | .int _=>T = "int"
 | .ref p=>(T = "list" /\ ∃xs,bB K H p xs)\/(T = "tuple" /\ ∃o,K.lookup p=some o/\o.cls = .type "tuple" /\ o.dict=none) \/
    (T = "dict" /\ ((∃kvs,H p=some (.dK kvs)) \/ ∃kvs,H p=some (.dT kvs)))\/(T = "set" /\ ∃S n,H p=some (.set S n))
 | _=>False
theorem Yr{pins:List (Addr×Obj)}{σ:St}{H:Hp}{s:Shared}{T:String}{x:V}{v:Value}(I:Inv X pins σ H s)(r:RelV x v)(ty:tyV X.K T x H):
 s.TypeIs v T /\ ∀a,v = .ref a -> ∃ob,s.heap.get? a=some ob/\ob.dict=none:=by
 cases x with
 | str z=>
   obtain⟨t,rfl⟩:=r;cases (show T = "str" from ty);exact⟨typeIs_str s z t,λ_ e=>nomatch e⟩
 | int i=>
   obtain⟨t,rfl⟩:=r;cases (show T = "int" from ty);exact⟨typeIs_int s i t,λ_ e=>nomatch e⟩
 | ref p=>
   cases r;rcases ty with ⟨rfl,xs,hq⟩|⟨rfl,o,hk,hc,hd⟩|⟨rfl,hk⟩|⟨rfl,S,n,hk⟩
   .obtain⟨its,_,pl,_⟩:=I.list hq
    refine⟨pl.isList.typeIs,λa e=>?_⟩;cases e;obtain⟨o,n,e,c,hd,_⟩:=pl;exact⟨o,e,hd⟩
   .refine⟨⟨o,I.mH p o hk,hc⟩,λa e=>?_⟩
    cases e;exact⟨o,I.mH _ o hk,hd⟩
   .have z:∃o,s.heap.get? p=some o/\o.ExactDict:=by
     rcases hk with ⟨kvs,hk⟩|⟨kvs,hk⟩
     .obtain⟨_,_,_,_,o,_,_,e,ex,_⟩:=I.hok p _ hk
      exact⟨o,e,ex⟩
     .obtain⟨_,_,_,_,o,_,_,e,ex,_⟩:=I.hok p _ hk
      exact⟨o,e,ex⟩
    obtain⟨o,e,ex⟩:=z;refine⟨⟨o,e,ex.1⟩,λa e2=>?_⟩;cases e2;exact⟨o,e,ex.2.1⟩
   .obtain⟨o,_,_,_,e,ex,_⟩:=I.hok p _ hk
    refine⟨⟨o,e,ex.1⟩,λa e2=>?_⟩;cases e2;exact⟨o,e,ex.2.1⟩
 | _=>exact False.elim ty
noncomputable def tBM(K:PySem.W.Frag)(T:String)(r:V->List V->Hp->VK->Prop)(to:TE)(t:TA):TE:=λσ H Q=>to σ H λx H1=>tyV K T x H1/\t σ H1 λxs H2=>r x xs H2 Q
variable{o e:Expr}{es:List Expr}{to:TE}{t:TA}{name:Str}{apos cpos:Pos}{T id:String}{r:V->List V->Hp->VK->Prop}
theorem XH(pa:PlainAttrs T)(slot:Slot T name id)(hty:typeOf (.builtin id)=pure (.type "method_descriptor"))(hm:MtR X id r)(ho:PE X o to)(ha:PA X (e::es) t)(hbase:attributeBase o name X.env (eval o X.env)=eval o X.env:=by rfl)(hfew:((backTo cpos (starEach (e::es) X.env)).all (λx=> !x.1)&&(backToKw cpos (keywordEach [] X.env)).all (λx=>x.1.isSome)
   && decide ((e::es).length+([]:List Keyword).length+(if ([]:List Keyword).isEmpty then 0 else 1)<30))=true:=by rfl)(hline:(apos.endLine==cpos.line)=true:=by rfl)(hs:starEach (e::es) X.env=(false,eval e X.env)::starEach es X.env:=by rfl)(hplain:(backTo cpos (starEach es X.env)).any (·.1)=false:=by rfl):
 PE X (.Call (.Attribute o name apos) (e::es) [] cpos) (tBM X.K T r to t):=by
 intro pins s σ H Q I h;refine wpAny_Call_method_late hbase hfew hline rfl (cY (ho pins s σ H _ I h) λv s1 gW=>?_);obtain⟨x,H1,I1,r1,ty,q1⟩:=gW;obtain⟨h1,h2⟩:=Yr I1 r1 ty;refine⟨T,id,pa,slot,hty,h1,h2, ?_⟩;have hA:=ha cpos pins s1 σ H1 _ I1 q1;rw[hs] at hA ⊢;refine Calls.callWith_builtin (by show (false||(backTo cpos (starEach es X.env)).any (·.1))=false;rw[hplain]<;>rfl) (Calls.evalArgs_plain ?_);exact cY hA λus s2 ⟨vs,H2,I2,r2,q2⟩=>hm pins s2 σ H2 x vs v us Q I2 r1 r2 q2
end
noncomputable def MtM(X:Cx)(id:String)(r:V->List V->Hp->VK->Prop):Prop:=
 ∀(pins:List (Addr×Obj))(s:Shared)(σ:St)(H:Hp)(x:V)(xs:List V)(v:Value)(us:List Value)(Q:VK),Inv X pins σ H s->RelV x v->Vals xs us->r x xs H Q ->
  wpAny (model X.prog X.w) X.A (call (.builtin id) (v::us)) (EP X pins σ Q) X.xe s
theorem Vals.one{x:V}{us:List Value}(h:Vals [x] us):∃u,us=[u]/\RelV x u:=by
 cases h with
 | cons r t=>cases t;exact⟨_,Z,r⟩
theorem Vals.rep{xs:List V}{us:List Value}(h:Vals xs us):∀k:Nat,Vals (List.replicate k xs).flatten (List.replicate k us).flatten
 | 0=> .nil
 | k+1=>by
   rw[List.replicate_succ,List.replicate_succ,List.flatten_cons,List.flatten_cons];exact Vals.append h (Vals.rep h k)
theorem foldl_rep(its:List Value):∀(k:Nat)(acc:List Value),
 List.foldl (λx1 x2=>x1++x2) acc.toArray (List.replicate k its.toArray)=(acc++(List.replicate k its).flatten).toArray
 | 0,acc=>by simp
 | k+1,acc=>by
   have e:acc.toArray++its.toArray=(acc++its).toArray:=by simp
   have e2:(acc++its)++(List.replicate k its).flatten=acc++(List.replicate (k+1) its).flatten:=by
    rw[List.replicate_succ,List.flatten_cons,List.append_assoc]
   rw[←e2,←foldl_rep its k (acc++its),←e,List.replicate_succ,List.foldl_cons]
section
variable{X:Cx}{pins:List (Addr×Obj)}{σ:St}{H:Hp}{s:Shared}{l b:Addr}{xs ys zs:List V}
theorem Inv.ab9{its its':List Value}{n:Nat}{f:Array Value->Array Value}{t':Nat}(I:Inv X pins σ H s)(hH:H l=some (.lst xs))(e:s.heap.get? l=some {cls:= .type "list",data:= .seq its.toArray n})(hf:f its.toArray=its'.toArray)(hv:Vals ys its')(hz:ys.length<=sizeLine):
 Inv X pins σ (upd H l (.lst ys)) {s with heap:=s.heap.update l (Obj.mapSeq f),toks:=t'}:=by
 have q:=PySem.IsL.update e f;rw[hf] at q;refine I.write (x:=l) (e:=l) (by rw[hH];exact trivial) (.inl rfl) (λb' u hb hu=>(Heap.get?_update_other s.heap (Obj.mapSeq f) (Ne.symm hb)).trans hu) ⟨_,q⟩ ?_;exact⟨hz,its',_,hv,q⟩
theorem Inv.agi{its:List Value}{t':Nat}(I:Inv X pins σ H s)(hv:Vals ys its)(hz:ys.length<=sizeLine):
 Inv X pins σ (upd H s.heap.objs.size (.lst ys)) {s with heap:=s.heap.push {cls:= .type "list",data:= .seq its.toArray},toks:=t'}:=
 I.laid (λ_ _ q=>aai _ q) (aap _) ⟨hz,its,0,hv,aaj _ rfl⟩
theorem Inv.fresh(I:Inv X pins σ H s):H s.heap.objs.size=none:=I.hok.fresh (aap _)
theorem Inv.V9(I:Inv X pins σ H s)(hH:H l=some (.lst xs)):xs.length<=sizeLine /\ ∃(its:List Value) (n:Nat),Vals xs its/\xs.length=its.length/\s.heap.get? l=some {cls:= .type "list",data:= .seq its.toArray n}:=by
 obtain⟨z,its,n,r,e⟩:=I.hok l _ hH;exact⟨z,its,n,r,r.length,e⟩
theorem FW{n:Nat}(h:n<=sizeLine):Builtin.List.listTooLong n=false:=by
 unfold Builtin.List.listTooLong;exact aaN (by lia)
end
section
variable{X:Cx}
noncomputable def K8:V->List V->Hp->VK->Prop:=λx vs H Q=>∃l xs y,x = .ref l/\vs=[y]/\H l=some (.lst xs)/\xs.length<sizeLine/\Q .non (upd H l (.lst (xs++[y])))
theorem Aa:MtM X "list.append" K8:=by
 intro pins s σ H x vs v us Q I rx rv h;obtain⟨l,xs,y,rfl,rfl,hH,hz,q⟩:=h;cases rx;obtain⟨u,rfl,ru⟩:=rv.one;obtain⟨z,its,n,r,hl,e⟩:=I.V9 hH;refine call_meets F.slot_list_append ⟨_,e,Z⟩ F.entry_list_append (F.args_list_append_2 _ _) (PySem.list_append l its.toArray n u (by rw[aaQ];lia)) ⟨e, ?_⟩;refine⟨.non,_,I.ab9 (its':=its++[u]) hH e (by simp) (r.append (.cons ru .nil)) ?_,Z,q⟩;rw[aaS,aa4];lia
noncomputable def Vm:V->List V->Hp->VK->Prop:=λx vs H Q=>∃l b xs zs,x = .ref l/\vs=[.ref b]/\H l=some (.lst xs)/\H b=some (.lst zs)/\xs.length+zs.length<=sizeLine/\Q .non (upd H l (.lst (xs++zs)))
theorem z_:MtM X "list.extend" Vm:=by
 intro pins s σ H x vs v us Q I rx rv h;obtain⟨l,b,xs,zs,rfl,rfl,hH,hB,hz,q⟩:=h;cases rx;obtain⟨u,rfl,ru⟩:=rv.one;cases ru;obtain⟨z,its,n,r,hl,e⟩:=I.V9 hH;obtain⟨z2,its2,n2,r2,hl2,e2⟩:=I.V9 hB;have hsz:its.toArray.size+its2.toArray.size<=sizeLine:=by rw[aaQ,aaQ];lia
 have SM:¬(!its.toArray.isEmpty&&Builtin.List.listTooLong (its.toArray.size+its2.toArray.size))=true:=by
  rw[FW hsz,Bool.and_false];exact aaP
 refine call_meets F.slot_list_extend ⟨_,e,Z⟩ F.entry_list_extend (F.args_list_extend_2 _ _)
  (AutoSeq1.list_extend_list_list_0 l its.toArray n b its2.toArray n2 SM (by rw[aaQ];lia) (by lia)) ⟨e,e2, ?_⟩
 refine⟨.non,_,I.ab9 (its':=its++its2) hH e (by simp) (r.append r2) ?_,Z,q⟩;rw[aaS];lia
noncomputable def ae6:R2:=λx y H Q=>∃l k xs,x = .ref l/\y = .int k/\H l=some (.lst xs) /\ -(2 ^ 63)<=k/\k<2 ^ 63/\xs.length*k.toNat<=sizeLine /\
 ∀p,H p=none->Q (.ref p) (upd H p (.lst (List.replicate k.toNat xs).flatten))
theorem len_rep{α:Type}(xs:List α)(k:Nat):(List.replicate k xs).flatten.length=k*xs.length:=by
 induction k with
 | zero=>simp
 | succ k ih=>rw[List.replicate_succ,List.flatten_cons,aaS,ih,Nat.succ_mul,Nat.add_comm]
theorem Cq:pR X (binaryOp .Mult) ae6:=by
 intro pins s σ H x y v u Q I rx ry h;obtain⟨l,k,xs,rfl,rfl,hH,h1,h2,hz,q⟩:=h;cases rx;obtain⟨t,rfl⟩:=ry;obtain⟨z,its,n,r,hl,e⟩:=I.V9 hH;have hlen:its.toArray.size*k.toNat<=sizeLine:=by rw[aaQ,←hl];exact hz
 have hcap:¬its.toArray.size*k.toNat>(2 ^ 63 - 1) / 8:=by
  have:(sizeLine:Nat)<=(2 ^ 63 - 1) / 8:=by decide
  lia
 have hfit:¬(!Builtin.List.listFitsIndex k)=true:=by
  rw[fitsIndex_both h1 h2];exact aaP
 have SM:¬Builtin.List.listTooLong (its.toArray.size*k.toNat)=true:=by
  rw[FW hlen];exact aaP
 have hnew:List.foldl (λx1 x2=>x1++x2) #[] (List.replicate (if its.toArray.isEmpty=true then 0 else k.toNat) its.toArray)=(List.replicate k.toNat its).flatten.toArray:=by
  have f0:∀m:Nat,List.foldl (λx1 x2=>x1++x2) #[] (List.replicate m its.toArray)=(List.replicate m its).flatten.toArray:=λm=>by
   have:=foldl_rep its m [];rw[List.nil_append] at this;exact this
  rw[f0];cases its with
  | nil=>simp
  | cons a r'=>rw[abN (by simp)]
 refine wpAny_binaryOp_repeat_ref (T:= "list") (U:= "int") (by decide) ⟨_,e,Z⟩ (λs'=>typeIs_int s' k t) noFill_list_mul F.fills_int_mul F.slot_int_rmul repeat_list F.slot_int_index.lookup
  (call_meets F.slot_int_rmul (typeIs_int s k t) F.entry_int_rmul (F.args_int_rmul_2 _ _) (int___rmul___int_list k t l its.toArray n)
    ⟨e,Z,⟨_,e,Z⟩,call_meets F.slot_list_mul ⟨_,e,Z⟩ F.entry_list_mul (F.args_list_mul_2 _ _) (AutoListH.list___mul___list_int_3 l its.toArray n k t hfit hcap SM) ⟨e, ?_⟩⟩)
 rw[hnew];exact⟨.ref _,_,I.agi (t':=s.toks) (r.rep k.toNat) (by rw[len_rep,Nat.mul_comm];exact hz),Z,q _ I.fresh⟩
end
section
variable{prog:Program}{w:World}{A:Around}{E:Value->Shared->Prop}{s:Shared}
end
section
variable{X:Cx}
end
section
variable{κ:Type}[DecidableEq κ]
noncomputable def gn(kvs:List (κ×V))(k:κ):Option V:=(kvs.find? λkv=>decide (kv.1=k)).map (·.2)
noncomputable def putK(kvs:List (κ×V))(k:κ)(v:V):List (κ×V):=
 if (kvs.any λkv=>decide (kv.1=k))=true then kvs.map (λkv=>if kv.1=k then (kv.1,v) else kv) else kvs++[(k,v)]
theorem eF{p:κ×V}{r:List (κ×V)}{k:κ}(e:p.1=k):gn (p::r) k=some p.2:=by simp[gn,List.find?_cons,e]
theorem dZ{p:κ×V}{r:List (κ×V)}{k:κ}(e:¬p.1=k):gn (p::r) k=gn r k:=by simp[gn,List.find?_cons,e]
theorem jz(k:κ):∀kvs:List (κ×V),(kvs.any λkv=>decide (kv.1=k))=(gn kvs k).isSome
 | []=>rfl
 | p::r=>by
   rw[List.any_cons]
   by_cases e:p.1=k
   .simp only[eF e,aaM e,Bool.true_or,Option.isSome_some]
   .rw[dZ e,aaN e,Bool.false_or];exact jz k r
theorem Ef(k j:κ)(y:V):∀kvs:List (κ×V),gn (kvs.map λkv=>if kv.1=k then (kv.1,y) else kv) j=(gn kvs j).map λx=>if j=k then y else x
 | []=>rfl
 | p::r=>by
   have ih:=Ef k j y r;rw[List.map_cons]
   by_cases h:p.1=k
   .rw[abW h]
    by_cases e:p.1=j
    .rw[eF (p:=(p.1,y)) e,eF e,Option.map_some,abW (e.symm.trans h)]
    .rw[dZ (p:=(p.1,y)) e,dZ e,ih]
   .rw[abN h]
    by_cases e:p.1=j
    .rw[eF (p:=p) e,eF e,Option.map_some,abN (λz=>h (e.trans z))]
    .rw[dZ (p:=p) e,dZ e,ih]
theorem zP(k j:κ)(y:V):∀kvs:List (κ×V),gn kvs k=none->gn (kvs++[(k,y)]) j=if j=k then some y else gn kvs j
 | [],_=>by
   by_cases e:k=j
   .rw[abW e.symm];exact eF (p:=(k,y)) e
   .rw[abN (λz=>e z.symm)];exact dZ (p:=(k,y)) e
 | p::r,hn=>by
   rw[List.cons_append];have hk:¬p.1=k:=λz=>by rw[eF z] at hn;cases hn
   rw[dZ hk] at hn;have ih:=zP k j y r hn
   by_cases e:p.1=j
   .rw[eF e,eF e,abN (λz=>hk (e.trans z))]
   .rw[dZ e,dZ e,ih]
theorem m7(kvs:List (κ×V))(k j:κ)(y:V):gn (putK kvs k y) j=if j=k then some y else gn kvs j:=by
 unfold putK
 by_cases a:(kvs.any λkv=>decide (kv.1=k))=true
 .rw[abW a,Ef]
  rw[jz] at a
  by_cases e:j=k
  .obtain⟨x,hx⟩:=Option.isSome_iff_exists.mp a
   rw[abW e,e,hx,Option.map_some,abW rfl]
  .rw[abN e]
   cases gn kvs j with
   | none=>rfl
   | some x=>rw[Option.map_some,abN e]
 .rw[abN a]
  refine zP k j y kvs ?_;rw[jz] at a;cases q:gn kvs k with
  | none=>rfl
  | some x=>rw[q] at a;exact(a rfl).elim
theorem gP(kvs:List (κ×V))(k:κ)(v:V):(putK kvs k v).length<=kvs.length+1:=by
 unfold putK;split
 .rw[aad];lia
 .rw[aaS,abo,List.length_nil];lia
theorem Q7{kvs:List (κ×V)}{k:κ}(v:V)(h:gn kvs k=none):putK kvs k v=kvs++[(k,v)]:=by
 unfold putK;rw[jz,h];exact abN (by decide)
theorem mY.um{o:Option V}{u:Option Value}(r:mY o u):o.isSome=u.isSome:=by
 cases o with
 | none=>cases u with
   | none=>rfl
   | some _=>exact(show False from r).elim
 | some _=>cases u with
   | none=>exact(show False from r).elim
   | some _=>rfl
theorem mY.getD{o:Option V}{u:Option Value}{d:V}{d':Value}(r:mY o u)(rd:RelV d d'):RelV (o.getD d) (u.getD d'):=by
 cases o with
 | none=>cases u with
   | none=>exact rd
   | some _=>exact(show False from r).elim
 | some _=>cases u with
   | none=>exact(show False from r).elim
   | some _=>exact r
theorem KV.val{kvs:List (κ×V)}{vs:List (κ×Value)}(r:KV kvs vs)(k:κ):mY (gn kvs k) (valueAt vs k):=by
 unfold KV at r
 induction r with
 | nil=>exact True.intro
 | @cons p q ps qs h t ih=>
   obtain⟨h1,h2⟩:=h
   by_cases e:p.1=k
   .have e':q.1=k:=h1.symm.trans e
    have b:valueAt (q::qs) k=some q.2:=by simp[valueAt,List.find?_cons,e']
    rw[eF e,b];exact h2
   .have e':¬q.1=k:=λz=>e (h1.trans z)
    have b:valueAt (q::qs) k=valueAt qs k:=by simp[valueAt,List.find?_cons,e']
    rw[dZ e,b];exact ih
theorem KV.any{kvs:List (κ×V)}{vs:List (κ×Value)}(r:KV kvs vs)(k:κ):(kvs.any λkv=>decide (kv.1=k))=vs.any λkv=>decide (kv.1=k):=by
 unfold KV at r
 induction r with
 | nil=>rfl
 | cons h t ih=>rw[List.any_cons,List.any_cons,ih,h.1]
theorem KV.repl{kvs:List (κ×V)}{vs:List (κ×Value)}(r:KV kvs vs)(k:κ){y:V}{u:Value}(ry:RelV y u):
 KV (kvs.map λkv=>if kv.1=k then (kv.1,y) else kv) (vs.map λkv=>if kv.1=k then (kv.1,u) else kv):=by
 unfold KV at r ⊢
 induction r with
 | nil=>exact .nil
 | @cons p q ps qs h t ih=>
   rw[List.map_cons,List.map_cons];refine .cons ?_ ih;obtain⟨h1,h2⟩:=h
   by_cases e:p.1=k
   .rw[abW e,abW (h1.symm.trans e)];exact⟨h1,ry⟩
   .rw[abN e,abN (λz=>e (h1.trans z))];exact⟨h1,h2⟩
theorem KV.put{kvs:List (κ×V)}{vs:List (κ×Value)}(r:KV kvs vs)(k:κ){y:V}{u:Value}(ry:RelV y u):KV (putK kvs k y) (stored vs k u):=by
 unfold putK stored;rw[r.any k]
 by_cases e:(vs.any λkv=>decide (kv.1=k))=true
 .rw[abW e,abW e];exact r.repl k ry
 .rw[abN e,abN e];exact Paired.snoc r ⟨Z,ry⟩
theorem KV.length{kvs:List (κ×V)}{vs:List (κ×Value)}(r:KV kvs vs):kvs.length=vs.length:=Paired.length r
end
theorem Ab{P:Program}{w:World}{k:Key}{u:Value}(r:RelV (kV k) u):(cU P w).is k u=true:=by
 cases k with
 | inl i=>obtain⟨t,e⟩:=(show ∃t,u=Value.int i t from r);subst e;exact Gg P w i t
 | inr x=>obtain⟨t,e⟩:=(show ∃t,u=Value.str x t from r);subst e;exact Gf P w x t
theorem Ac{P:Program}{w:World}:∀{ks:List Key}{us:List Value},Vals (ks.map kV) us->ItemsAre (cU P w) ks us
 | [],_,r=>by rw[List.map_nil] at r;cases r;exact .nil
 | k::ks,_,r=>by
   rw[List.map_cons] at r;cases r with
   | cons h t=>exact .cons (Ab h) (Ac t)
noncomputable abbrev KT(H:Hp):List (List Key×V)->List (List Key×Addr×Value)->Prop:=Paired λp q=>p.1=q.1/\H q.2.1=some (.tup (p.1.map kV))/\RelV p.2 q.2.2
theorem KT.val{H:Hp}{kvs:List (List Key×V)}{xs:List (List Key×Addr×Value)}(r:KT H kvs xs)(k:List Key):mY (gn kvs k) ((atKey xs k).map (·.2)):=by
 induction r with
 | nil=>exact True.intro
 | @cons p q ps qs h t ih=>
   obtain⟨h1,_,h2⟩:=h
   by_cases e:p.1=k
   .have e':q.1=k:=h1.symm.trans e
    have b:atKey (q::qs) k=some q.2:=by simp[atKey,List.find?_cons,e']
    rw[eF e,b];exact h2
   .have e':¬q.1=k:=λz=>e (h1.trans z)
    have b:atKey (q::qs) k=atKey qs k:=by simp[atKey,List.find?_cons,e']
    rw[dZ e,b];exact ih
theorem KT.repl{H:Hp}{kvs:List (List Key×V)}{xs:List (List Key×Addr×Value)}(r:KT H kvs xs)(k:List Key){y:V}{u:Value}(ry:RelV y u):
 KT H (kvs.map λkv=>if kv.1=k then (kv.1,y) else kv) (xs.map (putAt k u)):=by
 induction r with
 | nil=>exact .nil
 | @cons p q ps qs h t ih=>
   rw[List.map_cons,List.map_cons];refine .cons ?_ ih;obtain⟨h1,h2,h3⟩:=h;unfold putAt
   by_cases e:p.1=k
   .rw[abW e,abW (h1.symm.trans e)];exact⟨h1,h2,ry⟩
   .rw[abN e,abN (λz=>e (h1.trans z))];exact⟨h1,h2,h3⟩
theorem KT.put{H:Hp}{kvs:List (List Key×V)}{xs:List (List Key×Addr×Value)}(r:KT H kvs xs)(k:List Key){b:Addr}{y:V}{u:Value}(hb:H b=some (.tup (k.map kV)))(ry:RelV y u):
 KT H (putK kvs k y) (storedH xs k b u):=by
 have e:(kvs.any λkv=>decide (kv.1=k))=(atKey xs k).isSome:=by
  rw[jz,(r.val k).um,Option.isSome_map]
 unfold putK storedH;rw[e]
 by_cases q:(atKey xs k).isSome=true
 .rw[abW q,abW q];exact r.repl k ry
 .rw[abN q,abN q];exact Paired.snoc r ⟨Z,hb,ry⟩
theorem KT.keeps{H H':Hp}{kvs:List (List Key×V)}{xs:List (List Key×Addr×Value)}(r:KT H kvs xs)(ht:∀b ys,H b=some (.tup ys)->H' b=some (.tup ys)):KT H' kvs xs:=
 Paired.ab8 r λ_ _ z=>⟨z.1,ht _ _ z.2.1,z.2.2⟩
section
variable{P:Program}{w:World}{H:Hp}{h:Heap}{a:Addr}
theorem Xz{u:HO}(ok:lK P w H h)(e:Rd H a u):cW P w H h a u:=e.ok ok
theorem Al{kvs:List (Key×V)}(ok:lK P w H h)(e:Rd H a (.dK kvs)):kvs.length<=sizeLine/\(a==sysModules)=false /\ ∃vs,KV kvs vs/\h.DictOf (cU P w) a vs:=
 show cW P w H h a (.dK kvs) from Xz ok e
theorem Tt{kvs:List (Key×V)}(ok:lK P w H h)(e:H a=some (.dK kvs)):kvs.length<=sizeLine/\(a==sysModules)=false /\ ∃vs,KV kvs vs/\h.DictOf (cU P w) a vs:=Al ok (.inl e)
theorem yg{ks:List Key}(ok:lK P w H h)(e:H a=some (.tup (ks.map kV))):(tupleKind (cU P w)).is h ks a:=by
 obtain⟨_,its,r,o,h1,h2,n,h3⟩:=(show cW P w H h a (.tup (ks.map kV)) from ok a _ e);exact⟨o,its.toArray,n,h1,h2,h3,by simpa using Ac r⟩
theorem Aj{kvs:List (List Key×V)}(ok:lK P w H h)(e:Rd H a (.dT kvs)):kvs.length<=sizeLine/\(a==sysModules)=false /\
 ∃xs,KT H kvs xs/\h.DictOfH (tupleKind (cU P w)) a xs:=by
 obtain⟨z,y,xs,r,o,es,ep,h1,h2,h3,h4,h5⟩:=(show cW P w H h a (.dT kvs) from Xz ok e);refine⟨z,y,xs,r,o,es,ep,h1,h2,h3,h4,λx hx=>?_,h5⟩
 have all:∀{l:List (List Key×V)}{m:List (List Key×Addr×Value)},KT H l m -> ∀x∈m,(tupleKind (cU P w)).is h x.1 x.2.1:=by
  intro l m q
  induction q with
  | nil=>intro x hx;exact nomatch hx
  | @cons p q ps qs hq t ih=>
    intro x hx;rcases List.mem_cons.mp hx with e|hx
    .subst e
     exact yg ok (by rw[←hq.1];exact hq.2.1)
    .exact ih x hx
 exact all r x hx
theorem acU{kvs:List (List Key×V)}(ok:lK P w H h)(e:H a=some (.dT kvs)):kvs.length<=sizeLine/\(a==sysModules)=false /\
 ∃xs,KT H kvs xs/\h.DictOfH (tupleKind (cU P w)) a xs:=Aj ok (.inl e)
end
noncomputable def mO(H:Hp)(a:Addr)(y:V)(r:Option V):Prop:=
 (∃kvs k,Rd H a (.dK kvs)/\y=kV k/\r=gn kvs k) \/ ∃kvs k b,Rd H a (.dT kvs)/\y = .ref b/\H b=some (.tup (k.map kV))/\r=gn kvs k
noncomputable def zm(H:Hp)(a:Addr)(y v:V)(H':Hp):Prop:=
 (∃kvs k,H a=some (.dK kvs)/\y=kV k/\kvs.length<sizeLine/\H'=upd H a (.dK (putK kvs k v))) \/
 ∃kvs k b,H a=some (.dT kvs)/\y = .ref b/\H b=some (.tup (k.map kV))/\kvs.length<sizeLine/\H'=upd H a (.dT (putK kvs k v))
theorem mO.k{H:Hp}{a:Addr}{kvs:List (Key×V)}{k:Key}(e:H a=some (.dK kvs)):mO H a (kV k) (gn kvs k):= .inl ⟨kvs,k,.inl e,Z,Z⟩
theorem mO.t{H:Hp}{a b:Addr}{kvs:List (List Key×V)}{k:List Key}(e:H a=some (.dT kvs))(eb:H b=some (.tup (k.map kV))):mO H a (.ref b) (gn kvs k):= .inr ⟨kvs,k,b,.inl e,Z,eb,Z⟩
theorem zm.k{H:Hp}{a:Addr}{kvs:List (Key×V)}{k:Key}{v:V}(e:H a=some (.dK kvs))(hl:kvs.length<sizeLine):zm H a (kV k) v (upd H a (.dK (putK kvs k v))):= .inl ⟨kvs,k,e,Z,hl,Z⟩
theorem zm.t{H:Hp}{a b:Addr}{kvs:List (List Key×V)}{k:List Key}{v:V}(e:H a=some (.dT kvs))(eb:H b=some (.tup (k.map kV)))(hl:kvs.length<sizeLine):
 zm H a (.ref b) v (upd H a (.dT (putK kvs k v))):= .inr ⟨kvs,k,b,e,Z,eb,hl,Z⟩
section
variable{X:Cx}{pins:List (Addr×Obj)}{σ:St}{H:Hp}{s:Shared}{a:Addr}{y v:V}{u r:Value}{o:Option V}{A:Around}{E:Value->Shared->Prop}
theorem Inv.big(I:Inv X pins σ H s):sysModules<s.heap.objs.size:=by
 have h:mainGlobals<s.heap.objs.size:=(I.mod.glob.keeps I.bk).lt;exact Nat.lt_trans (by decide) h
theorem Pa{Q:Value->Shared->Prop}(hu:A.units+1<cLine)(I:Inv X pins σ H s)(g:mO H a y (some v))(ry:RelV y u)(h:∀w' s',Inv X pins σ H s'->RelV v w'->Q w' s'):
 wpAny (model X.prog X.w) A (getItem (.ref a) u) Q E s:=by
 rcases g with ⟨kvs,k,e,ey,l⟩|⟨kvs,k,b,e,ey,eb,l⟩
 .subst ey
  obtain⟨z,hd,vs,rel,dd⟩:=Al I.hok e;obtain⟨w',hw,rw'⟩:=mY.some_of (v:=v) (o:=valueAt vs k) (by rw[l];exact rel.val k);exact wpAny_getItem_of (Ab ry) dd.mapOf hw (h w' _ (I.tok _) rw')
 .subst ey
  cases (show u=Value.ref b from ry);obtain⟨z,hd,xs,rel,dd⟩:=Aj I.hok e;obtain⟨w',hw,rw'⟩:=mY.some_of (v:=v) (o:=(atKey xs k).map (·.2)) (by rw[l];exact rel.val k);obtain⟨p,hp,hp2⟩:=Option.map_eq_some_iff.mp hw;refine wpAny_getItem_heap (tupleKind_room_in1 hu) (yg I.hok eb) dd hp ?_;rw[hp2];exact h w' _ (I.tok _) rw'
theorem ahj{Q:Value->Shared->Prop}(hu:A.units+1<cLine)(I:Inv X pins σ H s)(g:mO H a y o)(ry:RelV y u)(h:∀s',Inv X pins σ H s'->Q (.bool o.isSome) s'):
 wpAny (model X.prog X.w) A (compareOp .In u (.ref a)) Q E s:=by
 rcases g with ⟨kvs,k,e,ey,l⟩|⟨kvs,k,b,e,ey,eb,l⟩
 .subst ey
  obtain⟨z,hd,vs,rel,dd⟩:=Al I.hok e;refine wpAny_in_of (Ab ry) hd dd.mapOf ?_;rw[←(rel.val k).um,←l];exact h _ (I.tok _)
 .subst ey
  cases (show u=Value.ref b from ry);obtain⟨z,hd,xs,rel,dd⟩:=Aj I.hok e;refine wpAny_in_heap (tupleKind_room_in1 hu) (yg I.hok eb) hd dd ?_;have q:=(rel.val k).um;rw[Option.isSome_map] at q;rw[←q,←l];exact h _ (I.tok _)
theorem Dd{h':Heap}{t':Nat}{ob:HO}(I:Inv X pins σ H s)(mu:Mut (H a))(hs:Heap.SameBut a s.heap h')(he:∃q,h'.get? a=some q)(new:cW X.prog X.w (upd H a ob) h' a ob):
 Inv X pins σ (upd H a ob) {s with heap:=h',toks:=t'}:=
 I.write (x:=a) (e:=a) mu (.inl rfl) (λb q hb z=>(hs.2 b hb).trans z) he new
theorem Tv{P:Program}{w:World}{H':Hp}{h':Heap}{kvs:List (Key×V)}{vs:List (Key×Value)}(z:kvs.length<=sizeLine)(hd:(a==sysModules)=false)(rel:KV kvs vs)(dd:h'.DictOf (cU P w) a vs):
 cW P w H' h' a (.dK kvs):=⟨z,hd,vs,rel,dd⟩
theorem O_{H':Hp}{Q:Unit->Shared->Prop}(hu:A.units+1<cLine)(I:Inv X pins σ H s)(g:zm H a y v H')(ry:RelV y u)(rv:RelV v r)(h:∀s',Inv X pins σ H' s'->Q () s'):
 wpAny (model X.prog X.w) A (setItem (.ref a) u r) Q E s:=by
 rcases g with ⟨kvs,k,e,ey,l,eH⟩|⟨kvs,k,b,e,ey,eb,l,eH⟩
 .subst ey eH
  obtain⟨z,hd,vs,rel,dd⟩:=Tt I.hok e;have hz:vs.length<=sizeLine:=by rw[←rel.length];exact z
  have hl:(putK kvs k v).length<=sizeLine:=by have:=gP kvs k v;lia
  refine wpAny_setItem_pairs (hsz:=hz) (Ab ry) dd λh' dd' hs=>h _ ?_;have he:∃q,h'.get? a=some q:=let ⟨q,_,_,hq,_⟩:=dd';⟨q,hq⟩
  exact Dd I (by rw[e];exact True.intro) hs he (Tv hl hd (rel.put k rv) dd')
 .subst ey eH
  cases (show u=Value.ref b from ry);obtain⟨z,hd,xs,rel,dd⟩:=acU I.hok e;have hz:xs.length<=sizeLine:=by rw[←Paired.length rel];exact z
  have hl:(putK kvs k v).length<=sizeLine:=by have:=gP kvs k v;lia
  refine wpAny_setItem_heap (hsz:=hz) (tupleKind_room_in1 hu) (yg I.hok eb) dd λh' dd' hs=>h _ ?_;obtain⟨q,es,ep,hq,h2,h3,h4,_,h5⟩:=dd';refine Dd I (by rw[e];exact True.intro) hs ⟨q,hq⟩ ⟨hl,hd,_,(rel.put k eb rv).keeps λc ys ec=>?_,q,es,ep,hq,h2,h3,h4,h5⟩;rw[aF (cH ec e (λz=>nomatch z))];exact ec
end
section
variable{X:Cx}{pins:List (Addr×Obj)}{σ:St}{H:Hp}{s:Shared}{a:Addr}{kvs:List (Key×V)}{k:Key}{u:Value}{A:Around}{E:Value->Shared->Prop}
end
noncomputable def ac9(i:Expr):Prop:=∀ov iv,subscripted i false ov iv=operate [ov,iv] (getItem ov iv)
theorem Vf{prog:Program}{w:World}{A:Around}{E:Value->Shared->Prop}{s:Shared}{env:Env}{value slice:Expr}{pos:Pos}{T id:String}{Q:Value->Shared->Prop}(hl:typeLookup (.type T) "__getitem__" = pure (some (.builtin id)))(hs:ac9 slice)(h:wpAny (model prog w) A (eval value env) (λo s₁=>wpAny (model prog w) A (eval slice env) (λi s₂=>s₂.TypeIs o T/\wpAny (model prog w) A (getItem o i) Q E s₂) E s₁) E s):
 wpAny (model prog w) A (eval (.Subscript value slice pos) env) Q E s:=by
 refine Subscript_ (wpAny_mono h (λo s₁ h₁=>wpAny_mono h₁ (λi s₂ h₂=>?_) λ_ _ x=>x) λ_ _ x=>x);obtain⟨hT,h₂⟩:=h₂;unfold subscriptTail;refine aay ?_;rw[getitemInPython_of_ne hT.not_modules];refine aay (wpAny_specialOf hT hl ?_)
 have fin:wpAny (model prog w) A (subscripted slice false o i) (λr s₃=>wpAny (model prog w) A (letTemporaryGo value o r >>= λ_=>pure r) Q E s₃) E s₂:=by
  rw[hs o i];exact wpAny_operating (wpAny_mono h₂ (λr s₃ h₃=>aay (wpAny_letTemporaryGo (aaB h₃))) λ_ _ x=>x)
 first
  | exact aaB (aay fin)
  | exact aay (aaB (aay fin))
  | exact aay fin
theorem GJ{X:Cx}{pins:List (Addr×Obj)}{σ:St}{H:Hp}{s:Shared}{a:Addr}{y:V}{o:Option V}(I:Inv X pins σ H s)(g:mO H a y o):s.TypeIs (.ref a) "dict" :=by
 rcases g with ⟨kvs,k,e,_,_⟩|⟨kvs,k,b,e,_,_,_⟩
 .obtain⟨_,_,vs,_,dd⟩:=Al I.hok e
  exact dd.typeIs
 .obtain⟨_,_,xs,_,dd⟩:=Aj I.hok e
  exact dd.typeIs
noncomputable def abA(td ty:TE):TE:=λσ H Q=>td σ H λx H1=>ty σ H1 λy H2=>∃a v,x = .ref a/\mO H2 a y (some v)/\Q v H2
noncomputable def aeO(ty td:TE):TE:=λσ H Q=>ty σ H λy H1=>td σ H1 λx H2=>∃a o,x = .ref a/\mO H2 a y o/\Q (.bl o.isSome) H2
noncomputable def abM(td ty tv:TE):TS:=λD σ H=>tv σ H λv H1=>td σ H1 λx H2=>ty σ H2 λy H3=>∃a H4,x = .ref a/\zm H3 a y v H4/\D.nx σ H4
section
variable{X:Cx}{o i e value:Expr}{pos pos' tpos:Pos}{td ty tv:TE}
theorem oZ(hu:X.A.units+1<cLine)(ho:PE X o td)(hi:PE X i ty)(hs:ac9 i):PE X (.Subscript o i pos) (abA td ty):=by
 intro pins s σ H Q I h;refine Vf PySem.F.slot_dict_getitem.lookup hs (cY (ho pins s σ H _ I h) λu s1 ⟨x,H1,I1,rx,q1⟩=>cY (hi pins s1 σ H1 _ I1 q1) λiv s2 gW=>?_);obtain⟨y,H2,I2,ry,a,v,ex,g,q2⟩:=gW;subst ex;obtain rfl:u=Value.ref a:=rx;exact⟨GJ I2 g,Pa hu I2 g ry λw' s3 I3 rw'=>⟨v,H2,I3,rw',q2⟩⟩
theorem Zj(hu:X.A.units+1<cLine)(hi:PE X i ty)(ho:PE X o td):PC X .In i o (aeO ty td):=by
 intro pins s σ H Q I h;refine cY (hi pins s σ H _ I h) λiv s1 ⟨y,H1,I1,ry,q1⟩=>cY (ho pins s1 σ H1 _ I1 q1) λu s2 gW=>?_;obtain⟨x,H2,I2,rx,a,ov,ex,g,q2⟩:=gW;subst ex;obtain rfl:u=Value.ref a:=rx;exact ahj hu I2 g ry λs3 I3=>⟨.bl ov.isSome,H2,I3,Z,q2⟩
theorem qY(hu:X.A.units+1<cLine)(ho:PE X o td)(hi:PE X i ty)(hv:PE X value tv)(hs:swapsWith value (some (.Subscript o i pos')) pos.line X.env=pure false):
 PS X (.Assign [.Subscript o i pos'] value pos) (abM td ty tv):=by
 intro pins s σ H D I h;refine wpAny_Assign_Subscript (cY (hv pins s σ H _ I h) λr s1 ⟨v,H1,I1,rv,q1⟩=>cY (ho pins s1 σ H1 _ I1 q1) λu s2 ⟨x,H2,I2,rx,q2⟩=>cY (hi pins s2 σ H2 _ I2 q2) λiv s3 ⟨y,H3,I3,ry,a,H4,ex,g,q3⟩=>?_) hs;subst ex;obtain rfl:u=Value.ref a:=rx;exact O_ hu I3 g ry rv λs4 I4=>⟨σ,H4,I4,q3⟩
end
theorem GF{P:Program}{w:World}{H:Hp}(h:Heap)(hb:sysModules<h.objs.size):cW P w H (h.push {cls:= .type "dict",data:= .dict #[]}) h.objs.size (.dK []):=
 ⟨Nat.zero_le _,beq_eq_false_iff_ne.mpr (Ne.symm (aaV hb)),[],.nil,Heap.DictOf.new h⟩
theorem Tr{P:Program}{w:World}{H:Hp}(h:Heap)(hb:sysModules<h.objs.size):cW P w H (h.push {cls:= .type "dict",data:= .dict #[]}) h.objs.size (.dT []):=
 ⟨Nat.zero_le _,beq_eq_false_iff_ne.mpr (Ne.symm (aaV hb)),[],.nil,_, #[],0,aaj _ rfl,⟨Z,Z,Z⟩,Z,Z,List.nodup_nil⟩
noncomputable def YD:TE:=λ_ H Q=>∀p,H p=none->Q (.ref p) (upd H p (.dK []))
noncomputable def YC:TE:=λ_ H Q=>∀p,H p=none->Q (.ref p) (upd H p (.dT []))
section
variable{X:Cx}{pos:Pos}
theorem Fx:PE X (.Dict [] [] pos) YD:=λpins s σ H Q I h=>
 wpAny_Dict_empty ⟨.ref s.heap.objs.size,_,I.laid (a:=s.heap.objs.size) (o:= .dK []) (t':=s.toks) (λ_ _ q=>aai _ q) (aap _) (GF s.heap I.big),Z,h _ (I.hok.fresh (aap _))⟩
theorem Fw:PE X (.Dict [] [] pos) YC:=λpins s σ H Q I h=>
 wpAny_Dict_empty ⟨.ref s.heap.objs.size,_,I.laid (a:=s.heap.objs.size) (o:= .dT []) (t':=s.toks) (λ_ _ q=>aai _ q) (aap _) (Tr s.heap I.big),Z,h _ (I.hok.fresh (aap _))⟩
end
noncomputable def Hy:List (TE×TE)->St->Hp->(List (V×V)->Hp->Prop)->Prop
 | [],_,H,Q=>Q [] H
 | (tk,tv)::r,σ,H,Q=>tk σ H λx H1=>tv σ H1 λy H2=>Hy r σ H2 λps H3=>Q ((x,y)::ps) H3
noncomputable abbrev VV:List (V×V)->List (Value×Value)->Prop:=Paired λp q=>RelV p.1 q.1/\RelV p.2 q.2
noncomputable def PPs(X:Cx)(pos:Pos)(keys:List (Option Expr))(values:List Expr)(U8:List (TE×TE)):Prop:=
 ∀(pins:List (Addr×Obj))(s:Shared)(σ:St)(H:Hp)(Q:List (V×V)->Hp->Prop),Inv X pins σ H s->Hy U8 σ H Q ->
  wpAny (model X.prog X.w) X.A (evalPairs (pairTrees keys values X.env pos)) (λvs s'=>∃ps H',Inv X pins σ H' s'/\VV ps vs/\Q ps H') X.xe s
theorem K_{X:Cx}{pos:Pos}:PPs X pos [] [] []:=λpins s σ H Q I h=>pairTrees_nil_walk ⟨[],H,I,.nil,h⟩
theorem Ft{X:Cx}{pos:Pos}{k v:Expr}{ks:List (Option Expr)}{vs:List Expr}{tk tv:TE}{U8:List (TE×TE)}(hk:PE X k tk)(hv:PE X v tv)(hr:PPs X pos ks vs U8):
 PPs X pos (some k::ks) (v::vs) ((tk,tv)::U8):=λpins s σ H Q I h=>
 pairTrees_cons_walk (cY (hk pins s σ H _ I h) λu s1 ⟨x,H1,I1,rx,q1⟩=>cY (hv pins s1 σ H1 _ I1 q1) λw2 s2 ⟨y,H2,I2,ry,q2⟩=>
  cY (hr pins s2 σ H2 _ I2 q2) λws s3 ⟨ps,H3,I3,rel,q3⟩=>⟨(x,y)::ps,H3,I3,.cons ⟨rx,ry⟩ rel,q3⟩)
noncomputable def qu(kvs more:List (Key×V)):List (Key×V):=more.foldl (λacc kv=>putK acc kv.1 kv.2) kvs
theorem KV.merge:∀{more:List (Key×V)}{rs:List (Key×Value)}{kvs:List (Key×V)}{vs:List (Key×Value)},KV more rs->KV kvs vs->KV (qu kvs more) (merged vs rs):=by
 intro more rs kvs vs r;unfold KV at r
 induction r generalizing kvs vs with
 | nil=>intro q;exact q
 | @cons p q ps qs h t ih=>
   intro r0
   have e:KV (putK kvs p.1 p.2) (stored vs q.1 q.2):=by
    have:=r0.put p.1 h.2;rw[←h.1];exact this
   exact ih e
theorem pN:∀(more kvs:List (Key×V)),(qu kvs more).length<=kvs.length+more.length
 | [],kvs=>by show kvs.length<=kvs.length+0;lia
 | p::r,kvs=>by
   have h1:=pN r (putK kvs p.1 p.2);have h2:=gP kvs p.1 p.2;show (qu (putK kvs p.1 p.2) r).length<=_;rw[abo];lia
theorem yH{P:Program}{w:World}:∀{kvs:List (Key×V)}{ws:List (Value×Value)},VV (kvs.map λkv=>(kV kv.1,kv.2)) ws -> ∃rs,Carries (cU P w) ws rs/\KV kvs rs
 | [],_,r=>by rw[List.map_nil] at r;cases r;exact⟨[],True.intro,.nil⟩
 | p::kvs,_,r=>by
   rw[List.map_cons] at r;cases r with
   | @cons a b as bs h t=>
     obtain⟨rs,c,q⟩:=yH (P:=P) (w:=w) t;obtain⟨b1,b2⟩:=b;exact⟨(p.1,b2)::rs,⟨Ab h.1,Z,c⟩,.cons ⟨Z,h.2⟩ q⟩
noncomputable def abz(U8:List (TE×TE)):TE:=λσ H Q=>∀p,H p=none->Hy U8 σ (upd H p (.dK [])) λps H2=>H2 p=some (.dK []) /\ ∃kvs:List (Key×V),ps=kvs.map (λkv=>(kV kv.1,kv.2))/\kvs.length<=15/\Q (.ref p) (upd H2 p (.dK (qu [] kvs)))
theorem Lf{X:Cx}{pos:Pos}{keys:List (Option Expr)}{values:List Expr}{U8:List (TE×TE)}(h:PPs X pos keys values U8)(hall:keys.all (·.isSome)=true)(hl:keys.length=values.length)(h0:keys≠[])(h15:keys.length<=15):PE X (.Dict keys values pos) (abz U8):=by
 intro pins s σ H Q I q;have hn:=I.hok.fresh (aap s.heap.objs.size);have I1:=I.laid (a:=s.heap.objs.size) (o:= .dK []) (h':=s.heap.push {cls:= .type "dict",data:= .dict #[]}) (t':=s.toks) (λ_ _ q=>aai _ q) (aap _) (GF s.heap I.big);refine wpAny_Dict_walk (knd:=cU X.prog X.w) hall hl h0 h15 (cY (h pins _ σ _ _ I1 (q _ hn)) λws s2 gW=>?_);obtain⟨ps,H2,I2,rel,e,kvs,ep,lk,q2⟩:=gW;subst ep;obtain⟨rs,c,rk⟩:=yH (P:=X.prog) (w:=X.w) rel;obtain⟨z,hd,vs0,r0,dd⟩:=Tt I2.hok e;cases r0;refine⟨rs,c,dd,λh' dd' hs=>⟨.ref s.heap.objs.size,_, ?_,Z,q2⟩⟩
 have hz:(qu [] kvs).length<=sizeLine:=by
  have h1:=pN kvs [];rw[List.length_nil] at h1;rw[sizeLine_eq];lia
 have he:∃q,h'.get? s.heap.objs.size=some q:=let ⟨q,_,_,hq,_⟩:=dd';⟨q,hq⟩
 exact Dd I2 (by rw[e];exact True.intro) hs he (Tv hz hd (rk.merge .nil) dd')
structure M2(X:Cx)(o:Expr)(m:Str)(apos:Pos)(e f:Expr)(cpos:Pos):Prop where
 base:attributeBase o m X.env (eval o X.env)=eval o X.env
 few:((backTo cpos (starEach [e,f] X.env)).all (λx=> !x.1)&&(backToKw cpos (keywordEach [] X.env)).all (λx=>x.1.isSome)
  && decide (([e,f]:List Expr).length+([]:List Keyword).length+(if ([]:List Keyword).isEmpty then 0 else 1)<30))=true
 line:(apos.endLine==cpos.line)=true
 trees:backTo cpos (starEach [e,f] X.env)=[(false,eval e X.env),(false,eval f X.env)]
noncomputable def IsD(H:Hp)(a:Addr):Prop:=(∃kvs,Rd H a (.dK kvs)) \/ ∃kvs,Rd H a (.dT kvs)
theorem ZS{X:Cx}{pins:List (Addr×Obj)}{σ:St}{H:Hp}{s:Shared}{a:Addr}(I:Inv X pins σ H s)(d:IsD H a):
 s.TypeIs (.ref a) "dict" /\ (∀b,Value.ref a = .ref b -> ∃ob,s.heap.get? b=some ob/\ob.dict=none)/\(a==sysModules)=false:=by
 rcases d with ⟨kvs,e⟩|⟨kvs,e⟩
 .obtain⟨_,hd,vs,_,dd⟩:=Al I.hok e
  refine⟨dd.typeIs,λb q=>?_,hd⟩;cases q;obtain⟨ob,_,_,h1,h2,_⟩:=dd;exact⟨ob,h1,h2.2.1⟩
 .obtain⟨_,hd,xs,_,dd⟩:=Aj I.hok e
  refine⟨dd.typeIs,λb q=>?_,hd⟩;cases q;obtain⟨ob,_,_,h1,h2,_⟩:=dd;exact⟨ob,h1,h2.2.1⟩
section
variable{X:Cx}{pins:List (Addr×Obj)}{σ:St}{H:Hp}{s:Shared}{a:Addr}{y d:V}{u r:Value}{o:Option V}{A:Around}{E:Value->Shared->Prop}
theorem aan{Q:Value->Shared->Prop}(hu:A.units+1<cLine)(I:Inv X pins σ H s)(g:mO H a y o)(ry:RelV y u)(rd:RelV d r)(h:∀w' s',Inv X pins σ H s'->RelV (o.getD d) w'->Q w' s'):
 wpAny (model X.prog X.w) A (call (.builtin "dict.get") [.ref a,u,r]) Q E s:=by
 rcases g with ⟨kvs,k,e,ey,l⟩|⟨kvs,k,b,e,ey,eb,l⟩
 .subst ey
  obtain⟨z,hd,vs,rel,dd⟩:=Al I.hok e;refine call_meetsIn PySem.F.slot_dict_get dd.typeIs PySem.F.entry_dict_get (PySem.F.args_dict_get_3 _ _ _) (meets_dict_get_default (cU X.prog X.w) a (Ab ry) hd r) ⟨_,dd.mapOf,h _ _ (I.tok _) ?_⟩;rw[l];exact(rel.val k).getD rd
 .subst ey
  cases (show u=Value.ref b from ry);obtain⟨z,hd,xs,rel,dd⟩:=Aj I.hok e;refine call_meetsIn PySem.F.slot_dict_get dd.typeIs PySem.F.entry_dict_get (PySem.F.args_dict_get_3 _ _ _) (meetsH_dict_get_default (tupleKind (cU X.prog X.w)) a b hd r) ⟨tupleKind_room_in1 hu,k,xs,yg I.hok eb,dd,h _ _ (I.tok _) ?_⟩;rw[l];exact(rel.val k).getD rd
end
noncomputable def YF(td ty tx:TE):TE:=λσ H Q=>td σ H λx H1=>∃a,x = .ref a/\IsD H1 a/\ty σ H1 λy H2=>tx σ H2 λz H3=>∃o,mO H3 a y o/\Q (o.getD z) H3
section
variable{X:Cx}{o e f:Expr}{apos cpos:Pos}{td ty tx:TE}
theorem xQ(hu:X.A.units+1<cLine)(ho:PE X o td)(he:PE X e ty)(hf:PE X f tx)(m:M2 X o "get" apos e f cpos):PE X (.Call (.Attribute o "get" apos) [e,f] [] cpos) (YF td ty tx):=by
 intro pins s σ H Q I h;refine wpAny_Call_method m.base m.few m.line PySem.F.plainAttrs_dict PySem.F.slot_dict_get PySem.F.type_dict_get (cY (ho pins s σ H _ I h) λu s1 gW=>?_);obtain⟨x,H1,I1,rx,a,ex,d,q1⟩:=gW;subst ex;obtain rfl:u=Value.ref a:=rx;obtain⟨t1,t2,_⟩:=ZS I1 d;refine⟨t1,t2, ?_⟩;rw[m.trees]
 refine Calls.callWith_builtin rfl (Calls.evalArgs_plain (Calls.spliced_cons (cY (he pins s1 σ H1 _ I1 q1) λiv s2 ⟨y,H2,I2,ry,q2⟩=>
  Calls.spliced_cons (cY (hf pins s2 σ H2 _ I2 q2) λfv s3 ⟨z,H3,I3,rz,ov,g,q3⟩=>Calls.spliced_nil ?_))))
 exact aan hu I3 g ry rz λw' s4 I4 rw'=>⟨_,H3,I4,rw',q3⟩
end
section
variable{X:Cx}{pins:List (Addr×Obj)}{σ:St}{H:Hp}{s:Shared}{a:Addr}{kvs:List (Key×V)}{A:Around}{E:Value->Shared->Prop}
end
section
variable{X:Cx}{pins:List (Addr×Obj)}{σ:St}{H:Hp}{s:Shared}{a:Addr}{y:V}{u:Value}{A:Around}{E:Value->Shared->Prop}
end
end L2
namespace Att
open PySem PySem.W PySem.Calls PyProof.Rows
theorem vg{P:Params}{h:Heap}:∀(ns:List Int)(vs:List Value),WellAll P h vs (ns.map WData.int)->IntsAre vs ns:=by
 intro ns
 induction ns with
 | nil=>
   intro vs w;rw[List.map_nil] at w;cases w;exact .nil
 | cons n ns ih=>
   intro vs w;rw[List.map_cons] at w;cases w with
   | cons a b=>
     cases a;exact .cons _ _ (ih _ b)
theorem Nm{l:OpenLaw}{n:Nat}(hn:l.most=some n){P:Params}{h:Heap}{args:List WData}{vals:List Value}(hpre:l.row.toRowW.claim.pre args=true)(hwl:WellAll P h vals args):
 ∃a vs ns,vals=[Value.ref a]/\args=[WData.list (ns.map WData.int)]/\h.get? a=some {cls:= .type "list",data:= .seq vs.toArray}/\IntsAre vs ns/\ns.length<=n:=by
 have hsh:WShape.hasAll [] args [.list .int]=true:=(pre_splitW hpre).1;have hc:l.pre.holds [] {args:=args}=true:=(pre_splitW hpre).2;obtain⟨d,r,rfl,h1,h2⟩:=hasAllW_cons hsh;obtain rfl:=hasAllW_nil h2;obtain⟨xs,rfl,h3⟩:=hasW_list h1;obtain⟨ns,rfl⟩:=items_int h3
 have hlen:ns.length<=n:=by
  unfold OpenLaw.pre at hc
  have h4:(WTm.not (.lt (.lit (.int (n:Int))) (.len (.arg 0)))).holds [] {args:=[.list (ns.map .int)]}=true:=by
   have h4:=(holds_andW hc).1;rw[hn] at h4;exact h4
  have h5:=condW_of h4 (w_not (w_lt w_lit (w_len_list (w_arg rfl))));rw[aad] at h5;refine Nat.le_of_not_lt λq=>?_;have q':(n:Int)<((ns.length:Nat):Int):=by lia
  first
   | (rw[aaM q'] at h5;exact abZ h5 (by decide))
   | (simp at h5;lia)
 cases hwl with
 | cons w1 w2=>
   cases w2;cases w1 with
   | list ho hall=>exact⟨_,_,ns,Z,Z,ho,vg ns _ hall,hlen⟩
theorem NP(l:OpenLaw)(args:List WData):l.row.toRowW.claim.post args (.bool true) args=true:=
 postW_of (r:=l.row.toRowW) (X:=(true==true))
  (show WShape.has [] (.bool true) .bool=true by first |rfl|decide|simp[WShape.has,WShape.arms,WShape.armsAll])
  (show (WTm.eq .res (.lit (.bool true))).value [] {args:=args,res:=some (.bool true),after:=args}=some (.bool (true==true)) from w_eq_bool (w_res rfl) w_lit) rfl
theorem G8{l:OpenLaw}{n:Nat}{q:Program}{loose:List Str}{XP:(Str->Option Value)->Heap->Prop}{YP:World->Heap->Prop}{d:DefRec}(hn:l.most=some n)(hdf:d.params.defaults=[])(call:∀(w:World)(s₀ s₁:Shared)(mg mb:Str->Option Value)(fa:Addr)(o:Obj)(pm cd doc:Value)(a:Addr)(vs:List Value)(ns:List Int),
   Ground q loose [] XP w s₀ mg mb s₁.heap->YP w s₁.heap ->
   s₁.heap.get? fa=some o->o.data = .func (docDef d.name d.params d.body d.scope pm cd doc)->s₁.heap.CodeRec cd d.name->mg d.name=some (.ref fa) ->
   s₁.heap.get? a=some {cls:= .type "list",data:= .seq vs.toArray}->IntsAre vs ns->ns.length<=n->s₁.gens = #[] ->
   codeAny (model l.prog w) callerA (.call (.ref fa) ⟨[.ref a],[]⟩) (λr s'=>r = .ok (.ret (.bool true))/\OldK s₁.heap s'.heap/\s'.os=s₁.os/\AllBare s'.gens) s₁):
 WalkO q loose XP YP l.row.toRowW d [] (λf vs=>PySem.call f vs):=by
 intro w s₀ s₁ mg mb G Y fa o pm cd doc dV kV ho hd hcd hD hmg hg args vals as hpre hlay hrd hwl hlo;obtain rfl:dV = .none:=Dflts.none hD hdf;obtain rfl:kV = .none:=Dflts.noKw hD;obtain⟨a,vs,ns,rfl,rfl,hobj,hints,hlen⟩:=Nm hn hpre hwl;refine enter_call (codeAny_mono (call w s₀ s₁ mg mb fa o pm cd doc a vs ns G Y ho (fd_plain hd) hcd hmg hobj hints hlen hg) λr s' hq=>?_);obtain⟨rfl,h2,h3,h4⟩:=hq;exact⟨.inl ⟨.bool true,.bool true,[],Z,λ_=>rfl,.bool true,NP l _,λ_=>⟨List.Pairwise.nil,λ_ hm=>(nomatch hm)⟩⟩,h2,h3,h4⟩
section
variable{prog:Program}{w:World}{A:Around}{E:Value->Shared->Prop}{s:Shared}{K:Frag}
noncomputable def ledger(h:Heap)(L d:Addr):List (Addr×Obj):=(List.range h.objs.size).filterMap λa=>if a=L\/a=d then none else (h.get? a).map λo=>(a,o)
end
end Att
namespace L2
open PySem PySem.Spec PyProof.Rows
theorem M8{vs:List Value}{ns:List Int}(h:IntsAre vs ns):Vals (ns.map V.int) vs:=by
 induction h with
 | nil=>exact .nil
 | cons n t h ih=>exact .cons ⟨t,Z⟩ ih
noncomputable def Only(H:Hp):Prop:=∀b,H b=none \/ ∃o xs,H b=some (.mJ o (.lst xs))
theorem Sw{P:Program}{w:World}{K:PySem.W.Frag}{mg mb:Str->Option Value}{CX:Qf}{k:Nat}{fa a:Addr}{fd:FuncData}{x:Str}{sp:Sp}{s₁:Shared}{vs:List Value}{ns:List Int}(KX:K.In s₁.heap)(hns:s₁.heap.Ns mainGlobals mg)(hb:s₁.heap.Ns builtinsNs mb)(hbb:∀x:Str,x ≠ "__name__" -> mb x=bootBuiltins x)(hlim:s₁.heap.NoLimit)(hg:s₁.gens = #[])(ha:s₁.heap.get? a=some {cls:= .type "list",data:= .seq vs.toArray})(hi:IntsAre vs ns)(hl:ns.length<=sizeLine)(hr:eU k callerA)(F:∀base:Heap,K.In base->base.Ns mainGlobals mg->bL P w K mg base CX k fa fd [x] sp)(hbind:∀(s:Shared)(u:Value),BindsTo s fd ⟨[u],[]⟩ [(x,u)])(hsp:∀H:Hp,Only H->bB K H a (ns.map V.int)->sp [.ref a] H (λv _=>v = .bl true) λ_ _ _=>False)(hCX:∀H e s',CX [] H s₁ (λ_ _ _=>False) e s'->False):
 codeAny (model P w) callerA (.call (.ref fa) ⟨[.ref a],[]⟩) (λr s'=>r = .ok (.ret (.bool true))/\OldK s₁.heap s'.heap/\s'.os=s₁.os/\AllBare s'.gens) s₁:=by
 have rv:=M8 hi;have lenV:=hi.length
 have core:∀H:Hp,Only H->bB K H a (ns.map V.int)->lK P w H s₁.heap->(∀b,H b≠none->b=a)->(H a≠none->K.lookup a=none) ->
  codeAny (model P w) callerA (.call (.ref fa) ⟨[.ref a],[]⟩) (λr s'=>r = .ok (.ret (.bool true))/\OldK s₁.heap s'.heap/\s'.os=s₁.os/\AllBare s'.gens) s₁:=by
  intro H hO hS hok hA hK;have Mw:∀{b:Addr}{o:Obj},s₁.heap.get? b=some o->H b=none->(CQ s₁.heap H).get? b=some o:=λe n=>SN e n
  have noA:∀{b:Addr}{o:Obj}{es:Array DictEntry}{ep:Nat},s₁.heap.get? b=some o->o.data = .dict es ep->H b=none:=fun {b o es ep} e d=>by
   cases q:H b with
   | none=>rfl
   | some u=>
     have e':b=a:=hA b (by rw[q];simp);subst e';rw[ha] at e;cases e;have d':Data.seq vs.toArray _=Data.dict es ep:=d;cases d'
  have nsK:∀{b:Addr}{m:Str->Option Value},s₁.heap.Ns b m->(CQ s₁.heap H).Ns b m:=fun {b m} ⟨o,es,ep,e,d,r⟩=>⟨o,es,ep,Mw e (noA e d),d,r⟩
  have hKb:K.In (CQ s₁.heap H):=λb o e=>Mw (KX b o e) (by
   cases q:H b with
   | none=>rfl
   | some u=>
     have e':b=a:=hA b (by rw[q];simp);subst e';rw[hK (by rw[q];simp)] at e;cases e)
  have hM:Mod K mg (CQ s₁.heap H):=⟨hKb,nsK hns,⟨mb,nsK hb,hbb⟩,let ⟨mc,h1,h2⟩:=hlim;⟨mc,nsK h1,h2⟩⟩;have e0:J_ P w K mg (CQ s₁.heap H) callerA [] s₁ H:=⟨Z,hM,λb o e=>V2 e,Nat.le_of_eq (O1 _ _),trivial,λb hb=>abZ (show b∈([]:List Addr) from hb) (by simp),hok,.of_eq hg⟩;refine codeAny_mono ((F _ hKb (nsK hns)).run callerA [] s₁ H ⟨[.ref a],[]⟩ [.ref a] [.ref a] _ _ hr e0 (hbind s₁ (.ref a)) (.cons rfl .nil) (hsp H hO hS)) λr s' h=>?_;cases r with
  | error e=>exact(hCX H e s' h).elim
  | ok fl=>
    cases fl with
    | next=>exact False.elim h
    | brk=>exact False.elim h
    | cont=>exact False.elim h
    | ret u=>
      obtain⟨v,H',os,bare,un,hok',r',q⟩:=h;have q':v = .bl true:=q;subst q';obtain rfl:u=Value.bool true:=r';refine⟨Z,OldK.of_keep λb o e=>?_,os,bare⟩;cases q:H b with
      | none=>exact un.keep b o e q (by intro z;exact abZ (show b∈([]:List Addr) from z) (by simp)) (by simp)
      | some u=>
        rcases hO b with z|⟨ob,xs,z⟩
        .rw[q] at z;cases z
        .have z2:=un.uw b ob _ z
         obtain⟨e1,_⟩:=hok b _ z;obtain⟨e2,_⟩:=hok' b _ z2;rw[e] at e1;cases e1;exact e2
 cases hk:K.lookup a with
 | some o=>
   have e:=KX a o hk;rw[ha] at e;cases e;refine core (λ_=>none) (λ_=> .inl rfl) (.inr ⟨_,vs.toArray,_,hk,Z,Z,Z,by rw[aaQ,lenV];exact hl,by simpa using rv⟩) (λb u z=>by have z':(none:Option HO)=some u:=z;cases z') (λb z=>abZ rfl z) λz=>abZ rfl z
 | none=>
   refine core (λb=>if b=a then some (.mJ {cls:= .type "list",data:= .seq vs.toArray} (.lst (ns.map V.int))) else none) (λb=>?_) (.inl (.inr ⟨{cls:= .type "list",data:= .seq vs.toArray},abW rfl⟩)) (λb u z=>?_) (λb z=>?_) λ_=>hk
   .by_cases hb:b=a
    .exact .inr ⟨_,_,abW hb⟩
    .exact .inl (abN hb)
   .by_cases hb:b=a
    .have z':=(abW hb).symm.trans z
     cases z';subst hb;exact⟨ha,by rw[aad];exact hl,vs,_,rv,ha⟩
    .have z':=(abN hb).symm.trans z
     cases z'
   .by_cases hb:b=a
    .exact hb
    .exact abZ (abN hb) z
noncomputable abbrev KOf{K:PySem.W.Frag}{h:Heap}(_:K.In h):PySem.W.Frag:=K
theorem U6{l:PySem.W.OpenLaw}{n k:Nat}{q:Program}{loose:List Str}{XP:(Str->Option Value)->Heap->Prop}{YP:World->Heap->Prop}{d:DefRec}{K:Params->PySem.W.Frag}{CX:World->Qf}{sp:World->Sp}{x:Str}(hn:l.most=some n)(hn2:n<=sizeLine)(hdf:d.params.defaults=[])(hr:eU k callerA)(hY:∀(w:World)(h:Heap),YP w h->(K w.params).In h)(F:∀(w:World)(mg:Str->Option Value)(fa:Addr)(h:Heap),(K w.params).In h->h.Ns mainGlobals mg->mg d.name=some (.ref fa) ->
   ∃fd:FuncData,(∀(s:Shared)(u:Value),BindsTo s fd ⟨[u],[]⟩ [(x,u)]) /\
    ∀base:Heap,(K w.params).In base->base.Ns mainGlobals mg->bL l.prog w (K w.params) mg base (CX w) k fa fd [x] (sp w))(hsp:∀(w:World)(H:Hp)(a:Addr)(ns:List Int),ns.length<=n->Only H->bB (K w.params) H a (ns.map V.int)->sp w [.ref a] H (λv _=>v = .bl true) λ_ _ _=>False)(hCX:∀(w:World)(H:Hp)(s:Shared)(e:Value)(s':Shared),CX w [] H s (λ_ _ _=>False) e s'->False):
 PySem.W.WalkO q loose XP YP l.row.toRowW d [] (λf vs=>PySem.call f vs):=by
 refine Att.G8 hn hdf λw s₀ s₁ mg mb fa o pm cd doc a vs ns G Y ho hd hcd hmg hobj hints hlen hg=>?_;have KX:=hY w _ Y;obtain⟨fd,hb,hF⟩:=F w mg fa _ KX G.T.g hmg;exact Sw KX G.T.g G.T.b G.T.builtins G.T.nolimit hg hobj hints (abG hlen hn2) hr hF hb (λH hO hS=>hsp w H a ns hlen hO hS) λH e s'=>hCX w H s₁ e s'
noncomputable def inClass(s:Stmt)(j:Nat):Stmt:=match s with
 | .ClassDef _ _ _ body _ _ _ _ _ _ _=>body.getD j (.Pass ⟨0,0,0,0⟩)
 | _=> .Pass ⟨0,0,0,0⟩
noncomputable def b_(s:Stmt):Arguments:=match s with
 | .FunctionDef _ a _ _ _ _ _ _ _ _=>a
 | _=>{posonlyargs:=[],args:=[],vararg:=none,kwonlyargs:=[],kw_defaults:=[],kwarg:=none,defaults:=[]}
noncomputable def cG(s:Stmt):List Stmt:=match s with
 | .FunctionDef _ _ b _ _ _ _ _ _ _=>b
 | _=>[]
noncomputable def aJ(s:Stmt):Scope:=match s with
 | .FunctionDef _ _ _ _ _ _ sc _ _ _=>sc
 | _=>{kind:= .function,names:=[],isGenerator:=false,isCoroutine:=false}
noncomputable abbrev iC:Qf:=λ_ _ _ _ _ _=>False
noncomputable abbrev E0:XK:=λ_ _ _=>False
theorem Lg{X:Cx}:Passes iC X E0:=λ_ _ _ _ _ _ _ h=>h.elim
structure fZ(K:PySem.W.Frag)(x qual:Str)(st:Stmt)(f:Addr)(fd:FuncData):Prop where
 ex:∃(oc:Value) (od:Option Addr) (kV doc pm:Value) (an:Option Addr) (cdv ct:Value) (osl:Array (Option Value)),
  fd=PySem.W.fnOf x qual (b_ st) (cG st) (aJ st) .none kV doc pm an cdv ct/\K.lookup f=some ⟨oc,od,.func fd,osl⟩/\PySem.W.codeIn K cdv qual=true
 kp:PySem.W.keepIn K (.ref f)=true
section
variable{P:Program}{w:World}{K:PySem.W.Frag}{mg:Str->Option Value}{base:Heap}
theorem fZ.ok{x qual:Str}{st:Stmt}{f:Addr}{fd:FuncData}{N ps:List Str}{k:Nat}{sp:Sp}(F:fZ K x qual st f fd)(S:aV N ps (aJ st))(len:∀vs H Q E,sp vs H Q E->vs.length=ps.length)(hbody:∀(cdv:Value)(A:Around)(outer:List Env)(s:Shared)(H:Hp)(vs:List V)(Q:VK)(E:XK),eU k (A.deeper (envOfC qual (aJ st) s.heap.objs.size f cdv))->sp vs H Q E ->
   ∃t,J0 (mX iC P w K mg base N qual (aJ st) f cdv A outer s H E).nox (cG st) t/\t {nx:=λ_ H'=>Q .non H',rt:=Q} (start N vs) H):bL P w K mg base iC (k+1) f fd ps sp:=by
 obtain⟨oc,od,kV,doc,pm,an,cdv,ct,osl,rfl,lk,hcd⟩:=F.ex;refine Ti lk hcd S len λA outer s H vs Q E hr hsp=>?_;obtain⟨t,h,q⟩:=hbody cdv A outer s H vs Q E hr hsp;exact⟨t,h.nox,q⟩
theorem fZ.binds{x qual:Str}{st:Stmt}{f:Addr}{fd:FuncData}{ps:List Str}(F:fZ K x qual st f fd)(h:∀(kV doc pm:Value)(an:Option Addr)(cdv ct:Value)(us:List Value),us.length=ps.length->bindArgs (PySem.W.fnOf x qual (b_ st) (cG st) (aJ st) .none kV doc pm an cdv ct) ⟨us,[]⟩=pure (ps.zip us)):Binds K fd ps []:=by
 obtain⟨oc,od,kV,doc,pm,an,cdv,ct,osl,rfl,lk,hcd⟩:=F.ex;exact .all (h kV doc pm an cdv ct)
theorem Te{x qual:Str}{st:Stmt}{f:Addr}{oc:Value}{od an:Option Addr}{osl:Array (Option Value)}{kV doc pm cdv ct:Value}(l:K.lookup f=some ⟨oc,od,.func (PySem.W.fnOf x qual (b_ st) (cG st) (aJ st) .none kV doc pm an cdv ct),osl⟩)(c:PySem.W.codeIn K cdv qual=true)(k:PySem.W.keepIn K (.ref f)=true):fZ K x qual st f (PySem.W.fnOf x qual (b_ st) (cG st) (aJ st) .none kV doc pm an cdv ct):=⟨⟨oc,od,kV,doc,pm,an,cdv,ct,osl,Z,l,c⟩,k⟩
end
theorem rB{A:Around}{k:Nat}(hr:eU k A):A.units+1<cLine:=Nat.lt_of_le_of_lt (Nat.add_le_add_left (by decide:1<=64) _) hr.units
theorem Nk{n:Nat}(h:n<=1000):n<sizeLine:=Nat.lt_of_le_of_lt h (by decide)
section
variable{X:Cx}
theorem pv(i:Nat){x:Str}{pos:Pos}(hN:X.N[i]? = some x:=by rfl)(hv:Vis X.env.scope x:=by first |exact Or.inl rfl|exact Or.inr (Or.inl rfl)|exact Or.inr (Or.inr rfl))(hd:(x==("__debug__" :Str))=false:=by decide)(hcd:(x==("__classdict__" :Str))=false:=by decide):PE X (.Name x pos) (zy i):=Zg hN hv hd hcd
end
theorem dG{A B:Prop}(h:B):if false=true then A else B:=by
 rw[abN aaP];exact h
theorem eO{A B:Prop}(h:A):if true=true then A else B:=by
 rw[abW rfl];exact h
theorem bK{c A B:Prop}[Decidable c](h1:c->A)(h2:¬c->B):if c then A else B:=by
 by_cases h:c
 .rw[abW h]
  exact h1 h
 .rw[abN h]
  exact h2 h
theorem nY{c A B:Prop}[Decidable c](hc:c)(h:B):if (!decide c)=true then A else B:=by
 rw[aaM hc];exact dG h
noncomputable def Same(H H':Hp):Prop:=∀b o,H b=some o->H' b=some o
theorem Same.refl(H:Hp):Same H H:=λ_ _ h=>h
theorem Same.trans{H H1 H2:Hp}(a:Same H H1)(b:Same H1 H2):Same H H2:=λc o h=>b c o (a c o h)
theorem Same.free{H H':Hp}(e:Same H H'){l:Addr}(h:H' l=Option.none):H l=Option.none:=by
 cases q:H l with
 | none=>rfl
 | some o=>
   rw[e l o q] at h;cases h
theorem Same.seq{K:PySem.W.Frag}{H H':Hp}{a:Addr}{xs:List V}(e:Same H H')(h:bB K H a xs):bB K H' a xs:=by
 rcases h with (h|⟨o,h⟩)|h
 .exact .inl (.inl (e _ _ h))
 .exact .inl (.inr ⟨o,e _ _ h⟩)
 .exact .inr h
section
variable{κ:Type}[DecidableEq κ]
end
end L2
set_option maxHeartbeats 4000000
namespace L2
open PySem PySem.Spec PyProof.Rows
theorem zY{a n:Addr}(h:a<n): @LT.lt Nat _ a n:=h
noncomputable def oG(env:Env):List (Str×NameKind)->List (Str×Addr)->List (Str×Addr)
 | [],acc=>acc
 | (n,k)::r,acc=>if k == .free then oG env r ((n,(env.cells.lookup n).getD 0)::acc) else oG env r acc
theorem Jz{env:Env}{scope:Scope}(h:∀y∈scope.names,y.2 = .free->(env.cells.lookup y.1).isSome=true):closureFor scope env=pure (oG env scope.names []):=by
 have go:∀(ns:List (Str×NameKind))(acc:List (Str×Addr)),(∀y∈ns,y.2 = .free->(env.cells.lookup y.1).isSome=true) ->
  (forIn ns acc (λx cs=>match x with |(name,kind)=>if (kind == .free)=true then do let c ←cellOf env name;pure (ForInStep.yield ((name,c)::cs)) else pure (ForInStep.yield cs)):Sem (List (Str×Addr)))=pure (oG env ns acc):=by
  intro ns
  induction ns with
  | nil=>intro acc _;rfl
  | cons y r ih=>
    intro acc hy;obtain⟨n,k⟩:=y;rw[List.forIn_cons]
    by_cases hk:k = .free
    .subst hk
     have hs:=hy (n,.free) List.mem_cons_self rfl;obtain⟨c,hc⟩:=Option.isSome_iff_exists.mp hs;have e:cellOf env n=pure c:=by unfold cellOf;rw[hc]
     show _=pure (oG env r ((n,(env.cells.lookup n).getD 0)::acc));rw[←ih _ λy hm=>hy y (aa0 _ hm)];simp only[beq_self_eq_true,if_true,e,pure_bind,hc,Option.getD_some]
    .have hb:(k==NameKind.free)=false:=by simpa using hk
     have hc:oG env ((n,k)::r) acc=oG env r acc:=by
      show (if (k==NameKind.free)=true then _ else _)=_;rw[abN (by rw[hb];decide)]
     rw[hc,←ih _ λy hm=>hy y (aa0 _ hm)];simp only[hb,Bool.false_eq_true,if_false,pure_bind]
 have q:=go scope.names [] h;unfold closureFor;show (forIn scope.names [] _ >>= λr=>pure r)=_;rw[bind_pure];exact q
theorem iW{env:Env}:∀(ns:List (Str×NameKind))(acc:List (Str×Addr))(x:Str),(∀y∈ns,y.2 = .free->(env.cells.lookup y.1).isSome=true) ->
 (oG env ns acc).lookup x=if (x,NameKind.free)∈ns then env.cells.lookup x else acc.lookup x
 | [],acc,x,_=>by simp[oG]
 | (n,k)::r,acc,x,h=>by
   have hr:∀y∈r,y.2 = .free->(env.cells.lookup y.1).isSome=true:=λy hm=>h y (aa0 _ hm)
   by_cases hk:k = .free
   .subst hk
    show (oG env r ((n,(env.cells.lookup n).getD 0)::acc)).lookup x=_;rw[iW r _ x hr];obtain⟨c,hc⟩:=Option.isSome_iff_exists.mp (h (n,.free) List.mem_cons_self rfl);have hc:env.cells.lookup n=some c:=hc
    by_cases hm:(x,NameKind.free)∈r
    .rw[abW hm,abW (aa0 _ hm)]
    .rw[abN hm]
     by_cases e:x=n
     .subst e
      rw[abW List.mem_cons_self,List.lookup_cons,hc];simp
     .rw[abN (λz=>(List.mem_cons.mp z).elim (λq=>e (congrArg Prod.fst q)) hm),List.lookup_cons]
      have:(x==n)=false:=by simpa using e
      rw[this]
   .have hb:(k==NameKind.free)=false:=by simpa using hk
    have hc:oG env ((n,k)::r) acc=oG env r acc:=by
     show (if (k==NameKind.free)=true then _ else _)=_;rw[abN (by rw[hb];decide)]
    rw[hc,iW r acc x hr]
    have:((x,NameKind.free)∈(n,k)::r)↔(x,NameKind.free)∈r:=by
     constructor
     .intro z
      rcases List.mem_cons.mp z with q|q
      .exact abZ (congrArg Prod.snd q).symm hk
      .exact q
     .exact aa0 _
    simp only[this]
theorem jH(env:Env):∀(ns:List (Str×NameKind))(x:Str),
 (ns.map λ(n,k)=>if (k == .free&&env.scope.kind == .function&&env.kindOf n==some .cell) then (n,NameKind.cell) else (n,k)).lookup x =
   (ns.lookup x).map λk=>if (k == .free&&env.scope.kind == .function&&env.kindOf x==some .cell)=true then NameKind.cell else k
 | [],x=>rfl
 | (n,k)::r,x=>by
   show List.lookup x ((if (k==NameKind.free&&env.scope.kind == .function&&env.kindOf n==some .cell)=true then (n,NameKind.cell) else (n,k))::_)=_;cases hx:x==n with
   | true=>
     have e:x=n:=by simpa using hx
     subst e
     by_cases hc:(k==NameKind.free&&env.scope.kind == .function&&env.kindOf x==some .cell)=true
     .rw[abW hc];simp only[List.lookup_cons,hx,Option.map_some,abW hc]
     .rw[abN hc];simp only[List.lookup_cons,hx,Option.map_some,abN hc]
   | false=>
     have ih:=jH env r x
     by_cases hc:(k==NameKind.free&&env.scope.kind == .function&&env.kindOf n==some .cell)=true
     .rw[abW hc];simp only[List.lookup_cons,hx];exact ih
     .rw[abN hc];simp only[List.lookup_cons,hx];exact ih
structure bA(N own:List Str)(caps:List Nat)(XN:List Str)(outer scope:Scope):Prop where
 kind:scope.kind = .function
 R0:∀y∈scope.names,y.2 ≠ .cell
 names:∀y∈scope.names,y.2 = .local->scope.names.lookup y.1=some .local
 free:∀y∈scope.names,y.2 = .free->outer.names.lookup y.1=some .cell\/outer.names.lookup y.1=some .free
 nd:N.Nodup
 len:N.length=own.length+caps.length
 cap:∀(j:Nat),j<caps.length->N[own.length+j]? = XN[caps.getD j 0]? /\ ∃x,N[own.length+j]? = some x/\(x,NameKind.free)∈scope.names/\scope.names.lookup x=some .free
noncomputable def st0(own:List Str)(caps:List Nat)(σ:St):St:=own.map (λ_=>none)++caps.map (λi=>(σ[i]?).join)
noncomputable def fG(X:Cx)(scope:Scope)(C:Addr)(N:List Str)(s:Shared)(H:Hp)(fp:List Addr):Cx:=
 {X with N:=N,s₀:=s,H₀:=H,env:=compEnvC scope (oG X.env scope.names []) C X.env,outer:=X.stack,ex:=fp,fn:=λ_=>false,pn:=[],xe:=λ_ _=>False}
section
variable{X:Cx}{pins:List (Addr×Obj)}{σ:St}{H:Hp}{s:Shared}{scope:Scope}{N own:List Str}{caps:List Nat}{fp:List Addr}{C:Nat}
theorem bA.T6(S:bA N own caps X.N X.env.scope scope)(ok:X.Ok):∀y∈scope.names,y.2 = .free->(X.env.cells.lookup y.1).isSome=true:=λy hy hf=>by
 obtain⟨c,e⟩:=ok.has y.1 (S.free y hy hf);rw[e];rfl
theorem bA.csub(S:bA N own caps X.N X.env.scope scope)(ok:X.Ok){x:Str}{c:Addr}(h:(oG X.env scope.names []).lookup x=some c):X.env.cells.lookup x=some c:=by
 rw[iW _ _ _ (S.T6 ok)] at h;split at h
 .exact h
 .simp at h
theorem bA.Sq{S:bA N own caps X.N X.env.scope scope}{x:Str}(h:(relabel scope X.env).names.lookup x=some .cell\/(relabel scope X.env).names.lookup x=some .free):(x,NameKind.free)∈scope.names:=by
 have e:=jH X.env scope.names x;have e':(relabel scope X.env).names.lookup x=(scope.names.lookup x).map λk=>if (k == .free&&X.env.scope.kind == .function&&X.env.kindOf x==some .cell)=true then NameKind.cell else k:=e;rw[e'] at h;cases q:scope.names.lookup x with
 | none=>rw[q] at h;simp at h
 | some k=>
   have hm:=PySem.mem_of_lookup q
   by_cases hk:k = .free
   .subst hk;exact hm
   .rw[q] at h
    have hb:(k==NameKind.free)=false:=by simpa using hk
    simp only[Option.map_some,hb,Bool.false_and,Bool.false_eq_true,if_false] at h;rcases h with h|h
    .exact abZ (aaR h) (S.R0 _ hm)
    .exact abZ (aaR h) hk
theorem Inv.comp{h1:Heap}{D:Nat}(I:Inv X pins σ H s)(S:bA N own caps X.N X.env.scope scope)(hfp:∀b∈fp,pI X pins H b)(hfo:∀b∈fp,∃o,s.heap.get? b=some o)(hD:D=s.heap.objs.size)(hC:C=s.heap.objs.size+1)(old:∀b o,s.heap.get? b=some o->h1.get? b=some o)(hns:h1.Ns C (λ_=>none))(hl:h1.get? D=some {cls:= .type "list",data:= .seq #[]}){t:Nat}:
 Inv (fG X scope C N s H fp) [] (st0 own caps σ) (upd H D (.lst [])) {s with heap:=h1,toks:=t}:=by
 have some':=S.T6 I.ok;have sub:∀{x c},(oG X.env scope.names []).lookup x=some c->X.env.cells.lookup x=some c:=λh=>S.csub I.ok h;have freshD:H D=none:=I.hok.fresh (by rw[hD];exact aap _);have Z9:H C=none:=I.hok.fresh (by rw[hC];exact Nat.le_succ _)
 have aaq:∀x c,X.env.cells.lookup x=some c->c<s.heap.objs.size:=λx c e=>by
  obtain⟨v,z⟩:=I.cell x c e;exact z.lt
 have agZ:∀b∈fp,b<s.heap.objs.size:=λb hb=>by
  obtain⟨o,e⟩:=hfo b hb;exact aal e
 have DC:D≠C:=by lia
 refine⟨⟨I.ok.mod,S.kind,I.ok.glob,I.ok.blt,by show s.heap.objs.size<=C;lia,λx y c e1 e2=>I.ok.inj x y c (sub e1) (sub e2),λx h=>?_,λx c h=>(by cases h),I.ok.hd,I.ok.frames,Or.inl rfl,λb hb=>⟨?_,λx c e=>?_⟩,I.bs,abG I.ok.W_ I.sz,λb o e hb=>?_,λb hb z=>?_,I.stack,I.Bl⟩,
  Z,I.bare,Un.laid old (by show s.heap.objs.size<=D;lia) freshD,⟨_,hns,λj x v e1 e2 e3=>?_⟩,λx c e=>?_, ?_,λx c e=>?_,λp hp=>?_,I.hok.laid old (by lia) ?_, ?_⟩
 .have hm:=bA.Sq (S:=S) (X:=X) h
  obtain⟨c,e⟩:=Option.isSome_iff_exists.mp (some' _ hm rfl);exact⟨c,by show (oG X.env scope.names []).lookup x=_;rw[iW _ _ _ some',abW hm];exact e⟩
 .exact aaV (show @LT.lt Nat _ b C by have:=zY (agZ b hb);lia)
 .exact(hfp b hb).2.2.2.2.1 x c (sub e)
 .rcases(hfp b hb).2.2.2.1 with z|z
  .exact I.ok.RZ b o e z
  .exact abZ (aaW (aal e) (abG I.ok.W_ z)) (abF _)
 .rcases List.mem_cons.mp (I.wz b z) with q|q
  .exact(hfp b hb).2.1 q
  .exact(hfp b hb).2.2.1 q
 .have e1:N[j]? = some x:=e1
  have hj:own.length<=j:=by
   by_cases q:own.length<=j
   .exact q
   .exfalso
    unfold st0 at e2;rw[aaU (by simp;lia),aag] at e2;cases r:own[j]? with
    | none=>rw[r] at e2;cases e2
    | some a=>rw[r] at e2;cases e2
  have hjl:j<N.length:=(aaf.mp e1).1;have hjc:j - own.length<caps.length:=by have:=S.len;lia
  obtain⟨c1,x',c2,c3,c4⟩:=S.cap (j - own.length) hjc;rw[show own.length+(j - own.length)=j by lia] at c1 c2;rw[e1] at c2;cases c2
  have e2':(σ[caps.getD (j - own.length) 0]?).join=some v:=by
   unfold st0 at e2;rw[aaT (by simp;lia),aag,aad] at e2;rw[List.getD_eq_getElem?_getD];cases r:caps[j - own.length]? with
   | none=>rw[r] at e2;cases e2
   | some a=>rw[r] at e2;exact aaR e2
  have ahd:σ[caps.getD (j - own.length) 0]? = some (some v):=by
   cases r:σ[caps.getD (j - own.length) 0]? with
   | none=>rw[r] at e2';cases e2'
   | some a=>rw[r] at e2';exact congrArg Option.some e2'
  have kx:X.env.kindOf x=some .cell\/X.env.kindOf x=some .free:=S.free _ c3 rfl;obtain⟨m,hn,hl'⟩:=I.loc;obtain⟨u,r,l⟩:=hl' _ x v (by rw[←c1];exact e1) ahd (by rcases kx with z|z;exact .inr (.inl z);exact .inr (.inr z));refine⟨u,r,.inr ⟨?_, ?_⟩⟩
  .show (relabel scope X.env).names.lookup x=some .cell\/(relabel scope X.env).names.lookup x=some .free
   have e:(relabel scope X.env).names.lookup x=(scope.names.lookup x).map λk=>if (k == .free&&X.env.scope.kind == .function&&X.env.kindOf x==some .cell)=true then NameKind.cell else k:=jH X.env scope.names x;rw[e,c4,Option.map_some];split
   .exact .inl rfl
   .exact .inr rfl
  .rcases l with ⟨hk,_⟩|⟨_,c,hc,z⟩
   .rcases kx with q|q<;>rw[hk] at q<;>cases q
   .refine⟨c, ?_, ?_⟩
    .show (oG X.env scope.names []).lookup x=_
     rw[iW _ _ _ some',abW c3];exact hc
    .obtain⟨o,ho,hd⟩:=z
     exact⟨o,old c o ho,hd⟩
 .obtain⟨v,o,ho,hd⟩:=I.cell x c (sub e)
  exact⟨v,o,old c o ho,hd⟩
 .show upd H D (.lst []) C=none
  rw[aF DC.symm];exact Z9
 .show upd H D (.lst []) c=none
  rw[aF (aaV (by have:=zY (aaq x c (sub e));lia))];exact I.lC x c (sub e)
 .cases hp
 .exact⟨Nat.zero_le _,[],0,.nil,hl⟩
 .show (own.map (λ_=>none)++caps.map _).length=N.length
  rw[aaS,aad,aad,S.len]
theorem Inv.Qj{Lb:List (Addr×Obj)}{σ':St}{H':Hp}{s':Shared}{h':Heap}(I:Inv X pins σ H s)(hfp:∀b∈fp,pI X pins H b)(hC:s.heap.objs.size<=C)(J:Inv (fG X scope C N s H fp) Lb σ' H' s')(hs:Heap.SameBut C s'.heap h'):
 Inv X pins σ H' {s' with heap:=h'}:=by
 have nC:∀b o,s.heap.get? b=some o->b≠C:=λb o e=>aaV (by have:=zY (aal e);lia);have u:=J.base;have frC:H' C=none:=J.free;refine I.call' (ch:=fp) (s':={s' with heap:=h'}) J.os ⟨λb o e n hb hx=>?_,λb o e n hb hx=>?_,u.free,λb o e hx=>?_,u.tups,u.uw,u.v9⟩ (λa o e=>(J.hok a o e).stay (λb v hb q=>?_) (λ_ q=>q) λ_ _ q=>q) J.bare λb hb=>?_
 .exact(hs.2 b (nC b o e)).trans (u.keep b o e n hb hx)
 .obtain⟨sl,q⟩:=u.slot b o e n hb hx
  exact⟨sl,(hs.2 b (nC b o e)).trans q⟩
 .obtain⟨o',q⟩:=u.there b o e hx
  exact⟨o',(hs.2 b (nC b o e)).trans q⟩
 .refine(hs.2 b ?_).trans q
  intro z;subst z;rcases hb with z|z
  .subst z;rw[frC] at e;cases e
  .rw[frC] at z;cases z
 .exact⟨(hfp b hb).2.2.2.1,(hfp b hb).2.1,(hfp b hb).2.2.2.2.1,(hfp b hb).2.2.2.2.2⟩
end
section
variable{prog:Program}{w:World}{A:Around}{R:Result->Shared->Prop}{s:Shared}
theorem Df{elt target iter:Expr}{ifs:List Expr}{scope:Scope}{pos:Pos}{it acc:Value}{env:Env}(I:Nat->Shared->Prop)(turn:∀n s,I n s->wpAny (model prog w) A (pyNext it) (λr s1=>match r with
   | none=>R (.ok .next) s1
   | some v=>wpAny (model prog w) A (letOwnedTupleGo target it v) (λ_ s1'=>wpAny (model prog w) A (assign target env v) (λ_ s2=>
      wpAny (model prog w) A (forIn ifs true λc r=>if r=true then do let ok ←isTrue c env (eval c env);pure (ForInStep.yield ok) else pure (ForInStep.yield r)) (λok s3=>
       if ok=true then wpAny (model prog w) A (eval elt env) (λx s4=>
        wpAny (model prog w) A (call (.builtin "list.append") [acc,x]) (λ_ s5=>∃m,m<n/\I m s5) (λ_ _=>False) s4) (λ_ _=>False) s3
       else ∃m,m<n/\I m s3) (λ_ _=>False) s2) (λ_ _=>False) s1') (λ_ _=>False) s1) (λ_ _=>False) s)(n:Nat)(h:I n s):
 codeAny (model prog w) A (.compLoop (.ListComp elt [⟨target,iter,ifs,0⟩] scope pos) 0 it acc env) R s:=by
 refine codeAny_loop rfl I (λn s hI=>?_) n h;show wpAny _ A ((compTurn (.ListComp elt [⟨target,iter,ifs,0⟩] scope pos) 0 it acc env).onRaise (λx=>do noteFrame x env;theTreesLotGoes x)) _ _ s;refine wpAny_noted ?_;rw[compTurn_list];refine aay (wpAny_standAt (aay (wpAny_mono (turn n s hI) (λr s1 h1=>?_) λ_ _ h'=>h'.elim)));cases r with
 | none=>exact aaB h1
 | some v=>
   refine aay (wpAny_mono h1 (λ_ s1' h1'=>?_) λ_ _ h'=>h'.elim);refine aay (wpAny_mono h1' (λ_ s2 h2=>aay (wpAny_mono h2 (λok s3 h3=>?_) λ_ _ h'=>h'.elim)) λ_ _ h'=>h'.elim);cases ok with
   | false=>exact aaB ⟨Z,h3⟩
   | true=>
     exact aay (aay (wpAny_mono h3 (λx s4 h4=>aay (wpAny_mono h4 (λ_ s5 h5=>aaB (aaB ⟨Z,h5⟩)) λ_ _ h'=>h'.elim)) λ_ _ h'=>h'.elim))
end
noncomputable def PTs(X:Cx)(ifs:List Expr)(t:TT):Prop:=
 ∀(pins:List (Addr×Obj))(s:Shared)(σ:St)(H:Hp)(Q:Bool->Hp->Prop),Inv X pins σ H s->t σ H Q ->
  wpAny (model X.prog X.w) X.A (forIn ifs true λc r=>if r=true then do let ok ←isTrue c X.env (eval c X.env);pure (ForInStep.yield ok) else pure (ForInStep.yield r)) (TP X pins σ Q) X.xe s
noncomputable def Bk:TT:=λ_ H Q=>Q true H
theorem d_{X:Cx}:PTs X [] Bk:=λ_ _ _ H _ I h=>wpAny_tests_nil ⟨H,I,h⟩
theorem qX{X:Cx}{c:Expr}{t:TT}(h:PT X c t):PTs X [c] t:=λpins s σ H Q I q=>wpAny_tests_one (h pins s σ H Q I q)
noncomputable def lH(J:It)(g:TG)(tc:TT)(te:TE)(Q:VK)(D:Addr)(σ0:St)(H1:Hp):Prop:=
 ∃W:Nat->Nat->St->Hp->Prop,(∃m,W 0 m σ0 (upd H1 D (.lst []))) /\ ∀i m σ H,W i m σ H ->
  (J.stop i H/\Q (.ref D) H)\/(J.go i H /\ ∃N:St->Hp->Prop,(∀σ' H',N σ' H' -> ∃m',m'<m/\W (i+1) m' σ' H') /\ ∀x H',J.UL i H x H'->g x σ H' λσ2 H2=>tc σ2 H2 λb H3=>
    if b=true then te σ2 H3 λy H4=>∃acc,H4 D=some (.lst acc)/\acc.length<sizeLine/\N σ2 (upd H4 D (.lst (acc++[y]))) else N σ2 H3)
noncomputable def Qx(own:List Str)(caps:List Nat)(wi:TI)(g:TG)(tc:TT)(te:TE):TE:=λσ H Q=>wi σ H λJ H1=>∀D,H1 D=none->lH J g tc te Q D (st0 own caps σ) H1
section
variable{X:Cx}{elt tg iter:Expr}{ifs:List Expr}{scope:Scope}{pos:Pos}{N own:List Str}{caps:List Nat}{wi:TI}{g:TG}{tc:TT}{te:TE}
theorem GX{use:Option (Value->Sem Unit)}{Qv:Value->Shared->Prop}{pins:List (Addr×Obj)}{σ:St}{H:Hp}{s:Shared}{Q:VK}(hc:X.calm=true)(S:bA N own caps X.N X.env.scope scope)(hg:∀C s H fp,PG (fG X scope C N s H fp) tg g)(hcs:∀C s H fp,PTs (fG X scope C N s H fp) ifs tc)(he:∀C s H fp,PE (fG X scope C N s H fp) elt te)(hi:PI X tg iter wi)(hs:∀x,foldedSetIterable iter X.env x=pure x)(I:Inv X pins σ H s)(h:Qx own caps wi g tc te σ H Q)(fin:∀(D C:Addr)(H':Hp)(s':Shared),(∃m,s'.heap.Ns C m)->Inv X pins σ H' s'->(∀h',Heap.SameBut C s'.heap h'->Inv X pins σ H' {s' with heap:=h'})->pI X pins H' C->Q (.ref D) H' ->
   compPost (model X.prog X.w) X.A X.xe use Qv (.ref D) C (.ok .next) s'):
 wpAny (model X.prog X.w) X.A (comprehension (.ListComp elt [⟨tg,iter,ifs,0⟩] scope pos) scope X.env (firstIterPos [⟨tg,iter,ifs,0⟩] pos) (newList []) false (eval iter X.env) use) Qv X.xe s:=by
 refine wpAny_comprehension_free (use:=use) rfl hs (Jz (S.T6 I.ok)) S.kind S.names (cY (hi pins s σ H _ I h) λxv s1 h1=>cY h1 λitv s2 h2=>?_);obtain⟨it,fp,tn,J,H2,e,I2,T,st2,f2,q2⟩:=h2;subst e;refine wpAny_newList ?_;refine wpAny_newFunctionEnv S.R0 (by intro y hy;simp at hy) (λh1 acF hsb1=>?_) S.kind;dsimp only at acF hsb1 ⊢;have hD:H2 s2.heap.objs.size=none:=I2.hok.fresh (aap _);have hsz:(s2.heap.push {cls:= .type "list",data:= .seq ([]:List Value).toArray}).objs.size=s2.heap.objs.size+1:=Heap.size_push ..
 have old:∀b o,s2.heap.get? b=some o->h1.get? b=some o:=λb o e=>by
  refine hsb1.extBut b o (aaV (by have:=zY (aal e);rw[hsz];lia)) (aai _ (aai _ e))
 have hl:h1.get? s2.heap.objs.size=some {cls:= .type "list",data:= .seq #[]}:=
  hsb1.extBut _ _ (aaV (by rw[hsz];lia)) (aai _ (aaj _ rfl))
 have hfo:∀b∈fp,∃o,s2.heap.get? b=some o:=λb hb=>let ⟨o,e,_⟩:=T.obj _ _ st2 b hb;⟨o,e⟩
 have I4:=Inv.comp (C:=(s2.heap.push {cls:= .type "list",data:= .seq ([]:List Value).toArray}).objs.size) (t:=s2.toks+([]:List (Str×Value)).length) I2 S f2 hfo rfl hsz old acF hl;obtain⟨W,⟨m0,w0⟩,turn⟩:=q2 _ hD;generalize hCe:(s2.heap.push {cls:= .type "list",data:= .seq ([]:List Value).toArray}).objs.size=C at *;generalize hDe:s2.heap.objs.size=D at *;have hDC:D≠C:=by lia
 have loop:∀s3:Shared,s3={s2 with heap:=h1,toks:=s2.toks+([]:List (Str×Value)).length} ->
  codeAny (model X.prog X.w) X.A (.compLoop (.ListComp elt [⟨tg,iter,ifs,0⟩] scope pos) 0 (.ref it) (.ref D) (fG X scope C N s2 H2 fp).env) (compPost (model X.prog X.w) X.A X.xe use Qv (.ref D) C) s3:=by
  rintro s3 rfl
  have mJ:∀b∈fp,(upd H2 D (.lst [])) b=none:=λb hb=>by
   obtain⟨o,e⟩:=hfo b hb;rw[aF (aaV (by have:=zY (aal e);lia))];exact(f2 b hb).1
  have stat:∀{H':Hp},(∀b∈fp,H' b=none) -> ∀b∈fp,pI (fG X scope C N s2 H2 fp) [] H' b:=λhn b hb=>by
   obtain⟨o,e⟩:=hfo b hb;have hlt:=zY (aal e);refine⟨hn b hb, ?_,λz=>?_,.inl hb,λx c e'=>(f2 b hb).2.2.2.2.1 x c (S.csub I2.ok e'),λp hp=>(by cases hp)⟩
   .exact aaV (show @LT.lt Nat _ b C by lia)
   .rcases List.mem_cons.mp (I2.wz b z) with q|q
    .exact(f2 b hb).2.1 q
    .exact(f2 b hb).2.2.1 q
  refine Df (λn s'=>∃i σ' H',Inv (fG X scope C N s2 H2 fp) [] σ' H' s'/\tn i s'.heap/\(∀b∈fp,H' b=none)/\W i n σ' H') ?_ m0
   ⟨0,_,_,I4,T.keep _ _ _ st2 λb _ o e=>old b o e,mJ,w0⟩
  rintro n s3 ⟨i,σ3,H3,I3,st3,fr3,w3⟩;rcases turn i n σ3 H3 w3 with ⟨stop,qn⟩|⟨go,Nx,hNx,step⟩
  .refine cY (T.done (fG X scope C N s2 H2 fp) rfl rfl rfl hc i [] s3 σ3 H3 _ I3 (stat fr3) st3 stop) λr s4 ⟨hr,J4⟩=>?_
   subst hr;obtain⟨m4,hn4,_⟩:=J4.loc;exact fin D C H3 s4 ⟨m4,hn4⟩ (I2.Qj f2 (by lia) J4 (Heap.SameBut.refl _ _)) (λh' hs'=>I2.Qj f2 (by lia) J4 hs') (I2.vo (show s2.heap.objs.size<=C by lia) J4.free) qn
  .refine cY (T.item (fG X scope C N s2 H2 fp) rfl rfl rfl hc i [] s3 σ3 H3 _ I3 (stat fr3) st3 go) λr s4 ⟨u,hr,h4⟩=>?_
   subst hr;refine cY h4 λ_ s5 gW=>?_;obtain⟨x,H5,I5,r5,y5,Vh,fr5⟩:=gW;have I5':=I5.pinned (stat fr5) (T.obj _ _ Vh);refine cY (hg C s2 H2 fp _ s5 σ3 H5 x u _ I5' r5 (step x H5 y5)) λ_ s6 gW=>?_;obtain⟨σ6,H6,I6,q6⟩:=gW;refine cY (hcs C s2 H2 fp _ s6 σ6 H6 _ I6 q6) λok s7 ⟨H7,I7,q7⟩=>?_
   have again:∀{σ8:St}{H8:Hp}{s8:Shared},Inv (fG X scope C N s2 H2 fp) ([]++xO fp s5.heap) σ8 H8 s8->Nx σ8 H8 -> ∃m,m<n /\ ∃i σ' H',Inv (fG X scope C N s2 H2 fp) [] σ' H' s8/\tn i s8.heap/\(∀b∈fp,H' b=none)/\W i m σ' H':=fun {σ8 H8 s8} I8 n8=>by
    obtain⟨m',hm,w8⟩:=hNx _ _ n8;refine⟨m',hm,i+1,σ8,H8,I8.qK,T.keep _ _ _ Vh λb hb o e=>(I8.pin (b,o) (List.mem_append_right _ (List.mem_append_right _ (mF hb e)))).1,λb hb=>?_,w8⟩;obtain⟨o,e,d⟩:=T.obj _ _ Vh b hb;exact(I8.pin (b,o) (List.mem_append_right _ (List.mem_append_right _ (mF hb e)))).2.1
   cases ok with
   | false=>
     rw[abN (by decide)] at q7;exact again I7 q7
   | true=>
     rw[abW rfl] at q7;refine cY (he C s2 H2 fp _ s7 σ6 H7 _ I7 q7) λy s8 gW=>?_;obtain⟨yv,H8,I8,r8,acc,ha,hlen,q8⟩:=gW;exact cY (Aa _ s8 σ6 H8 (.ref D) [yv] (.ref D) [y] (λv H9=>Nx σ6 H9) I8 rfl (.cons r8 .nil) ⟨D,acc,yv,Z,Z,ha,hlen,q8⟩) λ_ s9 ⟨_,H9,I9,_,q9⟩=>again I9 q9
 exact codeAny_compStart_list (loop _ rfl) (T.self _ 0 _ _ _ (T.keep _ _ _ st2 λb _ o e=>old b o e) (loop _ rfl))
theorem fH(hc:X.calm=true)(S:bA N own caps X.N X.env.scope scope)(hi:PI X tg iter wi)(hg:∀C s H fp,PG (fG X scope C N s H fp) tg g)(hcs:∀C s H fp,PTs (fG X scope C N s H fp) ifs tc)(he:∀C s H fp,PE (fG X scope C N s H fp) elt te)(hs:∀x,foldedSetIterable iter X.env x=pure x:=by intro _;rfl):PE X (.ListComp elt [⟨tg,iter,ifs,0⟩] scope pos) (Qx own caps wi g tc te):=by
 intro pins s σ H Q I h;rw[eval_ListComp];refine GX (use:=none) hc S hg hcs he hi hs I h ?_;intro D C H' s' hn I' hk _ q;obtain⟨m,hn⟩:=hn;exact⟨m,hn,λh' hs'=>⟨.ref D,H',hk h' hs',Z,q⟩⟩
theorem mz{i:Nat}{x:Str}{px sp:Pos}(hc:X.calm=true)(hN:X.N.Nodup)(hx:X.N[i]? = some x)(hl:Loc X.env.scope x)(S:bA N own caps X.N X.env.scope scope)(hi:PI X tg iter wi)(hg:∀C s H fp,PG (fG X scope C N s H fp) tg g)(hcs:∀C s H fp,PTs (fG X scope C N s H fp) ifs tc)(he:∀C s H fp,PE (fG X scope C N s H fp) elt te)(hsw:swapsWith (.ListComp elt [⟨tg,iter,ifs,0⟩] scope pos) (some (.Name x px)) sp.line X.env=pure true:=by rfl)(hs:∀x,foldedSetIterable iter X.env x=pure x:=by intro _;rfl)(hf:X.fn x=true\/X.env.scope.names.lookup x=some .local:=by first |exact .inl rfl|exact .inr rfl|assumption):
 PS X (.Assign [.Name x px] (.ListComp elt [⟨tg,iter,ifs,0⟩] scope pos) sp) (Vd (Qx own caps wi g tc te) (gR i)):=by
 intro pins s σ H D I h;rw[exec_Assign_Name_used _ _ _ _ hsw];refine aay (wpAny_standAt (aay ?_));show wpAny _ X.A (do let _ ←comprehension (.ListComp elt [⟨tg,iter,ifs,0⟩] scope pos) scope X.env (firstIterPos [⟨tg,iter,ifs,0⟩] pos) (newList []) false (eval iter X.env) (some (assign (.Name x px) X.env))) _ _ s;refine aay (wpAny_mono (GX (use:=some (assign (.Name x px) X.env)) (Qv:=λ_ s'=>SP X pins D .next s') hc S hg hcs he hi hs I h ?_) (λ_ s' hq=>aaB (aaB hq)) λ_ _ e=>e);intro E C H' s' hn I' hk fC q;obtain⟨m,hn⟩:=hn;obtain⟨f0,f1,f2,f3,f4,f5⟩:=fC;show wpAny _ X.A (assign (.Name x px) X.env (.ref E)) _ _ _;refine wpAny_assign_Name (zT I' hN hx hl (v:= .ref E) rfl (λs2 I2 k=>?_) hf);refine⟨m, ?_,λh' hs'=>?_⟩
 .obtain⟨o,es,ep,ho,r⟩:=hn
  obtain⟨a,ks,ka⟩:=k
  have hCa:C≠a:=λz=>by
   rcases ka with q'|q'
   .exact f1 (z.trans q')
   .exact f4 x a q' z.symm
  exact⟨o,es,ep,(ks.2 C hCa).trans ho,r⟩
 .exact⟨_,H',I2.turned (t':=s2.toks) (λb o hb e=>(hs'.2 b hb).trans e) f0 f1 f3 f4 f5,q⟩
end
noncomputable def T9(N own:List Str)(caps:List Nat)(XN:List Str)(outer scope:Scope):Bool:=
 decide (scope.kind = .function)&&scope.names.all (λy=>decide (y.2 ≠ .cell))&&scope.names.all (λy=>decide (y.2 ≠ .local)||decide (scope.names.lookup y.1=some .local)) &&
 scope.names.all (λy=>decide (y.2 ≠ .free)||decide (outer.names.lookup y.1=some .cell)||decide (outer.names.lookup y.1=some .free))&&decide N.Nodup&&decide (N.length=own.length+caps.length) &&
 (List.range caps.length).all (λj=>match N[own.length+j]? with |some x=>decide (XN[caps.getD j 0]? = some x)&&decide ((x,NameKind.free)∈scope.names)&&decide (scope.names.lookup x=some .free)|none=>false)
theorem bA.of{N own:List Str}{caps:List Nat}{XN:List Str}{outer scope:Scope}(h:T9 N own caps XN outer scope=true):bA N own caps XN outer scope:=by
 unfold T9 at h;simp only[aaZ,decide_eq_true_eq,List.all_eq_true,Bool.or_eq_true] at h;obtain⟨⟨⟨⟨⟨⟨h1,h2⟩,h3⟩,h4⟩,h5⟩,h6⟩,h7⟩:=h;refine⟨h1,h2,λy hy e=>?_,λy hy e=>?_,h5,h6,λj hj=>?_⟩
 .rcases h3 y hy with z|z
  .exact abZ e z
  .exact z
 .rcases h4 y hy with (z|z)|z
  .exact abZ e z
  .exact .inl z
  .exact .inr z
 .have q:=h7 j (aa9.mpr hj)
  cases e:N[own.length+j]? with
  | none=>rw[e] at q;cases q
  | some x=>
    rw[e] at q;simp only[aaZ,decide_eq_true_eq] at q;exact⟨q.1.1.symm,x,Z,q.1.2,q.2⟩
mutual
noncomputable def Dat(H:Hp):V->PyData->Prop
 | v,.none=>v = .non
 | v,.bool b=>v = .bl b
 | v,.int i=>v = .int i
 | v,.str x=>v = .str x
 | v,.list ds=>∃a vs,v = .ref a/\H a=some (.lst vs)/\aO H vs ds
 | v,.tuple ds=>∃a vs,v = .ref a/\H a=some (.tup vs)/\aO H vs ds
 | _,.dict _=>False
noncomputable def aO(H:Hp):List V->List PyData->Prop
 | [],[]=>True
 | v::vs,d::ds=>Dat H v d/\aO H vs ds
 | [],_::_=>False
 | _::_,[]=>False
end
section
variable{H H':Hp}
theorem aO.length:∀{vs:List V}{ds:List PyData},aO H vs ds->vs.length=ds.length
 | [],[],_=>rfl
 | _::_,_::_,h=>by simp only[aO] at h;simp[aO.length h.2]
 | [],_::_,h=>by simp only[aO] at h
 | _::_,[],h=>by simp only[aO] at h
theorem aO.get:∀{vs:List V}{ds:List PyData}{i:Nat}{v:V},aO H vs ds->vs[i]? = some v -> ∃d,ds[i]? = some d/\Dat H v d
 | _::_,_::_,0,_,h,e=>by simp only[aO] at h;simp at e;subst e;exact⟨_,Z,h.1⟩
 | _::_,_::_,i+1,_,h,e=>by simp only[aO] at h;simp at e;obtain⟨d,q,r⟩:=aO.get h.2 e;exact⟨d,by simpa using q,r⟩
 | [],[],_,_,_,e=>by simp at e
 | [],_::_,_,_,h,_=>by simp only[aO] at h
 | _::_,[],_,_,h,_=>by simp only[aO] at h
theorem aO.getD:∀{vs:List V}{ds:List PyData}{i:Nat}{d:PyData},aO H vs ds->ds[i]? = some d -> ∃v,vs[i]? = some v/\Dat H v d
 | _::_,_::_,0,_,h,e=>by simp only[aO] at h;simp at e;subst e;exact⟨_,Z,h.1⟩
 | _::_,_::_,i+1,_,h,e=>by simp only[aO] at h;simp at e;obtain⟨d,q,r⟩:=aO.getD h.2 e;exact⟨d,by simpa using q,r⟩
 | [],[],_,_,_,e=>by simp at e
 | [],_::_,_,_,h,_=>by simp only[aO] at h
 | _::_,[],_,_,h,_=>by simp only[aO] at h
theorem aO.append:∀{vs ws:List V}{ds es:List PyData},aO H vs ds->aO H ws es->aO H (vs++ws) (ds++es)
 | [],_,[],_,_,g=>g
 | _::_,_,_::_,_,h,g=>by simp only[aO,List.cons_append] at h ⊢;exact⟨h.1,aO.append h.2 g⟩
 | [],_,_::_,_,h,_=>by simp only[aO] at h
 | _::_,_,[],_,h,_=>by simp only[aO] at h
theorem aO.ints(ns:List Int):aO H (ns.map V.int) (ns.map PyData.int):=by
 induction ns with
 | nil=>simp only[List.map_nil,aO]
 | cons n r ih=>simp only[List.map_cons,aO,Dat];exact⟨trivial,ih⟩
mutual
theorem Dat.mono(hl:∀a xs,H a=some (HO.lst xs)->H' a=some (HO.lst xs))(ht:∀a xs,H a=some (HO.tup xs)->H' a=some (HO.tup xs)):∀(d:PyData){v:V},Dat H v d->Dat H' v d
 | .none,_,h=>by simp only[Dat] at h ⊢;exact h
 | .bool _,_,h=>by simp only[Dat] at h ⊢;exact h
 | .int _,_,h=>by simp only[Dat] at h ⊢;exact h
 | .str _,_,h=>by simp only[Dat] at h ⊢;exact h
 | .list ds,_,h=>by simp only[Dat] at h ⊢;obtain⟨a,vs,e,q,r⟩:=h;exact⟨a,vs,e,hl _ _ q,aO.mono hl ht ds r⟩
 | .tuple ds,_,h=>by simp only[Dat] at h ⊢;obtain⟨a,vs,e,q,r⟩:=h;exact⟨a,vs,e,ht _ _ q,aO.mono hl ht ds r⟩
 | .dict _,_,h=>by simp only[Dat] at h
theorem aO.mono(hl:∀a xs,H a=some (HO.lst xs)->H' a=some (HO.lst xs))(ht:∀a xs,H a=some (HO.tup xs)->H' a=some (HO.tup xs)):∀(ds:List PyData){vs:List V},aO H vs ds->aO H' vs ds
 | [],[],_=>by simp only[aO]
 | d::ds,v::vs,h=>by simp only[aO] at h ⊢;exact⟨Dat.mono hl ht d h.1,aO.mono hl ht ds h.2⟩
 | _::_,[],h=>by simp only[aO] at h
 | [],_::_,h=>by simp only[aO] at h
end
mutual
noncomputable def zq:PyData->Bool
 | .tuple ds=>oh ds
 | .list _ | .dict _=>false
 | .none | .bool _ | .int _ | .str _=>true
noncomputable def oh:List PyData->Bool
 | []=>true
 | d::ds=>zq d&&oh ds
end
mutual
theorem Dat.keep(ht:∀a xs,H a=some (HO.tup xs)->H' a=some (HO.tup xs)):∀(d:PyData){v:V},zq d=true->Dat H v d->Dat H' v d
 | .none,_,_,h=>by simp only[Dat] at h ⊢;exact h
 | .bool _,_,_,h=>by simp only[Dat] at h ⊢;exact h
 | .int _,_,_,h=>by simp only[Dat] at h ⊢;exact h
 | .str _,_,_,h=>by simp only[Dat] at h ⊢;exact h
 | .list ds,_,i,h=>by simp only[zq] at i;cases i
 | .tuple ds,_,i,h=>by simp only[Dat] at h ⊢;simp only[zq] at i;obtain⟨a,vs,e,q,r⟩:=h;exact⟨a,vs,e,ht _ _ q,aO.keep ht ds i r⟩
 | .dict _,_,_,h=>by simp only[Dat] at h
theorem aO.keep(ht:∀a xs,H a=some (HO.tup xs)->H' a=some (HO.tup xs)):∀(ds:List PyData){vs:List V},oh ds=true->aO H vs ds->aO H' vs ds
 | [],[],_,_=>by simp only[aO]
 | d::ds,v::vs,i,h=>by simp only[aO] at h ⊢;simp only[oh,aaZ] at i;exact⟨Dat.keep ht d i.1 h.1,aO.keep ht ds i.2 h.2⟩
 | _::_,[],_,h=>by simp only[aO] at h
 | [],_::_,_,h=>by simp only[aO] at h
end
theorem cu{α:Type}(f:α->PyData)(h:∀x,zq (f x)=true):∀l:List α,oh (l.map f)=true
 | []=>rfl
 | a::l=>by simp only[List.map_cons,oh,h a,cu f h l,Bool.and_self]
end
section
variable{X:Cx}{pins:List (Addr×Obj)}{σ:St}{H:Hp}{s:Shared}
mutual
theorem Inv.reads(I:Inv X pins σ H s):∀(d:PyData){v:V}{u:Value},Dat H v d->RelV v u -> ∃as,Reads s.heap u d as
 | .none,v,u,h,r=>by
   simp only[Dat] at h;subst h;cases (show u=Value.none from r);exact⟨_,.none⟩
 | .bool b,v,u,h,r=>by
   simp only[Dat] at h;subst h;cases (show u=Value.bool b from r);exact⟨_,.bool b⟩
 | .int i,v,u,h,r=>by
   simp only[Dat] at h;subst h;obtain⟨t,q⟩:=(show ∃t,u=Value.int i t from r);cases q;exact⟨_,.int i t⟩
 | .str x,v,u,h,r=>by
   simp only[Dat] at h;subst h;obtain⟨t,q⟩:=(show ∃t,u=Value.str x t from r);cases q;exact⟨_,.str x t⟩
 | .list ds,v,u,h,r=>by
   simp only[Dat] at h;obtain⟨a,vs,rfl,q,g⟩:=h;cases (show u=Value.ref a from r);obtain⟨its,rv,p,hz⟩:=I.list (bB.of q);obtain⟨o,ho,hc,n,hd⟩:=p.isList;obtain⟨as,ra⟩:=Inv.readsAll I ds g rv;exact⟨_,.list ho hc hd (by simpa using ra)⟩
 | .tuple ds,v,u,h,r=>by
   simp only[Dat] at h;obtain⟨a,vs,rfl,q,g⟩:=h;cases (show u=Value.ref a from r);obtain⟨its,rv,p,hz⟩:=I.tuple (bO.of q);obtain⟨o,ho,hc,n,hd⟩:=p;obtain⟨as,ra⟩:=Inv.readsAll I ds g rv;exact⟨_,.tuple ho hc hd (by simpa using ra)⟩
 | .dict _,_,_,h,_=>by simp only[Dat] at h
theorem Inv.readsAll(I:Inv X pins σ H s):∀(ds:List PyData){vs:List V}{us:List Value},aO H vs ds->Vals vs us -> ∃as,ReadsAll s.heap us ds as
 | [],[],_,_,.nil=>⟨_,.nil⟩
 | d::ds,v::vs,_,h,.cons r rs=>by
   simp only[aO] at h;obtain⟨as,ra⟩:=Inv.reads I d h.1 r;obtain⟨bs,rb⟩:=Inv.readsAll I ds h.2 rs;exact⟨_,.cons ra rb⟩
 | _::_,[],_,h,_=>by simp only[aO] at h
 | [],_::_,_,h,_=>by simp only[aO] at h
end
noncomputable def Vn(neg:Bool):R2:=λx y H Q=>∃d e,Dat H x d/\Dat H y e/\SeqAt.shaped d=true/\SeqAt.shaped e=true/\Q (.bl (if neg then !PyData.eqv d e else PyData.eqv d e)) H
theorem Zn(hu:X.A.units+64<cLine):pR X (compareOp .Eq) (Vn false):=by
 intro pins s σ H x y v u Q I rx ry h;obtain⟨d,e,h1,h2,s1,s2,q⟩:=h;obtain⟨as,ra⟩:=I.reads d h1 rx;obtain⟨bs,rb⟩:=I.reads e h2 ry;exact SeqAt.compareEq_shaped ra rb s1 s2 hu ⟨.bl _,H,I,Z,q⟩
theorem Zm(hu:X.A.units+64<cLine):pR X (compareOp .NotEq) (Vn true):=by
 intro pins s σ H x y v u Q I rx ry h;obtain⟨d,e,h1,h2,s1,s2,q⟩:=h;obtain⟨as,ra⟩:=I.reads d h1 rx;obtain⟨bs,rb⟩:=I.reads e h2 ry;exact SeqAt.compareNe_shaped ra rb s1 s2 hu ⟨.bl _,H,I,Z,q⟩
theorem Ue{c:Value}{cv:V}(rc:RelV cv c):jr X (.builtin "isinstance") (λxs H Q=>∃x t b,xs=[x,cv]/\rK X.K H x t/\PySem.W.kitOne X.K t c=some b/\Q (.bl b) H):=by
 intro pins s σ H xs us Q I r h;obtain⟨x,t,b,rfl,ty,e,q⟩:=h;obtain⟨u,w',rfl,r1,r2⟩:=vals2 r
 have:w'=c:=by
  cases cv with
  | non=>exact(show w'=Value.none from r2).trans (show c=Value.none from rc).symm
  | bl b=>exact(show w'=Value.bool b from r2).trans (show c=Value.bool b from rc).symm
  | ref a=>exact(show w'=Value.ref a from r2).trans (show c=Value.ref a from rc).symm
  | ty n=>exact(show w'=Value.type n from r2).trans (show c=Value.type n from rc).symm
  | int i=>obtain⟨t1,rfl⟩:=(show ∃t,c=Value.int i t from rc);unfold PySem.W.kitOne at e;exact abZ e (by cases ty<;>simp[PySem.W.kitCls])
  | str i=>obtain⟨t1,rfl⟩:=(show ∃t,c=Value.str i t from rc);unfold PySem.W.kitOne at e;exact abZ e (by cases ty<;>simp[PySem.W.kitCls])
  | JK i=>obtain⟨t1,rfl⟩:=(show ∃t,c=Value.bytes i t from rc);unfold PySem.W.kitOne at e;exact abZ e (by cases ty<;>simp[PySem.W.kitCls])
  | flt i=>obtain⟨t1,rfl⟩:=(show ∃t,c=Value.float i t from rc);unfold PySem.W.kitOne at e;exact abZ e (by cases ty<;>simp[PySem.W.kitCls])
 subst this;exact Oz I r1 ty e λtk=>⟨.bl b,H,I.tok _,Z,q⟩
end
section
variable{prog:Program}{w:World}{A:Around}
theorem v7(hh:A.handled=none)(it a:Addr)(hne:it≠a)(its:List Value):Walks prog w A it [it,a] [it] its.length (λi v=>its[i]? = some v) (λi h=>h.IsListIter it a i/\h.IsList a its.toArray) where
 sub:=by simp
 frame:=λi h h' ⟨s1,o,ho,hc⟩ k=>⟨s1.at λo e=>k it (by simp) o e,o,k a (by simp) o ho,hc⟩
 item:=λi s Q E hi ⟨s1,s2⟩ hQ=>wpAny_pyNext_list_item s1 s2 (x:=its[i]) (by simp[hi]) λh' st' sb=>
  hQ _ h' s.toks (by simp[hi]) ⟨st',s2.extBut sb.extBut hne.symm⟩ λb o hb e=>(sb.2 b (by simpa using hb)).trans e
 done:=λs Q E ⟨s1,s2⟩ hQ=>wpAny_pyNext_list_end hh s1 s2 (by simp) λh' eb=>hQ h' s.toks λb o hb e=>eb b o (by simpa using hb) e
 self:=λi s Q E ⟨s1,_⟩ hQ=>wpAny_pyIter_listiter s1 hQ
end
section
variable{X:Cx}
theorem zA(bs:List Bool):(List.range bs.length).all (λi=>(bs[i]?).getD false)=bs.all id:=by
 rw[Bool.eq_iff_iff,List.all_eq_true,List.all_eq_true];constructor
 .intro h b hb
  obtain⟨i,hi,rfl⟩:=List.getElem_of_mem hb;have:=h i (by simpa using hi);simpa [hi] using this
 .intro h i hi
  have hi':i<bs.length:=by simpa using hi
  simpa [hi'] using h bs[i] (List.getElem_mem hi')
theorem Hv{bs:List Bool}:∀{us:List Value},Vals (bs.map V.bl) us->us=bs.map Value.bool:=by
 induction bs with
 | nil=>intro us r;cases r;rfl
 | cons b bs ih=>
   intro us r;cases r with
   | cons r rs=>cases (show _=Value.bool b from r);rw[ih rs];rfl
theorem yI(hc:X.calm=true):jr X (.builtin "all") (λxs H Q=>∃(p:Addr) (bs:List Bool),xs=[.ref p]/\bB X.K H p (bs.map V.bl)/\Q (.bl (bs.all id)) H):=by
 intro pins s σ H xs us Q I r h;obtain⟨p,bs,rfl,hq,q⟩:=h;obtain⟨u,rfl,rx⟩:=vals1 r;cases rx;obtain⟨its,rv,pl,hz⟩:=I.list hq;have e:=Hv rv;have hlen:its.length=bs.length:=by rw[e,aad]
 refine call_all_walk (wpAny_pyIter_list pl.isList ⟨s.heap.objs.size,[s.heap.objs.size,p],[s.heap.objs.size],its.length,_,_,λi=>(bs[i]?).getD false,Z,
  v7 (show X.A.in1.handled=none from I.ok.hd hc) s.heap.objs.size p ?_ its,⟨⟨_,aaj _ rfl,Z,Z⟩, ?_⟩, ?_, ?_⟩)
 .intro z
  obtain⟨o,ho,_⟩:=pl.isList;have:=aal ho;rw[←z] at this;exact abF _ this
 .obtain⟨o,ho,hcl⟩:=pl.isList
  exact⟨o,aai _ ho,hcl⟩
 .intro i v s1 Q1 E1 hP hQ
  rw[e,aag] at hP;cases r:bs[i]? with
  | none=>rw[r] at hP;cases hP
  | some b=>
    rw[r] at hP;cases hP;simp only[r,Option.getD_some] at hQ;exact wpAny_truthy_bool hQ
 .intro h' tk k
  rw[hlen,zA];have f:=I.vo (H':=H) (b:=s.heap.objs.size) (aap _) (I.hok.fresh (aap _));have I2:Inv X pins σ H {s with heap:=h',toks:=tk}:=I.turned (h':=h') (t':=tk) (it:=s.heap.objs.size) (λb o hb e=>k b o (by simpa using hb) (aai _ e)) f.1 f.2.1 f.2.2.2.1 f.2.2.2.2.1 f.2.2.2.2.2;exact⟨.bl _,H,I2,Z,q⟩
end
noncomputable def FnAt(P:Program)(w:World)(K:PySem.W.Frag)(mg:Str->Option Value)(base:Heap)(k:Nat)(x:Str)(ps:List Str)(sp:Sp):Prop:=
 ∃f fd,bL P w K mg base iC k f fd ps sp/\mg x=some (.ref f)/\PySem.W.keepIn K (.ref f)=true/\Binds K fd ps []
section
variable{X:Cx}{k j:Nat}{x:Str}{ps:List Str}{sp:Sp}{e:Expr}{es:List Expr}{t:TA}{p pos:Pos}
theorem bh(F:FnAt X.prog X.w X.K X.mg X.base k x ps sp)(hr:eU k X.A)(hg:Gl X x)(ha:PA X (e::es) t)(hd:(x==("__debug__" :Str))=false:=by decide)(he:starEach (e::es) X.env=(false,eval e X.env)::starEach es X.env:=by rfl)(hpl:(backTo pos (starEach es X.env)).any (·.1)=false:=by rfl):
 PE X (.Call (.Name x p) (e::es) [] pos) (Xv sp [] E0 t):=by
 obtain⟨f,fd,G,hm,hk,hb⟩:=F;exact Vx G hr hg hm hk hb .nil Lg ha (hdb:=hd) (he:=he) (hpl:=hpl)
end
theorem JN:bootBuiltins "all" = some (.builtin "all"):=by kernel_rfl
theorem fP:bootBuiltins "len" = some (.builtin "len"):=by kernel_rfl
theorem aar:bootBuiltins "min" = some (.builtin "min"):=by kernel_rfl
theorem JL:bootBuiltins "max" = some (.builtin "max"):=by kernel_rfl
theorem Aq:bootBuiltins "sorted" = some (.builtin "sorted"):=by kernel_rfl
theorem bM:bootBuiltins "isinstance" = some (.builtin "isinstance"):=by kernel_rfl
theorem JM:bootBuiltins "int" = some (.type "int"):=by kernel_rfl
theorem Dl:bootBuiltins "bool" = some (.type "bool"):=by kernel_rfl
theorem fJ:bootBuiltins "list" = some (.type "list"):=by kernel_rfl
theorem jQ:bootBuiltins "tuple" = some (.type "tuple"):=by kernel_rfl
section
variable{X:Cx}
end
noncomputable def Kp(r:Addr)(H H':Hp):Prop:=∀b o,H b=some o->b≠r->H' b=some o
theorem Kp.of_same{r:Addr}{H H':Hp}(h:Same H H'):Kp r H H':=λb o e _=>h b o e
theorem Kp.trans{r:Addr}{H H1 H2:Hp}(a:Kp r H H1)(b:Kp r H1 H2):Kp r H H2:=λc o h n=>b c o (a c o h n) n
theorem Kp.refl(r:Addr)(H:Hp):Kp r H H:=λ_ _ h _=>h
theorem Kp.set{r:Addr}{H:Hp}{o:HO}:Kp r H (upd H r o):=λb u e n=>by rw[aF n];exact e
theorem aD{H:Hp}{p:Addr}{o:HO}(h:H p=none):Same H (upd H p o):=λb u e=>by rw[aF (au e h)];exact e
theorem Same.tups{H H':Hp}(e:Same H H'):∀a xs,H a=some (HO.tup xs)->H' a=some (HO.tup xs):=λa xs h=>e _ _ h
theorem Same.sqL{K:PySem.W.Frag}{H H':Hp}(e:Same H H'):∀a xs,bB K H a xs->bB K H' a xs:=λa xs h=>e.seq h
theorem Kp.tups{H H':Hp}{r:Addr}{ys:List V}(e:Kp r H H')(hr:H r=some (.lst ys)):∀a xs,H a=some (HO.tup xs)->H' a=some (HO.tup xs):=λa xs h=>e _ _ h (cH h hr (by intro z;cases z))
theorem Kp.tups'{H H':Hp}{r:Addr}{kvs:List (Key×V)}(e:Kp r H H')(hr:H r=some (.dK kvs)):∀a xs,H a=some (HO.tup xs)->H' a=some (HO.tup xs):=λa xs h=>e _ _ h (cH h hr (by intro z;cases z))
section
variable{X:Cx}{K:PySem.W.Frag}
theorem aL(h:X.K=K):Qd X (Y4 K):=by subst h;exact Lx
theorem aK(h:X.K=K):Qd X (Cg K):=by subst h;exact SJ
theorem Lw(h:X.K=K):Qd X (rIx K):=by subst h;exact ZR
theorem vL(h:X.K=K):SlR X (abP K):=by subst h;exact YM
theorem Ir(h:X.K=K):pR X (compareOp .In) (rIn K false):=by subst h;exact NZ
noncomputable def ae7(K:PySem.W.Frag):List V->Hp->VK->Prop:=λxs H Q=>∃(p:Addr) (ys:List V),xs=[.ref p]/\(bB K H p ys\/bO K H p ys)/\Q (.int ys.length) H
theorem bH(h:X.K=K):jr X (.builtin "len") (ae7 K):=by subst h;exact Di
noncomputable def K7(K:PySem.W.Frag):List V->Hp->VK->Prop:=λxs H Q=>∃(p:Addr) (ys:List V),xs=[.ref p]/\(bB K H p ys\/bO K H p ys) /\ ∀l,H l=none->Q (.ref l) (upd H l (.lst ys))
theorem cO(h:X.K=K):jr X (.type "list") (K7 K):=by subst h;exact Dh
noncomputable def abV(K:PySem.W.Frag):List V->Hp->VK->Prop:=λxs H Q=>∃(p:Addr) (bs:List Bool),xs=[.ref p]/\bB K H p (bs.map V.bl)/\Q (.bl (bs.all id)) H
theorem jk(h:X.K=K)(hc:X.calm=true):jr X (.builtin "all") (abV K):=by subst h;exact yI hc
theorem Vy(h:X.K=K)(hu:X.A.units+64<cLine):pR X (compareOp .Eq) (Vn false):=by subst h;exact Zn hu
theorem vP(h:X.K=K)(hu:X.A.units+64<cLine):pR X (compareOp .NotEq) (Vn true):=by subst h;exact Zm hu
theorem cV{tg l:Expr}{tl:TE}(h:X.K=K)(hl:PE X l tl):PI X tg l (X4 K tl):=by subst h;exact Vs hl
theorem Ck{tg l:Expr}{tl:TE}(h:X.K=K)(hl:PE X l tl):PI X tg l (ach K tl):=by subst h;exact Zd hl
noncomputable def ae8(K:PySem.W.Frag)(c:Value)(cv:V):List V->Hp->VK->Prop:=λxs H Q=>∃x t b,xs=[x,cv]/\rK K H x t/\PySem.W.kitOne K t c=some b/\Q (.bl b) H
theorem dD{c:Value}{cv:V}(h:X.K=K)(rc:RelV cv c):jr X (.builtin "isinstance") (ae8 K c cv):=by subst h;exact Ue rc
theorem cX{o e:Expr}{to:TE}{t:TA}{apos cpos:Pos}(h:X.K=K)(ho:PE X o to)(ha:PA X [e] t)(hbase:attributeBase o "append" X.env (eval o X.env)=eval o X.env:=by rfl)(hfew:((backTo cpos (starEach [e] X.env)).all (λx=> !x.1)&&(backToKw cpos (keywordEach [] X.env)).all (λx=>x.1.isSome)
   && decide (([e]:List Expr).length+([]:List Keyword).length+(if ([]:List Keyword).isEmpty then 0 else 1)<30))=true:=by rfl)(hline:(apos.endLine==cpos.line)=true:=by rfl)(hs:starEach [e] X.env=(false,eval e X.env)::starEach [] X.env:=by rfl)(hplain:(backTo cpos (starEach [] X.env)).any (·.1)=false:=by rfl):
 PE X (.Call (.Attribute o "append" apos) [e] [] cpos) (tBM K "list" K8 to t):=by
 subst h;exact XH PySem.F.plainAttrs_list PySem.F.slot_list_append PySem.F.type_list_append Aa ho ha hbase hfew hline hs hplain
end
end L2
namespace L2
open PySem
section
variable{K:PySem.W.Frag}{a D:Addr}{xs:List V}{g:TG}{tc:TT}{te:TE}{Q:VK}{σ0:St}{H1:Hp}
theorem iQ(Pv:Nat->St->Hp->Prop)(h0:Pv 0 σ0 (upd H1 D (.lst [])))(hl:∀i σ H,i<=xs.length->Pv i σ H->bB K H a xs)(hs:∀i x σ H,xs[i]? = some x->Pv i σ H->g x σ H λσ2 H2=>tc σ2 H2 λb H3=>
   if b=true then te σ2 H3 λy H4=>∃acc,H4 D=some (.lst acc)/\acc.length<sizeLine/\Pv (i+1) σ2 (upd H4 D (.lst (acc++[y]))) else Pv (i+1) σ2 H3)(hd:∀σ H,Pv xs.length σ H->Q (.ref D) H):lH (Yk K a) g tc te Q D σ0 H1:=by
 refine⟨λi m σ H=>m=xs.length - i/\i<=xs.length/\Pv i σ H,⟨xs.length,by simp,Nat.zero_le _,h0⟩, ?_⟩;rintro i m σ H ⟨rfl,hi,p⟩;have q:=hl i σ H hi p
 by_cases hlt:i<xs.length
 .refine .inr ⟨⟨xs,xs[i],q,by simp[hlt]⟩,Pv (i+1),λσ' H' p'=>⟨xs.length - (i+1),by lia,Z,hlt,p'⟩,λx H' y=>?_⟩
  obtain⟨e,y⟩:=y;subst e;exact hs i x σ _ (y xs q) p
 .have e:i=xs.length:=by lia
  subst e;exact .inl ⟨⟨xs,q,aap _⟩,hd σ H p⟩
theorem T8(Pv:Nat->St->Hp->Prop)(h0:Pv 0 σ0 (upd H1 D (.lst [])))(hl:∀i σ H,i<=xs.length->Pv i σ H->bO K H a xs)(hs:∀i x σ H,xs[i]? = some x->Pv i σ H->g x σ H λσ2 H2=>tc σ2 H2 λb H3=>
   if b=true then te σ2 H3 λy H4=>∃acc,H4 D=some (.lst acc)/\acc.length<sizeLine/\Pv (i+1) σ2 (upd H4 D (.lst (acc++[y]))) else Pv (i+1) σ2 H3)(hd:∀σ H,Pv xs.length σ H->Q (.ref D) H):lH (Itt K a) g tc te Q D σ0 H1:=by
 refine⟨λi m σ H=>m=xs.length - i/\i<=xs.length/\Pv i σ H,⟨xs.length,by simp,Nat.zero_le _,h0⟩, ?_⟩;rintro i m σ H ⟨rfl,hi,p⟩;have q:=hl i σ H hi p
 by_cases hlt:i<xs.length
 .refine .inr ⟨⟨xs,xs[i],q,by simp[hlt]⟩,Pv (i+1),λσ' H' p'=>⟨xs.length - (i+1),by lia,Z,hlt,p'⟩,λx H' y=>?_⟩
  obtain⟨e,y⟩:=y;subst e;exact hs i x σ _ (y xs q) p
 .have e:i=xs.length:=by lia
  subst e;exact .inl ⟨⟨xs,q,aap _⟩,hd σ H p⟩
theorem mK{lo:Int}{n:Nat}(Pv:Nat->St->Hp->Prop)(h0:Pv 0 σ0 (upd H1 D (.lst [])))(hs:∀i σ H,i<n->Pv i σ H->g (.int (lo+i)) σ H λσ2 H2=>tc σ2 H2 λb H3=>
   if b=true then te σ2 H3 λy H4=>∃acc,H4 D=some (.lst acc)/\acc.length<sizeLine/\Pv (i+1) σ2 (upd H4 D (.lst (acc++[y]))) else Pv (i+1) σ2 H3)(hd:∀σ H,Pv n σ H->Q (.ref D) H):lH (Yj lo n) g tc te Q D σ0 H1:=by
 refine⟨λi m σ H=>m=n - i/\i<=n/\Pv i σ H,⟨n,by simp,Nat.zero_le _,h0⟩, ?_⟩;rintro i m σ H ⟨rfl,hi,p⟩
 by_cases hlt:i<n
 .refine .inr ⟨hlt,Pv (i+1),λσ' H' p'=>⟨n - (i+1),by lia,Z,hlt,p'⟩,λx H' y=>?_⟩
  obtain⟨e,y⟩:=y;subst e y;exact hs i σ _ hlt p
 .have e:i=n:=by lia
  subst e;exact .inl ⟨aap _,hd σ H p⟩
end
end L2
namespace L2
open PySem PySem.Spec PyProof.Rows
section
variable{α:Type}(f:α->PyData)
theorem jP:∀(l:List α),(∀x∈l,(f x).canLay0=true)->PyData.canLayAll0 (l.map f)=true
 | [],_=>rfl
 | a::l,h=>by
   show (PyData.canLay0 (f a)&&PyData.canLayAll0 (l.map f))=true;rw[h a List.mem_cons_self,jP l λx hx=>h x (aa0 _ hx)];rfl
theorem ig(k:Nat):∀(l:List α),(∀x∈l,(f x).depth<=k)->PyData.depthAll (l.map f)<=k
 | [],_=>Nat.zero_le _
 | a::l,h=>by
   show max (PyData.depth (f a)) (PyData.depthAll (l.map f))<=k;exact Nat.max_le.mpr ⟨h a List.mem_cons_self,ig k l λx hx=>h x (aa0 _ hx)⟩
theorem uM{l:List α}(k:Nat)(hk:k<64)(h1:∀x∈l,(f x).canLay0=true)(h2:∀x∈l,(f x).depth<=k):SeqAt.shaped (.list (l.map f))=true:=by
 unfold SeqAt.shaped;have e1:PyData.canLay0 (.list (l.map f))=true:=jP f l h1
 have e2:PyData.depth (.list (l.map f))<=64:=by
  show PyData.depthAll (l.map f)+1<=64;have:=ig f k l h2;lia
 rw[e1,aaM e2];rfl
theorem yE[DecidableEq α](h:∀x y,PyData.eqv (f x) (f y)=decide (x=y)):∀(l m:List α),PyData.eqvAll (l.map f) (m.map f)=decide (l=m)
 | [],[]=>rfl
 | [],_::_=>by simp only[List.map_nil,List.map_cons,PyData.eqvAll];exact(aaN (by intro z;cases z)).symm
 | _::_,[]=>by simp only[List.map_nil,List.map_cons,PyData.eqvAll];exact(aaN (by intro z;cases z)).symm
 | a::l,b::m=>by
   simp only[List.map_cons,PyData.eqvAll];rw[h a b,yE h l m]
   by_cases e1:a=b
   .subst e1
    by_cases e2:l=m
    .subst e2;simp
    .simp[e2]
   .simp[e1]
theorem Gz[DecidableEq α](h:∀x y,PyData.eqv (f x) (f y)=decide (x=y))(l m:List α):PyData.eqv (.list (l.map f)) (.list (m.map f))=decide (l=m):=by
 simp only[PyData.eqv];exact yE f h l m
end
theorem oE{H:Hp}{a:Addr}{vs:List V}{ds:List PyData}(h:H a=some (.lst vs))(d:aO H vs ds):Dat H (.ref a) (.list ds):=by
 simp only[Dat];exact⟨a,vs,Z,h,d⟩
theorem uT(K:PySem.W.Frag):PySem.W.kitOne K (.type "int") (.type "int")=some true:=Z
theorem rA(K:PySem.W.Frag):PySem.W.kitOne K (.type "int") (.type "bool")=some false:=by kernel_rfl
theorem kE(K:PySem.W.Frag):PySem.W.kitOne K (.type "list") (.type "list")=some true:=Z
theorem dW(K:PySem.W.Frag):PySem.W.kitOne K (.type "tuple") (.type "tuple")=some true:=Z
theorem pO(K:PySem.W.Frag):PySem.W.kitOne K (.type "NoneType") (.type "bool")=some false:=by kernel_rfl
end L2
namespace L2
open PySem
theorem T4(xs:List V)(k:Nat):rF xs none (some (k:Int))=xs.take k:=by
 unfold rF;rw[HT.Fg,HT.K1,List.drop_zero,Nat.sub_zero]
 by_cases h:k<=xs.length
 .rw[Nat.min_eq_left h]
 .rw[Nat.min_eq_right (by lia),List.take_of_length_le (aap _),List.take_of_length_le (by lia)]
theorem T5(xs:List V)(k:Nat):rF xs (some (k:Int)) none=xs.drop k:=by
 unfold rF;rw[HT.Fg,HT.K1]
 by_cases h:k<=xs.length
 .rw[Nat.min_eq_left h,List.take_of_length_le (by rw[List.length_drop];exact aap _)]
 .rw[Nat.min_eq_right (by lia),Nat.sub_self,List.take_zero,List.drop_of_length_le (by lia)]
end L2
namespace PySem.W
open PySem PySem.Spec PySem.Calls PyProof.Rows
section
variable{prog:Program}{w:World}{A:Around}{E:Value->Shared->Prop}{s:Shared}{K:Frag}{x D:Addr}{ox:Obj}{odo:Option Obj}{name:Str}
end
structure ahB(K:Frag)(D:Addr):Prop where
 hga:findIn K (.ref D) "__getattribute__" = some (some (.builtin "BaseException.__getattribute__"))
 hk:findIn K (.ref D) "__getattr__" = some none
 hB:mroIn K D (.type "BaseException")=some true
 hc:(clsIn K D).isSome=true
 ha:findIn K (.ref D) "__class__" = some (some (.builtin "object.__class__"))
 hn:specialIn K (.builtin "object.__class__") "__get__" = some (some (.builtin "getset_descriptor.__get__"))
 htk:takesIn K (.builtin "object.__class__")=some true
 hm:mroIn K D (.type "object")=some true
end PySem.W
namespace L2
open PySem PySem.Spec PyProof.Rows
noncomputable def zK(h:Heap)(e:Addr)(cls:Value)(dx:Option Addr)(lo:Addr->Prop):Option Value->Prop
 | none=>∃oe vs,h.get? e=some oe/\oe.cls=cls/\oe.dict=dx/\oe.data = .fields vs/\vs[1]? = some .none
 | some f=>∃oe vs T oT ts,h.get? e=some oe/\oe.cls=cls/\oe.dict=dx/\oe.data = .fields vs/\vs[1]? = some (.ref T)/\lo T/\T≠e/\h.get? T=some oT/\oT.data = .fields ts/\ts[3]? = some f
section
variable{M:Model}{A:Around}{E:Value->Shared->Prop}{s:Shared}{base:Heap}{env:Env}{outer:List Env}{L e:Addr}
structure rO(fr:List Addr)(e:Addr)(lo:Addr->Prop)(h h':Heap):Prop where
 keep:∀b o,h.get? b=some o->b∉fr->b≠e -> ¬lo b->h'.get? b=some o
 slot:∀b o,h.get? b=some o->b∈fr->b≠e -> ¬lo b -> ∃sl,h'.get? b=some {o with slots:=sl}
 there:∀b o,h.get? b=some o -> ∃o',h'.get? b=some o'
theorem rO.trans{fr:List Addr}{lo:Addr->Prop}{h h1 h2:Heap}(a:rO fr e lo h h1)(b:rO fr e lo h1 h2):rO fr e lo h h2 where
 keep:=λc o q n1 n2 n3=>b.keep c o (a.keep c o q n1 n2 n3) n1 n2 n3
 slot:=λc o q n1 n2 n3=>by
  obtain⟨sl,q1⟩:=a.slot c o q n1 n2 n3;obtain⟨sl2,q2⟩:=b.slot c _ q1 n1 n2 n3;exact⟨sl2,q2⟩
 there:=λc o q=>by
  obtain⟨o1,q1⟩:=a.there c o q;exact b.there c o1 q1
theorem lO{h:Heap}{a:Addr}{o:Obj}{vs:Array Value}(q:h.get? a=some o)(d:o.data = .fields vs)(i:Nat)(v:Value):
 (h.update a (Obj.mapFields (·.setIfInBounds i v))).get? a=some (Obj.mapFields (·.setIfInBounds i v) o)/\(Obj.mapFields (·.setIfInBounds i v) o).data = .fields (vs.setIfInBounds i v) /\
   (Obj.mapFields (·.setIfInBounds i v) o).cls=o.cls/\(Obj.mapFields (·.setIfInBounds i v) o).dict=o.dict:=by
 have d2:=Obj.data_mapFields d (·.setIfInBounds i v);refine⟨Heap.get?_update_self _ q (Obj.isFreed_of_fields d2),d2,Obj.cls_mapFields _ _, ?_⟩;obtain⟨c,dd,dt,sl⟩:=o;simp only at d;subst d;rfl
theorem Qg{oe:Obj}{vs:Array Value}{head:Value}{hadNext:Bool}{cls:Value}{dx:Option Addr}{lo:Addr->Prop}{Q:Unit->Shared->Prop}(hfr:A.frames=some (env::outer))(hl:s.heap.FunFrames base (env::outer))(hf:env.frame=some L)(he:s.heap.get? e=some oe)(hd:oe.data = .fields vs)(hsz:1<vs.size)(hc:oe.cls=cls)(hdx:oe.dict=dx)(hlo:∀T,s.heap.get? T=none->lo T)(h:∀h',rO (frs (env::outer)) e lo s.heap h'->zK h' e cls dx lo (some (rawInt L))->Q () {s with heap:=h'}):
 wpAny M A (do let a ←frameOf env;let pl ←entryPlaceOf L hadNext;let b ←EntryCells.newEntry head a .none (rawInt L) .none pl;setField (.ref e) 1 b) Q E s:=by
 have nfr:e∉frs (env::outer):=λhm=>by
  obtain⟨_,o,q,nf⟩:=hl.mem hm;rw[he] at q;cases q;exact nf vs hd
 refine aay (wpAny_frameOf_fun hfr hl hf λh1 hs1=>?_);refine aay (wpAny_entryPlaceOf λpl hpl=>?_);unfold EntryCells.newEntry newFields;refine aay (wpAny_newObj_type ?_ (hpl.sizeOk5 _ _ _ _ _));generalize hob:({cls:= .type "traceback",dict:=none,data:= .fields ([head,.ref L,.none,rawInt L,.none]++(if pl.isEmpty then List.replicate 6 Value.none else pl)).toArray}:Obj)=ob;have q1:h1.get? e=some oe:=(hs1.2.1 e nfr).trans he;have q2:=aai (h:=h1) ob q1;have nTe:h1.objs.size≠e:=Nat.ne_of_gt (aal q1);have sizes:h1.objs.size=s.heap.objs.size:=hs1.1;have newT:s.heap.get? h1.objs.size=none:=Heap.get?_none_of_le (by rw[sizes];exact aap _);refine wpAny_setField q2 hd hsz (h _ ⟨λb o q n1 n2 n3=>?_,λb o q n1 n2 n3=>?_,λb o q=>?_⟩ ?_)
 .rw[Heap.get?_update_other _ _ (Ne.symm n2)]
  exact aai _ ((hs1.2.1 b n1).trans q)
 .obtain⟨sl,q3⟩:=hs1.2.2 b o q
  refine⟨sl, ?_⟩;rw[Heap.get?_update_other _ _ (Ne.symm n2)];exact aai _ q3
 .obtain⟨sl,q3⟩:=hs1.2.2 b o q
  by_cases hb:b=e
  .subst hb
   exact⟨_,(lO q2 hd 1 _).1⟩
  .refine⟨{o with slots:=sl}, ?_⟩
   rw[Heap.get?_update_other _ _ (Ne.symm hb)];exact aai _ q3
 .obtain⟨u1,u2,u3,u4⟩:=lO q2 hd 1 (Value.ref h1.objs.size)
  refine⟨_,_,h1.objs.size,ob,_,u1,u3.trans hc,u4.trans hdx,u2,by simp[hsz],hlo _ newT,nTe, ?_,by rw[←hob], ?_⟩
  .rw[Heap.get?_update_other _ _ (Ne.symm nTe)]
   exact aaj _ (by rw[←hob];rfl)
  .first |(simp;done)|(rcases hpl with rfl|⟨_,_,_,_,_,_,_,rfl⟩<;>simp)
theorem aa_{cls:Value}{dx:Option Addr}{lo:Addr->Prop}{Q:Unit->Shared->Prop}{fl:Option Value}(hfl:fl=none\/fl=some .none)(hfr:A.frames=some (env::outer))(hl:s.heap.FunFrames base (env::outer))(hf:env.frame=some L)(x:zK s.heap e cls dx lo fl)(hlo:∀T,s.heap.get? T=none->lo T)(h:∀h',rO (frs (env::outer)) e lo s.heap h'->zK h' e cls dx lo (some (rawInt L))->Q () {s with heap:=h'}):wpAny M A (noteFrame (.ref e) env) Q E s:=by
 unfold noteFrame;simp only[hf];rcases hfl with rfl|rfl
 .obtain⟨oe,vs,he,hc,hdx,hd,h1⟩:=x
  refine aay (wpAny_field he hd h1 ?_);rw[abN (by decide)];exact Qg hfr hl hf he hd (Array.getElem?_eq_some_iff.mp h1).1 hc hdx hlo h
 .obtain⟨oe,vs,T,oT,ts,he,hc,hdx,hd,h1,hT,nT,UG,hdT,h3⟩:=x
  refine aay (wpAny_field he hd h1 ?_);rw[abW (show (Value.ref T != Value.none)=true from by simp)];refine aay (wpAny_field UG hdT h3 ?_);rw[abN (show ¬((Value.none==rawInt L)=true) from by simp[rawInt])];have hs3:3<ts.size:=(Array.getElem?_eq_some_iff.mp h3).1;refine aay (wpAny_setField UG hdT hs3 ?_);have oth:∀b,b≠T->(s.heap.update T (Obj.mapFields (·.setIfInBounds 3 Value.none))).get? b=s.heap.get? b:=λb hb=>Heap.get?_update_other _ _ (Ne.symm hb);obtain⟨u1,u2,u3,u4⟩:=lO UG hdT 3 Value.none
  have n0:rO (frs (env::outer)) e lo s.heap (s.heap.update T (Obj.mapFields (·.setIfInBounds 3 Value.none))):=by
   have nb:∀b,¬lo b->b≠T:=λb hb z=>hb (by rw[z];exact hT);refine⟨λb o q _ _ n3=>(oth b (nb b n3)).trans q,λb o q _ _ n3=>⟨o.slots,(oth b (nb b n3)).trans q⟩,λb o q=>?_⟩
   by_cases hb:b=T
   .subst hb;exact⟨_,u1⟩
   .exact⟨o,(oth b hb).trans q⟩
  have ffs:(s.heap.update T (Obj.mapFields (·.setIfInBounds 3 Value.none))).FunFrames base (env::outer):=hl.of_keeps λb o q nf=>by
   by_cases hb:b=T
   .subst hb;rw[UG] at q;cases q;exact abZ hdT (nf ts)
   .exact⟨o,(oth b hb).trans q,Z⟩
  refine Qg (s:={s with heap:=s.heap.update T (Obj.mapFields (·.setIfInBounds 3 Value.none))}) hfr ffs hf ((oth e (Ne.symm nT)).trans he) hd (Array.getElem?_eq_some_iff.mp h1).1 hc hdx (λT' z=>?_) λh' n1 x1=>h h' (n0.trans n1) x1
  by_cases hb:T'=T
  .rw[hb];exact hT
  .exact hlo T' ((oth T' hb).symm.trans z)
theorem aa'{cls:Value}{dx:Option Addr}{lo:Addr->Prop}{Q:Unit->Shared->Prop}{fr:List Addr}{f:Value}(x:zK s.heap e cls dx lo (some f))(h:∀h',rO fr e lo s.heap h'->zK h' e cls dx lo (some .none)->Q () {s with heap:=h'}):wpAny M A (setFlight (.ref e) none) Q E s:=by
 obtain⟨oe,vs,T,oT,ts,he,hc,hdx,hd,h1,hT,nT,UG,hdT,h3⟩:=x;have hs3:3<ts.size:=(Array.getElem?_eq_some_iff.mp h3).1;unfold setFlight;refine aay (wpAny_field he hd h1 ?_);rw[abW (show (Value.ref T != Value.none)=true from by simp)];have oth:∀b,b≠T->(s.heap.update T (Obj.mapFields (·.setIfInBounds 3 Value.none))).get? b=s.heap.get? b:=λb hb=>Heap.get?_update_other _ _ (Ne.symm hb);obtain⟨u1,u2,u3,u4⟩:=lO UG hdT 3 Value.none;have nb:∀b,¬lo b->b≠T:=λb hb z=>hb (by rw[z];exact hT);refine wpAny_setField UG hdT hs3 (h _ ⟨λb o q _ _ n3=>(oth b (nb b n3)).trans q,λb o q _ _ n3=>⟨o.slots,(oth b (nb b n3)).trans q⟩,λb o q=>?_⟩ ?_)
 .by_cases hb:b=T
  .subst hb;exact⟨_,u1⟩
  .exact⟨o,(oth b hb).trans q⟩
 .exact⟨oe,vs,T,_,_,(oth e (Ne.symm nT)).trans he,hc,hdx,hd,h1,hT,nT,u1,u2,by simp[hs3]⟩
end
section
variable{X:Cx}{pins:List (Addr×Obj)}{σ:St}{H:Hp}{s:Shared}{e:Addr}
theorem cW.there{P:Program}{w:World}{H:Hp}{h:Heap}{a:Addr}{o:HO}(x:cW P w H h a o):∃ob,h.get? a=some ob:=by
 induction o with
 | lst xs=>obtain⟨_,_,_,_,q⟩:=x;exact⟨_,q⟩
 | tup xs=>obtain⟨_,_,_,ob,q,_⟩:=x;exact⟨ob,q⟩
 | dK kvs=>obtain⟨_,_,_,_,ob,_,_,q,_⟩:=x;exact⟨ob,q⟩
 | dT kvs=>obtain⟨_,_,_,_,ob,_,_,q,_⟩:=x;exact⟨ob,q⟩
 | set S n=>obtain⟨ob,_,_,_,q,_⟩:=x;exact⟨ob,q⟩
 | ins C dx fs=>obtain⟨_,_,_,q,_⟩:=x;exact⟨_,q⟩
 | own y=>exact x
 | xd fs=>obtain⟨_,⟨ob,_,_,q,_⟩,_⟩:=x;exact⟨ob,q⟩
 | rng lo hi=>obtain⟨_,_,_,q⟩:=x;exact⟨_,q⟩
 | mJ ob u ih=>exact⟨ob,x.1⟩
 | Va ps=>exact⟨_,x⟩
 | met f y=>exact⟨_,x⟩
 | ext φ=>exact x.2.1
noncomputable def Qc(X:Cx)(pins:List (Addr×Obj))(H:Hp)(b:Addr):Prop:=
 H b=none/\b≠X.env.locals/\b∉X.fs/\X.s₀.heap.get? b=none/\(∀x c,X.env.cells.lookup x=some c->c≠b) /\ ∀p∈X.pn++pins,p.1≠b
theorem Inv.xfp(I:Inv X pins σ H s)(hx:X.ex=[]){b:Addr}(hb:s.heap.get? b=none):Qc X pins H b:=by
 refine⟨?_,λz=>?_,λz=>?_, ?_,λx c q z=>?_,λp hp z=>?_⟩
 .cases q:H b with
  | none=>rfl
  | some o=>
    obtain⟨ob,r⟩:=(I.hok b o q).there;rw[hb] at r;cases r
 .obtain⟨m,⟨o,_,_,r,_⟩,_⟩:=I.loc
  rw[←z,hb] at r;cases r
 .obtain⟨_,o,r,_⟩:=I.ur.mem z
  rw[hb] at r;cases r
 .cases q:X.s₀.heap.get? b with
  | none=>rfl
  | some o=>
    obtain⟨o',r⟩:=I.base.there b o q (by rw[hx];simp);rw[hb] at r;cases r
 .obtain⟨v,o,r,_⟩:=I.cell x c q
  rw[z,hb] at r;cases r
 .obtain⟨r,_⟩:=I.pin p hp
  rw[z,hb] at r;cases r
theorem Inv.noted{lo:Addr->Prop}{h':Heap}(I:Inv X pins σ H s)(n:rO (frs X.stack) e lo s.heap h')(hlo:∀b,(b=e\/lo b)->Qc X pins H b\/s.heap.get? b=none):Inv X pins σ H {s with heap:=h'}:=by
 have off:∀b o,s.heap.get? b=some o->(¬Qc X pins H b)->b≠e /\ ¬lo b:=λb o q nx=>
  ⟨λz=>(hlo b (.inl z)).elim nx λr=>(by rw[r] at q;cases q),λz=>(hlo b (.inr z)).elim nx λr=>(by rw[r] at q;cases q)⟩
 have any:∀b o,s.heap.get? b=some o->(¬Qc X pins H b) -> ∃sl,h'.get? b=some {o with slots:=sl}:=λb o q nx=>by
  obtain⟨n1,n2⟩:=off b o q nx
  by_cases hb:b∈frs X.stack
  .exact n.slot b o q hb n1 n2
  .exact⟨o.slots,n.keep b o q hb n1 n2⟩
 have s0:∀b o,X.s₀.heap.get? b=some o -> ¬Qc X pins H b:=λb o q x=>by rw[x.2.2.2.1] at q;cases q
 have neL:∀b o,X.s₀.heap.get? b=some o->b≠X.env.locals:=λb o q=>aaV (aaW (aal q) I.ok.above);have nst:∀b,b≠X.env.locals->b∉X.fs->b∉frs X.stack:=λb n1 n2 z=>(List.mem_cons.mp (I.wz b z)).elim n1 n2;have Yt:∀b o,H b=some o -> ¬Qc X pins H b:=λb o q x=>by rw[x.1] at q;cases q
 have abl:∀b o,H b=some o->b∉frs X.stack:=λb o q z=>by rw[I.Bl b z] at q;cases q
 have cl:∀x c,X.env.cells.lookup x=some c -> ∀v,s.heap.IsCell c v->h'.IsCell c v:=λx c q v ⟨o,ho,hd⟩=>by
  obtain⟨sl,r⟩:=any c o ho λz=>z.2.2.2.2.1 x c q rfl;exact⟨_,r,hd⟩
 refine⟨I.ok,I.os,I.bare,⟨λb o q nn hb hx=>?_,λb o q nn hb hx=>?_,I.base.free,λb o q hx=>?_,I.base.tups,I.base.uw,I.base.v9⟩, ?_,λx c q=>?_,I.free,I.lC,λp hp=>?_,λa o q=>?_,I.len⟩
 .have q1:=I.base.keep b o q nn hb hx
  obtain⟨n1,n2⟩:=off b o q1 (s0 b o q);exact n.keep b o q1 (nst b (neL b o q) hb) n1 n2
 .obtain⟨sl,q1⟩:=I.base.slot b o q nn hb hx
  obtain⟨sl2,q2⟩:=any b _ q1 (s0 b o q);exact⟨sl2,q2⟩
 .obtain⟨o1,q1⟩:=I.base.there b o q hx
  exact n.there b o1 q1
 .obtain⟨m,⟨ob,es,ep,ho,r⟩,hl⟩:=I.loc
  obtain⟨sl,q1⟩:=any _ ob ho λz=>z.2.1 rfl;refine⟨m,⟨_,es,ep,q1,r⟩,λi x v e1 e2 e3=>?_⟩;obtain⟨u,ru,l⟩:=hl i x v e1 e2 e3;refine⟨u,ru, ?_⟩;rcases l with l|⟨k,c,hc,z⟩
  .exact .inl l
  .exact .inr ⟨k,c,hc,cl x c hc _ z⟩
 .obtain⟨v,z⟩:=I.cell x c q
  exact⟨v,cl x c q v z⟩
 .obtain⟨q,nn,n1,n2,d⟩:=I.pin p hp
  obtain⟨m1,m2⟩:=off p.1 p.2 q λz=>z.2.2.2.2.2 p hp rfl;exact⟨n.keep p.1 p.2 q (nst p.1 n1 n2) m1 m2,nn,n1,n2,d⟩
 .refine(I.hok a o q).stay (λb u hb r=>?_) (λ_ z=>z) λ_ _ z=>z
  rcases hb with rfl|hb
  .obtain⟨m1,m2⟩:=off b u r (Yt b o q)
   exact n.keep b u r (abl b o q) m1 m2
  .obtain⟨m1,m2⟩:=off b u r (Yt b _ hb)
   exact n.keep b u r (abl b _ hb) m1 m2
noncomputable def oW(P:Program)(w:World):Qf:=λouter H s E ev s'=>∃(e:Addr) (cls:Value) (dx:Option Addr) (H':Hp),ev = .ref e/\s'.os=s.os/\AllBare s'.gens/\Un (frs outer) [] H H' s.heap s'.heap/\lK P w H' s'.heap /\
 s.heap.get? e=none/\H' e=none/\zK s'.heap e cls dx (λT=>s.heap.get? T=none/\H' T=none) (some .none)/\E cls dx H'
noncomputable def Rz(X:Cx)(E:St->XK):Prop:=∀(pins:List (Addr×Obj))(σ:St)(H:Hp)(s:Shared)(e:Addr)(cls:Value)(dx:Option Addr)(fl:Option Value),(fl=none\/fl=some .none)->Inv X pins σ H s->Qc X pins H e ->
 zK s.heap e cls dx (Qc X pins H) fl->E σ cls dx H->X.xe (.ref e) s
theorem zK.imp{h:Heap}{e:Addr}{cls:Value}{dx:Option Addr}{lo lo':Addr->Prop}{f:Option Value}(x:zK h e cls dx lo f)(k:∀T,(∃o,h.get? T=some o)->lo T->lo' T):zK h e cls dx lo' f:=by
 cases f with
 | none=>exact x
 | some f=>
   obtain⟨oe,vs,T,oT,ts,he,hc,hdx,hd,h1,hT,nT,UG,r⟩:=x;exact⟨oe,vs,T,oT,ts,he,hc,hdx,hd,h1,k T ⟨oT,UG⟩ hT,nT,UG,r⟩
theorem q_{E:St->XK}{σ:St}(hx:X.ex=[])(R:Rz X E){pins:List (Addr×Obj)}{H:Hp}{s s':Shared}{ev:Value}(I:Inv X pins σ H s)(c:oW X.prog X.w X.stack H s (E σ) ev s'):X.xe ev s':=by
 obtain⟨e,cls,dx,H',rfl,ho,hg,u,hok,ne,he,x,q⟩:=c;have I':Inv X pins σ H' s':=I.call' (ch:=[]) ho u hok hg (λb hb=>by cases hb)
 have fp:∀T,s.heap.get? T=none->H' T=none->Qc X pins H' T:=λT h1 h2=>by
  obtain⟨_,a2,a3,a4,a5,a6⟩:=I.xfp hx h1;exact⟨h2,a2,a3,a4,a5,a6⟩
 exact R pins σ H' s' e cls dx _ (.inr rfl) I' (fp e ne he) (x.imp λT _ z=>fp T z.1 z.2) q
theorem Fi{P:Program}{w:World}{K:PySem.W.Frag}{mg:Str->Option Value}{base:Heap}{N:List Str}{qual:Str}{scope:Scope}{f:Addr}{cd:Value}{A:Around}{outer:List Env}{s:Shared}{H:Hp}{E:XK}:
 Rz (mX (oW P w) P w K mg base N qual scope f cd A outer s H E) (λ_=>E):=by
 intro pins σ H1 s1 e cls dx fl hfl I fe x q;show wpAny (model P w) _ (leaving _ (.ref e)) _ _ s1;unfold leaving;have lo1:∀b,(b=e\/(Qc (mX (oW P w) P w K mg base N qual scope f cd A outer s H E) pins H1 b\/s1.heap.get? b=none))->Qc (mX (oW P w) P w K mg base N qual scope f cd A outer s H E) pins H1 b\/s1.heap.get? b=none:=λb z=>z.elim (λz=> .inl (by rw[z];exact fe)) λz=>z;have stk:(mX (oW P w) P w K mg base N qual scope f cd A outer s H E).A.frames=some ((mX (oW P w) P w K mg base N qual scope f cd A outer s H E).env::outer):=I.ok.frames;refine aay (aa_ (base:=base) (lo:=λT=>Qc (mX (oW P w) P w K mg base N qual scope f cd A outer s H E) pins H1 T\/s1.heap.get? T=none) hfl stk I.stack rfl (x.imp λT _ z=> .inl z) (λT z=> .inr z) λh1 n1 x1=>?_);refine aa' (fr:=frs ((mX (oW P w) P w K mg base N qual scope f cd A outer s H E).env::outer)) x1 λh2 n2 x2=>?_;have I2:Inv (mX (oW P w) P w K mg base N qual scope f cd A outer s H E) pins σ H1 {s1 with heap:=h2}:=I.noted (n1.trans n2) lo1;refine⟨e,cls,dx,H1,Z,I2.os,I2.bare,I2.base,I2.hok,fe.2.2.2.1,fe.1,x2.imp λT _ z=>?_,q⟩;rcases z with z|z
 .exact⟨z.2.2.2.1,z.1⟩
 .have y:=I.xfp rfl z
  exact⟨y.2.2.2.1,y.1⟩
end
noncomputable def pU(P:Program)(w:World)(K:PySem.W.Frag)(mg:Str->Option Value)(base:Heap)(k:Nat)(x:Str)(ps:List Str)(sp:Sp):Prop:=
 ∃f fd,bL P w K mg base (oW P w) k f fd ps sp/\mg x=some (.ref f)/\PySem.W.keepIn K (.ref f)=true/\Binds K fd ps []
noncomputable def YH(sp:Sp)(E:St->XK)(t:TA):TE:=λσ H Q=>t σ H λvs H1=>sp vs H1 Q (E σ)
section
variable{X:Cx}{k:Nat}{x:Str}{ps:List Str}{sp:Sp}{e:Expr}{es:List Expr}{t:TA}{p pos:Pos}{E:St->XK}
theorem Io(F:pU X.prog X.w X.K X.mg X.base k x ps sp)(hx:X.ex=[])(R:Rz X E)(hr:eU k X.A)(hg:Gl X x)(ha:PA X (e::es) t)(hd:(x==("__debug__" :Str))=false:=by decide)(he:starEach (e::es) X.env=(false,eval e X.env)::starEach es X.env:=by rfl)(hpl:(backTo pos (starEach es X.env)).any (·.1)=false:=by rfl):
 PE X (.Call (.Name x p) (e::es) [] pos) (YH sp E t):=by
 obtain⟨f,fd,G,hm,hk,hb⟩:=F;intro pins s σ H Q I h;refine wpAny_Call_Name_kw (jZ I hg hm ?_ hd);refine PySem.W.callWith_K (h₀:=X.base) I.ok.mod.Sy hk (cY (ha pos pins s σ H _ I h) λus s1 ⟨vs,H1,I1,r,q⟩=>⟨I1.mH, ?_⟩) he hpl;have hlen:us.length=ps.length:=by rw[←r.length];exact G.len _ _ _ _ q
 have hbd:=hb s1 us I1.mH (by rw[List.append_nil];exact hlen);rw[List.append_nil] at hbd;refine wpAny_call (codeAny_mono (G.run X.A X.stack s1 H1 ⟨us,[]⟩ us vs Q (E σ) hr I1.env0 hbd r q) λres s' hq=>?_)
 match res,hq with
 | .error ev,hq=>exact q_ hx R I1 hq
 | .ok (.ret u),hq=>exact I1.after hq
end
section
variable{P:Program}{w:World}{K:PySem.W.Frag}{mg:Str->Option Value}{base:Heap}
theorem fZ.Ux{x qual:Str}{st:Stmt}{f:Addr}{fd:FuncData}{N ps:List Str}{k:Nat}{sp:Sp}(F:fZ K x qual st f fd)(S:aV N ps (aJ st))(len:∀vs H Q E,sp vs H Q E->vs.length=ps.length)(hbody:∀(cdv:Value)(A:Around)(outer:List Env)(s:Shared)(H:Hp)(vs:List V)(Q:VK)(E:XK),eU k (A.deeper (envOfC qual (aJ st) s.heap.objs.size f cdv))->sp vs H Q E ->
   Rz (mX (oW P w) P w K mg base N qual (aJ st) f cdv A outer s H E) (λ_=>E) ->
   ∃t,J0 (mX (oW P w) P w K mg base N qual (aJ st) f cdv A outer s H E) (cG st) t/\t {nx:=λ_ H'=>Q .non H',rt:=Q} (start N vs) H):bL P w K mg base (oW P w) (k+1) f fd ps sp:=by
 obtain⟨oc,od,kV,doc,pm,an,cdv,ct,osl,rfl,lk,hcd⟩:=F.ex;exact Ti lk hcd S len λA outer s H vs Q E hr hsp=>hbody cdv A outer s H vs Q E hr hsp Fi
end
theorem Wx{K:PySem.W.Frag}{h:Heap}{C:Addr}{bmB:List Value}{newId:String}(X:K.In h)(q:PySem.W.excIn K C bmB newId=true):
 ∃bm N nm qn bs hdct sn sub ab col dd k0 k1 k2 k3 k5 mN,h.get? C=some (excClassObj nm qn C N bs bm hdct sn sub ab col dd k0 k1 k2 k3 k5 newId)/\h.Ns N mN/\mN "__init__" = none/\OwnTail h bmB bm:=by
 unfold PySem.W.excIn at q;split at q
 .rename_i d0 c0 s0 lk
  split at q
  .rename_i C1 tl a0 a1 a2 a3 nn a5 em es
   simp only[aaZ,beq_iff_eq,Bool.not_eq_true'] at q;obtain⟨⟨⟨⟨⟨e1,e2⟩,e3⟩,e4⟩,e5⟩,e6⟩:=q;subst e1 e2;obtain⟨f1,f2,f3,f4,f5,f6,f7,f8,f9,f10,f11⟩:=c0;dsimp only at em e3 e5 e6;subst em e3
   have ez:s0 = #[a0,a1,a2,a3,some (.builtin nn),a5]:=by
    obtain⟨l⟩:=s0;simp only at es;rw[es]
   subst ez;exact⟨tl,f4,_,_,_,_,_,_,_,_,_,_,_,_,_,_,_,X _ _ lk,.of_isNs (PySem.W.isNs_of_in X e5),PySem.W.nsMap_none_of_in X e5 e6,PySem.W.tail_of_in X e4⟩
  .cases q
 .cases q
noncomputable def Yy(cls:Value)(E:St->XK)(ta:TA):TS:=λ_ σ H=>ta σ H λvs H1=>vs.length<=sizeLine/\E σ cls none H1
section
variable{X:Cx}{E:St->XK}{x:Str}{C:Addr}{B newId initId:String}{bmB:List Value}{e0:Expr}{rest:List Expr}{ta:TA}{np cpos pos:Pos}
theorem nJ(FB:ExcBaseFacts B newId initId bmB)(q:PySem.W.excIn X.K C bmB newId=true)(hm:X.mg x=some (.ref C))(hg:Gl X x)(hc:X.calm=true)(hx:X.ex=[])(R:Rz X E)(ha:PA X (e0::rest) ta)(he:starEach (e0::rest) X.env=(false,eval e0 X.env)::starEach rest X.env:=by rfl)(hplain:(backTo cpos (starEach rest X.env)).any (·.1)=false:=by rfl)(hd:(x==("__debug__" :Str))=false:=by decide):
 PS X (.Raise (some (.Call (.Name x np) (e0::rest) [] cpos)) none pos) (Yy (.ref C) E ta):=by
 intro pins s σ H D I h;obtain⟨bm,N,nm,qn,bs,hdct,sn,sub,ab,col,dd,k0,k1,k2,k3,k5,mN,hC,hN,hni,T⟩:=Wx I.ok.mod.Sy q
 refine wpAny_Raise_call_subT (k5:=k5) (k3:=k3) (k2:=k2) (k1:=k1) (k0:=k0) (dd:=dd) (col:=col) (ab:=ab) (sub:=sub) (sn:=sn) (hdct:=hdct) (bs:=bs) (q:=qn) (nm:=nm)
  (C:=C) (N:=N) (bm:=bm) (mN:=mN) FB (T.hasType FB.hasBase) (I.ok.hd hc) (by rw[he];show (false||(backTo cpos (starEach rest X.env)).any (·.1))=false;rw[hplain];rfl) hni (jZ I hg hm ⟨Z, ?_⟩ hd)
 have h2:=ha cpos pins s σ H _ I h;rw[he] at h2 ⊢;refine Calls.evalArgs_plain (cY h2 λus s1 ⟨vs,H1,I1,r,hl,hE⟩=>⟨Z,by rw[←r.length];exact hl,I1.bk _ _ hC,hN.keeps I1.bk,T.keeps I1.bk,λh' e mk=>?_⟩);obtain⟨t,ht,_,_⟩:=mk.there;have I2:Inv X pins σ H1 {s1 with heap:=h'}:=I1.kept (t':=s1.toks) mk.keeps;exact R pins σ H1 _ e (.ref C) none none (.inl rfl) I2 (I1.xfp hx mk.new) ⟨_,_,ht,Z,Z,Z,Z⟩ hE
end
section
variable{X:Cx}{pins:List (Addr×Obj)}{σ:St}{H:Hp}{s:Shared}
end
section
variable{M:Model}{A:Around}{Er:Value->Shared->Prop}{s:Shared}{K:PySem.W.Frag}{e C D:Addr}
end
section
variable{X:Cx}{pins:List (Addr×Obj)}{σ:St}{H:Hp}{s:Shared}
end
structure XHd(K:PySem.W.Frag)(D:Addr):Prop where
 cl:(PySem.W.clsIn K D).isSome=true
 ty:PySem.W.typeIn K (.ref D)=some (.type "type")
 bs:PySem.W.subIn K (.ref D) (.type "BaseException")=some true
section
variable{X:Cx}{body suite:List Stmt}{b0:Stmt}{n cn:Str}{i:Nat}{Dc:Addr}{tb:(St->XK)->TS}{th:TS}{cp hpos pos:Pos}
end
section
variable{X:Cx}{K:PySem.W.Frag}
end
section
variable{X:Cx}{K:PySem.W.Frag}
end
end L2
namespace L2
open PySem
structure Xr(K:PySem.W.Frag)(mg:Str->Option Value)(C:Addr)(nm:Str):Prop where
 bd:mg nm=some (.ref C)
 hd:XHd K C
 xc:PySem.W.ahB K C
 ex:PySem.W.excIn K C [.type "ValueError",.type "Exception",.type "BaseException",.type "object"] "ValueError.__new__" = true
 ve:PySem.W.subIn K (.ref C) (.type "ValueError")=some true
end L2
namespace L2
open PySem PySem.Spec PyProof.Rows
section
variable{X:Cx}{pins:List (Addr×Obj)}{σ:St}{H:Hp}{s:Shared}{h':Heap}
theorem Inv.vI{t':Nat}{fp:List Addr}(I:Inv X pins σ H s)(hf:∀b∈fp,pI X pins H b)(k:∀b o,b∉fp->s.heap.get? b=some o->h'.get? b=some o):Inv X pins σ H {s with heap:=h',toks:=t'}:=by
 have ZC:∀b u,H b=some u->b∉fp:=λb u e z=>by rw[(hf b z).1] at e;cases e
 refine I.step (g':=s.gens) (d':=s.drawn) (ch:=fp) (λb hb=>?_) (λb o _ _ hc e _=>k b o hc e) (λb o _ _ hc e _=>⟨o.slots,k b o hc e⟩) (λ_ _ _ _ n=>n)
  (λb o hc e=>⟨o,k b o hc e⟩) (λ_ _ e=>e) (λ_ _ _ e=>e) (λb ps e=>⟨#[],by rw[e];simp⟩) (λm hm=>?_) (λb u e=>?_) I.bare
 .obtain⟨f0,f1,f2,f3,f4,f5⟩:=hf b hb
  exact⟨f3,f1,f4,f5⟩
 .obtain⟨o,es,ep,ho,r⟩:=hm
  exact⟨o,es,ep,k _ o (λz=>(hf _ z).2.1 rfl) ho,r⟩
 .refine(I.hok b u e).stay (λc v hc q=>k c v ?_ q) (λ_ q=>q) λ_ _ q=>q
  rcases hc with z|z
  .rw[z];exact ZC b u e
  .exact ZC c _ z
theorem pI.upd{b p:Addr}{o:HO}(h:pI X pins H b)(n:b≠p):pI X pins (upd H p o) b:=by
 obtain⟨f0,r⟩:=h;exact⟨by rw[aF n];exact f0,r⟩
theorem Gr{h:Heap}{o u:Obj}{b:Addr}(ho:o.isFreed=false)(e:(h.push o).get? b=some u):(b=h.objs.size/\u=o)\/h.get? b=some u:=by
 by_cases hb:b=h.objs.size
 .subst hb
  rw[aaj _ ho] at e;exact .inl ⟨Z,(aaR e).symm⟩
 .refine .inr ?_
  have lt:=aal e
  have lt2:b<h.objs.size:=by
   have:(h.push o).objs.size=h.objs.size+1:=by simp[Heap.push]
   rw[this] at lt;exact Nat.lt_of_le_of_ne (Nat.le_of_lt_succ lt) hb
  have:(h.push o).get? b=h.get? b:=by
   simp only[Heap.get?,Heap.push];rw[Array.getElem?_push_lt lt2,Array.getElem?_eq_getElem lt2]
  rw[←this];exact e
end
noncomputable def Ite(K:PySem.W.Frag)(l:Addr):It:=
 ⟨λi H=>∃xs x,bB K H l xs/\xs[i]? = some x,λi H x H'=>∃(p:Addr) (y:V),x = .ref p/\H p=none/\(∀xs,bB K H l xs->xs[i]? = some y)/\H'=upd H p (.tup [.int i,y]),λi H=>∃xs,bB K H l xs/\xs.length<=i⟩
theorem Nb{P:Program}{w:World}{K:PySem.W.Frag}{elts:List Expr}{x1:Nat}{pos:Pos}(l e it:Addr)(hne:e≠it):Turn P w K (.Tuple elts x1 pos) (Ite K l) [e,it] e (λi h=>(∃old,IsEnum h e it i old)/\h.IsListIter it l i) where
 mem:=by simp
 obj:=λi h st b hb=>by
  obtain⟨⟨old,he⟩,o,ho,c,d⟩:=st;have hb':b=e\/b=it:=by simpa using hb
  rcases hb' with rfl|rfl
  .exact⟨_,he,λv z=>by cases z⟩
  .exact⟨o,ho,λv z=>by rw[d] at z;cases z⟩
 keep:=λi h h' st k=>by
  obtain⟨⟨old,he⟩,o,ho,c,d⟩:=st;exact⟨⟨old,k e (by simp) _ he⟩,o,k it (by simp) _ ho,c,d⟩
 item:=by
  intro X hP hw hK hc i pins s σ H E I hf st hg;subst hP hw hK;obtain⟨xs,x,hq,hx⟩:=hg;obtain⟨its,rv,p,hz⟩:=I.list hq;obtain⟨u,hu,ru⟩:=rv.get hx;obtain⟨⟨old,he⟩,hi⟩:=st;have elt:=aal he;have ilt:it<s.heap.objs.size:=by obtain⟨o,ho,_⟩:=id hi;exact aal ho
  refine wpAny_pyNext_enum_item he hi p.isList (x:=u) (by simpa using hu) hne λh' hout hit htup hsz hk=>?_;refine⟨_,Z, ?_⟩;refine wpAny_letOwnedTupleGo_enum hout λh2 he2 sb=>?_;have hfr:H s.heap.objs.size=none:=I.hok.fresh (aap _)
  have I0:Inv X pins σ (upd H s.heap.objs.size (.tup [.int i,x])) {s with heap:=s.heap.push {cls:= .type "tuple",data:= .seq #[.int i s.toks,u]}}:=
   I.laid (t':=s.toks) (λb u e=>aai _ e) (aap _) ⟨by show 2<=sizeLine;decide,[.int i s.toks,u],.cons ⟨_,Z⟩ (.cons ru .nil),⟨_,aaj _ rfl,Z,_,Z⟩⟩
  have ne1:e≠s.heap.objs.size:=aaV elt;have ne2:it≠s.heap.objs.size:=aaV ilt
  have hf0:∀b∈[e,it],pI X pins (upd H s.heap.objs.size (.tup [.int i,x])) b:=λb hb=>by
   have hb':b=e\/b=it:=by simpa using hb
   rcases hb' with rfl|rfl
   .exact(hf _ (by simp)).upd ne1
   .exact(hf _ (by simp)).upd ne2
  have I1:=I0.vI (h':=h2) (t':=s.toks+1) hf0 (λb o hb eb=>by
   have b1:b≠e:=λz=>hb (by simp[z]);have b2:b≠it:=λz=>hb (by simp[z]);rw[sb.2 b b1];rcases Gr rfl eb with ⟨rfl,rfl⟩|eb
   .exact htup
   .exact hk b o b1 b2 eb)
  refine⟨.ref s.heap.objs.size,_,I1,Z,⟨s.heap.objs.size,x,Z,hfr,λys hy=>by rw[I.rm hy hq];exact hx,Z⟩,⟨⟨u,he2⟩, ?_⟩,λb hb=>(hf0 b hb).1⟩;obtain⟨o,ho,c,d⟩:=hit;exact⟨o,(sb.2 it (Ne.symm hne)).trans ho,c,d⟩
 done:=by
  intro X hP hw hK hc i pins s σ H E I hf st hg;subst hP hw hK;obtain⟨xs,hq,hx⟩:=hg;obtain⟨its,rv,p,hz⟩:=I.list hq;obtain⟨⟨old,he⟩,hi⟩:=st;have hl:=rv.length;exact wpAny_pyNext_enum_end (I.ok.hd hc) he hi p.isList (by simp;lia) λh' eb=>⟨Z,I.vI (t':=s.toks) hf (λb o hb e=>eb b o (λz=>hb (by simp[z])) e)⟩
 self:=λ_ _ _ _ _ st h=>by
  obtain⟨⟨old,he⟩,_⟩:=st;exact wpAny_pyIter_enum he h
section
variable{X:Cx}
noncomputable def acn(K:PySem.W.Frag)(ta:TA):TI:=λσ H R=>ta σ H λvs H1=>∃l xs,vs=[.ref l]/\bB K H1 l xs/\R (Ite K l) H1
theorem Dk:bootBuiltins "enumerate" = some (.type "enumerate"):=by kernel_rfl
theorem Fv{K:PySem.W.Frag}{a:Expr}{ta:TA}{p pos:Pos}{elts:List Expr}{x1:Nat}{tpos:Pos}(hK:X.K=K)(hg:Gl X "enumerate")(hm:X.mg "enumerate" = none)(ha:PA X [a] ta)(hs:starEach [a] X.env=[(false,eval a X.env)]:=by rfl):PI X (.Tuple elts x1 tpos) (.Call (.Name "enumerate" p) [a] [] pos) (acn K ta):=by
 subst hK;intro pins s σ H R I h;refine Call_ (qw I hg hm Dk (PyProof.Rows.callWith_type1 (cY (ha pos pins s σ H _ I h) λus s1 ⟨vs,H1,I1,r1,q1⟩=>?_) hs rfl));obtain⟨l,xs,e,hq,q⟩:=q1;subst e;cases r1 with
 | cons r rr=>
   cases rr;cases r;obtain⟨its,rv,pl,hz⟩:=I1.list hq;refine call_enumerate_list pl.isList λh' hE hI hsz hk=>?_;refine wpAny_pyIter_enum hE ?_;have I2:Inv X pins σ H1 {s1 with heap:=h'}:=I1.kept (t':=s1.toks) hk;refine⟨s1.heap.objs.size+1,[s1.heap.objs.size+1,s1.heap.objs.size],_,_,H1,Z,I2,Nb l _ _ (by simp),⟨⟨_,hE⟩,hI⟩,λb hb=>?_,q⟩;have hb':b=s1.heap.objs.size+1\/b=s1.heap.objs.size:=by simpa using hb
   rcases hb' with rfl|rfl
   .exact I1.vo (Nat.le_succ _) (I1.hok.fresh (Nat.le_succ _))
   .exact I1.vo (aap _) (I1.hok.fresh (aap _))
end
noncomputable def Itz(K:PySem.W.Frag)(l1 l2:Addr):It:=
 ⟨λi H=>∃xs ys x y,bB K H l1 xs/\bB K H l2 ys/\xs[i]? = some x/\ys[i]? = some y,
  λi H x H'=>∃(p:Addr) (y z:V),x = .ref p/\H p=none/\(∀xs,bB K H l1 xs->xs[i]? = some y)/\(∀ys,bB K H l2 ys->ys[i]? = some z)/\H'=upd H p (.tup [y,z]),
  λi H=>∃xs ys,bB K H l1 xs/\bB K H l2 ys/\(xs.length<=i\/ys.length<=i)⟩
theorem Qm{P:Program}{w:World}{K:PySem.W.Frag}{elts:List Expr}{x1:Nat}{pos:Pos}(z TI TO i1 i2 l1 l2:Addr)(ap:ZipApart z TI TO i1 i2 l1 l2):Turn P w K (.Tuple elts x1 pos) (Itz K l1 l2) [z,TI,TO,i1,i2] z
 (λi h=>IsZip h z TI TO .none/\IsPair h TI (.ref i1) (.ref i2)/\(∃a b,IsPair h TO a b)/\h.IsListIter i1 l1 i/\h.IsListIter i2 l2 i) where
 mem:=by simp
 obj:=λi h st b hb=>by
  obtain⟨hz,hTI,⟨a,c,hTO⟩,⟨o1,h1,c1,d1⟩,⟨o2,h2,c2,d2⟩⟩:=st;have hb':b=z\/b=TI\/b=TO\/b=i1\/b=i2:=by simpa using hb
  rcases hb' with rfl|rfl|rfl|rfl|rfl
  .exact⟨_,hz,λv z=>by cases z⟩
  .exact⟨_,hTI,λv z=>by cases z⟩
  .exact⟨_,hTO,λv z=>by cases z⟩
  .exact⟨_,h1,λv z=>by rw[d1] at z;cases z⟩
  .exact⟨_,h2,λv z=>by rw[d2] at z;cases z⟩
 keep:=λi h h' st k=>by
  obtain⟨hz,hTI,⟨a,c,hTO⟩,⟨o1,h1,c1,d1⟩,⟨o2,h2,c2,d2⟩⟩:=st;exact⟨k z (by simp) _ hz,k TI (by simp) _ hTI,⟨a,c,k TO (by simp) _ hTO⟩,⟨o1,k i1 (by simp) _ h1,c1,d1⟩,⟨o2,k i2 (by simp) _ h2,c2,d2⟩⟩
 item:=by
  intro X hP hw hK hc i pins s σ H E I hf st hg;subst hP hw hK;obtain⟨xs,ys,x,y,hq1,hq2,hx,hy⟩:=hg;obtain⟨acg,rv1,p1,hz1⟩:=I.list hq1;obtain⟨its2,rv2,p2,hz2⟩:=I.list hq2;obtain⟨u1,hu1,ru1⟩:=rv1.get hx;obtain⟨u2,hu2,ru2⟩:=rv2.get hy;obtain⟨hz,hTI,⟨a,c,hTO⟩,hi1,hi2⟩:=st;have zlt:=aal hz;have ahG:=aal hTI;have ahF:=aal hTO;have agy:i1<s.heap.objs.size:=by obtain⟨o,ho,_⟩:=id hi1;exact aal ho
  have agx:i2<s.heap.objs.size:=by obtain⟨o,ho,_⟩:=id hi2;exact aal ho
  refine wpAny_pyNext_zip_item ap hz hTI hTO hi1 hi2 p1.isList p2.isList (x:=u1) (y:=u2) (by simpa using hu1) (by simpa using hu2) λh' hz' agR agN hi2' hnew hsz hk=>?_;refine⟨_,Z, ?_⟩;refine wpAny_letOwnedTupleGo_zip hz' λh2 agz sb=>?_;have hfr:H s.heap.objs.size=none:=I.hok.fresh (aap _)
  have I0:Inv X pins σ (upd H s.heap.objs.size (.tup [x,y])) {s with heap:=s.heap.push {cls:= .type "tuple",data:= .seq #[u1,u2]}}:=
   I.laid (t':=s.toks) (λb u e=>aai _ e) (aap _) ⟨by show 2<=sizeLine;decide,[u1,u2],.cons ru1 (.cons ru2 .nil),⟨_,aaj _ rfl,Z,_,Z⟩⟩
  have hf0:∀b∈[z,TI,TO,i1,i2],pI X pins (upd H s.heap.objs.size (.tup [x,y])) b:=λb hb=>by
   refine(hf b hb).upd ?_;have hb':b=z\/b=TI\/b=TO\/b=i1\/b=i2:=by simpa using hb
   rcases hb' with rfl|rfl|rfl|rfl|rfl
   .exact aaV zlt
   .exact aaV ahG
   .exact aaV ahF
   .exact aaV agy
   .exact aaV agx
  have I1:=I0.vI (h':=h2) (t':=s.toks) hf0 (λb o hb eb=>by
   have b1:b≠z:=λe=>hb (by simp[e]);have b2:b≠TO:=λe=>hb (by simp[e]);have b3:b≠i1:=λe=>hb (by simp[e]);have b4:b≠i2:=λe=>hb (by simp[e]);rw[sb.2 b b1];rcases Gr rfl eb with ⟨rfl,rfl⟩|eb
   .exact hnew
   .exact hk b o b1 b2 b3 b4 eb)
  refine⟨.ref s.heap.objs.size,_,I1,Z,⟨s.heap.objs.size,x,y,Z,hfr,λys hy=>by rw[I.rm hy hq1];exact hx,λys' hy'=>by rw[I.rm hy' hq2];exact hy,Z⟩, ?_,λb hb=>(hf0 b hb).1⟩;obtain⟨o1,ho1,c1,d1⟩:=agN;obtain⟨o2,ho2,c2,d2⟩:=hi2';exact⟨agz,(sb.2 TI ap.TIz).trans (hk TI _ ap.TIz ap.TITO ap.TIi1 ap.TIi2 hTI),⟨_,_,(sb.2 TO ap.TOz).trans agR⟩,⟨o1,(sb.2 i1 ap.i1z).trans ho1,c1,d1⟩,⟨o2,(sb.2 i2 ap.i2z).trans ho2,c2,d2⟩⟩
 done:=by
  intro X hP hw hK hc i pins s σ H E I hf st hg;subst hP hw hK;obtain⟨xs,ys,hq1,hq2,hx⟩:=hg;obtain⟨acg,rv1,p1,hz1⟩:=I.list hq1;obtain⟨its2,rv2,p2,hz2⟩:=I.list hq2;obtain⟨hz,hTI,⟨a,c,hTO⟩,hi1,hi2⟩:=st;have hl1:=rv1.length;have hl2:=rv2.length;refine wpAny_pyNext_zip_end (I.ok.hd hc) ap hz hTI hTO hi1 hi2 p1.isList p2.isList ?_ λh' eb=>⟨Z,I.vI (t':=s.toks) hf (λb o hb e=>eb b o (λz=>hb (by simp[z])) (λz=>hb (by simp[z])) (λz=>hb (by simp[z])) (λz=>hb (by simp[z])) e)⟩;rcases hx with hx|hx
  .exact .inl (by simp;lia)
  .exact .inr (by simp;lia)
 self:=λ_ _ _ _ _ st h=>wpAny_pyIter_zip st.1 h
section
variable{X:Cx}
noncomputable def agv(K:PySem.W.Frag)(ta:TA):TI:=λσ H R=>ta σ H λvs H1=>∃l1 l2 xs ys,vs=[.ref l1,.ref l2]/\bB K H1 l1 xs/\bB K H1 l2 ys/\R (Itz K l1 l2) H1
theorem Ld{K:PySem.W.Frag}{a b:Expr}{ta:TA}{p pos:Pos}{elts:List Expr}{x1:Nat}{tpos:Pos}(hK:X.K=K)(hg:Gl X "zip")(hm:X.mg "zip" = none)(ha:PA X [a,b] ta)(hs:starEach [a,b] X.env=[(false,eval a X.env),(false,eval b X.env)]:=by rfl)(hs2:starEach [b] X.env=[(false,eval b X.env)]:=by rfl):PI X (.Tuple elts x1 tpos) (.Call (.Name "zip" p) [a,b] [] pos) (agv K ta):=by
 subst hK;intro pins s σ H R I h;refine Call_ (qw I hg hm boot_zip (PyProof.Rows.callWith_type1 (cY (ha pos pins s σ H _ I h) λus s1 ⟨vs,H1,I1,r1,q1⟩=>?_) (by rw[hs,hs2]) (by rw[hs2];rfl)));obtain⟨l1,l2,xs,ys,e,hq1,hq2,q⟩:=q1;subst e;cases r1 with
 | cons r rr=>
   cases rr with
   | cons r' rr=>
     cases rr;cases r;cases r';obtain⟨acg,rv1,pl1,hz1⟩:=I1.list hq1;obtain⟨its2,rv2,pl2,hz2⟩:=I1.list hq2;have lt1:l1<s1.heap.objs.size:=by obtain⟨o,ho,_⟩:=pl1.isList;exact aal ho
     have lt2:l2<s1.heap.objs.size:=by obtain⟨o,ho,_⟩:=pl2.isList;exact aal ho
     refine call_zip_2 pl1.isList pl2.isList λh' hZ hTI hTO hi1 hi2 hsz hk=>?_;refine wpAny_pyIter_zip hZ ?_;have I2:Inv X pins σ H1 {s1 with heap:=h'}:=I1.kept (t':=s1.toks) hk;refine⟨s1.heap.objs.size+4,[s1.heap.objs.size+4,s1.heap.objs.size+2,s1.heap.objs.size+3,s1.heap.objs.size,s1.heap.objs.size+1],_,_,H1,Z,I2,Qm _ _ _ _ _ l1 l2 (zipApart_new lt1 lt2),⟨hZ,hTI,⟨_,_,hTO⟩,hi1,hi2⟩,λb hb=>?_,q⟩
     have hb':s1.heap.objs.size<=b:=by
      have:b=s1.heap.objs.size+4\/b=s1.heap.objs.size+2\/b=s1.heap.objs.size+3\/b=s1.heap.objs.size\/b=s1.heap.objs.size+1:=by simpa using hb
      rcases this with rfl|rfl|rfl|rfl|rfl
      .exact Nat.le_add_right _ _
      .exact Nat.le_add_right _ _
      .exact Nat.le_add_right _ _
      .exact aap _
      .exact Nat.le_add_right _ _
     exact I1.vo hb' (I1.hok.fresh hb')
end
section
variable{K:PySem.W.Frag}{a l1 l2 D:Addr}{xs ys:List V}{g:TG}{tc:TT}{te:TE}{Q:VK}{σ0:St}{H1:Hp}
theorem T7{n:Nat}(hn1:xs.length=n)(hn2:ys.length=n)(Pv:Nat->St->Hp->Prop)(h0:Pv 0 σ0 (upd H1 D (.lst [])))(hl:∀i σ H,i<=n->Pv i σ H->bB K H l1 xs/\bB K H l2 ys)(hs:∀i x y σ H p,xs[i]? = some x->ys[i]? = some y->Pv i σ H->H p=none->g (.ref p) σ (upd H p (.tup [x,y])) λσ2 H2=>tc σ2 H2 λb H3=>
   if b=true then te σ2 H3 λy H4=>∃acc,H4 D=some (.lst acc)/\acc.length<sizeLine/\Pv (i+1) σ2 (upd H4 D (.lst (acc++[y]))) else Pv (i+1) σ2 H3)(hd:∀σ H,Pv n σ H->Q (.ref D) H):lH (Itz K l1 l2) g tc te Q D σ0 H1:=by
 refine⟨λi m σ H=>m=n - i/\i<=n/\Pv i σ H,⟨n,by simp,Nat.zero_le _,h0⟩, ?_⟩;rintro i m σ H ⟨rfl,hi,p⟩;obtain⟨q1,q2⟩:=hl i σ H hi p
 by_cases hlt:i<n
 .refine .inr ⟨⟨xs,ys,xs[i],ys[i],q1,q2,by simp[hn1,hlt],by simp[hn2,hlt]⟩,Pv (i+1),λσ' H' p'=>⟨n - (i+1),by lia,Z,hlt,p'⟩,λx H' y=>?_⟩
  obtain⟨t,z,u,rfl,ht,hz,hu,rfl⟩:=y;exact hs i z u σ _ t (hz xs q1) (hu ys q2) p ht
 .have e:i=n:=by lia
  subst e;exact .inl ⟨⟨xs,ys,q1,q2,.inl (by lia)⟩,hd σ H p⟩
end
section
variable{K:PySem.W.Frag}{a l1 l2:Addr}{xs ys:List V}{g:TG}{tb:TS}{D:Ends}{σ:St}{H:Hp}
theorem Gu(Pv:Nat->St->Hp->Prop)(h0:Pv 0 σ H)(hl:∀i σ H,i<=xs.length->Pv i σ H->bB K H a xs)(hs:∀i x σ H p,xs[i]? = some x->Pv i σ H->H p=none->g (.ref p) σ (upd H p (.tup [.int i,x])) λσ2 H2=>tb {D with nx:=Pv (i+1),ct:=Pv (i+1),bk:=D.nx} σ2 H2)(hd:∀σ H,Pv xs.length σ H->D.nx σ H):
 ∃W:Nat->Nat->St->Hp->Prop,(∃m,W 0 m σ H) /\ ∀i m σ H,W i m σ H ->
  ((Ite K a).stop i H/\D.nx σ H)\/((Ite K a).go i H /\ ∃N:St->Hp->Prop,(∀σ' H',N σ' H' -> ∃m',m'<m/\W (i+1) m' σ' H') /\ ∀x H',(Ite K a).UL i H x H'->g x σ H' λσ2 H2=>tb {D with nx:=N,ct:=N,bk:=D.nx} σ2 H2):=by
 refine⟨λi m σ H=>m=xs.length - i/\i<=xs.length/\Pv i σ H,⟨xs.length,by simp,Nat.zero_le _,h0⟩, ?_⟩;rintro i m σ H ⟨rfl,hi,p⟩;have q:=hl i σ H hi p
 by_cases hlt:i<xs.length
 .refine .inr ⟨⟨xs,xs[i],q,by simp[hlt]⟩,Pv (i+1),λσ' H' p'=>⟨xs.length - (i+1),by lia,Z,hlt,p'⟩,λx H' y=>?_⟩
  obtain⟨t,z,rfl,ht,hz,rfl⟩:=y;exact hs i z σ _ t (hz xs q) p ht
 .have e:i=xs.length:=by lia
  subst e;exact .inl ⟨⟨xs,q,aap _⟩,hd σ H p⟩
end
section
variable{X:Cx}
theorem Cm{K:PySem.W.Frag}{T name id:String}{r:V->List V->Hp->VK->Prop}{o e:Expr}{es:List Expr}{to:TE}{t:TA}{apos cpos:Pos}(h:X.K=K)(pa:PlainAttrs T)(slot:Slot T name id)(hty:typeOf (.builtin id)=pure (.type "method_descriptor"))(hm:MtR X id r)(ho:PE X o to)(ha:PA X (e::es) t)(hbase:attributeBase o name X.env (eval o X.env)=eval o X.env:=by rfl)(hfew:((backTo cpos (starEach (e::es) X.env)).all (λx=> !x.1)&&(backToKw cpos (keywordEach [] X.env)).all (λx=>x.1.isSome)
   && decide ((e::es).length+([]:List Keyword).length+(if ([]:List Keyword).isEmpty then 0 else 1)<30))=true:=by rfl)(hline:(apos.endLine==cpos.line)=true:=by rfl)(hs:starEach (e::es) X.env=(false,eval e X.env)::starEach es X.env:=by rfl)(hplain:(backTo cpos (starEach es X.env)).any (·.1)=false:=by rfl):
 PE X (.Call (.Attribute o name apos) (e::es) [] cpos) (tBM K T r to t):=by
 subst h;exact XH pa slot hty hm ho ha hbase hfew hline hs hplain
theorem jX{K:PySem.W.Frag}{es:List Expr}{k:Nat}{t:Yh}{n:Nat}{pos:Pos}(hK:X.K=K)(hc:X.calm=true)(h:PGs X es t)(hn:(assignEach es X.env).length=n:=by rfl)(hst:(assignEach es X.env).findIdx? (·.1)=none:=by rfl):PG X (.Tuple es k pos) (Z6 K n t):=by subst hK;exact Zf hc h hn hst
end
end L2
namespace L2
open PySem
section
variable{K:PySem.W.Frag}{a D:Addr}{xs:List V}{tc:TT}{te:TE}{Q:VK}{rest:St}{H1:Hp}
theorem dB{α:Type}(f:Nat->Option α)(n:Nat):(List.range (n+1)).filterMap f=(List.range n).filterMap f++(f n).toList:=by
 rw[List.range_succ,List.filterMap_append];cases h:f n<;>simp[h]
theorem qD{α:Type}(f:Nat->Option α)(n:Nat):((List.range n).filterMap f).length<=n:=by
 have:=List.length_filterMap_le f (List.range n);simpa using this
theorem Same.newly{H H1:Hp}{D:Addr}{o:HO}(h:Same H H1)(n:H D=none):Same H (upd H1 D o):=λb u e=>by rw[aF (au e n)];exact h b u e
theorem GR(f:Nat->Option V)(hD:H1 D=none)(hq:bB K H1 a xs)(hx:xs.length<=100000)(hs:∀i x H (G:Hp->Prop) (F:VK),xs[i]? = some x->Same H1 H->(∀H',Same H H'->f i=none->G H')->(∀y H',Same H H'->f i=some y->F y H')->tc (some x::rest) H λb H3=>if b=true then te (some x::rest) H3 F else G H3)(hd:∀H,Same H1 H->H D=some (.lst ((List.range xs.length).filterMap f))->Q (.ref D) H):lH (Yk K a) (gR 0) tc te Q D (none::rest) H1:=by
 refine iQ (K:=K) (xs:=xs) (λi σ H=>(∃v,σ=v::rest)/\Same H1 H/\H D=some (.lst ((List.range i).filterMap f))) ⟨⟨none,Z⟩,aD hD,ak⟩ (λi σ H _ ⟨_,sm,_⟩=>sm.sqL _ _ hq) ?_ (λσ H ⟨_,sm,e⟩=>hd H sm e);rintro i x σ H hi ⟨⟨v,rfl⟩,sm,e⟩;have hil:i<xs.length:=(aaf.mp hi).1;refine hs i x H _ _ hi sm (λH3 s3 ef=>⟨⟨_,Z⟩,sm.trans s3,by rw[s3 _ _ e,dB,ef];simp⟩) (λy H4 s4 ef=>?_);refine⟨_,s4 _ _ e, ?_,⟨_,Z⟩,(sm.trans s4).newly hD, ?_⟩
 .have:=qD f i
  rw[sizeLine_eq];lia
 .rw[ak,dB,ef];rfl
theorem Ao(f:Nat->Option V)(hD:H1 D=none)(hq:H1 a=some (.tup xs))(hx:xs.length<=100000)(hs:∀i x H (G:Hp->Prop) (F:VK),xs[i]? = some x->Same H1 H->(∀H',Same H H'->f i=none->G H')->(∀y H',Same H H'->f i=some y->F y H')->tc (some x::rest) H λb H3=>if b=true then te (some x::rest) H3 F else G H3)(hd:∀H,Same H1 H->H D=some (.lst ((List.range xs.length).filterMap f))->Q (.ref D) H):lH (Itt K a) (gR 0) tc te Q D (none::rest) H1:=by
 refine T8 (K:=K) (xs:=xs) (λi σ H=>(∃v,σ=v::rest)/\Same H1 H/\H D=some (.lst ((List.range i).filterMap f))) ⟨⟨none,Z⟩,aD hD,ak⟩ (λi σ H _ ⟨_,sm,_⟩=>bO.of (sm.tups _ _ hq)) ?_ (λσ H ⟨_,sm,e⟩=>hd H sm e);rintro i x σ H hi ⟨⟨v,rfl⟩,sm,e⟩;have hil:i<xs.length:=(aaf.mp hi).1;refine hs i x H _ _ hi sm (λH3 s3 ef=>⟨⟨_,Z⟩,sm.trans s3,by rw[s3 _ _ e,dB,ef];simp⟩) (λy H4 s4 ef=>?_);refine⟨_,s4 _ _ e, ?_,⟨_,Z⟩,(sm.trans s4).newly hD, ?_⟩
 .have:=qD f i
  rw[sizeLine_eq];lia
 .rw[ak,dB,ef];rfl
theorem lD{n:Nat}(f:Nat->Option V)(hD:H1 D=none)(hx:n<=100000)(hs:∀i H (G:Hp->Prop) (F:VK),i<n->Same H1 H->(∀H',Same H H'->f i=none->G H')->(∀y H',Same H H'->f i=some y->F y H')->tc (some (.int (0+i))::rest) H λb H3=>if b=true then te (some (.int (0+i))::rest) H3 F else G H3)(hd:∀H,Same H1 H->H D=some (.lst ((List.range n).filterMap f))->Q (.ref D) H):lH (Yj 0 n) (gR 0) tc te Q D (none::rest) H1:=by
 refine mK (lo:=0) (n:=n) (λi σ H=>(∃v,σ=v::rest)/\Same H1 H/\H D=some (.lst ((List.range i).filterMap f))) ⟨⟨none,Z⟩,aD hD,ak⟩ ?_ (λσ H ⟨_,sm,e⟩=>hd H sm e);rintro i σ H hi ⟨⟨v,rfl⟩,sm,e⟩;refine hs i H _ _ hi sm (λH3 s3 ef=>⟨⟨_,Z⟩,sm.trans s3,by rw[s3 _ _ e,dB,ef];simp⟩) (λy H4 s4 ef=>?_);refine⟨_,s4 _ _ e, ?_,⟨_,Z⟩,(sm.trans s4).newly hD, ?_⟩
 .have:=qD f i
  rw[sizeLine_eq];lia
 .rw[ak,dB,ef];rfl
theorem Am{l1 l2:Addr}{ys:List V}{n:Nat}(hn1:xs.length=n)(hn2:ys.length=n)(f:Nat->Option V)(hD:H1 D=none)(hq1:bB K H1 l1 xs)(hq2:bB K H1 l2 ys)(hx:n<=100000)(hs:∀i x y H (G:Hp->Prop) (F:VK),xs[i]? = some x->ys[i]? = some y->Same H1 H->(∀H',Same H H'->f i=none->G H')->(∀y H',Same H H'->f i=some y->F y H')->tc (some x::some y::rest) H λb H3=>if b=true then te (some x::some y::rest) H3 F else G H3)(hd:∀H,Same H1 H->H D=some (.lst ((List.range n).filterMap f))->Q (.ref D) H):lH (Itz K l1 l2) (Z6 K 2 (Td (gR 0) (Td (gR 1) acP))) tc te Q D (none::none::rest) H1:=by
 refine T7 (K:=K) (xs:=xs) (ys:=ys) hn1 hn2 (λi σ H=>(∃u v,σ=u::v::rest)/\Same H1 H/\H D=some (.lst ((List.range i).filterMap f))) ⟨⟨none,none,Z⟩,aD hD,ak⟩ (λi σ H _ ⟨_,sm,_⟩=>⟨sm.sqL _ _ hq1,sm.sqL _ _ hq2⟩) ?_ (λσ H ⟨_,sm,e⟩=>hd H sm e);rintro i x y σ H p hix hiy ⟨⟨u,v,rfl⟩,sm,e⟩ hp;have sp:=aD (o:=HO.tup [x,y]) hp;refine⟨p,[x,y],Z,bO.of ak,Z,_,_,Z,_,_,Z,Z, ?_⟩;have hil:i<xs.length:=(aaf.mp hix).1;refine hs i x y _ _ _ hix hiy (sm.trans sp) (λH3 s3 ef=>⟨⟨_,_,Z⟩,(sm.trans sp).trans s3,by rw[s3 _ _ (sp _ _ e),dB,ef];simp⟩) (λy H4 s4 ef=>?_);refine⟨_,s4 _ _ (sp _ _ e), ?_,⟨_,_,Z⟩,((sm.trans sp).trans s4).newly hD, ?_⟩
 .have:=qD f i
  rw[sizeLine_eq];lia
 .rw[ak,dB,ef];rfl
theorem ou{α β:Type}{f g:α->Option β}:∀(l:List α)(_:True)(h:∀x∈l,f x=g x),l.filterMap f=l.filterMap g
 | [],_,_=>rfl
 | x::l,_,h=>by
   rw[List.filterMap_cons,List.filterMap_cons,h x (by simp),ou l trivial λy hy=>h y (by simp[hy])]
theorem snocInd{α:Type}{P:List α->Prop}(h0:P [])(hs:∀xs x,P xs->P (xs++[x]))(xs:List α):P xs:=by
 rw[←List.reverse_reverse xs]
 induction xs.reverse with
 | nil=>exact h0
 | cons x l ih=>rw[List.reverse_cons];exact hs _ _ ih
theorem Wu{α β:Type}(xs:List α)(g:α->β):(List.range xs.length).filterMap (λi=>(xs[i]?).map g)=xs.map g:=by
 refine snocInd (P:=λxs=>(List.range xs.length).filterMap (λi=>(xs[i]?).map g)=xs.map g) rfl (λxs x ih=>?_) xs
 .show (List.range (xs++[x]).length).filterMap (λi=>((xs++[x])[i]?).map g)=(xs++[x]).map g
  rw[aaS,aa4,dB,aaX];congr 1
  .rw[←ih]
   refine ou _ trivial λi hi=>?_;have:i<xs.length:=by simpa using hi
   rw[aaU this]
  .simp
theorem O6{α β:Type}(xs:List α)(p:α->Bool)(g:α->β):(List.range xs.length).filterMap (λi=>(xs[i]?).bind λx=>if p x then some (g x) else none)=(xs.filter p).map g:=by
 refine snocInd (P:=λxs=>(List.range xs.length).filterMap (λi=>(xs[i]?).bind λx=>if p x then some (g x) else none)=(xs.filter p).map g) rfl (λxs x ih=>?_) xs
 .show (List.range (xs++[x]).length).filterMap (λi=>((xs++[x])[i]?).bind λx=>if p x then some (g x) else none)=((xs++[x]).filter p).map g
  rw[aaS,aa4,dB,abL,aaX];congr 1
  .rw[←ih]
   refine ou _ trivial λi hi=>?_;have:i<xs.length:=by simpa using hi
   rw[aaU this]
  .cases h:p x<;>simp[h]
end
section
variable{X:Cx}{K:PySem.W.Frag}
theorem Rv(h:X.K=K):pR X (binaryOp .Add) (XD K):=by subst h;exact Vz
end
theorem qO{a b:TS}{D:Ends}{σ:St}{H:Hp}(h:∀R:St->Hp->Prop,(∀σ' H',b D σ' H'->R σ' H')->a {D with nx:=R} σ H):Qu a b D σ H:=h _ (λ_ _ x=>x)
theorem qP{a b:TS}{D:Ends}{σ:St}{H:Hp}(P:St->Hp->Prop)(h1:∀D':Ends,(∀σ' H',P σ' H'->D'.nx σ' H')->D'.rt=D.rt->a D' σ H)(h2:∀σ' H',P σ' H'->b D σ' H'):Qu a b D σ H:=h1 _ h2 rfl
end L2
namespace L2
open PySem PySem.Spec PyProof.Rows
section
variable{X:Cx}{K:PySem.W.Frag}{a:Expr}{ta:TE}{pos:Pos}
noncomputable def aeK(K:PySem.W.Frag)(ta:TE):TT:=λσ H Q=>ta σ H λx H'=>∃k,aaw K x H' k/\Q k H'
theorem Nz(h:X.K=K)(ha:PE X a ta)(he:∀whole,isTrue a X.env whole=(do let v ←whole;standAt a.pos;holding [v] (truthy v)):=by intro _;rfl):PT X a (aeK K ta):=by
 subst h;exact Ra ha he
end
section
variable{X:Cx}{K:PySem.W.Frag}
end
section
variable{K:PySem.W.Frag}{a D:Addr}{xs:List V}{te:TE}{Q:VK}{rest:St}{H1:Hp}
theorem pA{H:Hp}{vs:List V}{ds:List PyData}{v:V}{d:PyData}(h:aO H vs ds)(hd:Dat H v d):aO H (vs++[v]) (ds++[d]):=aO.append h (by simp only[aO,and_true];exact hd)
end
end L2
namespace L2
open PySem
noncomputable def Gv(mg:Str->Option Value)(x:Str)(v:V):Prop:=∃u,mg x=some u/\RelV v u
end L2
namespace L2
open PySem PySem.Spec PyProof.Rows
section
variable{prog:Program}{w:World}{K:Type}[DecidableEq K]{knd:HeapKind prog w K}
end
section
variable{X:Cx}{o e f:Expr}{td ty tx:TE}{apos cpos:Pos}
end
section
variable{X:Cx}{K:PySem.W.Frag}
end
end L2
namespace L2
open PySem
end L2
namespace L2
open PySem PySem.Spec PyProof.Rows
section
variable{X:Cx}{K:PySem.W.Frag}
end
noncomputable def cat:List Str->Str
 | []=>Str.empty
 | x::xs=>x++cat xs
section
variable{X:Cx}{body suite:List Stmt}{b0:Stmt}{cn:Str}{Dc:Addr}{tb:(St->XK)->TS}{th:TS}{cp hpos pos:Pos}
end
section
variable{X:Cx}
noncomputable def adg(i j:Int):Prop:=0<j/\j<1329227995784915872903807060280344576
theorem Ru:pR X (binaryOp .FloorDiv) (rI adg λi j=> .int (i / j)):=opI λi j _ _ _ _ _ hc q=>by
 have h1:(0:Int)<j:=hc.1;have h2:j<1329227995784915872903807060280344576:=hc.2;refine floordiv_int (by lia) (by rw[Int.fdiv_eq_ediv_of_nonneg i (by lia)];exact q) (.inl ?_);unfold Builtin.divisionGoesByPylong;have hn:j.natAbs<2 ^ 120:=by lia
 have hl:j.natAbs.log2<120:=(Nat.log2_lt (by lia)).mpr hn
 have hz:(j==0)=false:=by
  rw[beq_eq_false_iff_ne];lia
 simp only[hz,Bool.false_eq_true,if_false];have:¬j.natAbs.log2 / 30+1>300:=by lia
 rw[aaN this,Bool.false_and]
end
section
variable{X:Cx}{pins:List (Addr×Obj)}{σ:St}{H:Hp}{s:Shared}{d:Addr}{u u':HO}
theorem Inv.Xy(I:Inv X pins σ H s)(e:H d=some u)(h1:∀xs,u ≠ .tup xs)(h2:∀a,u ≠ .own a)(h3:∀ps,u ≠ .Va ps)(hz:∀o v,X.H₀ d≠some (.mJ o v))(ok:cW X.prog X.w (upd H d u') s.heap d u'):Inv X pins σ (upd H d u') s:=by
 have nd:∀{b:Addr},H b=none->b≠d:=λq z=>by rw[z,e] at q;cases q
 have ht:∀b xs,H b=some (HO.tup xs)->(upd H d u') b=some (HO.tup xs):=λb xs q=>by
  have:b≠d:=λz=>by rw[z,e] at q;exact h1 xs (aaR q)
  rw[aF this];exact q
 refine⟨I.ok,I.os,I.bare,⟨I.base.keep,I.base.slot,λb o q n hx=>?_,I.base.there,λb xs q=>ht b xs (I.base.tups b xs q),λb o v q=>?_,λb ps q=>?_⟩,I.loc,I.cell, ?_,λx c q=>?_,λp hp=>?_,λb v q=>?_,I.len⟩
 .have:=I.base.free b o q n hx
  rw[aF (nd this)];exact this
 .have:=I.base.uw b o v q
  have nb:b≠d:=λz=>by rw[z] at q;exact hz o v q
  rw[aF nb];exact this
 .obtain⟨more,r⟩:=I.base.v9 b ps q
  have nb:b≠d:=λz=>by rw[z,e] at r;exact h3 _ (aaR r)
  exact⟨more,by rw[aF nb];exact r⟩
 .rw[aF (nd I.free)];exact I.free
 .rw[aF (nd (I.lC x c q))];exact I.lC x c q
 .obtain⟨q1,q2,q3⟩:=I.pin p hp
  exact⟨q1,by rw[aF (nd q2)];exact q2,q3⟩
 .by_cases hb:b=d
  .subst hb
   rw[ak] at q;cases q;exact ok
  .rw[aF hb] at q
   refine(I.hok b v q).stay (λ_ _ _ r=>r) (λc r=>?_) ht;have:c≠d:=λz=>by rw[z,e] at r;exact h2 _ (aaR r)
   rw[aF this];exact r
theorem Inv.XQ{kvs:List (Key×V)}(I:Inv X pins σ H s)(e:H d=some (.dK kvs)):∀o v,X.H₀ d≠some (.mJ o v):=λo v q=>by
 have:=I.base.uw d o v q;rw[e] at this;cases this
theorem Inv.freeze{kvs:List (Key×V)}{o:Obj}(I:Inv X pins σ H s)(e:H d=some (.dK kvs))(ho:s.heap.get? d=some o):Inv X pins σ (upd H d (.mJ o (.dK kvs))) s:=by
 refine I.Xy e (λ_ z=>by cases z) (λ_ z=>by cases z) (λ_ z=>by cases z) (I.XQ e) ⟨ho, ?_⟩;obtain⟨z,y,vs,r,dd⟩:=(show cW X.prog X.w H s.heap d (.dK kvs) from I.hok d _ e);exact⟨z,y,vs,r,dd⟩
theorem Inv.aey{kvs:List (Key×V)}{o:Obj}(I:Inv X pins σ H s)(e:H d=some (.mJ o (.dK kvs)))(hz:∀o v,X.H₀ d≠some (.mJ o v)):Inv X pins σ (upd H d (.dK kvs)) s:=by
 refine I.Xy e (λ_ z=>by cases z) (λ_ z=>by cases z) (λ_ z=>by cases z) hz ?_;obtain⟨_,z,y,vs,r,dd⟩:=(show cW X.prog X.w H s.heap d (.mJ o (.dK kvs)) from I.hok d _ e);exact⟨z,y,vs,r,dd⟩
end
noncomputable def Itd(d:Addr)(o:Obj)(kvs:List (Key×V)):It:=
 ⟨λi H=>i<kvs.length/\H d=some (.mJ o (.dK kvs)),λi H x H'=>H'=H /\ ∃k v,kvs[i]? = some (k,v)/\x=kV k,λi H=>kvs.length<=i/\H d=some (.mJ o (.dK kvs))⟩
theorem ZJ{kvs:List (Key×V)}{vs:List (Key×Value)}(r:KV kvs vs):∀(i:Nat)(k:Key)(v:V),kvs[i]? = some (k,v) -> ∃u,vs[i]? = some (k,u):=by
 induction r with
 | nil=>intro i k v h;cases h
 | cons h r ih=>
   intro i k v e;cases i with
   | zero=>
     have e':=aaR e;rename_i p q _ _;obtain⟨h1,h2⟩:=h;obtain⟨q1,q2⟩:=q;refine⟨q2, ?_⟩;have:q1=k:=by rw[e'] at h1;exact h1.symm
     subst this;rfl
   | succ i=>exact ih i k v (by simpa using e)
theorem Nf{P:Program}{w:World}{K:PySem.W.Frag}{tg:Expr}(d it:Addr)(o:Obj)(kvs:List (Key×V))(es:Array DictEntry)(ep:Nat)(hd:o.data = .dict es ep):Turn P w K tg (Itd d o kvs) [it] it (λi h=>h.IsKeyIter it d i kvs.length ep) where
 mem:=by simp
 obj:=λi h st b hb=>by
  have e:b=it:=by simpa using hb
  subst e;obtain⟨o,e,c,d⟩:=st;exact⟨o,e,λv z=>by rw[d] at z;cases z⟩
 keep:=λi h h' st k=>by
  obtain⟨o,e,c,d⟩:=st;exact⟨o,k it (by simp) o e,c,d⟩
 item:=by
  intro X hP hw hK hc i pins s σ H E I hf st hg;subst hP hw hK;obtain⟨hi,hH⟩:=hg;obtain⟨ho,z,y,vs,r,o',es',ep',q1,q2,q3,q4,q5,q6⟩:=(show cW X.prog X.w H s.heap d (.mJ o (.dK kvs)) from I.hok d _ hH);rw[ho] at q1;cases q1;rw[hd] at q3;cases q3;have hl:kvs.length=vs.length:=r.length;obtain⟨k,v,ekv⟩:∃k v,kvs[i]? = some (k,v):=⟨kvs[i].1,kvs[i].2,by simp[hi]⟩;obtain⟨u,eu⟩:=ZJ r i k v ekv;obtain⟨f0,f1,f2,f3,f4,f5⟩:=hf it (by simp);refine wpAny_pyNext_dict_item (knd:=cU X.prog X.w) (by rw[←hl];exact st) ⟨o,es,ho,q2,hd,q4,q5,q6⟩ eu λkey h' hk st' sb=>?_;have I1:Inv X pins σ H {s with heap:=h'}:=I.turned (t':=s.toks) (λb o hb e=>(sb.2 b hb).trans e) f0 f1 f3 f4 f5;obtain⟨ob,e,c,dd⟩:=id st'
  have rk:RelV (kV k) key:=by
   rw[Je] at hk;rcases dJ hk with ⟨j,t,e1,e2⟩|⟨x,t,e1,e2⟩
   .subst e1;subst e2;exact⟨t,Z⟩
   .subst e1;subst e2;exact⟨t,Z⟩
  exact⟨key,Z,yx (s:={s with heap:=h'}) e c dd (by decide) ⟨kV k,H,I1,rk,⟨Z,k,v,ekv,Z⟩,by rw[hl];exact st',λb hb=>(hf b hb).1⟩⟩
 done:=by
  intro X hP hw hK hc i pins s σ H E I hf st hg;subst hP hw hK;obtain⟨hi,hH⟩:=hg;obtain⟨ho,z,y,vs,r,o',es',ep',q1,q2,q3,q4,q5,q6⟩:=(show cW X.prog X.w H s.heap d (.mJ o (.dK kvs)) from I.hok d _ hH);rw[ho] at q1;cases q1;rw[hd] at q3;cases q3;have hl:kvs.length=vs.length:=r.length;obtain⟨f0,f1,f2,f3,f4,f5⟩:=hf it (by simp);exact wpAny_pyNext_dict_end (knd:=cU X.prog X.w) (I.ok.hd hc) (by rw[←hl];exact st) ⟨o,es,ho,q2,hd,q4,q5,q6⟩ (by simp;lia) λh' eb=>⟨Z,I.turned (t':=s.toks) (λb o hb e=>eb b o hb e) f0 f1 f3 f4 f5⟩
 self:=λ_ _ _ _ _ st h=>wpAny_pyIter_keyiter st h
section
variable{X:Cx}{tg:Expr}
noncomputable def aco(tl:TE):TI:=λσ H R=>tl σ H λx H1=>∃d kvs,x = .ref d/\H1 d=some (.dK kvs) /\ ∀o,R (Itd d o kvs) (upd H1 d (.mJ o (.dK kvs)))
theorem Le{l:Expr}{tl:TE}(hl:PE X l tl):PI X tg l (aco tl):=by
 intro pins s σ H R I h;refine cY (hl pins s σ H _ I h) λv s1 gW=>?_;obtain⟨x,H1,I1,r1,q1⟩:=gW;obtain⟨d,kvs,e,hH,q⟩:=q1;subst e;cases r1;obtain⟨z,hd,vs,r,o,es,ep,ho,q2,q3,q4,q5,q6⟩:=Tt I1.hok hH;refine wpAny_pyIter_dict (knd:=cU X.prog X.w) hd ⟨o,es,ho,q2,q3,q4,q5,q6⟩ ?_;have If:=I1.freeze hH ho;have hl:kvs.length=vs.length:=r.length
 have ZC:(upd H1 d (HO.mJ o (.dK kvs))) s1.heap.objs.size=none:=by
  rw[aF (Ne.symm (aaV (aal ho)))];exact I1.hok.fresh (aap _)
 refine⟨s1.heap.objs.size,[s1.heap.objs.size],_,_,upd H1 d (.mJ o (.dK kvs)),Z,If.kept (t':=s1.toks) λb o e=>aai _ e,Nf d _ o kvs es ep q3,⟨_,aaj _ rfl,Z,by rw[hl];rfl⟩,λb hb=>?_,q o⟩;have e:b=s1.heap.objs.size:=by simpa using hb
 subst e;exact If.vo (aap _) ZC
end
section
variable{d D:Addr}{o:Obj}{kvs:List (Key×V)}{tc:TT}{te:TE}{Q:VK}{rest:St}{H1:Hp}
theorem Pk(f:Nat->Option V)(hD:H1 D=none)(hq:H1 d=some (.mJ o (.dK kvs)))(hx:kvs.length<=100000)(hs:∀i k v H (G:Hp->Prop) (F:VK),kvs[i]? = some (k,v)->Same H1 H->(∀H',Same H H'->f i=none->G H')->(∀y H',Same H H'->f i=some y->F y H')->tc (some (kV k)::rest) H λb H3=>if b=true then te (some (kV k)::rest) H3 F else G H3)(hd:∀H,Same H1 H->H D=some (.lst ((List.range kvs.length).filterMap f))->Q (.ref D) H):lH (Itd d o kvs) (gR 0) tc te Q D (none::rest) H1:=by
 refine⟨λi m σ H=>m=kvs.length - i/\i<=kvs.length/\(∃v,σ=v::rest)/\Same H1 H/\H D=some (.lst ((List.range i).filterMap f)),⟨kvs.length,by simp,Nat.zero_le _,⟨none,Z⟩,aD hD,ak⟩, ?_⟩;rintro i m σ H ⟨rfl,hi,⟨v,rfl⟩,sm,e⟩
 by_cases hlt:i<kvs.length
 .refine .inr ⟨⟨hlt,sm _ _ hq⟩,λσ' H'=>i+1<=kvs.length/\(∃v,σ'=v::rest)/\Same H1 H'/\H' D=some (.lst ((List.range (i+1)).filterMap f)),λσ' H' p'=>⟨kvs.length - (i+1),by lia,Z,p'⟩,λx H' y=>?_⟩
  obtain⟨rfl,k,w,ekv,rfl⟩:=y;refine hs i k w _ _ _ ekv sm (λH3 s3 ef=>⟨hlt,⟨_,Z⟩,sm.trans s3,by rw[s3 _ _ e,dB,ef];simp⟩) (λy H4 s4 ef=>?_);refine⟨_,s4 _ _ e, ?_,hlt,⟨_,Z⟩,(sm.trans s4).newly hD, ?_⟩
  .have:=qD f i
   rw[sizeLine_eq];lia
  .rw[ak,dB,ef];rfl
 .have e':i=kvs.length:=by lia
  subst e';exact .inl ⟨⟨aap _,sm _ _ hq⟩,hd H sm e⟩
end
noncomputable def ahE(H H' H'':Hp):Prop:=∃d acd o kvs,H d=some (.dK acd)/\H' d=some (.mJ o (.dK kvs))/\H''=upd H' d (.dK kvs)
noncomputable def abJ(t:TS):TS:=λD σ H=>t {D with nx:=λσ' H'=>∃H'',ahE H H' H''/\D.nx σ' H''} σ H
theorem K9{X:Cx}{st:Stmt}{t:TS}(h:PS X st t):PS X st (abJ t):=by
 intro pins s σ H D I q;refine wpAny_mono (h pins s σ H _ I q) (λf s1 q1=>?_) λ_ _ z=>z;cases f with
 | next=>
   obtain⟨σ1,H1,I1,H2,⟨d,acd,o,kvs,e1,e2,rfl⟩,q2⟩:=q1;exact⟨σ1,_,I1.aey e2 (I.XQ e1),q2⟩
 | brk=>exact q1
 | cont=>exact q1
 | ret u=>exact q1
theorem Tf{d:Addr}{o:Obj}{kvs:List (Key×V)}{g:TG}{tb:TS}{D:Ends}{σ:St}{H:Hp}(Pv:Nat->St->Hp->Prop)(h0:Pv 0 σ H)(hl:∀i σ H,i<=kvs.length->Pv i σ H->H d=some (.mJ o (.dK kvs)))(hs:∀i k v σ H,kvs[i]? = some (k,v)->Pv i σ H->g (kV k) σ H λσ2 H2=>tb {D with nx:=Pv (i+1),ct:=Pv (i+1),bk:=D.nx} σ2 H2)(hd:∀σ H,Pv kvs.length σ H->D.nx σ H):
 ∃W:Nat->Nat->St->Hp->Prop,(∃m,W 0 m σ H) /\ ∀i m σ H,W i m σ H ->
  ((Itd d o kvs).stop i H/\D.nx σ H)\/((Itd d o kvs).go i H /\ ∃N:St->Hp->Prop,(∀σ' H',N σ' H' -> ∃m',m'<m/\W (i+1) m' σ' H') /\ ∀x H',(Itd d o kvs).UL i H x H'->g x σ H' λσ2 H2=>tb {D with nx:=N,ct:=N,bk:=D.nx} σ2 H2):=by
 refine⟨λi m σ H=>m=kvs.length - i/\i<=kvs.length/\Pv i σ H,⟨kvs.length,by simp,Nat.zero_le _,h0⟩, ?_⟩;rintro i m σ H ⟨rfl,hi,p⟩;have q:=hl i σ H hi p
 by_cases hlt:i<kvs.length
 .refine .inr ⟨⟨hlt,q⟩,Pv (i+1),λσ' H' p'=>⟨kvs.length - (i+1),by lia,Z,hlt,p'⟩,λx H' y=>?_⟩
  obtain⟨rfl,k,v,e,rfl⟩:=y;exact hs i k v σ _ e p
 .have e:i=kvs.length:=by lia
  subst e;exact .inl ⟨⟨aap _,q⟩,hd σ H p⟩
noncomputable def zE(hs:List Int)(g:Int->Int):List (Key×V):=hs.map λh=>(Sum.inl h,V.int (g h))
theorem Cz{hs:List Int}{g:Int->Int}:∀(h:Int),gn (zE hs g) (Sum.inl h)=if h∈hs then some (V.int (g h)) else none:=by
 intro h
 induction hs with
 | nil=>rfl
 | cons x hs ih=>
   show gn ((Sum.inl x,V.int (g x))::zE hs g) _=_
   by_cases e:x=h
   .subst e
    rw[eF rfl,abW (List.mem_cons_self ..)]
   .rw[dZ (λz=>e (Sum.inl.inj z)),ih]
    by_cases m:h∈hs
    .rw[abW m,abW (aa0 _ m)]
    .rw[abN m,abN (λz=>(List.mem_cons.mp z).elim (λz=>e z.symm) m)]
noncomputable def Gs(g:Int->Int)(h v:Int):Int->Int:=λx=>if x=h then v else g x
noncomputable def hAdd(hs:List Int)(h:Int):List Int:=if h∈hs then hs else hs++[h]
theorem Wb{hs:List Int}{g:Int->Int}(h v:Int):putK (zE hs g) (Sum.inl h) (V.int v)=zE (hAdd hs h) (Gs g h v):=by
 unfold putK hAdd;rw[jz,Cz]
 by_cases m:h∈hs
 .rw[abW m,Option.isSome_some,abW rfl,abW m]
  unfold zE;rw[List.map_map];refine List.map_congr_left λx _=>?_;simp only[Function.comp,Gs]
  by_cases e:x=h
  .subst e;simp
  .rw[abN (λz=>e (Sum.inl.inj z)),abN e]
 .rw[abN m,abN (by simp),abN m]
  unfold zE;rw[aaX];congr 1
  .refine List.map_congr_left λx hx=>?_
   have:x≠h:=λz=>m (z▸hx);simp only[Gs,abN this]
  .simp[Gs]
theorem xR:∀(n:Nat)(hs:List Int),hs.Nodup->(∀h∈hs,0<=h/\h<(n:Int))->hs.length<=n
 | 0,hs,_,hr=>by
   cases hs with
   | nil=>exact aap _
   | cons x hs=>have:=hr x (List.mem_cons_self ..);lia
 | n+1,hs,nd,hr=>by
   have ih:=xR n (hs.erase (n:Int)) (nd.erase _) λh hh=>by
    have h1:=(nd.mem_erase_iff).mp hh;have h2:=hr h h1.2;have:=h1.1;lia
   by_cases m:(n:Int)∈hs
   .rw[List.length_erase_of_mem m] at ih;lia
   .rw[List.erase_of_not_mem m] at ih;lia
theorem Wr{hs:List Int}{h:Int}(nd:hs.Nodup):(hAdd hs h).Nodup:=by
 unfold hAdd
 by_cases m:h∈hs
 .rw[abW m];exact nd
 .rw[abN m]
  rw[List.nodup_append];exact⟨nd,by simp,λa ha b hb e=>by simp at hb;subst hb;subst e;exact m ha⟩
theorem yw{hs:List Int}{h x:Int}:x∈hAdd hs h↔x∈hs\/x=h:=by
 unfold hAdd
 by_cases m:h∈hs
 .rw[abW m]
  exact⟨.inl,λz=>z.elim id λe=>e▸m⟩
 .rw[abN m];simp
structure jo(H:Hp)(d:Addr)(g:Int->Int):Prop where
 ex:∃hs:List Int,H d=some (.dK (zE hs g))/\hs.Nodup/\(∀h∈hs,0<=h/\h<8) /\ ∀h,h∉hs->g h=0
 nn:∀h,0<=g h
theorem jo.get{H:Hp}{d:Addr}{g:Int->Int}(k:jo H d g):∃kvs,H d=some (.dK kvs)/\kvs.length<=8 /\ ∀h:Int,(gn kvs (Sum.inl h)).getD (.int 0) = .int (g h):=by
 obtain⟨hs,e,nd,r,z⟩:=k.ex;refine⟨_,e,by rw[zE,aad];exact xR 8 hs nd r,λh=>?_⟩;rw[Cz]
 by_cases m:h∈hs
 .rw[abW m];rfl
 .rw[abN m,z h m];rfl
theorem jo.put{H:Hp}{d:Addr}{g:Int->Int}{h v:Int}(k:jo H d g)(h0:0<=h)(h1:h<8)(v0:0<=v):∃kvs,H d=some (.dK kvs)/\kvs.length<sizeLine /\ ∀H',H' d=some (.dK (putK kvs (Sum.inl h) (.int v)))->jo H' d (Gs g h v):=by
 obtain⟨hs,e,nd,r,z⟩:=k.ex;refine⟨_,e, ?_,λH' e'=>⟨⟨hAdd hs h,by rw[e',Wb],Wr nd,λx hx=>?_,λx hx=>?_⟩,λx=>?_⟩⟩
 .have:=xR 8 hs nd r
  rw[zE,aad,sizeLine_eq];lia
 .rcases yw.mp hx with hx|rfl
  .exact r x hx
  .exact⟨h0,h1⟩
 .have n1:x∉hs:=λz=>hx (yw.mpr (.inl z))
  have n2:x≠h:=λz=>hx (yw.mpr (.inr z));unfold Gs;rw[abN n2];exact z x n1
 .unfold Gs
  split
  .exact v0
  .exact k.nn x
theorem jo.kp{H H':Hp}{d r:Addr}{g:Int->Int}(k:jo H d g)(kp:Kp r H H')(n:d≠r):jo H' d g:=by
 obtain⟨hs,e,q⟩:=k.ex;exact⟨⟨hs,kp _ _ e n,q⟩,k.nn⟩
theorem jo.same{H H':Hp}{d:Addr}{g:Int->Int}(k:jo H d g)(s:Same H H'):jo H' d g:=by
 obtain⟨hs,e,q⟩:=k.ex;exact⟨⟨hs,s _ _ e,q⟩,k.nn⟩
theorem jo.ext{H:Hp}{d:Addr}{g g':Int->Int}(k:jo H d g)(e:∀h,g h=g' h):jo H d g':=by
 have:g=g':=funext e;rw[←this];exact k
noncomputable def Ur(hi:Int)(n:Nat):It:=⟨λi _=>i<n,λi H x H'=>H'=H/\x = .int (hi - i),λi _=>n<=i⟩
theorem Ei{P:Program}{w:World}{K:PySem.W.Frag}{tg:Expr}(it:Addr)(hi:Int)(n:Nat):Turn P w K tg (Ur hi n) [it] it (λi h=>IsRangeIter h it (hi+(i:Nat)*(-1)) ((n:Int) - (i:Nat)) (-1)) where
 mem:=by simp
 obj:=λi h st b hb=>by
  have e:b=it:=by simpa using hb
  subst e
  exact⟨_,st,λv z=>by
   have z':Data.fields _=Data.cell v:=z;cases z'⟩
 keep:=λi h h' st k=>k it (by simp) _ st
 item:=by
  intro X hP hw hK hc i pins s σ H E I hf st hg;subst hP hw hK;obtain⟨f0,f1,f2,f3,f4,f5⟩:=hf it (by simp);have W:=Walks.range (prog:=X.prog) (w:=X.w) (I.ok.hd hc) it hi (-1) n;refine W.item i s _ _ hg st λv h' tk hv st' kk=>?_;obtain⟨t,rfl⟩:=hv;have I1:Inv X pins σ H {s with heap:=h',toks:=tk}:=I.turned (λb o hb e=>kk b o (by simpa using hb) e) f0 f1 f3 f4 f5;refine⟨_,Z,yx (s:={s with heap:=h',toks:=tk}) (n:= "range_iterator") st' rfl rfl (by decide) ⟨.int (hi - i),H,I1,⟨t, ?_⟩,⟨Z,Z⟩,st',λb hb=>(hf b hb).1⟩⟩;congr 1;lia
 done:=by
  intro X hP hw hK hc i pins s σ H E I hf st hg;subst hP hw hK;obtain⟨f0,f1,f2,f3,f4,f5⟩:=hf it (by simp);exact wpAny_pyNext_range_end (I.ok.hd hc) st (by have:n<=i:=hg;lia) λh' eb=>⟨Z,I.turned (t':=s.toks) (λb o hb e=>eb b o hb e) f0 f1 f3 f4 f5⟩
 self:=λ_ _ _ _ _ st h=>wpAny_pyIter_rangeiter st h
section
variable{X:Cx}{tg:Expr}
theorem Xx(a b:Int):Builtin.Range.rangeSize a b (-1)=if a>b then a - b else 0:=by
 unfold Builtin.Range.rangeSize;rw[abN (by decide)];split
 .simp
 .rfl
theorem Nj{a b:Int}(h1: -(2 ^ 61)<=a)(h2:a<2 ^ 61)(h3: -(2 ^ 61)<=b)(h4:b<2 ^ 61):Builtin.Range.small a b (-1)=true:=by
 unfold Builtin.Range.small;rw[Xx]
 have fits:∀z:Int, -(2 ^ 63)<=z->z<2 ^ 63->Builtin.Range.rangeFitsLong z=true:=λz l1 l2=>by
  unfold Builtin.Range.rangeFitsLong;rw[aaM l1,aaM l2];rfl
 have f1:=fits (if a>b then a - b else 0) (by split<;>lia) (by split<;>lia);have f2:=fits (b+(-1+1)) (by lia) (by lia);simp only[fits a (by lia) (by lia),fits b (by lia) (by lia),fits (-1) (by decide) (by decide),f1,f2,Bool.and_self,Bool.true_and,show ¬((-1:Int)>0) by decide,if_false,Bool.or_true]
noncomputable def aci(ta:TA):TI:=λσ H R=>ta σ H λvs H1=>∃i j:Int,vs=[.int i,.int j,.int (-1)]/\(-(2 ^ 61)<=i/\i<2 ^ 61 /\ -(2 ^ 61)<=j/\j<2 ^ 61)/\R (Ur i (i - j).toNat) H1
theorem tZ{a b c:Expr}{ta:TA}{p pos:Pos}(hg:Gl X "range")(hm:X.mg "range" = none)(ha:PA X [a,b,c] ta)(hs:starEach [a,b,c] X.env=[(false,eval a X.env),(false,eval b X.env),(false,eval c X.env)]:=by rfl)(hs2:starEach [b,c] X.env=[(false,eval b X.env),(false,eval c X.env)]:=by rfl):
 PI X tg (.Call (.Name "range" p) [a,b,c] [] pos) (aci ta):=by
 intro pins s σ H R I h;refine Call_ (qw I hg hm boot_range (PyProof.Rows.callWith_type1 (cY (ha pos pins s σ H _ I h) λus s1 ⟨vs,H1,I1,r1,q1⟩=>?_) (by rw[hs,hs2]) (by rw[hs2];rfl)));obtain⟨i,j,e,⟨q1,q2,q3,q4⟩,q⟩:=q1;subst e;cases r1 with
 | cons r rr=>
   cases rr with
   | cons r' rr=>
     cases rr with
     | cons r'' rr=>
       cases rr;obtain⟨t,rfl⟩:=r;obtain⟨t',rfl⟩:=r';obtain⟨t'',rfl⟩:=r'';refine call_range_3 (by decide) ?_ (.inl (PyProof.noPylong_small (by decide)));refine wpAny_pyIter_range (IsRange.new ..) (Nj q1 q2 q3 q4) ?_;have I2:Inv X pins σ H1 {s1 with heap:=s1.heap.push {cls:= .type "range",data:= .fields #[.int i t,.int j t',.int (-1) t'']}}:=I1.kept (t':=s1.toks) λb o e=>aai _ e
       refine⟨(s1.heap.push {cls:= .type "range",data:= .fields #[.int i t,.int j t',.int (-1) t'']}).objs.size,[(s1.heap.push {cls:= .type "range",data:= .fields #[.int i t,.int j t',.int (-1) t'']}).objs.size],_,_,H1,Z,
        I2.kept (t':=s1.toks) λb o e=>aai _ e,Ei _ i (i - j).toNat, ?_,λb hb=>?_,q⟩
       .have e1:i+((0:Nat):Int)*(-1)=i:=by simp
        have e2:(((i - j).toNat:Nat):Int) - ((0:Nat):Int)=Builtin.Range.rangeSize i j (-1):=by rw[Xx];split<;>lia
        show IsRangeIter _ _ (i+((0:Nat):Int)*(-1)) ((((i - j).toNat:Nat):Int) - ((0:Nat):Int)) (-1);rw[e1,e2];exact aaj _ rfl
       .have e:b=(s1.heap.push {cls:= .type "range",data:= .fields #[.int i t,.int j t',.int (-1) t'']}).objs.size:=by simpa using hb
        subst e;exact I2.vo (aap _) (I2.hok.fresh (aap _))
theorem qC{hi:Int}{n:Nat}{g:TG}{tb:TS}{D:Ends}{σ:St}{H:Hp}(Pv:Nat->St->Hp->Prop)(h0:Pv 0 σ H)(hs:∀i σ H,i<n->Pv i σ H->g (.int (hi - i)) σ H λσ2 H2=>tb {D with nx:=Pv (i+1),ct:=Pv (i+1),bk:=D.nx} σ2 H2)(hd:∀σ H,Pv n σ H->D.nx σ H):
 ∃W:Nat->Nat->St->Hp->Prop,(∃m,W 0 m σ H) /\ ∀i m σ H,W i m σ H ->
  ((Ur hi n).stop i H/\D.nx σ H)\/((Ur hi n).go i H /\ ∃N:St->Hp->Prop,(∀σ' H',N σ' H' -> ∃m',m'<m/\W (i+1) m' σ' H') /\ ∀x H',(Ur hi n).UL i H x H'->g x σ H' λσ2 H2=>tb {D with nx:=N,ct:=N,bk:=D.nx} σ2 H2):=by
 refine⟨λi m σ H=>m=n - i/\i<=n/\Pv i σ H,⟨n,by simp,Nat.zero_le _,h0⟩, ?_⟩;rintro i m σ H ⟨rfl,hi',p⟩
 by_cases hlt:i<n
 .refine .inr ⟨hlt,Pv (i+1),λσ' H' p'=>⟨n - (i+1),by lia,Z,hlt,p'⟩,λx H' y=>?_⟩
  obtain⟨e,y⟩:=y;subst e y;exact hs i σ _ hlt p
 .have e:i=n:=by lia
  subst e;exact .inl ⟨aap _,hd σ H p⟩
theorem u0(v:Nat->Int):∀n,argBest (λi j=>decide (v i<v j)) n<=n /\ ∀j,j<=n->v (argBest (λi j=>decide (v i<v j)) n)<=v j
 | 0=>⟨aap _,λj hj=>by
   have:j=0:=by lia
   subst this;exact Int.le_refl _⟩
 | n+1=>by
   obtain⟨l,ih⟩:=u0 v n;have e:argBest (λi j=>decide (v i<v j)) (n+1)=if decide (v (n+1)<v (argBest (λi j=>decide (v i<v j)) n)) then n+1 else argBest (λi j=>decide (v i<v j)) n:=Z;rw[e]
   by_cases q:v (n+1)<v (argBest (λi j=>decide (v i<v j)) n)
   .rw[aaM q,abW rfl]
    refine⟨aap _,λj hj=>?_⟩
    by_cases hj':j=n+1
    .subst hj';exact Int.le_refl _
    .have:=ih j (by lia)
     lia
   .rw[aaN q,abN (by decide)]
    refine⟨by lia,λj hj=>?_⟩
    by_cases hj':j=n+1
    .subst hj';lia
    .exact ih j (by lia)
noncomputable def abR(K:PySem.W.Frag):List V->Hp->VK->Prop:=λxs H Q=>∃(p:Addr) (ns:List Int),xs=[.ref p]/\bB K H p (ns.map V.int)/\0<ns.length /\ ∀m,m∈ns->(∀a∈ns,m<=a)->Q (.int m) H
theorem JG{K:PySem.W.Frag}(hK:X.K=K)(hc:X.calm=true):jr X (.builtin "min") (abR K):=by
 subst hK;intro pins s σ H xs us Q I r h;obtain⟨p,ns,rfl,hq,hpos,q⟩:=h;obtain⟨u,rfl,rx⟩:=vals1 r;cases rx;obtain⟨its,rv,pl,hz⟩:=I.list hq;have hlen:its.length=ns.length:=by rw[←rv.length,aad]
 have item:∀(i:Nat)(v:Value),its[i]? = some v -> ∃t,v=Value.int ((ns[i]?).getD 0) t/\ns[i]? = some ((ns[i]?).getD 0):=by
  intro i v hP;have hi:i<its.length:=(aaf.mp hP).1;obtain⟨u,hu,ru⟩:=rv.get (i:=i) (x:=V.int (ns[i]'(by lia))) (by simp[show i<ns.length by lia]);rw[hP] at hu;cases hu;obtain⟨t,ht⟩:=ru;exact⟨t,by simp[show i<ns.length by lia,ht],by simp[show i<ns.length by lia]⟩
 refine call_min_walk (wpAny_pyIter_list pl.isList ⟨s.heap.objs.size,[s.heap.objs.size,p],[s.heap.objs.size],its.length,_,_,λi j=>decide ((ns[i]?).getD 0<(ns[j]?).getD 0),Z,
  v7 (show X.A.in1.handled=none from I.ok.hd hc) s.heap.objs.size p ?_ its,⟨⟨_,aaj _ rfl,Z,Z⟩, ?_⟩, ?_,by lia, ?_, ?_⟩)
 .intro z
  obtain⟨o,ho,_⟩:=pl.isList;have:=aal ho;rw[←z] at this;exact abF _ this
 .obtain⟨o,ho,hcl⟩:=pl.isList
  exact⟨o,aai _ ho,hcl⟩
 .intro b hb
  have hsz:(s.heap.push {cls:= .type "list_iterator",data:= .fields #[.ref p,.int 0 0]}).objs.size=s.heap.objs.size+1:=by simp[Heap.push]
  have hb':b=s.heap.objs.size\/b=p:=by simpa using hb
  show b<(s.heap.push _).objs.size;rw[hsz];rcases hb' with rfl|rfl
  .exact Nat.lt_succ_self _
  .obtain⟨o,ho,_⟩:=pl.isList
   exact Nat.lt_succ_of_lt (aal ho)
 .intro i j vi vj s' Q' E' hi hj hQ
  obtain⟨t,rfl,_⟩:=item i vi hi;obtain⟨t',rfl,_⟩:=item j vj hj;exact lt_int hQ
 .intro v h' tk hv k
  obtain⟨t,rfl,hm⟩:=item _ v hv;obtain⟨l,ih⟩:=u0 (λi=>(ns[i]?).getD 0) (its.length - 1);have f:=I.vo (H':=H) (b:=s.heap.objs.size) (aap _) (I.hok.fresh (aap _));have I2:Inv X pins σ H {s with heap:=h',toks:=tk}:=I.turned (h':=h') (t':=tk) (it:=s.heap.objs.size) (λb o hb e=>k b o (by simpa using hb) (aai _ e)) f.1 f.2.1 f.2.2.2.1 f.2.2.2.2.1 f.2.2.2.2.2;refine⟨.int _,H,I2,⟨_,Z⟩,q _ (aaL hm) λa ha=>?_⟩;obtain⟨j,hj⟩:=List.getElem?_of_mem ha;have hjl:=(aaf.mp hj).1;have:=ih j (by lia);simpa [hj] using this
end
section
variable{X:Cx}{tg:Expr}
end
noncomputable def ae9(K:PySem.W.Frag)(neg:Bool):R2:=λx y H Q=>∃(p:Addr) (vs:List V) (d:PyData) (ds:List PyData),y = .ref p/\bB K H p vs/\aO H vs ds/\Dat H x d/\SeqAt.shaped d=true/\(∀e∈ds,SeqAt.shaped e=true)/\Q (.bl (if neg then !(ds.any λe=>PyData.eqv e d) else ds.any λe=>PyData.eqv e d)) H
section
variable{X:Cx}
theorem Kv{H:Hp}{pins:List (Addr×Obj)}{σ:St}{s:Shared}(I:Inv X pins σ H s):∀{vs:List V}{us:List Value}{ds:List PyData},Vals vs us->aO H vs ds -> ∀u∈us,∃e∈ds,∃as,Reads s.heap u e as
 | [],_,_,.nil,_=>λu hu=>by cases hu
 | v::vs,_,d::ds,.cons r rs,h=>λu hu=>by
   simp only[aO] at h;rcases List.mem_cons.mp hu with rfl|hu
   .obtain⟨as,ra⟩:=I.reads d h.1 r
    exact⟨d,by simp,as,ra⟩
   .obtain⟨e,he,q⟩:=Kv I rs h.2 u hu
    exact⟨e,by simp[he],q⟩
 | _::_,_,[],.cons _ _,h=>by simp only[aO] at h
theorem Ku{H:Hp}{pins:List (Addr×Obj)}{σ:St}{s:Shared}(I:Inv X pins σ H s):∀{vs:List V}{us:List Value}{ds:List PyData},Vals vs us->aO H vs ds -> ∀e∈ds,∃u∈us,∃as,Reads s.heap u e as
 | [],_,[],.nil,_=>λe he=>by cases he
 | [],_,_::_,.nil,h=>by simp only[aO] at h
 | v::vs,_,d::ds,.cons r rs,h=>λe he=>by
   simp only[aO] at h;rcases List.mem_cons.mp he with rfl|he
   .obtain⟨as,ra⟩:=I.reads e h.1 r
    exact⟨_,by simp,as,ra⟩
   .obtain⟨u,hu,q⟩:=Ku I rs h.2 e he
    exact⟨u,by simp[hu],q⟩
 | _::_,_,[],.cons _ _,h=>by simp only[aO] at h
open Classical in
noncomputable def Uy(s:Shared)(ds:List PyData)(d:PyData)(u:Value):Bool:=decide (∃e∈ds,(∃as,Reads s.heap u e as)/\PyData.eqv e d=true)
open Classical in
theorem vV{s:Shared}{ds:List PyData}{d:PyData}{u:Value}:Uy s ds d u=true ↔ ∃e∈ds,(∃as,Reads s.heap u e as)/\PyData.eqv e d=true:=by unfold Uy;exact decide_eq_true_iff
theorem ZV{A:Around}{s:Shared}{ds:List PyData}{d:PyData}{u v:Value}{bs:List Addr}(hd:SeqAt.shaped d=true)(hds:∀e∈ds,SeqAt.shaped e=true)(hu:A.units+64<cLine)(rv:Reads s.heap v d bs)(h:∃e∈ds,∃as,Reads s.heap u e as):SeqAt.EqAt A s u v (Uy s ds d u):=by
 by_cases q:∃e∈ds,(∃as,Reads s.heap u e as)/\PyData.eqv e d=true
 .have:Uy s ds d u=true:=vV.mpr q
  rw[this];obtain⟨e,he,⟨as,ra⟩,ee⟩:=q;have:=SeqAt.eqAt_reads e d A s u v as bs ra rv (SeqAt.canLay_of_shaped (hds e he)) (SeqAt.canLay_of_shaped hd) (SeqAt.room_of_shaped (hds e he) hu);rwa [ee] at this
 .have:Uy s ds d u=false:=by
   cases z:Uy s ds d u with
   | false=>rfl
   | true=>exact abZ (vV.mp z) q
  rw[this];obtain⟨e,he,as,ra⟩:=h
  have ee:PyData.eqv e d=false:=by
   cases z:PyData.eqv e d with
   | false=>rfl
   | true=>exact abZ ⟨e,he,⟨as,ra⟩,z⟩ q
  have:=SeqAt.eqAt_reads e d A s u v as bs ra rv (SeqAt.canLay_of_shaped (hds e he)) (SeqAt.canLay_of_shaped hd) (SeqAt.room_of_shaped (hds e he) hu);rwa [ee] at this
theorem Wh{H:Hp}{pins:List (Addr×Obj)}{σ:St}{s:Shared}(I:Inv X pins σ H s){vs:List V}{us:List Value}{ds:List PyData}{d:PyData}(r:Vals vs us)(h:aO H vs ds):us.toArray.any (Uy s ds d)=ds.any λe=>PyData.eqv e d:=by
 rw[show us.toArray.any (Uy s ds d)=us.any (Uy s ds d) by simp,Bool.eq_iff_iff,List.any_eq_true,List.any_eq_true];constructor
 .rintro⟨u,hu,e⟩
  obtain⟨e,he,_,ee⟩:=vV.mp e;exact⟨e,he,ee⟩
 .rintro⟨e,he,ee⟩
  obtain⟨u,hu,q⟩:=Ku I r h e he;exact⟨u,hu,vV.mpr ⟨e,he,q,ee⟩⟩
theorem Ip{K:PySem.W.Frag}(hK:X.K=K)(hu:X.A.in1.units+64<cLine):pR X (compareOp .NotIn) (ae9 K true):=by
 subst hK;intro pins s σ H x y v u Q I rx ry h;obtain⟨p,vs,d,ds,rfl,hq,hds,hd,s1,s2,q⟩:=h;cases ry;obtain⟨its,r,pl,hz⟩:=I.list hq;obtain⟨bs,rv⟩:=I.reads d hd rx;refine SeqAt.notIn_listAt (Uy s ds d) pl.isList (λw hw=>ZV s1 s2 hu rv (Kv I r hds w (by simpa using hw))) ⟨.bl _,H,I,Z, ?_⟩;rw[Wh I r hds];exact q
end
theorem pU.calm{P:Program}{w:World}{K:PySem.W.Frag}{mg:Str->Option Value}{base:Heap}{k:Nat}{x:Str}{ps:List Str}{sp:Sp}(F:pU P w K mg base k x ps sp):
 FnAt P w K mg base k x ps (λvs H Q _=>sp vs H Q λ_ _ _=>False):=by
 obtain⟨f,fd,G,hm,hk,hb⟩:=F;refine⟨f,fd,⟨λvs H Q E q=>G.len vs H Q _ q,λA outer s H args us vs Q E hr he hbd hv hs=>?_⟩,hm,hk,hb⟩;refine codeAny_mono (G.run A outer s H args us vs Q (λ_ _ _=>False) hr he hbd hv hs) λres s' hq=>?_
 match res,hq with
 | .error ev,hq=>
   obtain⟨e,cls,dx,H',_,_,_,_,_,_,_,_,z⟩:=hq;exact z.elim
 | .ok (.ret u),hq=>exact hq
section
variable{H H':Hp}
mutual
theorem Dat.same(k:Same H H'):∀(d:PyData){v:V},Dat H v d->Dat H' v d
 | .none,_,h=>by simp only[Dat] at h ⊢;exact h
 | .bool _,_,h=>by simp only[Dat] at h ⊢;exact h
 | .int _,_,h=>by simp only[Dat] at h ⊢;exact h
 | .str _,_,h=>by simp only[Dat] at h ⊢;exact h
 | .list ds,_,h=>by simp only[Dat] at h ⊢;obtain⟨a,vs,e,q,r⟩:=h;exact⟨a,vs,e,k _ _ q,aO.same k ds r⟩
 | .tuple ds,_,h=>by simp only[Dat] at h ⊢;obtain⟨a,vs,e,q,r⟩:=h;exact⟨a,vs,e,k _ _ q,aO.same k ds r⟩
 | .dict _,_,h=>by simp only[Dat] at h
theorem aO.same(k:Same H H'):∀(ds:List PyData){vs:List V},aO H vs ds->aO H' vs ds
 | [],[],_=>by simp only[aO]
 | d::ds,v::vs,h=>by simp only[aO] at h ⊢;exact⟨Dat.same k d h.1,aO.same k ds h.2⟩
 | _::_,[],h=>by simp only[aO] at h
 | [],_::_,h=>by simp only[aO] at h
end
end
section
variable{X:Cx}{K:PySem.W.Frag}
inductive PlT(H:Hp):V->Value->Prop where
 | int (i:Int):PlT H (.int i) (.type "int")
 | lst {a:Addr} {xs:List V} (e:H a=some (.lst xs)):PlT H (.ref a) (.type "list")
 | tup {a:Addr} {xs:List V} (e:H a=some (.tup xs)):PlT H (.ref a) (.type "tuple")
noncomputable def abT(K:PySem.W.Frag):List V->Hp->VK->Prop:=λxs H Q=>∃(x:V) (t:Value) (p:Addr) (ns:List String) (b:Bool),xs=[x,.ref p]/\PlT H x t/\H p=some (.tup (ns.map V.ty))/\PySem.W.kitAny K t (ns.map Value.type)=some b/\Q (.bl b) H
theorem Hu{ns:List String}:∀{us:List Value},Vals (ns.map V.ty) us->us=ns.map Value.type:=by
 induction ns with
 | nil=>intro us r;cases r;rfl
 | cons c cs ih=>
   intro us r;cases r with
   | cons r rs=>cases (show _=Value.type c from r);rw[ih rs];rfl
theorem JH(hk:X.K=K):jr X (.builtin "isinstance") (abT K):=by
 subst hk;intro pins s σ H xs us Q I r h;obtain⟨x,t,p,ns,b,rfl,ty,hp,e,q⟩:=h;obtain⟨u,w',rfl,r1,r2⟩:=vals2 r;cases (show w'=Value.ref p from r2);obtain⟨its,rv,⟨o,ho,hc,m,hd⟩,hz⟩:=I.tuple (bO.of hp);have ei:=Hu rv;subst ei;obtain⟨c0,d0,dt,sl⟩:=o;simp only at hc hd;subst hc hd;cases ty with
 | int i=>obtain⟨t,q1⟩:=(show ∃t,u=Value.int i t from r1);cases q1;exact PySem.W.kia_tup PySem.W.kitx_int I.mH True.intro ho e (λz=>nomatch z) λtk=>⟨.bl b,H,I.tok _,Z,q⟩
 | @lst a xs ea=>
   cases (show u=Value.ref a from r1);obtain⟨_,_,n,_,h1⟩:=(show cW X.prog X.w H s.heap a (.lst xs) from I.hok a _ ea);exact PySem.W.kia_tup PySem.W.kitx_list I.mH ⟨_,h1,Z⟩ ho e (λz=>nomatch z) λtk=>⟨.bl b,H,I.tok _,Z,q⟩
 | @tup a xs ea=>
   cases (show u=Value.ref a from r1);obtain⟨_,_,_,p⟩:=(show cW X.prog X.w H s.heap a (.tup xs) from I.hok a _ ea);obtain⟨o,h1,h2,_⟩:=p;exact PySem.W.kia_tup PySem.W.kitx_tuple I.mH ⟨o,h1,h2⟩ ho e (λz=>nomatch z) λtk=>⟨.bl b,H,I.tok _,Z,q⟩
theorem G9(K:PySem.W.Frag):PySem.W.kitAny K (.type "list") (["list","tuple"].map Value.type)=some true:=by kernel_rfl
theorem Dn(K:PySem.W.Frag):PySem.W.kitAny K (.type "tuple") (["list","tuple"].map Value.type)=some true:=by kernel_rfl
theorem JW(K:PySem.W.Frag):PySem.W.kitAny K (.type "int") (["list","tuple"].map Value.type)=some false:=by kernel_rfl
theorem nZ(K:PySem.W.Frag):PySem.W.kitOne K (.type "tuple") (.type "list")=some false:=by kernel_rfl
theorem n_(K:PySem.W.Frag):PySem.W.kitOne K (.type "list") (.type "tuple")=some false:=by kernel_rfl
end
section
variable{K:PySem.W.Frag}{a D:Addr}{xs:List V}{tc:TT}{te:TE}{Q:VK}{rest:St}{H1:Hp}
theorem CK{f:Nat->Option PyData}(hf:∀i d,f i=some d->zq d=true):∀l:List Nat,oh (l.filterMap f)=true
 | []=>rfl
 | i::l=>by
   rw[List.filterMap_cons];cases e:f i with
   | none=>exact CK hf l
   | some d=>simp only[oh,hf i d e,CK hf l,Bool.and_self]
theorem Pn(f:Nat->Option PyData)(hf:∀i d,f i=some d->zq d=true)(hD:H1 D=none)(hq:bB K H1 a xs)(hx:xs.length<=100000)(hs:∀i x H (G:Hp->Prop) (F:VK),xs[i]? = some x->Same H1 H->(∀H',Same H H'->f i=none->G H')->(∀y d H',Same H H'->f i=some d->Dat H' y d->F y H')->tc (some x::rest) H λb H3=>if b=true then te (some x::rest) H3 F else G H3)(hd:∀H vs,Same H1 H->H D=some (.lst vs)->aO H vs ((List.range xs.length).filterMap f)->Q (.ref D) H):lH (Yk K a) (gR 0) tc te Q D (none::rest) H1:=by
 refine iQ (K:=K) (xs:=xs) (λi σ H=>(∃v,σ=v::rest)/\Same H1 H /\ ∃vs,H D=some (.lst vs)/\aO H vs ((List.range i).filterMap f)) ⟨⟨none,Z⟩,aD hD,[],ak,by simp[aO]⟩ (λi σ H _ ⟨_,sm,_⟩=>sm.sqL _ _ hq) ?_ (λσ H ⟨_,sm,vs,e,d⟩=>hd H vs sm e d);rintro i x σ H hi ⟨⟨v,rfl⟩,sm,vs,e,d⟩;have hil:i<xs.length:=(aaf.mp hi).1;have im:=CK hf (List.range i);refine hs i x H _ _ hi sm (λH3 s3 ef=>⟨⟨_,Z⟩,sm.trans s3,vs,s3 _ _ e, ?_⟩) (λy dd H4 s4 ef dy=>?_)
 .rw[dB,ef]
  simpa using aO.keep s3.tups _ im d
 .have hl:vs.length<=i:=by rw[d.length];exact qD f i
  have kp:Kp D H4 (upd H4 D (.lst (vs++[y]))):=Kp.set;have tp:=kp.tups (s4 _ _ e);refine⟨vs,s4 _ _ e, ?_,⟨_,Z⟩,(sm.trans s4).newly hD,vs++[y],ak, ?_⟩
  .rw[sizeLine_eq];lia
  .rw[dB,ef]
   exact pA (aO.keep (λa xs h=>tp _ _ (s4.tups _ _ h)) _ im d) (Dat.keep tp _ (hf i dd ef) dy)
end
section
variable{X:Cx}
end
end L2
namespace L2
open PySem
section
variable{K:PySem.W.Frag}{a D:Addr}{xs:List V}{tc:TT}{te:TE}{Q:VK}{rest:St}{H1:Hp}
end
end L2
namespace L2
open PySem PySem.Spec PyProof.Rows
theorem eU.Yo{k:Nat}{A:Around}(r:eU k A):A.in1.units+64<cLine:=by have:=r.un;show A.units+1+64<_;lia
section
variable{X:Cx}{K:PySem.W.Frag}{e st:Expr}{te tk:TE}{pos p2:Pos}
end
section
variable{H:Hp}
mutual
theorem Dat.fn:∀(d e:PyData){v:V},Dat H v d->Dat H v e->d=e
 | .none,e,v,h,g=>by cases e<;>simp only[Dat] at h g<;>first |rfl|(subst h;first |(obtain⟨_,_,z,_⟩:=g;cases z;done)|(cases g;done))
 | .bool _,e,v,h,g=>by cases e<;>simp only[Dat] at h g<;>first |(subst h;first |(injection g with g;rw[g];done)|(obtain⟨_,_,z,_⟩:=g;cases z;done)|(cases g;done))
 | .int _,e,v,h,g=>by cases e<;>simp only[Dat] at h g<;>first |(subst h;first |(injection g with g;rw[g];done)|(obtain⟨_,_,z,_⟩:=g;cases z;done)|(cases g;done))
 | .str _,e,v,h,g=>by cases e<;>simp only[Dat] at h g<;>first |(subst h;first |(injection g with g;rw[g];done)|(obtain⟨_,_,z,_⟩:=g;cases z;done)|(cases g;done))
 | .list ds,.list es,v,h,g=>by
   simp only[Dat] at h g;obtain⟨a,vs,rfl,ha,da⟩:=h;obtain⟨b,ws,e,hb,db⟩:=g;injection e with e
   subst e;rw[ha] at hb;injection hb with hb
   injection hb with hb
   subst hb;rw[aO.fn ds es da db]
 | .tuple ds,.tuple es,v,h,g=>by
   simp only[Dat] at h g;obtain⟨a,vs,rfl,ha,da⟩:=h;obtain⟨b,ws,e,hb,db⟩:=g;injection e with e
   subst e;rw[ha] at hb;injection hb with hb
   injection hb with hb
   subst hb;rw[aO.fn ds es da db]
 | .list ds,.tuple es,v,h,g=>by
   simp only[Dat] at h g;obtain⟨a,vs,rfl,ha,da⟩:=h;obtain⟨b,ws,e,hb,db⟩:=g;injection e with e
   subst e;rw[ha] at hb;injection hb with hb
   cases hb
 | .tuple ds,.list es,v,h,g=>by
   simp only[Dat] at h g;obtain⟨a,vs,rfl,ha,da⟩:=h;obtain⟨b,ws,e,hb,db⟩:=g;injection e with e
   subst e;rw[ha] at hb;injection hb with hb
   cases hb
 | .list ds,.none,v,h,g=>by simp only[Dat] at h g;obtain⟨a,vs,rfl,_⟩:=h;cases g
 | .list ds,.bool _,v,h,g=>by simp only[Dat] at h g;obtain⟨a,vs,rfl,_⟩:=h;cases g
 | .list ds,.int _,v,h,g=>by simp only[Dat] at h g;obtain⟨a,vs,rfl,_⟩:=h;cases g
 | .list ds,.str _,v,h,g=>by simp only[Dat] at h g;obtain⟨a,vs,rfl,_⟩:=h;cases g
 | .tuple ds,.none,v,h,g=>by simp only[Dat] at h g;obtain⟨a,vs,rfl,_⟩:=h;cases g
 | .tuple ds,.bool _,v,h,g=>by simp only[Dat] at h g;obtain⟨a,vs,rfl,_⟩:=h;cases g
 | .tuple ds,.int _,v,h,g=>by simp only[Dat] at h g;obtain⟨a,vs,rfl,_⟩:=h;cases g
 | .tuple ds,.str _,v,h,g=>by simp only[Dat] at h g;obtain⟨a,vs,rfl,_⟩:=h;cases g
 | .list ds,.dict _,v,h,g=>by simp only[Dat] at g
 | .tuple ds,.dict _,v,h,g=>by simp only[Dat] at g
 | .dict _,_,v,h,g=>by simp only[Dat] at h
theorem aO.fn:∀(ds es:List PyData){vs:List V},aO H vs ds->aO H vs es->ds=es
 | [],[],_,_,_=>rfl
 | d::ds,e::es,v::vs,h,g=>by
   simp only[aO] at h g;rw[Dat.fn d e h.1 g.1,aO.fn ds es h.2 g.2]
 | [],_::_,[],_,g=>by simp only[aO] at g
 | [],_::_,_::_,h,_=>by simp only[aO] at h
 | _::_,[],[],h,_=>by simp only[aO] at h
 | _::_,[],_::_,_,g=>by simp only[aO] at g
 | _::_,_::_,[],h,_=>by simp only[aO] at h
end
end
section
variable{X:Cx}
end
section
variable{X:Cx}{K:PySem.W.Frag}{e e1 e2 l:Expr}{te t1 t2 tl:TE}{pos:Pos}{tg:Expr}
end
section
variable{X:Cx}
end
end L2
namespace L2
open PySem PySem.Spec PyProof.Rows PySem.Builtin PySem.Builtin.Str
section
variable{X:Cx}{K:PySem.W.Frag}
noncomputable def Its(x:Str):It:=⟨λi _=>i<x.cps.size,λi H v H'=>H'=H /\ ∃c,x.cps[i]? = some c/\v = .str ⟨#[c]⟩,λi _=>x.cps.size<=i⟩
theorem Qn{P:Program}{w:World}{K:PySem.W.Frag}{tg:Expr}(x:Str)(t:Tok)(it:Addr):Turn P w K tg (Its x) [it] it (λi h=>i<=x.cps.size/\(h.IsStrIter it "str_ascii_iterator" x t i\/h.IsStrIter it "str_iterator" x t i)) where
 mem:=by simp
 obj:=λi h st b hb=>by
  have e:b=it:=by simpa using hb
  subst e;rcases st.2 with ⟨o,e,c,d⟩|⟨o,e,c,d⟩
  .exact⟨o,e,λv z=>by rw[d] at z;cases z⟩
  .exact⟨o,e,λv z=>by rw[d] at z;cases z⟩
 keep:=λi h h' st k=>⟨st.1,st.2.imp (λ⟨o,e,r⟩=>⟨o,k it (by simp) o e,r⟩) (λ⟨o,e,r⟩=>⟨o,k it (by simp) o e,r⟩)⟩
 item:=by
  intro X hP hw hK hc i pins s σ H E I hf st hg;subst hP hw hK;have hi:i<x.cps.size:=hg;have hx:x.cps[i]? = some x.cps[i]:=by simp[hi]
  obtain⟨f0,f1,f2,f3,f4,f5⟩:=hf it (by simp);rcases st.2 with st|st
  .refine wpAny_pyNext_ascii_item st hx λh' st' sb=>?_
   have I1:Inv X pins σ H {s with heap:=h',toks:=s.toks+1}:=I.turned (t':=s.toks+1) (λb o hb e=>(sb.2 b hb).trans e) f0 f1 f3 f4 f5;obtain⟨o,e,c,d⟩:=id st';exact⟨_,Z,yx (s:={s with heap:=h',toks:=s.toks+1}) e c d (by decide) ⟨.str ⟨#[x.cps[i]]⟩,H,I1,⟨_,Z⟩,⟨Z,_,hx,Z⟩,⟨hi,.inl st'⟩,λb hb=>(hf b hb).1⟩⟩
  .refine wpAny_pyNext_wide_item st hx λh' st' sb=>?_
   have I1:Inv X pins σ H {s with heap:=h',toks:=s.toks+1}:=I.turned (t':=s.toks+1) (λb o hb e=>(sb.2 b hb).trans e) f0 f1 f3 f4 f5;obtain⟨o,e,c,d⟩:=id st';exact⟨_,Z,yx (s:={s with heap:=h',toks:=s.toks+1}) e c d (by decide) ⟨.str ⟨#[x.cps[i]]⟩,H,I1,⟨_,Z⟩,⟨Z,_,hx,Z⟩,⟨hi,.inr st'⟩,λb hb=>(hf b hb).1⟩⟩
 done:=by
  intro X hP hw hK hc i pins s σ H E I hf st hg;subst hP hw hK;have hx:x.cps[i]? = none:=by simpa using (show x.cps.size<=i from hg)
  obtain⟨f0,f1,f2,f3,f4,f5⟩:=hf it (by simp);rcases st.2 with st|st
  .exact wpAny_pyNext_ascii_end (I.ok.hd hc) st hx λh' eb=>⟨Z,I.turned (t':=s.toks) (λb o hb e=>eb b o hb e) f0 f1 f3 f4 f5⟩
  .exact wpAny_pyNext_wide_end (I.ok.hd hc) st hx λh' eb=>⟨Z,I.turned (t':=s.toks) (λb o hb e=>eb b o hb e) f0 f1 f3 f4 f5⟩
 self:=λ_ _ _ _ _ st h=>st.2.elim (λst=>wpAny_pyIter_striter_ascii st h) (λst=>wpAny_pyIter_striter_wide st h)
noncomputable def agw(tl:TE):TI:=λσ H R=>tl σ H λx H1=>∃a,x = .str a/\R (Its a) H1
theorem Ze{tg l:Expr}{tl:TE}(hl:PE X l tl):PI X tg l (agw tl):=by
 intro pins s σ H R I h;refine cY (hl pins s σ H _ I h) λv s1 gW=>?_;obtain⟨x,H1,I1,r1,q1⟩:=gW;obtain⟨a,rfl,q⟩:=q1;obtain⟨t,rfl⟩:=r1
 have fin:∀o,(s1.heap.push o).IsStrIter s1.heap.objs.size "str_ascii_iterator" a t 0\/(s1.heap.push o).IsStrIter s1.heap.objs.size "str_iterator" a t 0->PIE X pins σ tg R (.ref s1.heap.objs.size) {s1 with heap:=s1.heap.push o}:=by
  intro o st;refine⟨s1.heap.objs.size,[s1.heap.objs.size],_,_,H1,Z,I1.kept (t':=s1.toks) λb o e=>aai _ e,Qn a t _,⟨Nat.zero_le _,st⟩,λb hb=>?_,q⟩;have e:b=s1.heap.objs.size:=by simpa using hb
  subst e;exact I1.vo (aap _) (I1.hok.fresh (aap _))
 cases ha:a.cps.all (· < 128)
 .exact wpAny_pyIter_wide ha (fin _ (.inr ⟨_,aaj _ rfl,Z,Z⟩))
 .exact wpAny_pyIter_ascii ha (fin _ (.inl ⟨_,aaj _ rfl,Z,Z⟩))
end
section
variable{K:PySem.W.Frag}{D:Addr}{tc:TT}{te:TE}{Q:VK}{rest:St}{H1:Hp}
theorem Pj{x:Str}{g:TG}{σ0:St}(Pv:Nat->St->Hp->Prop)(h0:Pv 0 σ0 (upd H1 D (.lst [])))(hs:∀i c σ H,x.cps[i]? = some c->Pv i σ H->g (.str ⟨#[c]⟩) σ H λσ2 H2=>tc σ2 H2 λb H3=>
   if b=true then te σ2 H3 λy H4=>∃acc,H4 D=some (.lst acc)/\acc.length<sizeLine/\Pv (i+1) σ2 (upd H4 D (.lst (acc++[y]))) else Pv (i+1) σ2 H3)(hd:∀σ H,Pv x.cps.size σ H->Q (.ref D) H):lH (Its x) g tc te Q D σ0 H1:=by
 refine⟨λi m σ H=>m=x.cps.size - i/\i<=x.cps.size/\Pv i σ H,⟨x.cps.size,by simp,Nat.zero_le _,h0⟩, ?_⟩;rintro i m σ H ⟨rfl,hi,p⟩
 by_cases hlt:i<x.cps.size
 .refine .inr ⟨hlt,Pv (i+1),λσ' H' p'=>⟨x.cps.size - (i+1),by lia,Z,hlt,p'⟩,λy H' e=>?_⟩
  obtain⟨e,c,hc,rfl⟩:=e;subst e;exact hs i c σ _ hc p
 .have e:i=x.cps.size:=by lia
  subst e;exact .inl ⟨aap _,hd σ H p⟩
theorem Pg{x:Str}(f:Nat->Option V)(hD:H1 D=none)(hx:x.cps.size<=100000)(hs:∀i c H (G:Hp->Prop) (F:VK),x.cps[i]? = some c->Same H1 H->(∀H',Same H H'->f i=none->G H')->(∀y H',Same H H'->f i=some y->F y H')->tc (some (.str ⟨#[c]⟩)::rest) H λb H3=>if b=true then te (some (.str ⟨#[c]⟩)::rest) H3 F else G H3)(hd:∀H,Same H1 H->H D=some (.lst ((List.range x.cps.size).filterMap f))->Q (.ref D) H):lH (Its x) (gR 0) tc te Q D (none::rest) H1:=by
 refine Pj (λi σ H=>(∃v,σ=v::rest)/\Same H1 H/\H D=some (.lst ((List.range i).filterMap f))) ⟨⟨none,Z⟩,aD hD,ak⟩ ?_ (λσ H ⟨_,sm,e⟩=>hd H sm e);rintro i c σ H hi ⟨⟨v,rfl⟩,sm,e⟩;have hil:i<x.cps.size:=(Array.getElem?_eq_some_iff.mp hi).1;refine hs i c H _ _ hi sm (λH3 s3 ef=>⟨⟨_,Z⟩,sm.trans s3,by rw[s3 _ _ e,dB,ef];simp⟩) (λy H4 s4 ef=>?_);refine⟨_,s4 _ _ e, ?_,⟨_,Z⟩,(sm.trans s4).newly hD, ?_⟩
 .have:=qD f i
  rw[sizeLine_eq];lia
 .rw[ak,dB,ef];rfl
end
section
variable{X:Cx}
end
end L2
namespace L2
open PySem PySem.Spec PyProof.Rows
section
variable(P:Program)(w:World)(K:PySem.W.Frag)(mg:Str->Option Value)(base:Heap)
noncomputable def MethAt(k:Nat)(C:Addr)(m:Str)(ps:List Str)(sp:Sp):Prop:=∃f fd,bL P w K mg base iC k f fd ps sp/\Meth K C m f/\Binds K fd ps []
noncomputable def jw(k:Nat)(C:Addr)(m:Str)(ps:List Str)(sp:Sp):Prop:=∃f fd,bL P w K mg base (oW P w) k f fd ps sp/\Meth K C m f/\Binds K fd ps []
noncomputable def oN(k:Nat)(C:Addr)(x:Str)(ps:List Str)(j5:List V)(sp:Sp):Prop:=∃f fd ds,bL P w K mg base iC k f fd ps sp/\Mk K C f/\mg x=some (.ref C)/\Binds K fd ps ds/\Vals j5 ds
noncomputable def j6(k:Nat)(C:Addr)(x:Str)(ps:List Str)(j5:List V)(sp:Sp):Prop:=∃f fd ds,bL P w K mg base (oW P w) k f fd ps sp/\Mk K C f/\mg x=some (.ref C)/\Binds K fd ps ds/\Vals j5 ds
noncomputable def Xf(k:Nat)(C:Addr)(x:Str)(ps:List Str)(kn:Str)(sp:Sp):Prop:=∃f fd,bL P w K mg base (oW P w) k f fd ps sp/\Mk K C f/\mg x=some (.ref C) /\
 ∀(s:Shared)(us:List Value)(z:Value),K.In s.heap->(us++[z]).length=ps.length->BindsTo s fd ⟨us,[(kn,z)]⟩ (ps.zip (us++[z]))
end
section
variable{P:Program}{w:World}{K:PySem.W.Frag}{mg:Str->Option Value}{base:Heap}{k:Nat}{C:Addr}{m x:Str}{ps:List Str}{sp:Sp}{j5:List V}
theorem bL.calm{f:Addr}{fd:FuncData}(G:bL P w K mg base (oW P w) k f fd ps sp):bL P w K mg base iC k f fd ps (λvs H Q _=>sp vs H Q λ_ _ _=>False):=by
 refine⟨λvs H Q E q=>G.len vs H Q _ q,λA outer s H args us vs Q E hr he hbd hv hs=>?_⟩;refine codeAny_mono (G.run A outer s H args us vs Q (λ_ _ _=>False) hr he hbd hv hs) λres s' hq=>?_
 match res,hq with
 | .error ev,hq=>
   obtain⟨e,cls,dx,H',_,_,_,_,_,_,_,_,z⟩:=hq;exact z.elim
 | .ok (.ret u),hq=>exact hq
theorem jw.calm(F:jw P w K mg base k C m ps sp):MethAt P w K mg base k C m ps (λvs H Q _=>sp vs H Q λ_ _ _=>False):=by
 obtain⟨f,fd,G,r⟩:=F;exact⟨f,fd,G.calm,r⟩
theorem j6.calm(F:j6 P w K mg base k C x ps j5 sp):oN P w K mg base k C x ps j5 (λvs H Q _=>sp vs H Q λ_ _ _=>False):=by
 obtain⟨f,fd,ds,G,r⟩:=F;exact⟨f,fd,ds,G.calm,r⟩
end
section
variable{X:Cx}{k:Nat}{C:Addr}{x m:Str}{ps:List Str}{sp:Sp}{j5:List V}{e o:Expr}{es:List Expr}{ta:TE}{t:TA}{p pos apos:Pos}{E:St->XK}
theorem dg{pl:Sem Bool}(M:MethAt X.prog X.w X.K X.mg X.base k C m ps sp)(c:Cls X.K C)(hr:eU k X.A)(he:PE X o ta)(ha:PA X (e::es) t)(hst:starEach (e::es) X.env=(false,eval e X.env)::starEach es X.env:=by rfl)(hpl:(backTo pos (starEach es X.env)).any (·.1)=false:=by rfl)(ht:eval (.Call (.Attribute o m apos) (e::es) [] pos) X.env=(do
   let ov ←eval o X.env
   standAt apos.atName
   let (f,first) ←holding [ov] (getMethod ov m pl)
   callWith pos f first (backTo pos (starEach (e::es) X.env)) (backToKw pos (keywordEach [] X.env))):=by rfl):
 PE X (.Call (.Attribute o m apos) (e::es) [] pos) (KC C m sp [] E0 ta t):=by
 obtain⟨f,fd,G,hm,hb⟩:=M;exact Vt he c hm G hr hb .nil Lg ha hst hpl ht
theorem lA{pl:Sem Bool}(M:MethAt X.prog X.w X.K X.mg X.base k C m ps sp)(c:Cls X.K C)(hr:eU k X.A)(he:PE X o ta)(ht:eval (.Call (.Attribute o m apos) [] [] pos) X.env=(do
   let ov ←eval o X.env
   standAt apos.atName
   let (f,first) ←holding [ov] (getMethod ov m pl)
   callWith pos f first (backTo pos (starEach [] X.env)) (backToKw pos (keywordEach [] X.env))):=by rfl):
 PE X (.Call (.Attribute o m apos) [] [] pos) (KC C m sp [] E0 ta lQ):=by
 obtain⟨f,fd,G,hm,hb⟩:=M;exact Rk he c hm G hr hb .nil Lg ht
noncomputable def Yz(C:Addr)(m:Str)(sp:Sp)(E:St->XK)(ta:TE)(t:TA):TE:=λσ H Q=>ta σ H λx H1=>∃a dx fs,x = .ref a/\H1 a=some (.ins C dx fs)/\fs.lookup m=none/\t σ H1 λvs H2=>sp (x::vs) H2 Q (E σ)
theorem Vj{pins:List (Addr×Obj)}{σ:St}{H:Hp}{s:Shared}{Q:VK}{us:List Value}{vs:List V}{f:Addr}{fd:FuncData}(G:bL X.prog X.w X.K X.mg X.base (oW X.prog X.w) k f fd ps sp)(hx:X.ex=[])(R:Rz X E)(hr:eU k X.A)(hb:Binds X.K fd ps [])(I:Inv X pins σ H s)(r:Vals vs us)(q:sp vs H Q (E σ)):wpAny (model X.prog X.w) X.A (call (.ref f) us) (EP X pins σ Q) X.xe s:=by
 have hlen:us.length=ps.length:=by rw[←r.length];exact G.len _ _ _ _ q
 have hbd:=hb s us I.mH (by rw[List.append_nil];exact hlen);rw[List.append_nil] at hbd;refine wpAny_call (codeAny_mono (G.run X.A X.stack s H ⟨us,[]⟩ us vs Q (E σ) hr I.env0 hbd r q) λres s' hq=>?_)
 match res,hq with
 | .error ev,hq=>exact q_ hx R I hq
 | .ok (.ret u),hq=>exact I.after hq
theorem nP{pl:Sem Bool}(M:jw X.prog X.w X.K X.mg X.base k C m ps sp)(c:Cls X.K C)(hx:X.ex=[])(R:Rz X E)(hr:eU k X.A)(he:PE X o ta)(ha:PA X (e::es) t)(hst:starEach (e::es) X.env=(false,eval e X.env)::starEach es X.env:=by rfl)(hpl:(backTo pos (starEach es X.env)).any (·.1)=false:=by rfl)(ht:eval (.Call (.Attribute o m apos) (e::es) [] pos) X.env=(do
   let ov ←eval o X.env
   standAt apos.atName
   let (f,first) ←holding [ov] (getMethod ov m pl)
   callWith pos f first (backTo pos (starEach (e::es) X.env)) (backToKw pos (keywordEach [] X.env))):=by rfl):
 PE X (.Call (.Attribute o m apos) (e::es) [] pos) (Yz C m sp E ta t):=by
 obtain⟨f,fd,G,hm,hb⟩:=M;intro pins s σ H Q I h;refine PySem.W.methodCall_KW (pl:=pl) (cY (he pins s σ H _ I h) λu s1 ⟨x,H1,I1,rx,a,dx,fs,ex,ea,l,q⟩=>?_) ht;subst ex;obtain rfl:u=Value.ref a:=rx;refine qy I1 ea c hm l ?_;refine PySem.W.callWith_K (first:=[.ref a]) (h₀:=X.base) I.ok.mod.Sy hm.kp (cY (ha pos pins s1 σ H1 _ I1 q) λus s2 ⟨vs,H2,I2,r,q2⟩=>⟨I2.mH, ?_⟩) hst hpl;exact Vj (us:= .ref a::us) (vs:= .ref a::vs) G hx R hr hb I2 (.cons rfl r) q2
theorem nQ(M:oN X.prog X.w X.K X.mg X.base k C x ps j5 sp)(hr:eU (k+1) X.A)(hg:Gl X x)(ha:PA X (e::es) t)(hdb:(x==("__debug__" :Str))=false:=by decide)(he:starEach (e::es) X.env=(false,eval e X.env)::starEach es X.env:=by rfl)(hpl:(backTo pos (starEach es X.env)).any (·.1)=false:=by rfl):
 PE X (.Call (.Name x p) (e::es) [] pos) (Xu C sp j5 E0 t):=by
 obtain⟨f,fd,ds,G,mk,hm,hb,hd⟩:=M;exact Vu mk G hr hg hm hb hd Lg ha hdb he hpl
noncomputable def YB(C:Addr)(sp:Sp)(j5:List V)(E:St->XK)(t:TA):TE:=λσ H Q=>t σ H λvs H1=>∀x dx,H1 x=none->H1 dx=none->dx≠x ->
 sp (.ref x::(vs++j5)) (upd (upd H1 dx (.own x)) x (.ins C dx [])) (λv H2=>v = .non/\Q (.ref x) H2) (E σ)
theorem Nu{pins:List (Addr×Obj)}{σ:St}{H:Hp}{s:Shared}{Q:VK}{args:Args}{us:List Value}{vs:List V}{f:Addr}{fd:FuncData}(M:Mk X.K C f)(G:bL X.prog X.w X.K X.mg X.base (oW X.prog X.w) k f fd ps sp)(hx:X.ex=[])(R:Rz X E)(hr:eU (k+1) X.A)(I:Inv X pins σ H s)(r:Vals vs us)(hb:∀s':Shared,X.K.In s'.heap -> ∀a:Addr,(Value.ref a::us).length=ps.length->BindsTo s' fd ⟨Value.ref a::args.pos,args.kw⟩ (ps.zip (Value.ref a::us)))(h:∀x dx,H x=none->H dx=none->dx≠x->sp (.ref x::vs) (upd (upd H dx (.own x)) x (.ins C dx [])) (λv H2=>v = .non/\Q (.ref x) H2) (E σ)):
 wpAny (model X.prog X.w) X.A (call (.ref C) args.pos args.kw) (EP X pins σ Q) X.xe s:=by
 have hq:=h (s.heap.objs.size+1) s.heap.objs.size (I.hok.fresh (Nat.le_succ _)) (I.hok.fresh (aap _)) (aaV (Nat.lt_succ_self _));have I2:=Inv.made (C:=C) I;have r2:Vals (V.ref (s.heap.objs.size+1)::vs) (Value.ref (s.heap.objs.size+1)::us):= .cons rfl r
 have hl:(Value.ref (s.heap.objs.size+1)::us).length=ps.length:=by
  have e:=r2.length;rw[G.len _ _ _ _ hq] at e;exact e.symm
 refine wpAny_call (Gk (f:=f) I.mH M.makes M.init (beq_iff_eq.mp M.fn) (codeAny_mono (G.run _ X.stack _ _ ⟨Value.ref (s.heap.objs.size+1)::args.pos,args.kw⟩ (Value.ref (s.heap.objs.size+1)::us) _ _ (E σ) (hr.make C args.pos args.kw)
  (I2.env0.make C args.pos args.kw) (hb _ I2.mH _ hl) r2 hq) λr s' hq'=>?_))
 match r,hq' with
 | .error ev,hq'=>exact q_ hx R I2 hq'
 | .ok (.ret u),hq'=>
   obtain⟨v,H',I3,rv,ev,q3⟩:=I2.after hq';subst ev;exact⟨rv,⟨V.ref (s.heap.objs.size+1),H',I3,Z,q3⟩⟩
theorem xP(M:j6 X.prog X.w X.K X.mg X.base k C x ps j5 sp)(hx:X.ex=[])(R:Rz X E)(hr:eU (k+1) X.A)(hg:Gl X x)(ha:PA X (e::es) t)(hdb:(x==("__debug__" :Str))=false:=by decide)(he:starEach (e::es) X.env=(false,eval e X.env)::starEach es X.env:=by rfl)(hpl:(backTo pos (starEach es X.env)).any (·.1)=false:=by rfl):
 PE X (.Call (.Name x p) (e::es) [] pos) (YB C sp j5 E t):=by
 obtain⟨f,fd,ds,G,mk,hm,hb,hd⟩:=M;intro pins s σ H Q I h;refine wpAny_Call_Name_kw (jZ I hg hm ?_ hdb);refine PySem.W.callWith_K (h₀:=X.base) I.ok.mod.Sy mk.kp (cY (ha pos pins s σ H _ I h) λus s1 ⟨vs,H1,I1,r,q⟩=>⟨I1.mH, ?_⟩) he hpl;exact Nu (args:=⟨us,[]⟩) (us:=us++ds) (vs:=vs++j5) mk G hx R hr I1 (r.append hd) (λs' ki a hl=>hb s' (Value.ref a::us) ki hl) q
end
end L2
namespace L2
open PySem PySem.Spec PyProof.Rows PySem.Builtin PySem.Builtin.Str
section
variable{X:Cx}{K:PySem.W.Frag}{o e value:Expr}{f:Str}{pos pos' tpos:Pos}{ta tv:TE}
theorem bR(hK:X.K=K)(he:PE X e ta)(hb:attributeBase e f X.env (eval e X.env)=eval e X.env):PE X (.Attribute e f pos) (abx K ta f):=by subst hK;exact Zi he hb
theorem dR(hK:X.K=K)(ha:PE X o ta)(hv:PE X value tv)(hs:swapsWith value (some (.Attribute o f pos')) pos.line X.env=pure false):PS X (.Assign [.Attribute o f pos'] value pos) (abK K ta tv f):=by subst hK;exact Y_ ha hv hs
theorem xM{op:Operator}{rd:V->V->Hp->VK->Prop}(hK:X.K=K)(ha:PE X o ta)(hv:PE X value tv)(hop:adb X op rd):PS X (.AugAssign (.Attribute o f tpos) op value pos) (K3 K ta tv rd f):=by subst hK;exact NK ha hv hop
noncomputable def abU:V->List V->Hp->VK->Prop:=λx vs H Q=>∃(a y:Str) (i:Nat) (r:List Nat),x = .str a/\vs=[.str y]/\occurrences a y 0 a.length 1=i::r/\Q (.int i) H
theorem zZ:MtR X "str.index" abU:=by
 intro pins s σ H x vs v us Q I rx rv h;obtain⟨a,y,i,r,rfl,rfl,ho,q⟩:=h;obtain⟨t,rfl⟩:=rx;obtain⟨u,rfl,ru⟩:=rv.one;obtain⟨t2,rfl⟩:=ru;exact call_meets PySem.F.slot_str_index (typeIs_str _ _ _) PySem.F.entry_str_index (PySem.F.args_str_index_2 _ _) (gives_str_index a y t t2 i r ho).meets ⟨.int i,H,I.tok _,⟨_,Z⟩,q⟩
end
structure zM(K:PySem.W.Frag)(x qual:Str)(st:Stmt)(ds:List Value)(f:Addr)(fd:FuncData):Prop where
 ex:∃(oc:Value) (od:Option Addr) (T:Addr) (kV doc pm:Value) (an:Option Addr) (cdv ct:Value) (osl:Array (Option Value)) (tc:Value) (td:Option Addr) (tn:Nat) (uK:Array (Option Value)),
  fd=PySem.W.fnOf x qual (b_ st) (cG st) (aJ st) (.ref T) kV doc pm an cdv ct/\K.lookup f=some ⟨oc,od,.func fd,osl⟩/\PySem.W.codeIn K cdv qual=true/\K.lookup T=some ⟨tc,td,.seq ds.toArray tn,uK⟩
 kp:PySem.W.keepIn K (.ref f)=true
section
variable{P:Program}{w:World}{K:PySem.W.Frag}{mg:Str->Option Value}{base:Heap}
theorem zM.Ux{x qual:Str}{st:Stmt}{ds:List Value}{f:Addr}{fd:FuncData}{N ps:List Str}{k:Nat}{sp:Sp}(F:zM K x qual st ds f fd)(S:aV N ps (aJ st))(len:∀vs H Q E,sp vs H Q E->vs.length=ps.length)(hbody:∀(cdv:Value)(A:Around)(outer:List Env)(s:Shared)(H:Hp)(vs:List V)(Q:VK)(E:XK),eU k (A.deeper (envOfC qual (aJ st) s.heap.objs.size f cdv))->sp vs H Q E ->
   Rz (mX (oW P w) P w K mg base N qual (aJ st) f cdv A outer s H E) (λ_=>E) ->
   ∃t,J0 (mX (oW P w) P w K mg base N qual (aJ st) f cdv A outer s H E) (cG st) t/\t {nx:=λ_ H'=>Q .non H',rt:=Q} (start N vs) H):bL P w K mg base (oW P w) (k+1) f fd ps sp:=by
 obtain⟨oc,od,T,kV,doc,pm,an,cdv,ct,osl,tc,td,tn,uK,rfl,lk,hcd,_⟩:=F.ex;exact Ti lk hcd S len λA outer s H vs Q E hr hsp=>hbody cdv A outer s H vs Q E hr hsp Fi
end
section
variable{X:Cx}{k:Nat}{C:Addr}{x kn:Str}{ps:List Str}{sp:Sp}{e ke:Expr}{es:List Expr}{te:TE}{t:TA}{p pos kpos:Pos}{E:St->XK}
end
end L2
namespace L2
open PySem PySem.Spec PyProof.Rows
section
variable{X:Cx}{pins:List (Addr×Obj)}{σ:St}{H:Hp}{s:Shared}{scope:Scope}{N own:List Str}{caps:List Nat}{fp:List Addr}{C:Nat}{xc:Str}
end
section
variable{M:Model}{A:Around}{E:Value->Shared->Prop}{s:Shared}
end
section
variable{X:Cx}{elt tg iter:Expr}{ifs:List Expr}{scope:Scope}{pos:Pos}{N own:List Str}{caps:List Nat}{wi:TI}{g:TG}{tc:TT}{te:TE}{xc:Str}
end
end L2
namespace L2
open PySem PySem.Spec PyProof.Rows PySem.W
section
variable{X:Cx}
end
end L2
namespace L2
open PySem PySem.Spec PyProof.Rows
section
variable{X:Cx}
end
section
variable{prog:Program}{w:World}{A:Around}{E:Value->Shared->Prop}{s:Shared}{it d:Addr}{ep:Nat}{od:Obj}{es:Array DictEntry}
end
section
variable{X:Cx}{pins:List (Addr×Obj)}{σ:St}{H:Hp}{s:Shared}{d:Addr}
end
section
variable{X:Cx}{tg:Expr}
end
section
variable{d D:Addr}{o:Obj}{kvs:List (List Key×V)}{tc:TT}{te:TE}{Q:VK}{rest:St}{H1:Hp}
end
section
variable{prog:Program}{w:World}{A:Around}{E:Value->Shared->Prop}{s:Shared}
end
section
variable{X:Cx}{pos:Pos}
end
end L2
namespace L2
open PySem
noncomputable abbrev Tg:=Addr->List Nat
noncomputable def bF(τ:Tg)(x:Addr)(t:List Nat):Tg:=λy=>if y=x then t else τ y
theorem cP{τ:Tg}{x:Addr}{t:List Nat}:bF τ x t x=t:=abW rfl
theorem bC{τ:Tg}{x y:Addr}{t:List Nat}(h:y≠x):bF τ x t y=τ y:=abN h
noncomputable def vp(τ:Tg)(H:Hp):Prop:=∀x,H x=none->τ x=[]
theorem vp.dom{τ:Tg}{H H':Hp}(u:vp τ H)(d:∀x,H' x=none->H x=none):vp τ H':=λx e=>u x (d x e)
theorem vp.same{τ:Tg}{H H':Hp}(u:vp τ H)(k:Same H H'):vp τ H':=u.dom λ_ e=>k.free e
theorem vp.claim{τ:Tg}{H H':Hp}{p:Addr}{t:List Nat}(u:vp τ H)(k:Same H H')(hp:∃o,H' p=some o):vp (bF τ p t) H':=λx e=>by
 have n:x≠p:=λz=>by
  obtain⟨o,ho⟩:=hp;rw[z,ho] at e;cases e
 rw[bC n];exact u.same k x e
theorem dU{τ:Tg}{a b:Addr}{s t:List Nat}(ha:τ a=s)(hb:τ b=t)(h:s≠t):a≠b:=λe=>h (by rw[←ha,←hb,e])
structure Yi(i:Nat)(τ:Tg)(H H':Hp):Prop where
 keep:∀x o,H x=some o->(τ x).head?≠some i->H' x=some o
 tup:∀x xs,H x=some (.tup xs)->H' x=some (.tup xs)
 dom:∀x,H' x=none->H x=none
theorem Yi.un{i:Nat}{τ:Tg}{H H':Hp}(a:Yi i τ H H')(u:vp τ H):vp τ H':=u.dom a.dom
structure Mv(i:Nat)(τ:Tg)(H:Hp)(τ':Tg)(H':Hp):Prop where
 keep:∀x o,H x=some o->τ x=[0]\/(τ x).head?=some i->H' x=some o/\τ' x=τ x
 tup:∀x xs,H x=some (.tup xs)->H' x=some (.tup xs)
theorem Mv.of_same{i:Nat}{τ:Tg}{H H':Hp}(k:Same H H'):Mv i τ H τ H':=⟨λx o e _=>⟨k _ _ e,Z⟩,λx xs e=>k _ _ e⟩
theorem Mv.tags{i:Nat}{τ τ':Tg}{H H':Hp}(k:Same H H')(t:∀x o,H x=some o->τ' x=τ x):Mv i τ H τ' H':=⟨λx o e _=>⟨k _ _ e,t x o e⟩,λx xs e=>k _ _ e⟩
theorem Mv.ab1{i:Nat}{τ:Tg}{H H':Hp}{a:Addr}{o:HO}(k:Kp a H H')(ha:H a=some o)(hn:∀xs,o ≠ .tup xs)(ht:τ a=[]):Mv i τ H τ H':=⟨λx u e t=>⟨k _ _ e (λz=>by
 rw[z,ht] at t;rcases t with t|t<;>cases t),Z⟩,λx xs e=>k _ _ e (cH e ha λz=>hn xs z.symm)⟩
end L2
namespace Prf
open PySem L2
inductive Qe where
 | num (n:Int)
 | box (b:Nat)
 deriving DecidableEq
inductive Hq where
 | one (x:Qe)
 | two (p:Bool) (x y:Qe)
 deriving DecidableEq
inductive Rw where
 | load (b c:Nat)
 | store (c:Nat) (e:Hq)
 | swap (b c:Nat) (e:Hq)
 | vf (b:Nat) (e:Hq)
 | say (e:Hq)
 | go (k:Nat)
 | zx (q:Bool) (e f:Hq) (k:Nat)
 deriving DecidableEq
noncomputable def rW(b:Nat):Str:=⟨#[97+b]⟩
noncomputable def zN:Qe->PyData
 | .num n=> .tuple [.str "number",.int n]
 | .box b=> .tuple [.str "box",.str (rW b)]
noncomputable def lJ:Hq->PyData
 | .one x=>zN x
 | .two p x y=> .tuple [.str (if p then "plus" else "minus"),zN x,zN y]
noncomputable def kZ:Rw->PyData
 | .load b c=> .tuple [.str "load",.str (rW b),.int c]
 | .store c e=> .tuple [.str "store",.int c,lJ e]
 | .swap b c e=> .tuple [.str "swap",.str (rW b),.int c,lJ e]
 | .vf b e=> .tuple [.str "let",.str (rW b),lJ e]
 | .say e=> .tuple [.str "say",lJ e]
 | .go k=> .tuple [.str "go",.int k]
 | .zx q e f k=> .tuple [.str "unless",.str (if q then "=" else "<"),lJ e,lJ f,.int k]
noncomputable def Qh:Qe->Prop
 | .num n=>0<=n/\n<1000
 | .box b=>b<8
noncomputable def ux:Hq->Prop
 | .one x=>Qh x
 | .two _ x y=>Qh x/\Qh y
noncomputable def tY(m:Nat):Rw->Prop
 | .load b c=>b<8/\c<m
 | .store c e=>c<m/\ux e
 | .swap b c e=>b<8/\c<m/\ux e
 | .vf b e=>b<8/\ux e
 | .say e=>ux e
 | .go _=>True
 | .zx _ e f _=>ux e/\ux f
theorem Jm:∀x:Qe,zq (zN x)=true
 | .num _=>rfl
 | .box _=>rfl
theorem uo:∀e:Hq,zq (lJ e)=true
 | .one x=>Jm x
 | .two p x y=>by simp only[lJ,zq,oh,Jm,Bool.and_self]
theorem yr:∀r:Rw,zq (kZ r)=true
 | .load _ _=>rfl
 | .store _ e=>by simp only[kZ,zq,oh,uo,Bool.and_self]
 | .swap _ _ e=>by simp only[kZ,zq,oh,uo,Bool.and_self]
 | .vf _ e=>by simp only[kZ,zq,oh,uo,Bool.and_self]
 | .say e=>by simp only[kZ,zq,oh,uo,Bool.and_self]
 | .go _=>rfl
 | .zx _ e f _=>by simp only[kZ,zq,oh,uo,Bool.and_self]
section
variable{H:Hp}{v:V}
theorem fj{vs:List V}{d:PyData}{ds:List PyData}(h:aO H vs (d::ds)):∃v ws,vs=v::ws/\Dat H v d/\aO H ws ds:=by
 cases vs with
 | nil=>exact h.elim
 | cons v ws=>exact⟨v,ws,Z,h.1,h.2⟩
theorem ju{vs:List V}(h:aO H vs []):vs=[]:=by
 cases vs with
 | nil=>rfl
 | cons v ws=>exact h.elim
theorem Ye{x:Qe}(h:Dat H v (zN x)):∃t,v = .ref t/\H t=some (.tup (match x with | .num n=>[.str "number",.int n] | .box b=>[.str "box",.str (rW b)])):=by
 cases x<;>simp only[zN,Dat] at h<;>obtain⟨t,vs,rfl,e,d⟩:=h<;>refine⟨t,Z, ?_⟩<;>rw[e] <;>
 .obtain⟨_,_,rfl,e1,d11⟩:=fj d
  obtain⟨_,_,rfl,e2,TY⟩:=fj d11;cases ju TY;cases e1;cases e2;rfl
theorem aau{p:Bool}{x y:Qe}(h:Dat H v (lJ (.two p x y))):∃t a b,v = .ref t/\H t=some (.tup [.str (if p then "plus" else "minus"),a,b])/\Dat H a (zN x)/\Dat H b (zN y):=by
 simp only[lJ,Dat] at h;obtain⟨t,vs,rfl,e,d⟩:=h;obtain⟨_,_,rfl,e1,d11⟩:=fj d;obtain⟨_,_,rfl,e2,TY⟩:=fj d11;obtain⟨_,_,rfl,e3,TX⟩:=fj TY;cases ju TX;cases e1;exact⟨t,_,_,Z,e,e2,e3⟩
noncomputable def Parts(H:Hp)(vs:List V):Rw->Prop
 | .load b c=>vs=[.str "load",.str (rW b),.int c]
 | .store c e=>∃x,vs=[.str "store",.int c,x]/\Dat H x (lJ e)
 | .swap b c e=>∃x,vs=[.str "swap",.str (rW b),.int c,x]/\Dat H x (lJ e)
 | .vf b e=>∃x,vs=[.str "let",.str (rW b),x]/\Dat H x (lJ e)
 | .say e=>∃x,vs=[.str "say",x]/\Dat H x (lJ e)
 | .go k=>vs=[.str "go",.int k]
 | .zx q e f k=>∃x y,vs=[.str "unless",.str (if q then "=" else "<"),x,y,.int k]/\Dat H x (lJ e)/\Dat H y (lJ f)
theorem Mx{r:Rw}(h:Dat H v (kZ r)):∃t vs,v = .ref t/\H t=some (.tup vs)/\Parts H vs r:=by
 cases r<;>simp only[kZ,Dat] at h<;>obtain⟨t,vs,rfl,e,d⟩:=h<;>refine⟨t,vs,Z,e, ?_⟩<;>obtain⟨_,_,rfl,e1,d11⟩:=fj d<;>cases e1<;>obtain⟨_,_,rfl,e2,TY⟩:=fj d11
 .obtain⟨_,_,rfl,e3,TX⟩:=fj TY
  cases ju TX;cases e2;cases e3;rfl
 .obtain⟨_,_,rfl,e3,TX⟩:=fj TY
  cases ju TX;cases e2;exact⟨_,Z,e3⟩
 .obtain⟨_,_,rfl,e3,TX⟩:=fj TY
  obtain⟨_,_,rfl,e4,d14⟩:=fj TX;cases ju d14;cases e2;cases e3;exact⟨_,Z,e4⟩
 .obtain⟨_,_,rfl,e3,TX⟩:=fj TY
  cases ju TX;cases e2;exact⟨_,Z,e3⟩
 .cases ju TY
  exact⟨_,Z,e2⟩
 .cases ju TY
  cases e2;rfl
 .obtain⟨_,_,rfl,e3,TX⟩:=fj TY
  obtain⟨_,_,rfl,e4,d14⟩:=fj TX;obtain⟨_,_,rfl,e5,d15⟩:=fj d14;cases ju d15;cases e2;cases e5;exact⟨_,_,Z,e3,e4⟩
end
noncomputable def v1(bs:List Int):Qe->Int
 | .num n=>n % 1000
 | .box b=>(bs[b]?).getD 0
noncomputable def vx(bs:List Int):Hq->Int
 | .one x=>v1 bs x
 | .two true x y=>(v1 bs x+v1 bs y) % 1000
 | .two false x y=>(v1 bs x - v1 bs y) % 1000
structure bJ where
 (rws:List Rw) (pos:Nat) (bs sy:List Int) (st:Str)
noncomputable def touch:Rw->Bool
 | .load _ _=>true
 | .store _ _=>true
 | .swap _ _ _=>true
 | _=>false
noncomputable def uq(bs:List Int):Rw->Bool
 | .zx true e f _=>decide (vx bs e=vx bs f)
 | .zx false e f _=>decide (vx bs e<vx bs f)
 | _=>false
noncomputable def uV(s:bJ):Rw->bJ
 | .vf b e=>{s with pos:=s.pos+1,bs:=s.bs.set b (vx s.bs e)}
 | .say e=>{s with pos:=s.pos+1,sy:=s.sy++[vx s.bs e]}
 | .go k=>{s with pos:=k}
 | .zx q e f k=>{s with pos:=if uq s.bs (.zx q e f k) then s.pos+1 else k}
 | _=>s
noncomputable def led:Nat->bJ->bJ
 | 0,s=>match s.rws[s.pos]? with
   | none=>{s with st:= "ends" }
   | some r=>if touch r then {s with st:= "waits" } else {s with st:= "lost" }
 | n+1,s=>match s.rws[s.pos]? with
   | none=>{s with st:= "ends" }
   | some r=>if touch r then {s with st:= "waits" } else led n (uV s r)
noncomputable def lead(s:bJ):bJ:=led 60 s
theorem Ak(s:bJ)(r:Rw):(uV s r).rws=s.rws:=by cases r<;>rfl
theorem GD(s:bJ)(r:Rw):(uV s r).sy.length<=s.sy.length+1:=by cases r<;>simp[uV]
theorem mG:∀(n:Nat)(s:bJ),(led n s).rws=s.rws
 | 0,s=>by
   unfold led;split
   .rfl
   .split<;>rfl
 | n+1,s=>by
   unfold led;split
   .rfl
   .split
    .rfl
    .rw[mG,Ak]
theorem Ji:∀(n:Nat)(s:bJ),(led n s).sy.length<=s.sy.length+n
 | 0,s=>by
   unfold led;split
   .simp
   .split<;>simp
 | n+1,s=>by
   unfold led;split
   .simp
   .split
    .simp
    .rename_i r _ _
     have:=Ji n (uV s r);have:=GD s r;lia
noncomputable def lK(s:bJ):Prop:=s.st = "waits" -> ∃r,s.rws[s.pos]? = some r/\touch r=true
theorem Ma:(Str.ofString "ends")≠Str.ofString "waits" :=by decide +kernel
theorem V_:(Str.ofString "lost")≠Str.ofString "waits" :=by decide +kernel
theorem yc:∀(n:Nat)(s:bJ),lK (led n s)
 | 0,s=>by
   unfold led lK;split
   .intro z;exact abZ z Ma
   .rename_i r e
    split
    .intro _;exact⟨r,e,by assumption⟩
    .intro z;exact abZ z V_
 | n+1,s=>by
   unfold led;split
   .intro z;exact abZ z Ma
   .rename_i r e
    split
    .intro _;exact⟨r,e,by assumption⟩
    .exact yc n _
noncomputable def new(rws:List Rw):bJ:=⟨rws,0,List.replicate 8 0,[],"waits"⟩
structure gU where
 (m:Nat) (ns:List Int) (hs:List bJ) (ts:List Int)
noncomputable def cJ:Rw->Nat
 | .load _ c=>c
 | .store c _=>c
 | .swap _ c _=>c
 | _=>0
noncomputable def dX:Rw->Str
 | .load _ _=> "load"
 | .store _ _=> "store"
 | .swap _ _ _=> "swap"
 | .vf _ _=> "let"
 | .say _=> "say"
 | .go _=> "go"
 | .zx _ _ _ _=> "unless"
noncomputable def pK(ns:List Int):Rw->Option Int
 | .load _ c=>ns[c]?
 | .swap _ c _=>ns[c]?
 | _=>none
noncomputable def Ka(bs:List Int):Rw->Option Int
 | .store _ e=>some (vx bs e)
 | .swap _ _ e=>some (vx bs e)
 | _=>none
noncomputable def oV:Option Int->V
 | none=> .non
 | some i=> .int i
noncomputable def oD:Option Int->PyData
 | none=> .none
 | some i=> .int i
noncomputable def Bj(ns bs:List Int)(r:Rw):List V:=[.str (dX r),.int (cJ r),oV (pK ns r),oV (Ka bs r)]
noncomputable def qG(ns bs:List Int):Rw->List Int
 | .load b c=>bs.set b ((ns[c]?).getD 0)
 | .swap b c _=>bs.set b ((ns[c]?).getD 0)
 | _=>bs
noncomputable def dh(ns bs:List Int):Rw->List Int
 | .store c e=>ns.set c (vx bs e)
 | .swap _ c e=>ns.set c (vx bs e)
 | _=>ns
noncomputable def jO(ns:List Int)(s:bJ)(r:Rw):bJ:=lead {s with pos:=s.pos+1,bs:=qG ns s.bs r}
noncomputable def cB(S:gU)(k:Nat):gU:=match S.hs[k]? with
 | none=>S
 | some s=>match s.rws[s.pos]? with
   | none=>S
   | some r=>{S with ns:=dh S.ns s.bs r,hs:=S.hs.set k (jO S.ns s r),ts:=S.ts++[(k:Int)]}
noncomputable def iu(m:Nat)(ns:List Int)(rws:List (List Rw)):gU:=⟨m,ns,rws.map λr=>lead (new r),[]⟩
end Prf
namespace L2
open PySem Prf
theorem aO.kp{H H':Hp}{vs:List V}{rws:List Rw}(d:aO H vs (rws.map kZ))(t:∀x xs,H x=some (.tup xs)->H' x=some (.tup xs)):aO H' vs (rws.map kZ):=d.keep t _ (cu kZ yr rws)
end L2
namespace L2
open PySem PySem.Spec PyProof.Rows
section
variable{X:Cx}{k:Nat}{C:Addr}{sp:Sp}
theorem rzF:Rz X (λ_ _ _ _=>False):=by
 intro pins σ H s e cls dx fl hf I fp xo z;exact z.elim
end
structure IsO(K:PySem.W.Frag)(mg:Str->Option Value)(C:Addr)(nm:Str):Prop where
 bd:mg nm=some (.ref C)
 ha:PySem.W.findIn K (.ref C) "__class__" = some (some (.builtin "object.__class__"))
 hn:PySem.W.specialIn K (.builtin "object.__class__") "__get__" = some (some (.builtin "getset_descriptor.__get__"))
 ht:PySem.W.takesIn K (.builtin "object.__class__")=some true
 hm:PySem.W.mroIn K C (.type "object")=some true
section
variable{prog:Program}{w:World}{A:Around}{E:Value->Shared->Prop}{s:Shared}
end
section
variable{prog:Program}{w:World}{A:Around}{E:Value->Shared->Prop}{s:Shared}
end
section
variable{X:Cx}
end
section
variable{K:PySem.W.Frag}{D:Addr}{xs:List V}{tc:TT}{te:TE}{Q:VK}{rest:St}{H1:Hp}
end
end L2
namespace Prf
open PySem L2
noncomputable def inR(x:Int):Prop:=0<=x/\x<1000
noncomputable def allR(l:List Int):Prop:=∀x∈l,inR x
theorem G_{l:List Int}(h:allR l)(i:Nat):inR ((l[i]?).getD 0):=by
 cases e:l[i]? with
 | none=>exact⟨by decide,by decide⟩
 | some x=>exact h x (aaL e)
theorem yS{l:List Int}(h:allR l)(i:Nat){x:Int}(hx:inR x):allR (l.set i x):=λy hy=>by
 rcases List.mem_or_eq_of_mem_set hy with m|e
 .exact h y m
 .rw[e];exact hx
theorem Cv(x:Int):inR (x % 1000):=⟨Int.emod_nonneg _ (by decide),Int.emod_lt_of_pos _ (by decide)⟩
theorem Qi{bs:List Int}(h:allR bs):∀e:Hq,inR (vx bs e)
 | .one (.num n)=>Cv n
 | .one (.box b)=>G_ h b
 | .two true x y=>Cv _
 | .two false x y=>Cv _
theorem WM{s:bJ}(h:allR s.bs)(r:Rw):allR (uV s r).bs:=by
 cases r<;>first |exact h|exact yS h _ (Qi h _)
theorem Sv:∀(n:Nat)(s:bJ),allR s.bs->allR (led n s).bs
 | 0,s,h=>by
   unfold led;split
   .exact h
   .split<;>exact h
 | n+1,s,h=>by
   unfold led;split
   .exact h
   .split
    .exact h
    .exact Sv n _ (WM h _)
noncomputable def abC(x:Str):Prop:=x = "waits" \/ x = "ends" \/ x = "lost"
theorem xZ:∀(n:Nat)(s:bJ),abC (led n s).st
 | 0,s=>by
   unfold led;split
   .exact .inr (.inl rfl)
   .split
    .exact .inl rfl
    .exact .inr (.inr rfl)
 | n+1,s=>by
   unfold led;split
   .exact .inr (.inl rfl)
   .split
    .exact .inl rfl
    .exact xZ n _
structure rP(S:gU):Prop where
 n:allR S.ns
 b:∀s∈S.hs,allR s.bs
 t:∀s∈S.hs,abC s.st
theorem W7{ns bs:List Int}(h:allR ns)(hb:allR bs)(r:Rw):allR (dh ns bs r):=by
 cases r<;>first |exact h|exact yS h _ (Qi hb _)
theorem Xa{ns bs:List Int}(h:allR ns)(hb:allR bs)(r:Rw):allR (qG ns bs r):=by
 cases r<;>first |exact hb|exact yS hb _ (G_ h _)
theorem rP.turn{S:gU}(g:rP S)(k:Nat):rP (cB S k):=by
 unfold cB;split
 .exact g
 .rename_i s es
  split
  .exact g
  .rename_i r er
   have hb:=g.b s (aaL es);refine⟨W7 g.n hb r,λs' hs'=>?_,λs' hs'=>?_⟩
   .rcases List.mem_or_eq_of_mem_set hs' with m|e
    .exact g.b s' m
    .rw[e]
     exact Sv _ _ (Xa g.n hb r)
   .rcases List.mem_or_eq_of_mem_set hs' with m|e
    .exact g.t s' m
    .rw[e]
     exact xZ _ _
theorem O5{m:Nat}{ns:List Int}{rws:List (List Rw)}(h:allR ns):rP (iu m ns rws):=⟨h,λs hs=>by
 obtain⟨r,_,rfl⟩:=aa2.mp hs;refine Sv _ _ λx hx=>?_;rw[(List.mem_replicate.mp hx).2];exact⟨by decide,by decide⟩,λs hs=>by
 obtain⟨r,_,rfl⟩:=aa2.mp hs;exact xZ _ _⟩
theorem Dj:∀b:Fin 8,PyData.strOk (rW b.val)=true:=by decide +kernel
theorem JD{x:Qe}(h:Qh x):(zN x).canLay0=true/\(zN x).depth<=1:=by
 cases x with
 | num n=>exact⟨by show (PyData.strOk (Str.ofString "number")&&(true&&true))=true;decide +kernel,by show (max 0 (max 0 0))+1<=1;decide⟩
 | box b=>
   refine⟨?_,by show (max 0 (max 0 0))+1<=1;decide⟩;show (PyData.strOk (Str.ofString "box")&&(PyData.strOk (rW b)&&true))=true;rw[show PyData.strOk (rW b)=true from Dj ⟨b,h⟩];decide +kernel
theorem uD{e:Hq}(h:ux e):(lJ e).canLay0=true/\(lJ e).depth<=2:=by
 cases e with
 | one x=>obtain⟨a,b⟩:=JD (x:=x) h;exact⟨a,by show (zN x).depth<=2;lia⟩
 | two p x y=>
   obtain⟨a1,b1⟩:=JD h.1;obtain⟨a2,b2⟩:=JD h.2;refine⟨?_, ?_⟩
   .show (PyData.strOk (if p then Str.ofString "plus" else Str.ofString "minus")&&(PyData.canLay0 (zN x)&&(PyData.canLay0 (zN y)&&true)))=true
    rw[a1,a2];cases p<;>decide +kernel
   .show max 0 (max (zN x).depth (max (zN y).depth 0))+1<=2
    lia
theorem Ud{m:Nat}{r:Rw}(h:tY m r):(kZ r).canLay0=true/\(kZ r).depth<=3:=by
 cases r with
 | load b c=>
   refine⟨?_,by show max 0 (max 0 (max 0 0))+1<=3;decide⟩;show (PyData.strOk (Str.ofString "load")&&(PyData.strOk (rW b)&&(true&&true)))=true;rw[show PyData.strOk (rW b)=true from Dj ⟨b,h.1⟩];decide +kernel
 | store c e=>
   obtain⟨a,d⟩:=uD h.2;refine⟨?_, ?_⟩
   .show (PyData.strOk (Str.ofString "store")&&(true&&(PyData.canLay0 (lJ e)&&true)))=true
    rw[a];decide +kernel
   .show max 0 (max 0 (max (lJ e).depth 0))+1<=3
    lia
 | swap b c e=>
   obtain⟨a,d⟩:=uD h.2.2;refine⟨?_, ?_⟩
   .show (PyData.strOk (Str.ofString "swap")&&(PyData.strOk (rW b)&&(true&&(PyData.canLay0 (lJ e)&&true))))=true
    rw[a,show PyData.strOk (rW b)=true from Dj ⟨b,h.1⟩];decide +kernel
   .show max 0 (max 0 (max 0 (max (lJ e).depth 0)))+1<=3
    lia
 | vf b e=>
   obtain⟨a,d⟩:=uD h.2;refine⟨?_, ?_⟩
   .show (PyData.strOk (Str.ofString "let")&&(PyData.strOk (rW b)&&(PyData.canLay0 (lJ e)&&true)))=true
    rw[a,show PyData.strOk (rW b)=true from Dj ⟨b,h.1⟩];decide +kernel
   .show max 0 (max 0 (max (lJ e).depth 0))+1<=3
    lia
 | say e=>
   obtain⟨a,d⟩:=uD (e:=e) h;refine⟨?_, ?_⟩
   .show (PyData.strOk (Str.ofString "say")&&(PyData.canLay0 (lJ e)&&true))=true
    rw[a];decide +kernel
   .show max 0 (max (lJ e).depth 0)+1<=3
    lia
 | go k=>exact⟨by show (PyData.strOk (Str.ofString "go")&&(true&&true))=true;decide +kernel,by show max 0 (max 0 0)+1<=3;decide⟩
 | zx q e f k=>
   obtain⟨a1,b1⟩:=uD h.1;obtain⟨a2,b2⟩:=uD h.2;refine⟨?_, ?_⟩
   .show (PyData.strOk (Str.ofString "unless")&&(PyData.strOk (if q then Str.ofString "=" else Str.ofString "<")&&(PyData.canLay0 (lJ e)&&(PyData.canLay0 (lJ f)&&(true&&true)))))=true
    rw[a1,a2];cases q<;>decide +kernel
   .show max 0 (max 0 (max (lJ e).depth (max (lJ f).depth (max 0 0))))+1<=3
    lia
noncomputable def yp(l:List Int):PyData:= .list (l.map PyData.int)
theorem G5(l:List Int):(yp l).canLay0=true/\(yp l).depth<=1:=⟨jP PyData.int l λ_ _=>rfl,by
 have:=ig PyData.int 0 l λ_ _=>by show 0<=0;decide
 show PyData.depthAll (l.map PyData.int)+1<=1;lia⟩
noncomputable def qU(rws:List Rw):PyData:= .list (rws.map kZ)
theorem G4{m:Nat}{rws:List Rw}(h:∀r∈rws,tY m r):(qU rws).canLay0=true/\(qU rws).depth<=4:=⟨jP kZ rws λr hr=>(Ud (h r hr)).1,by
 have:=ig kZ 3 rws λr hr=>(Ud (h r hr)).2;show PyData.depthAll (rws.map kZ)+1<=4;lia⟩
mutual
theorem Gy:∀d:PyData,d.canLay0=true->PyData.eqv d d=true
 | .none,_=>rfl
 | .bool b,_=>by simp[PyData.eqv]
 | .int i,_=>by simp[PyData.eqv]
 | .str x,_=>by simp[PyData.eqv]
 | .list ds,h=>by simp only[PyData.eqv];exact uy ds (by simpa [PyData.canLay0] using h)
 | .tuple ds,h=>by simp only[PyData.eqv];exact uy ds (by simpa [PyData.canLay0] using h)
 | .dict _,h=>by simp[PyData.canLay0] at h
theorem uy:∀ds:List PyData,PyData.canLayAll0 ds=true->PyData.eqvAll ds ds=true
 | [],_=>rfl
 | d::ds,h=>by
   simp only[PyData.canLayAll0,aaZ] at h;simp only[PyData.eqvAll,aaZ];exact⟨Gy d h.1,uy ds h.2⟩
end
theorem Js{d:PyData}(h:SeqAt.shaped d=true):PyData.eqv d d=true:=by
 unfold SeqAt.shaped at h;rw[aaZ] at h;exact Gy d h.1
noncomputable def isLoad:Rw->Bool
 | .load _ _=>true
 | _=>false
theorem rG{ns bs:List Int}{r:Rw}{c:Nat}(h:cJ r≠c):(dh ns bs r)[c]? = ns[c]? :=by
 cases r<;>first |rfl|(simp only[cJ] at h;simp only[dh];rw[List.getElem?_set_ne h])
theorem iY{ns bs:List Int}{r:Rw}(h:isLoad r=true):dh ns bs r=ns:=by
 cases r<;>first |rfl|cases h
noncomputable def apart(r q:Rw):Prop:=cJ r≠cJ q\/(isLoad r=true/\isLoad q=true)
theorem apart.symm{r q:Rw}(h:apart r q):apart q r:=by
 rcases h with h|⟨a,b⟩
 .exact .inl h.symm
 .exact .inr ⟨b,a⟩
theorem apart.Yc{ns bs cs:List Int}{r q:Rw}(h:apart r q):qG (dh ns bs r) cs q=qG ns cs q:=by
 rcases h with h|⟨a,_⟩
 .cases q<;>first |rfl|(simp only[qG];have h':=rG (ns:=ns) (bs:=bs) h;simp only[cJ] at h';rw[h'])
 .rw[iY a]
theorem apart.read{ns bs:List Int}{r q:Rw}(h:apart r q):pK (dh ns bs r) q=pK ns q:=by
 rcases h with h|⟨a,_⟩
 .cases q<;>first |rfl|(simp only[pK];have h':=rG (ns:=ns) (bs:=bs) h;simp only[cJ] at h';rw[h'])
 .rw[iY a]
theorem apart.cells{ns bs cs:List Int}{r q:Rw}(h:apart r q):dh (dh ns bs r) cs q=dh (dh ns cs q) bs r:=by
 rcases h with h|⟨a,b⟩
 .cases r<;>cases q<;>first |rfl|(simp only[cJ] at h;simp only[dh];exact List.set_comm _ _ h)
 .rw[iY a,iY b,iY a]
theorem gw{S:gU}{k:Nat}{s:bJ}{r:Rw}(es:S.hs[k]? = some s)(er:s.rws[s.pos]? = some r):cB S k={S with ns:=dh S.ns s.bs r,hs:=S.hs.set k (jO S.ns s r),ts:=S.ts++[(k:Int)]}:=by
 unfold cB;simp only[es,er]
theorem k_{S:gU}{f g:Nat}{s t:bJ}{r q:Rw}(n:f≠g)(es:S.hs[f]? = some s)(er:s.rws[s.pos]? = some r)(et:S.hs[g]? = some t)(eq:t.rws[t.pos]? = some q):
 (cB S f).hs[g]? = some t/\cB (cB S f) g={S with ns:=dh (dh S.ns s.bs r) t.bs q,hs:=(S.hs.set f (jO S.ns s r)).set g (jO (dh S.ns s.bs r) t q),ts:=S.ts++[(f:Int)]++[(g:Int)]}:=by
 have e1:=gw es er;have e2:(cB S f).hs[g]? = some t:=by rw[e1];show (S.hs.set f _)[g]? = _;rw[List.getElem?_set_ne n];exact et
 refine⟨e2, ?_⟩;rw[gw e2 eq,e1]
theorem M9{S:gU}{f g:Nat}{s t:bJ}{r q:Rw}(n:f≠g)(es:S.hs[f]? = some s)(er:s.rws[s.pos]? = some r)(et:S.hs[g]? = some t)(eq:t.rws[t.pos]? = some q)(ap:apart r q):
 (cB (cB S f) g).ns=(cB (cB S g) f).ns/\(cB (cB S f) g).hs=(cB (cB S g) f).hs:=by
 rw[(k_ n es er et eq).2,(k_ n.symm et eq es er).2];refine⟨ap.cells, ?_⟩;show (S.hs.set f _).set g _=(S.hs.set g _).set f _;unfold jO;rw[ap.Yc,ap.symm.Yc,List.set_comm _ _ n]
end Prf
namespace L2
open PySem
noncomputable def nw(H H':Hp):Hp:=λx=>match H x with
 | none=>H' x
 | some _=>none
section
variable{K:PySem.W.Frag}{a D:Addr}{xs:List V}{te:TE}{Q:VK}{rest:St}{H1:Hp}
end
end L2
namespace L2
open PySem PySem.Spec PyProof.Rows
section
variable{prog:Program}{w:World}{K:Type}[DecidableEq K]{knd:HeapKind prog w K}{A:Around}{E:Value->Shared->Prop}{s:Shared}
end
section
variable{X:Cx}
end
end L2
namespace Prf
open PySem L2
structure Tc where
 (k:Nat) (r:Rw) (rd wr:Option Int)
noncomputable def vD(S:gU)(t:Tc):Prop:=∃s,S.hs[t.k]? = some s/\s.st = "waits" /\ s.rws[s.pos]? = some t.r/\t.rd=pK S.ns t.r/\t.wr=Ka s.bs t.r
noncomputable def Run:gU->List Tc->gU->Prop
 | S,[],S'=>S'=S
 | S,t::l,S'=>vD S t/\Run (cB S t.k) l S'
structure Hr(S T:gU):Prop where
 m:S.m=T.m
 ns:S.ns=T.ns
 hs:S.hs=T.hs
 ts:S.ts.Perm T.ts
theorem Hr.refl(S:gU):Hr S S:=⟨Z,Z,Z,List.Perm.refl _⟩
theorem Hr.trans{S T U:gU}(a:Hr S T)(b:Hr T U):Hr S U:=⟨a.m.trans b.m,a.ns.trans b.ns,a.hs.trans b.hs,a.ts.trans b.ts⟩
theorem vD.alk{S T:gU}{t:Tc}(h:vD S t)(a:Hr S T):vD T t:=by
 obtain⟨s,h1,h2,h3,h4,h5⟩:=h;exact⟨s,by rw[←a.hs];exact h1,h2,h3,by rw[←a.ns];exact h4,h5⟩
theorem vD.turn{S:gU}{t:Tc}(h:vD S t):∃s,S.hs[t.k]? = some s/\s.rws[s.pos]? = some t.r/\cB S t.k={S with ns:=dh S.ns s.bs t.r,hs:=S.hs.set t.k (jO S.ns s t.r),ts:=S.ts++[(t.k:Int)]}:=by
 obtain⟨s,h1,_,h3,_⟩:=h;exact⟨s,h1,h3,gw h1 h3⟩
theorem Qp{S T:gU}{t:Tc}(h:vD S t)(a:Hr S T):Hr (cB S t.k) (cB T t.k):=by
 obtain⟨s,h1,h3,e⟩:=h.turn;have h1':T.hs[t.k]? = some s:=by rw[←a.hs];exact h1
 rw[e,gw h1' h3];exact⟨a.m,by show dh _ _ _=dh _ _ _;rw[a.ns],by show List.set _ _ _=List.set _ _ _;rw[a.hs,a.ns],a.ts.append_right _⟩
theorem Run.alk:∀{l:List Tc}{S T S':gU},Run S l S'->Hr S T -> ∃T',Run T l T'/\Hr S' T'
 | [],S,T,S',h,a=>⟨T,Z,by have h:S'=S:=h;rw[h];exact a⟩
 | t::l,S,T,S',⟨h1,h2⟩,a=>by
   obtain⟨T',r,a'⟩:=Run.alk h2 (Qp h1 a);exact⟨T',⟨h1.alk a,r⟩,a'⟩
theorem Run.det:∀{l:List Tc}{S T T':gU},Run S l T->Run S l T'->T=T'
 | [],S,T,T',h,h'=>by
   have h:T=S:=h;have h':T'=S:=h';rw[h,h']
 | t::l,S,T,T',h,h'=>Run.det h.2 h'.2
theorem Run.app:∀{p q:List Tc}{S S':gU},Run S (p++q) S' ↔ ∃T,Run S p T/\Run T q S'
 | [],q,S,S'=>⟨λh=>⟨S,Z,h⟩,λ⟨T,h1,h2⟩=>by have h1:T=S:=h1;rw[h1] at h2;exact h2⟩
 | t::p,q,S,S'=>by
   constructor
   .rintro⟨h1,h2⟩
    obtain⟨T,a,b⟩:=Run.app.mp h2;exact⟨T,⟨h1,a⟩,b⟩
   .rintro⟨T,⟨h1,a⟩,b⟩
    exact⟨h1,Run.app.mpr ⟨T,a,b⟩⟩
noncomputable def stepT(x y:Tc):Prop:=x.k=y.k \/ ¬apart x.r y.r
theorem Run.swap{S S':gU}{x y:Tc}{l:List Tc}(n:¬stepT x y)(h:Run S (x::y::l) S'):∃UJ,Run S (y::x::l) UJ/\Hr S' UJ:=by
 obtain⟨hx,hy,hl⟩:=h;have nk:x.k≠y.k:=λz=>n (.inl z);have ap:apart x.r y.r:=Classical.byContradiction λz=>n (.inr z);obtain⟨s,s1,s2,s3,s4,s5⟩:=id hx;obtain⟨t,t1,t2,t3,t4,t5⟩:=id hy;have ex:=gw s1 s3
 have t1':S.hs[y.k]? = some t:=by
  rw[ex] at t1;have t1:(S.hs.set x.k _)[y.k]? = some t:=t1;rwa [List.getElem?_set_ne nk] at t1
 have ey:=gw t1' t3
 have hy':vD S y:=⟨t,t1',t2,t3,by
  rw[t4,ex];exact ap.read,t5⟩
 have s1':(cB S y.k).hs[x.k]? = some s:=by
  rw[ey];show (S.hs.set y.k _)[x.k]? = some s;rw[List.getElem?_set_ne (Ne.symm nk)];exact s1
 have hx':vD (cB S y.k) x:=⟨s,s1',s2,s3,by
  rw[s4,ey];exact ap.symm.read.symm,s5⟩
 obtain⟨w1,w2⟩:=M9 nk s1 s3 t1' t3 ap
 have al:Hr (cB (cB S x.k) y.k) (cB (cB S y.k) x.k):=by
  refine⟨?_,w1,w2, ?_⟩
  .rw[(k_ nk s1 s3 t1' t3).2,(k_ (Ne.symm nk) t1' t3 s1 s3).2]
  .rw[(k_ nk s1 s3 t1' t3).2,(k_ (Ne.symm nk) t1' t3 s1 s3).2]
   show (S.ts++[(x.k:Int)]++[(y.k:Int)]).Perm (S.ts++[(y.k:Int)]++[(x.k:Int)]);rw[List.append_assoc,List.append_assoc];exact List.Perm.append_left _ (List.Perm.swap _ _ _)
 obtain⟨UJ,r,a⟩:=hl.alk al;exact⟨UJ,⟨hy',hx',r⟩,a⟩
theorem Run.front:∀{pre:List Tc}{S S':gU}{x:Tc}{post:List Tc},(∀p∈pre,¬stepT p x)->Run S (pre++x::post) S' -> ∃UJ,Run S (x::(pre++post)) UJ/\Hr S' UJ
 | [],S,S',x,post,_,h=>⟨S',h,Hr.refl _⟩
 | p::pre,S,S',x,post,n,⟨h1,h2⟩=>by
   obtain⟨T,r,a⟩:=Run.front (λq hq=>n q (.tail _ hq)) h2;obtain⟨U,r',a'⟩:=Run.swap (n p (.head _)) (show Run S (p::x::(pre++post)) T from ⟨h1,r⟩);exact⟨U,r',a.trans a'⟩
inductive J1(l:List Tc):List Nat->Prop
 | nil:J1 l []
 | snoc {o:List Nat} {a:Nat} {x:Tc} (h:J1 l o) (e:l[a]? = some x) (n:a∉o) (q:∀m y,m<a->l[m]? = some y->stepT y x->m∈o):J1 l (o++[a])
noncomputable def pick(l:List Tc)(o:List Nat):List Tc:=o.filterMap λi=>l[i]?
noncomputable def zW(l:List Tc)(o:List Nat):List Nat:=(List.range l.length).filter λi=> !o.contains i
theorem rE{p:Nat->Bool}{a:Nat}:∀n,a<n->p a=true->(List.range n).filter p=(List.range a).filter p++a::((List.range n).filter λi=>p i&&decide (a<i))
 | 0,h,_=>by lia
 | n+1,h,q=>by
   rw[List.range_succ,abL,abL];rcases Nat.lt_or_ge a n with l|l
   .have f:List.filter (λi=>p i&&decide (a<i)) [n]=List.filter p [n]:=by
     rw[abn,abn];cases p n<;>simp[l]
    rw[rE n l q,f];simp
   .have:a=n:=by lia
    subst this;have f1:List.filter p [a]=[a]:=by rw[abn,abW q];rfl
    have f2:(List.range a).filter (λi=>p i&&decide (a<i))=[]:=List.filter_eq_nil_iff.mpr λi hi z=>by
     have:=aa9.mp hi;simp at z;lia
    have f3:List.filter (λi=>p i&&decide (a<i)) [a]=[]:=by rw[abn];simp
    rw[f1,f2,f3];simp
theorem Ny{l:List Tc}{o:List Nat}{a:Nat}(ha:a<l.length)(n:a∉o):∃pre post,zW l o=pre++a::post/\zW l (o++[a])=pre++post /\ ∀m∈pre,m<a/\m∉o:=by
 have pa:(!o.contains a)=true:=by simpa using n
 have e:=rE (p:=λi=> !o.contains i) l.length ha pa;refine⟨_,_,e, ?_,λm hm=>?_⟩
 .unfold zW
  have c:∀i,(!(o++[a]).contains i)=((!o.contains i) && !decide (i=a)):=λi=>by
   rw[List.contains_append]
   by_cases q:i=a<;>simp[q]
  have e2:(List.range l.length).filter (λi=> !(o++[a]).contains i)=((List.range l.length).filter λi=> !o.contains i).filter λi=> !decide (i=a):=by
   rw[List.filter_filter];refine List.filter_congr λi _=>?_;rw[c,Bool.and_comm]
  rw[e2,e,abL,abn];simp only[decide_true,Bool.not_true,Bool.false_eq_true,if_false];congr 1
  .exact List.filter_eq_self.mpr λi hi=>by
    have:=aa9.mp (aa8.mp hi).1;simp;lia
  .exact List.filter_eq_self.mpr λi hi=>by
    have:=(aa8.mp hi).2;simp at this ⊢;lia
 .obtain⟨h1,h2⟩:=aa8.mp hm
  exact⟨aa9.mp h1,by simpa using h2⟩
theorem nM(l:List Tc)(a b:List Nat):pick l (a++b)=pick l a++pick l b:=by unfold pick;rw[List.filterMap_append]
theorem jy{l:List Tc}{a:Nat}{x:Tc}(e:l[a]? = some x)(b:List Nat):pick l (a::b)=x::pick l b:=by
 unfold pick;rw[List.filterMap_cons,e]
theorem QW(l:List Tc):pick l (zW l [])=l:=by
 unfold pick zW;have:(List.range l.length).filter (λi=> !([]:List Nat).contains i)=List.range l.length:=List.filter_eq_self.mpr λi _=>by simp
 rw[this];refine List.ext_getElem? λi=>?_
 have gen:∀n,n<=l.length->(List.range n).filterMap (λi=>l[i]?)=l.take n:=by
  intro n
  induction n with
  | zero=>intro _;rfl
  | succ n ih=>
    intro hn;rw[List.range_succ,List.filterMap_append,ih (by lia),aa5];congr 1
 rw[gen _ (aap _),aa3]
theorem Run.other{l:List Tc}{S S':gU}(h:Run S l S'){o:List Nat}(O:J1 l o):∃T UJ,Run S (pick l o) T/\Run T (pick l (zW l o)) UJ/\Hr S' UJ:=by
 induction O with
 | nil=>exact⟨S,S',Z,by rw[QW];exact h,Hr.refl _⟩
 | @snoc o a x O e n q ih=>
   obtain⟨T,S1,r1,r2,al⟩:=ih;have ha:a<l.length:=(aaf.mp e).1;obtain⟨pre,post,e1,e2,e3⟩:=Ny ha n;rw[e1,nM,jy e] at r2
   have np:∀p∈pick l pre,¬stepT p x:=λp hp st=>by
    unfold pick at hp;obtain⟨m,hm,em⟩:=List.mem_filterMap.mp hp;obtain⟨lm,nm⟩:=e3 m hm;exact nm (q m p lm em st)
   obtain⟨S2,r3,al2⟩:=Run.front np r2;obtain⟨r3a,r3b⟩:=r3;refine⟨cB T x.k,S2, ?_,by rw[e2,nM];exact r3b,al.trans al2⟩;rw[nM,jy e];exact Run.app.mpr ⟨T,r1,r3a,Z⟩
theorem Run.next{l:List Tc}{S S' T:gU}(h:Run S l S'){o:List Nat}{a:Nat}{x:Tc}(O:J1 l (o++[a]))(e:l[a]? = some x)(r:Run S (pick l o) T):vD T x:=by
 obtain⟨U,_,r1,_,_⟩:=h.other O;rw[nM,jy e] at r1;obtain⟨T',r2,r3,_⟩:=Run.app.mp r1;rw[r.det r2];exact r3
end Prf
namespace L2
open PySem PySem.Spec PyProof.Rows
section
variable{P:Program}{w:World}{K:PySem.W.Frag}{mg:Str->Option Value}{base:Heap}
noncomputable def Hi(P:Program)(w:World)(K:PySem.W.Frag)(mg:Str->Option Value)(base:Heap)(k:Nat)(x:Str)(ps:List Str)(j5:List V)(sp:Sp):Prop:=
 ∃f fd ds,bL P w K mg base (oW P w) k f fd ps sp/\mg x=some (.ref f)/\PySem.W.keepIn K (.ref f)=true/\Binds K fd ps ds/\Vals j5 ds
noncomputable def Hh(P:Program)(w:World)(K:PySem.W.Frag)(mg:Str->Option Value)(base:Heap)(k:Nat)(x:Str)(ps:List Str)(kn:Str)(sp:Sp):Prop:=
 ∃f fd,bL P w K mg base (oW P w) k f fd ps sp/\mg x=some (.ref f)/\PySem.W.keepIn K (.ref f)=true /\
  ∀(s:Shared)(us:List Value)(z:Value),K.In s.heap->(us++[z]).length=ps.length->BindsTo s fd ⟨us,[(kn,z)]⟩ (ps.zip (us++[z]))
end
section
variable{X:Cx}{k:Nat}{x kn:Str}{ps:List Str}{sp:Sp}{j5:List V}{e ke:Expr}{es:List Expr}{te:TE}{t:TA}{p pos kpos:Pos}{E:St->XK}
noncomputable def YJ(sp:Sp)(j5:List V)(E:St->XK)(t:TA):TE:=λσ H Q=>t σ H λvs H1=>sp (vs++j5) H1 Q (E σ)
theorem Zh(F:Hi X.prog X.w X.K X.mg X.base k x ps j5 sp)(hx:X.ex=[])(R:Rz X E)(hr:eU k X.A)(hg:Gl X x)(ha:PA X (e::es) t)(hd:(x==("__debug__" :Str))=false:=by decide)(he:starEach (e::es) X.env=(false,eval e X.env)::starEach es X.env:=by rfl)(hpl:(backTo pos (starEach es X.env)).any (·.1)=false:=by rfl):
 PE X (.Call (.Name x p) (e::es) [] pos) (YJ sp j5 E t):=by
 obtain⟨f,fd,ds,G,hm,hk,hb,hv⟩:=F;intro pins s σ H Q I h;refine wpAny_Call_Name_kw (jZ I hg hm ?_ hd);refine PySem.W.callWith_K (h₀:=X.base) I.ok.mod.Sy hk (cY (ha pos pins s σ H _ I h) λus s1 ⟨vs,H1,I1,r,q⟩=>⟨I1.mH, ?_⟩) he hpl;have rv:=r.append hv;have hl:(us++ds).length=ps.length:=by rw[←rv.length];exact G.len _ _ _ _ q
 refine wpAny_call (codeAny_mono (G.run X.A X.stack s1 H1 ⟨us,[]⟩ (us++ds) (vs++j5) Q (E σ) hr I1.env0 (hb s1 us I1.mH hl) rv q) λres s' hq=>?_)
 match res,hq with
 | .error ev,hq=>exact q_ hx R I1 hq
 | .ok (.ret u),hq=>exact I1.after hq
noncomputable def Vc(sp:Sp)(E:St->XK)(t:TA)(te:TE):TE:=λσ H Q=>t σ H λvs H1=>te σ H1 λz H2=>∃z',[z]=[z']/\sp (vs++[z']) H2 Q (E σ)
theorem Vw(F:Hh X.prog X.w X.K X.mg X.base k x ps kn sp)(hx:X.ex=[])(R:Rz X E)(hr:eU k X.A)(hg:Gl X x)(ha:PA X (e::es) t)(hk:PE X ke te)(hdb:(x==("__debug__" :Str))=false:=by decide)(hall:(backToKw pos (keywordEach [⟨some kn,ke,kpos⟩] X.env)).all (·.1.isSome)=true:=by rfl)(hks:(backToKw pos (keywordEach [⟨some kn,ke,kpos⟩] X.env)).filterMap (·.1)=[kn]:=by rfl)(he:starEach (e::es) X.env=(false,eval e X.env)::starEach es X.env:=by rfl)(hpl:((backTo pos (starEach (e::es) X.env)).any (·.1)||(backToKw pos (keywordEach [⟨some kn,ke,kpos⟩] X.env)).any (·.1.isNone))=false:=by rfl):
 PE X (.Call (.Name x p) (e::es) [⟨some kn,ke,kpos⟩] pos) (Vc sp E t te):=by
 obtain⟨f,fd,G,hm,hkp,hb⟩:=F;intro pins s σ H Q I h;refine wpAny_Call_Name_kw (jZ I hg hm ?_ hdb);refine PySem.W.callWith_KW (h₀:=X.base) I.ok.mod.Sy hkp hall (cY (ha pos pins s σ H _ I h) λus s1 ⟨vs,H1,I1,r,q⟩=>?_) hpl he;refine cY ((Vr (nm:=some kn) (kpos:=kpos) hk Zc) pos pins s1 σ H1 (λzs H2=>∃z',zs=[z']/\sp (vs++[z']) H2 Q (E σ)) I1 q) λws s2 ⟨zs,H2,I2,rz,z',ez,q2⟩=>⟨I2.mH, ?_⟩;subst ez;obtain⟨z,rfl,rz1⟩:=rz.one;rw[hks];have rv:=r.append rz;have hl:(us++[z]).length=ps.length:=by rw[←rv.length];exact G.len _ _ _ _ q2
 refine wpAny_call (codeAny_mono (G.run X.A X.stack s2 H2 ⟨us,[(kn,z)]⟩ (us++[z]) (vs++[z']) Q (E σ) hr I2.env0 (hb s2 us z I2.mH hl) rv q2) λres s' hq=>?_)
 match res,hq with
 | .error ev,hq=>exact q_ hx R I2 hq
 | .ok (.ret u),hq=>exact I2.after hq
end
section
variable{X:Cx}{body:List Stmt}{h0:ExceptHandler}{hs:List ExceptHandler}{ts:List (Addr×TS)}{tb:(St->XK)->TS}{pos:Pos}
end
section
variable{X:Cx}
end
end L2
namespace L2
open PySem PySem.Spec PyProof.Rows PySem.Builtin PySem.Builtin.Str
section
variable{X:Cx}{K:PySem.W.Frag}
end
end L2
namespace L2
open PySem PySem.Spec PyProof.Rows
section
variable{X:Cx}{k:Nat}{x:Str}{ps:List Str}{sp:Sp}{p pos:Pos}
end
section
variable{X:Cx}
noncomputable def Xp(vs:List V):TA:=λ_ H Q=>Q vs H
noncomputable def uY:List Expr->List Str->Bool
 | [],[]=>true
 | .Constant (.str x) _ _::es,y::ys=>(x==y)&&uY es ys
 | _,_=>false
theorem Cp:∀{es:List Expr}(ss:List Str),uY es ss=true->PA X es (Xp (ss.map V.str))
 | [],[],_=>aq
 | [],_::_,h=>by simp[uY] at h
 | .Constant (.str x) j pos::es,y::ys,h=>by
   simp only[uY,aaZ,beq_iff_eq] at h;obtain⟨rfl,h⟩:=h;exact aj (bD (x:=x) (j:=j) (pos:=pos)) (Cp ys h)
 | e::es,[],h=>by unfold uY at h;split at h<;>simp_all
 | .Constant (.int _) _ _::_,_::_,h=>by simp[uY] at h
 | e::es,y::ys,h=>by
   unfold uY at h;split at h
   .simp_all
   .rename_i h1 h2
    injection h1 with a b
    injection h2 with c d
    subst a b c d;simp only[aaZ,beq_iff_eq] at h;obtain⟨rfl,h⟩:=h;exact aj bD (Cp _ h)
   .cases h
theorem Vv{es:List Expr}{pos:Pos}(ss:List Str)(h:uY es ss=true):PE X (.List es pos) (abu (Xp (ss.map V.str))):=bW (Cp ss h)
end
section
variable{prog:Program}{w:World}{K:Type}[DecidableEq K]{knd:HeapKind prog w K}{A:Around}{E:Value->Shared->Prop}{s:Shared}{d:Addr}{xs:List (K×Addr×Value)}
end
section
variable{X:Cx}{pos:Pos}{k v a:Expr}{tk tv ta:TE}
end
section
variable{d:Addr}{o:Obj}{kvs:List (List Key×V)}{g:TG}{tb:TS}{D:Ends}{σ:St}{H:Hp}
end
section
variable{X:Cx}
end
end L2
namespace L2
open PySem PySem.Spec PyProof.Rows PySem.W
section
variable{P:Program}{w:World}{H:Hp}{h h':Heap}{p:Addr}{ps:Array Value}
end
section
variable{X:Cx}
end
section
variable{X:Cx}{k:Nat}{N ps:List Str}{qual:Str}{params:Arguments}{body:Expr}{scope:Scope}{sp:List V->Hp->VK->Prop}{pm:Value}{f:Addr}
end
section
variable{X:Cx}{pins:List (Addr×Obj)}{σ:St}{H:Hp}{q l I S:Addr}{xs:List V}
end
section
variable{X:Cx}{a:Expr}{ta:TA}{tk:TE}{p pos kp akN:Pos}{k:Nat}{N ps:List Str}{qual:Str}{params:Arguments}{body:Expr}{scope:Scope}{sp:List V->Hp->VK->Prop}{pm:Value}
end
section
variable{P:Program}{w:World}{K:PySem.W.Frag}{mg:Str->Option Value}{base:Heap}
end
end L2
namespace L2
open PySem PySem.Spec PyProof.Rows
section
variable{X:Cx}{K:PySem.W.Frag}
end
end L2
namespace L2
open PySem PyProof.Rows
theorem D_:∀{ps:List Str}{us:List Value},us.length=ps.length->ps.Nodup->(ps.filter λn=>((ps.zip us).lookup n).isNone)=[]/\(ps.filterMap λn=>((ps.zip us).lookup n).map (n,·))=ps.zip us
 | [],[],_,_=>⟨Z,Z⟩
 | p::ps,u::us,hl,nd=>by
   rw[List.nodup_cons] at nd;obtain⟨h1,h2⟩:=D_ (ps:=ps) (us:=us) (by simpa using hl) nd.2
   have e:∀n∈ps,((p::ps).zip (u::us)).lookup n=(ps.zip us).lookup n:=λn hn=>by
    rw[List.zip_cons_cons,List.lookup_cons];rw[show (n==p)=false from beq_eq_false_iff_ne.mpr λz=>nd.1 (by rw[←z];exact hn)]
   have e0:((p::ps).zip (u::us)).lookup p=some u:=by rw[List.zip_cons_cons,List.lookup_cons];simp
   constructor
   .rw[abn,e0,abN (by simp)]
    rw[←h1];exact List.filter_congr λn hn=>by rw[e n hn]
   .rw[List.filterMap_cons,e0]
    refine congrArg ((p,u) :: ·) (Eq.trans ?_ h2);clear h1 h2 e0 hl;revert e;generalize ((p::ps).zip (u::us))=a;generalize ps.zip us=b;intro e
    induction ps with
    | nil=>rfl
    | cons q ps ih=>
      rw[List.filterMap_cons,List.filterMap_cons,e q (by simp),ih ⟨λz=>nd.1 (by simp[z]),(List.nodup_cons.mp nd.2).2⟩ λn hn=>e n (by simp[hn])]
 | [],_::_,hl,_=>by simp at hl
 | _::_,[],hl,_=>by simp at hl
noncomputable def mC(a:Arguments)(ps:List Str):Bool:=a.posonlyargs.isEmpty&&decide (a.args.map (·.arg)=ps)&&a.vararg.isNone&&a.kwonlyargs.isEmpty&&a.kwarg.isNone&&decide ps.Nodup
theorem yK{fd:FuncData}{ps:List Str}{us:List Value}(h:mC fd.params ps=true)(hd:fd.defaults = .none)(hl:us.length=ps.length):bindArgs fd ⟨us,[]⟩=pure (ps.zip us):=by
 unfold mC at h;simp only[aaZ,decide_eq_true_eq,List.isEmpty_iff,Option.isNone_iff_eq_none] at h;obtain⟨⟨⟨⟨⟨h1,h2⟩,h3⟩,h4⟩,h5⟩,nd⟩:=h;obtain⟨z1,z2⟩:=D_ hl nd;have e0:seqItems? Value.none=pure none:=Z;unfold bindArgs;simp only[h1,h2,h3,h4,h5,hd,e0,List.map_nil,List.nil_append,List.append_nil,pure_bind,Option.getD_none];rw[List.forIn_nil,pure_bind];dsimp only;rw[abN (by rw[hl];simp)];simp only[List.length_nil,Nat.zero_sub,List.drop_nil,Nat.sub_zero,aa3,z1,List.isEmpty_nil,Bool.not_true,Bool.false_eq_true,if_false,List.zip_nil_right,List.forIn_nil,pure_bind,z2,Array.toList_empty]
end L2
namespace L2
open PySem PySem.Spec PyProof.Rows PySem.W
theorem fZ.yJ{K:PySem.W.Frag}{x qual:Str}{st:Stmt}{f:Addr}{fd:FuncData}{ps:List Str}(F:fZ K x qual st f fd)(h:mC (b_ st) ps=true):Binds K fd ps []:=
 F.binds λ_ _ _ _ _ _ _ hl=>yK h rfl hl
theorem fZ.bind1{K:PySem.W.Frag}{x qual a:Str}{st:Stmt}{f:Addr}{fd:FuncData}(F:fZ K x qual st f fd)(h:mC (b_ st) [a]=true)(s:Shared)(v:Value):BindsTo s fd ⟨[v],[]⟩ [(a,v)]:=by
 obtain⟨oc,od,kV,doc,pm,an,cdv,ct,osl,rfl,lk,hcd⟩:=F.ex;exact .of_eq (yK (ps:=[a]) h rfl rfl)
noncomputable def fu(K:PySem.W.Frag)(x:Str)(st:Stmt):Prop:=∃f fd,nsIn K mainGlobals x=some (some (.ref f))/\fZ K x x st f fd
noncomputable def oU(K:PySem.W.Frag)(C:Addr)(m q:Str)(st:Stmt):Prop:=∃f fd,(findIn K (.ref C) m=some (some (.ref f))/\isFn K (.ref f)=true)/\fZ K m q st f fd
section
variable{K:PySem.W.Frag}{x m q:Str}{st:Stmt}{f p C c:Addr}{oc:Value}{od an:Option Addr}{osl:Array (Option Value)}{kV doc pm cdv ct:Value}
theorem Ju(a:nsIn K mainGlobals x=some (some (.ref f)))(l:K.lookup f=some ⟨oc,od,.func (PySem.W.fnOf x x (b_ st) (cG st) (aJ st) .none kV doc pm an cdv ct),osl⟩)(c:PySem.W.codeIn K cdv x=true)(k:PySem.W.keepIn K (.ref f)=true):fu K x st:=⟨_,_,a,Te l c k⟩
theorem Tw(a:findIn K (.ref C) m=some (some (.ref f)))(l:K.lookup f=some ⟨oc,od,.func (PySem.W.fnOf m q (b_ st) (cG st) (aJ st) .none kV doc pm an cdv ct),osl⟩)(c:PySem.W.codeIn K cdv q=true)(k:PySem.W.keepIn K (.ref f)=true)(n:isFn K (.ref f)=true):oU K C m q st:=⟨_,_,⟨a,n⟩,Te l c k⟩
end
noncomputable def aaz(K:PySem.W.Frag)(C:Addr):List Str->Prop
 | []=>True
 | a::l=>findIn K (.ref C) a=some none/\aaz K C l
noncomputable def Uq(K:PySem.W.Frag):List Str->Prop
 | []=>True
 | a::l=>nsIn K mainGlobals a=some none/\Uq K l
noncomputable def ac_(mg:Str->Option Value):List Str->Prop
 | []=>True
 | a::l=>mg a=none/\ac_ mg l
theorem Uq.mg{K:PySem.W.Frag}{h:Heap}{mg:Str->Option Value}(X:K.In h)(G:h.Ns mainGlobals mg):∀{l:List Str},Uq K l->ac_ mg l
 | [],_=>trivial
 | _::_,z=>⟨mg_none_of X G z.1,Uq.mg X G z.2⟩
structure Ut(K:PySem.W.Frag)(x:Str)(C:Addr):Prop where
 a:nsIn K mainGlobals x=some (some (.ref C))
 pg:plainGet K C Str.empty=true
 hd:hasDictIn K C=true
 po:plainOver K C=true
 sa:findIn K (.ref C) "__setattr__" = some (some (.builtin "object.__setattr__"))
 ms:makesIn K C=true
 kp:keepIn K (.ref C)=true
theorem Ut.cls{K:PySem.W.Frag}{x:Str}{C:Addr}(I:Ut K x C):Cls K C:=⟨I.pg,I.hd,I.po,I.sa⟩
structure XoI(K:PySem.W.Frag)(x:Str)(C:Addr):Prop where
 a:nsIn K mainGlobals x=some (some (.ref C))
 cl:(clsIn K C).isSome=true
 ty:typeIn K (.ref C)=some (.type "type")
 bs:subIn K (.ref C) (.type "BaseException")=some true
structure XrI(K:PySem.W.Frag)(C:Addr):Prop where
 ga:findIn K (.ref C) "__getattribute__" = some (some (.builtin "BaseException.__getattribute__"))
 gk:findIn K (.ref C) "__getattr__" = some none
 mB:mroIn K C (.type "BaseException")=some true
 ca:findIn K (.ref C) "__class__" = some (some (.builtin "object.__class__"))
 mo:mroIn K C (.type "object")=some true
 ve:subIn K (.ref C) (.type "ValueError")=some true
 ex:excIn K C [.type "ValueError",.type "Exception",.type "BaseException",.type "object"] "ValueError.__new__" = true
structure XcI(K:PySem.W.Frag):Prop where
 cg:specialIn K (.builtin "object.__class__") "__get__" = some (some (.builtin "getset_descriptor.__get__"))
 ct:takesIn K (.builtin "object.__class__")=some true
structure At8(P:Program)(w:World)(K:PySem.W.Frag)(mg:Str->Option Value)(base:Heap):Prop where
 h:∃h,K.In h/\h.Ns mainGlobals mg
section
variable{P:Program}{w:World}{K:PySem.W.Frag}{mg:Str->Option Value}{base:Heap}{x m q:Str}{st:Stmt}{p C D:Addr}{k:Nat}{ps:List Str}{sp:Sp}{h:Heap}{b:Bool}
theorem XoI.r(I:XoI K x C)(X:K.In h)(G:h.Ns mainGlobals mg)(R:XrI K C)(c:XcI K):Xr K mg C x:=⟨mg_of X G I.a,⟨I.cl,I.ty,I.bs⟩,⟨R.ga,R.gk,R.mB,I.cl,R.ca,c.cg,c.ct,R.mo⟩,R.ex,R.ve⟩
variable(Y:At8 P w K mg base)
include Y
theorem At8.fn(D:fu K x st)(ok:∀{f:Addr}{fd:FuncData},fZ K x x st f fd->bL P w K mg base iC k f fd ps sp)(hp:mC (b_ st) ps=true:=by kernel_rfl):FnAt P w K mg base k x ps sp:=by
 obtain⟨h,X,G⟩:=Y.h;obtain⟨f,fd,a,F⟩:=D;exact⟨f,fd,ok F,mg_of X G a,F.kp,F.yJ hp⟩
theorem At8.fnX(D:fu K x st)(ok:∀{f:Addr}{fd:FuncData},fZ K x x st f fd->bL P w K mg base (oW P w) k f fd ps sp)(hp:mC (b_ st) ps=true:=by kernel_rfl):pU P w K mg base k x ps sp:=by
 obtain⟨h,X,G⟩:=Y.h;obtain⟨f,fd,a,F⟩:=D;exact⟨f,fd,ok F,mg_of X G a,F.kp,F.yJ hp⟩
theorem At8.me(D:oU K C m q st)(ok:∀{f:Addr}{fd:FuncData},fZ K m q st f fd->bL P w K mg base iC k f fd ps sp)(hp:mC (b_ st) ps=true:=by kernel_rfl):MethAt P w K mg base k C m ps sp:=by
 obtain⟨f,fd,⟨a,n⟩,F⟩:=D;exact⟨f,fd,ok F,⟨a,n,F.kp⟩,F.yJ hp⟩
theorem At8.meX(D:oU K C m q st)(ok:∀{f:Addr}{fd:FuncData},fZ K m q st f fd->bL P w K mg base (oW P w) k f fd ps sp)(hp:mC (b_ st) ps=true:=by kernel_rfl):jw P w K mg base k C m ps sp:=by
 obtain⟨f,fd,⟨a,n⟩,F⟩:=D;exact⟨f,fd,ok F,⟨a,n,F.kp⟩,F.yJ hp⟩
theorem At8.ma(I:Ut K x C)(D:oU K C "__init__" q st)(ok:∀{f:Addr}{fd:FuncData},fZ K "__init__" q st f fd->bL P w K mg base iC k f fd ps sp)(hp:mC (b_ st) ps=true:=by kernel_rfl):oN P w K mg base k C x ps [] sp:=by
 obtain⟨h,X,G⟩:=Y.h;obtain⟨f,fd,⟨a,n⟩,F⟩:=D;exact⟨f,fd,[],ok F,⟨I.ms,a,n,I.kp⟩,mg_of X G I.a,F.yJ hp,.nil⟩
end
end L2
namespace Tip
open PySem PyProof.Rows
noncomputable def j4:Bool->Keyed->Array Keyed->Nat->Nat->Nat->StateT SortSt Sem (Option Nat):=sortPriv% PySem.Builtin.gallop
noncomputable def pB(left:Bool)(key:Keyed)(arr:Array Keyed)(base i:Nat):StateT SortSt Sem (Option Bool):=do
 let x ←elem' arr (base+i)
 if left then lt' x key else return (←lt' key x).map (!·)
noncomputable def glB(left:Bool)(key:Keyed)(arr:Array Keyed)(base n lo hi:Nat):StateT SortSt Sem (Option Nat):=do
 let mut lo:=lo
 let mut hi:=hi
 for _ in [0:n] do
  if lo≥hi then break
  let m:=lo+(hi - lo) / 2
  let some more ←pB left key arr base m|return none
  if more then lo:=m+1 else hi:=m
 return some hi
theorem Jr(left:Bool)(key:Keyed)(arr:Array Keyed)(base n hint:Nat):j4 left key arr base n hint=(do
 let mut lastofs:=0
 let mut ofs:=1
 let some right ←pB left key arr base hint|return none
 if right then
  for _ in [0:n] do
   if ofs≥n - hint then break
   let some more ←pB left key arr base (hint+ofs)|return none
   if !more then break
   lastofs:=ofs
   ofs:=2*ofs+1
  glB left key arr base n (hint+lastofs+1) (hint+min ofs (n - hint))
 else
  for _ in [0:n] do
   if ofs≥hint+1 then break
   let some found ←pB left key arr base (hint - ofs)|return none
   if found then break
   lastofs:=ofs
   ofs:=2*ofs+1
  glB left key arr base n (hint+1 - min ofs (hint+1)) (hint - lastofs)):=Z
section
variable{prog:Program}{w:World}{A:Around}{E:Value->Shared->Prop}{s:Shared}{κ:SortKind}{a₀:Array Keyed}
structure uJ(prog:Program)(w:World)(A:Around)(s:Shared)(κ:SortKind)(a₀:Array Keyed):Prop where
 ask:∀p∈a₀.toList,∀q∈a₀.toList,∀(E:Value->Shared->Prop)(Q:Bool->Shared->Prop),(∀b,Q b s)->wpAny (model prog w) A (keyLt' κ p.1 q.1) Q E s
theorem vZ{st:SortSt}{p q:Keyed}{Q:Option Bool->SortSt->Prop}(C:uJ prog w A s κ a₀)(hk:kindOf st=κ)(hp:p∈a₀.toList)(hq:q∈a₀.toList)(h:∀b,Q (some b) st):
 wpS (model prog w) A E s (lt' p q) Q st:=by
 rw[lt'_eq];refine aaC (wpS_get ?_);rw[hk];exact aaC (wpS_lift (wpAny_attempt (C.ask p hp q hq _ _ λb=>⟨Z,aaJ (h b)⟩)))
theorem cA{st:SortSt}{arr:Array Keyed}{i:Nat}{Q:Keyed->SortSt->Prop}(hi:i<arr.size)(h:Q arr[i] st):wpS (model prog w) A E s (elem' arr i) Q st:=by
 rw[elem'_eq,getElem?_pos arr i hi];exact aaJ h
theorem aY{α:Type}{c:Prop}[Decidable c]{x y:StateT SortSt Sem α}{Q:α->SortSt->Prop}{st:SortSt}(h1:c->wpS (model prog w) A E s x Q st)(h2:¬c->wpS (model prog w) A E s y Q st):wpS (model prog w) A E s (if c then x else y) Q st:=by
 by_cases hc:c
 .rw[abW hc];exact h1 hc
 .rw[abN hc];exact h2 hc
noncomputable def Of(a₀ a:Array Keyed):Prop:=∀p∈a.toList,p∈a₀.toList
theorem Of.get{a:Array Keyed}(h:Of a₀ a){i:Nat}(hi:i<a.size):a[i]∈a₀.toList:=h _ (by simp)
theorem lM{st:SortSt}{left:Bool}{key:Keyed}{arr:Array Keyed}{base i:Nat}{Q:Option Bool->SortSt->Prop}(C:uJ prog w A s κ a₀)(hk:kindOf st=κ)(hkey:key∈a₀.toList)(zF:Of a₀ arr)(hi:base+i<arr.size)(h:∀b,Q (some b) st):wpS (model prog w) A E s (pB left key arr base i) Q st:=by
 unfold pB;refine aaC (cA hi ?_);cases left with
 | true=>exact vZ C hk (zF.get hi) hkey h
 | false=>exact aaC (vZ C hk hkey (zF.get hi) λb=>aaJ (h _))
theorem Ko{st:SortSt}{left:Bool}{key:Keyed}{arr:Array Keyed}{base n lo hi:Nat}{Q:Option Nat->SortSt->Prop}(C:uJ prog w A s κ a₀)(hk:kindOf st=κ)(hkey:key∈a₀.toList)(zF:Of a₀ arr)(hn:base+n<=arr.size)(hlh:lo<=hi)(hhn:hi<=n)(h:∀k,k<=n->Q (some k) st):wpS (model prog w) A E s (glB left key arr base n lo hi) Q st:=by
 unfold glB;refine aaC (wpS_mono (wpS_forRange (I:=λ_ c st'=>st'=st /\ ∃lo hi,c=(none,lo,hi)/\lo<=hi/\hi<=n) (Q:=λc st'=>st'=st /\ ∃l k,c=(none,l,k)/\k<=n) ?_ ?_ ⟨Z,lo,hi,Z,hlh,hhn⟩) ?_)
 .rintro x c st' _ _ ⟨rfl,lo,hi,rfl,a1,a2⟩
  dsimp only;refine aY (λ_=>aaJ ⟨Z,_,_,Z,a2⟩) (λz=>?_);refine aaC (lM C hk hkey zF (by lia) λb=>?_);dsimp only;exact aY (λ_=>aaJ ⟨Z,_,_,Z,by lia,a2⟩) (λ_=>aaJ ⟨Z,_,_,Z,by lia,by lia⟩)
 .rintro c st' ⟨rfl,l,k,rfl,_,a2⟩
  exact⟨Z,l,k,Z,a2⟩
 .rintro c st' ⟨rfl,l,k,rfl,a2⟩
  exact aaJ (h k a2)
theorem iG{st:SortSt}{left:Bool}{key:Keyed}{arr:Array Keyed}{base n hint:Nat}{Q:Option Nat->SortSt->Prop}(C:uJ prog w A s κ a₀)(hk:kindOf st=κ)(hkey:key∈a₀.toList)(zF:Of a₀ arr)(hn:base+n<=arr.size)(hh:hint<n)(h:∀k,k<=n->Q (some k) st):
 wpS (model prog w) A E s (j4 left key arr base n hint) Q st:=by
 rw[Jr];refine aaC (lM C hk hkey zF (by lia) λb=>?_);dsimp only;refine aY (λ_=>?_) (λ_=>?_)
 .refine aaC (wpS_mono (wpS_forRange (I:=λ_ c st'=>st'=st /\ ∃l o,c=(none,l,o)/\l<o/\hint+l<n) (Q:=λc st'=>st'=st /\ ∃l o,c=(none,l,o)/\l<o/\hint+l<n) ?_ (λ_ _ z=>z) ⟨Z,0,1,Z,by lia,by lia⟩) ?_)
  .rintro x c st' _ _ ⟨rfl,l,o,rfl,a1,a2⟩
   dsimp only;refine aY (λ_=>aaJ ⟨Z,l,o,Z,a1,a2⟩) (λz=>?_);refine aaC (lM C hk hkey zF (by lia) λb=>?_);dsimp only;exact aY (λ_=>aaJ ⟨Z,l,o,Z,a1,a2⟩) (λ_=>aaJ ⟨Z,_,_,Z,by lia,by lia⟩)
  .rintro c st' ⟨rfl,l,o,rfl,a1,a2⟩
   exact Ko C hk hkey zF hn (by dsimp only;lia) (by dsimp only;lia) h
 .refine aaC (wpS_mono (wpS_forRange (I:=λ_ c st'=>st'=st /\ ∃l o,c=(none,l,o)/\l<o/\l<=hint) (Q:=λc st'=>st'=st /\ ∃l o,c=(none,l,o)/\l<o/\l<=hint) ?_ (λ_ _ z=>z) ⟨Z,0,1,Z,by lia,by lia⟩) ?_)
  .rintro x c st' _ _ ⟨rfl,l,o,rfl,a1,a2⟩
   dsimp only;refine aY (λ_=>aaJ ⟨Z,l,o,Z,a1,a2⟩) (λz=>?_);refine aaC (lM C hk hkey zF (by lia) λb=>?_);dsimp only;exact aY (λ_=>aaJ ⟨Z,l,o,Z,a1,a2⟩) (λ_=>aaJ ⟨Z,_,_,Z,by lia,by lia⟩)
  .rintro c st' ⟨rfl,l,o,rfl,a1,a2⟩
   exact Ko C hk hkey zF hn (by dsimp only;lia) (by dsimp only;lia) h
structure pG(st st':SortSt):Prop where
 k:kindOf st'=kindOf st
 a:arrOf st'=arrOf st
 p:pendingOf st'=pendingOf st
 f:failedOf st'=failedOf st
theorem pG.refl(st:SortSt):pG st st:=⟨Z,Z,Z,Z⟩
theorem pG.trans{a b c:SortSt}(h:pG a b)(g:pG b c):pG a c:=⟨g.k.trans h.k,g.a.trans h.a,g.p.trans h.p,g.f.trans h.f⟩
noncomputable def fB:Nat->StateT SortSt Sem Unit:=sortPriv% PySem.Builtin.setMinGallop
theorem tG(g:Nat):fB g=modify λs=>SortSt.mk' (kindOf s) (arrOf s) (pendingOf s) g (failedOf s):=Z
theorem oX{st:SortSt}{g:Nat}{Q:Unit->SortSt->Prop}(h:∀st',pG st st'->Q () st'):wpS (model prog w) A E s (fB g) Q st:=by
 rw[tG];exact wpS_modify (h _ ⟨Z,Z,Z,Z⟩)
theorem fM(a:Array Keyed)(i j:Nat):(a.extract i j).toList=(a.toList.drop i).take (j - i):=by
 rw[Array.toList_extract,List.extract_eq_take_drop]
theorem yF(l:List Keyed)(i k:Nat):l.drop i=(l.drop i).take k++l.drop (i+k):=by
 rw[←List.drop_drop,List.take_append_drop]
end
noncomputable def xU:Array Keyed->Array Keyed->StateT SortSt Sem (Array Keyed):=sortPriv% PySem.Builtin.mergeLo
noncomputable def xV:Array Keyed->Array Keyed->StateT SortSt Sem (Array Keyed):=sortPriv% PySem.Builtin.mergeHi
noncomputable abbrev kj(a b out:Array Keyed)(ia ib:Nat):Array Keyed:=out++a.extract ia a.size++b.extract ib b.size
noncomputable abbrev xY(a b out:Array Keyed)(ia ib:Nat):Array Keyed:=out++b.extract ib b.size++a.extract ia a.size
noncomputable abbrev S1:=Option (Array Keyed)×Array Keyed×Nat×Nat×Nat×Nat
noncomputable abbrev S2:=Option (Array Keyed)×Array Keyed×Nat×Nat×Nat×Nat×Nat
noncomputable def loC(a b:Array Keyed)(ia mg ac bc:Nat)(out:Array Keyed)(ib:Nat):StateT SortSt Sem (ForInStep S2):=do
 let out:=out.push (←elem' a ia)
 if ia+1+1==a.size then return .done (some (xY a b out (ia+1) ib),out,ia+1,ib,mg,ac,bc)
 if ac<7&&bc<7 then return .done (none,out,ia+1,ib,mg,ac,bc)
 return .yield (none,out,ia+1,ib,mg,ac,bc)
noncomputable def loB(a b:Array Keyed)(ib mg ac bc:Nat)(out:Array Keyed)(ia:Nat):StateT SortSt Sem (ForInStep S2):=do
 let out:=out.push (←elem' b ib)
 if ib+1==b.size then return .done (some (kj a b out ia (ib+1)),out,ia,ib+1,mg,ac,bc)
 let some k ←j4 true (←elem' a ia) b (ib+1) (b.size - (ib+1)) 0|return .done (some (kj a b out ia (ib+1)),out,ia,ib+1,mg,ac,bc)
 if k>0 then
  if ib+1+k==b.size then return .done (some (kj a b (out++b.extract (ib+1) (ib+1+k)) ia (ib+1+k)),out++b.extract (ib+1) (ib+1+k),ia,ib+1+k,mg,ac,k)
  else loC a b ia mg ac k (out++b.extract (ib+1) (ib+1+k)) (ib+1+k)
 else loC a b ia mg ac k out (ib+1)
noncomputable def loA(a b out:Array Keyed)(ia ib ac bc mg:Nat):StateT SortSt Sem (ForInStep S2):=do
 fB mg
 let some k ←j4 false (←elem' b ib) a ia (a.size - ia) 0|return .done (some (kj a b out ia ib),out,ia,ib,mg,ac,bc)
 if k>0 then
  if ia+k+1==a.size then return .done (some (xY a b (out++a.extract ia (ia+k)) (ia+k) ib),out++a.extract ia (ia+k),ia+k,ib,mg,k,bc)
  else if ia+k==a.size then return .done (some (kj a b (out++a.extract ia (ia+k)) (ia+k) ib),out++a.extract ia (ia+k),ia+k,ib,mg,k,bc)
  else loB a b ib mg k bc (out++a.extract ia (ia+k)) (ia+k)
 else loB a b ib mg k bc out ia
noncomputable def lo1(a b:Array Keyed)(mg:Nat)(c:S1):StateT SortSt Sem (ForInStep S1):=
 let out:=c.2.1;let ia:=c.2.2.1;let ib:=c.2.2.2.1;let ac:=c.2.2.2.2.1;let bc:=c.2.2.2.2.2
 do
 let some bWins ←lt' (←elem' b ib) (←elem' a ia)|return .done (some (kj a b out ia ib),out,ia,ib,ac,bc)
 if bWins then
  let out:=out.push (←elem' b ib)
  if ib+1==b.size then return .done (some (kj a b out ia (ib+1)),out,ia,ib+1,0,bc+1)
  if bc+1≥mg then return .done (none,out,ia,ib+1,0,bc+1)
  return .yield (none,out,ia,ib+1,0,bc+1)
 else
  let out:=out.push (←elem' a ia)
  if ia+1+1==a.size then return .done (some (xY a b out (ia+1) ib),out,ia+1,ib,ac+1,0)
  if ac+1≥mg then return .done (none,out,ia+1,ib,ac+1,0)
  return .yield (none,out,ia+1,ib,ac+1,0)
noncomputable abbrev S0:=Option (Array Keyed)×Array Keyed×Nat×Nat×Nat
noncomputable def loO(a b:Array Keyed)(c:S0):StateT SortSt Sem (ForInStep S0):=do
 let s ←forIn [0:a.size+b.size] ((none,c.2.1,c.2.2.1,c.2.2.2.1,0,0):S1) λ_ s=>lo1 a b c.2.2.2.2 s
 match s.1 with
 | some r=>pure (.done (some r,s.2.1,s.2.2.1,s.2.2.2.1,c.2.2.2.2))
 | none=>do
   rule "list.sort.gallop"
   let s ←forIn [0:a.size+b.size] ((none,s.2.1,s.2.2.1,s.2.2.2.1,c.2.2.2.2+1,s.2.2.2.2.1,s.2.2.2.2.2):S2) λ_ c=>
    if c.2.2.2.2.1>1 then loA a b c.2.1 c.2.2.1 c.2.2.2.1 c.2.2.2.2.2.1 c.2.2.2.2.2.2 (c.2.2.2.2.1 - 1) else loA a b c.2.1 c.2.2.1 c.2.2.2.1 c.2.2.2.2.2.1 c.2.2.2.2.2.2 c.2.2.2.2.1
   match s.1 with
   | some r=>pure (.done (some r,s.2.1,s.2.2.1,s.2.2.2.1,s.2.2.2.2.1))
   | none=>do
     fB (s.2.2.2.2.1+1)
     pure (.yield (none,s.2.1,s.2.2.1,s.2.2.2.1,s.2.2.2.2.1+1))
theorem Gh(a b:Array Keyed):xU a b=(do
 rule "list.sort.merge-lo"
 let out:Array Keyed:= #[←elem' b 0]
 if 1==b.size then return kj a b out 0 1
 if 0+1==a.size then return xY a b out 0 1
 let s ←forIn [0:a.size+b.size] ((none,out,0,1,gallopOf (←get)):S0) λ_ c=>loO a b c
 match s.1 with
 | some r=>pure r
 | none=>unsupported "internal:list.sort.merge-bound"):=by kernel_rfl
section
variable{a b out:Array Keyed}{ia ib k n:Nat}
noncomputable def Pm(a b out:Array Keyed)(ia ib:Nat):Prop:=(out.toList++(a.toList.drop ia++b.toList.drop ib)).Perm (a.toList++b.toList)
noncomputable def Mg(a b r:Array Keyed):Prop:=r.toList.Perm (a.toList++b.toList)
theorem Pm.swap(m:Pm a b out ia ib):Pm b a out ib ia:=(List.Perm.append_left _ List.perm_append_comm).trans (List.Perm.trans m List.perm_append_comm)
theorem Pm.oH(m:Pm a b out ia ib):Pm a b (out++b.extract ib (ib+k)) ia (ib+k):=by
 unfold Pm;rw[Array.toList_append,fM,show ib+k - ib=k by lia,List.append_assoc];refine List.Perm.trans (List.Perm.append_left _ ?_) m;refine List.Perm.trans ?_ (List.Perm.of_eq (congrArg (a.toList.drop ia ++ ·) (yF b.toList ib k).symm));rw[←List.append_assoc];exact List.Perm.trans (List.Perm.append_right _ List.perm_append_comm) (List.Perm.of_eq (List.append_assoc _ _ _))
theorem Pm.oJ(m:Pm a b out ia ib):Pm a b (out++a.extract ia (ia+k)) (ia+k) ib:=m.swap.oH.swap
theorem Q_(h:ib<b.size):out.push b[ib]=out++b.extract ib (ib+1):=by
 apply Array.toList_inj.mp;rw[Array.toList_push,Array.toList_append,fM];congr 1;rw[show ib+1 - ib=1 by lia,List.drop_eq_getElem_cons (by rw[aaK];exact h)];rfl
theorem Pm.xJ(m:Pm a b out ia ib)(h:ib<b.size):Pm a b (out.push b[ib]) ia (ib+1):=by
 rw[Q_ h];exact m.oH
theorem Pm.xK(m:Pm a b out ia ib)(h:ia<a.size):Pm a b (out.push a[ia]) (ia+1) ib:=(m.swap.xJ h).swap
theorem Pm.done(m:Pm a b out ia ib):Mg a b (kj a b out ia ib):=by
 unfold Mg kj;rw[Array.toList_append,Array.toList_append,fM,fM,List.append_assoc,List.take_of_length_le (by rw[List.length_drop,aaK];exact aap _),List.take_of_length_le (by rw[List.length_drop,aaK];exact aap _)];exact m
theorem Pm.last(m:Pm a b out ia ib):Mg a b (xY a b out ia ib):=List.Perm.trans m.swap.done List.perm_append_comm
theorem Pm.size(m:Pm a b out ia ib)(h:ia<a.size):out.size<a.size+b.size:=by
 have:=List.Perm.length_eq m;simp only[aaS,List.length_drop,aaK] at this;lia
noncomputable def LI(a b:Array Keyed)(n:Nat){γ:Type}:Option (Array Keyed)×Array Keyed×Nat×Nat×γ->Prop
 | (none,out,ia,ib,_)=>Pm a b out ia ib/\ia+2<=a.size/\ib+1<=b.size/\n<=out.size
 | _=>False
noncomputable def LP(a b:Array Keyed)(n:Nat){γ:Type}:Option (Array Keyed)×Array Keyed×Nat×Nat×γ->Prop
 | (some r,_)=>Mg a b r
 | c=>LI a b n c
noncomputable def LQ(a b:Array Keyed)(m n:Nat){γ:Type}:ForInStep (Option (Array Keyed)×Array Keyed×Nat×Nat×γ)->Prop
 | .done c=>LP a b m c
 | .yield c=>LI a b n c
noncomputable def LR(a b:Array Keyed)(n:Nat){γ:Type}:ForInStep (Option (Array Keyed)×Array Keyed×Nat×Nat×γ)->Prop
 | .done c=>∃r t,c=(some r,t)/\Mg a b r
 | .yield c=>LI a b n c
end
section
variable{prog:Program}{w:World}{A:Around}{E:Value->Shared->Prop}{s:Shared}{κ:SortKind}{a₀ a b out:Array Keyed}{ia ib n m mg ac bc:Nat}{st st0:SortSt}
theorem Ke(m2:Pm a b out ia ib)(h1:ia+2<=a.size)(h2:ib+1<=b.size)(hm:m<=out.size)(hn:n<=out.size+1)(kp:pG st0 st):
 wpS (model prog w) A E s (loC a b ia mg ac bc out ib) (λr st'=>pG st0 st'/\LQ a b m n r) st:=by
 unfold loC;refine aaC (cA (by lia) ?_);have p:=m2.xK (show ia<a.size by lia);dsimp only;refine aY (λe=>aaJ ⟨kp,p.last⟩) (λe=>?_);have e:¬ia+1+1=a.size:=by simpa using e
 have z:(out.push (a[ia]'(by lia))).size=out.size+1:=Array.size_push _;exact aY (λ_=>aaJ ⟨kp,p,by lia,h2,by lia⟩) (λ_=>aaJ ⟨kp,p,by lia,h2,by lia⟩)
theorem Kf(C:uJ prog w A s κ a₀)(ha:Of a₀ a)(hb:Of a₀ b)(m2:Pm a b out ia ib)(h1:ia+2<=a.size)(h2:ib+1<=b.size)(hm:m<=out.size)(hn:n<=out.size+1)(kp:pG st0 st)(hk:kindOf st=κ):
 wpS (model prog w) A E s (loB a b ib mg ac bc out ia) (λr st'=>pG st0 st'/\LQ a b m n r) st:=by
 unfold loB;refine aaC (cA h2 ?_);have p:=m2.xJ h2;have z:(out.push b[ib]).size=out.size+1:=Array.size_push _;dsimp only;generalize out.push b[ib]=afO at p z ⊢;refine aY (λe=>aaJ ⟨kp,p.done⟩) (λe=>?_);have e:¬ib+1=b.size:=by simpa using e
 refine aaC (cA (by lia) (aaC (iG C hk (ha.get (by lia)) hb (by lia) (by lia) λk hk2=>?_)));dsimp only;refine aY (λ_=>aY (λe=>aaJ ⟨kp,p.oH.done⟩) (λe=>?_)) (λ_=>Ke p h1 (by lia) (by lia) (by lia) kp);have e:¬ib+1+k=b.size:=by simpa using e
 exact Ke p.oH h1 (by lia) (by rw[Array.size_append];lia) (by rw[Array.size_append];lia) kp
theorem Kg(C:uJ prog w A s κ a₀)(ha:Of a₀ a)(hb:Of a₀ b)(m2:Pm a b out ia ib)(h1:ia+2<=a.size)(h2:ib+1<=b.size)(hm:m<=out.size)(hn:n<=out.size+1)(kp:pG st0 st)(hk:kindOf st0=κ):
 wpS (model prog w) A E s (loA a b out ia ib ac bc mg) (λr st'=>pG st0 st'/\LQ a b m n r) st:=by
 unfold loA;refine aaC (oX λuL k4=>?_);have kp:=kp.trans k4;have hk:=kp.k.trans hk;refine aaC (cA h2 (aaC (iG C hk (hb.get h2) ha (by lia) (by lia) λk hk2=>?_)));dsimp only;refine aY (λ_=>aY (λe=>aaJ ⟨kp,m2.oJ.last⟩) (λe1=>aY (λe=>aaJ ⟨kp,m2.oJ.done⟩) (λe2=>?_))) (λ_=>Kf C ha hb m2 h1 h2 hm hn kp hk);have e1:¬ia+k+1=a.size:=by simpa using e1
 have e2:¬ia+k=a.size:=by simpa using e2
 exact Kf C ha hb m2.oJ (by lia) h2 (by rw[Array.size_append];lia) (by rw[Array.size_append];lia) kp hk
theorem U3(C:uJ prog w A s κ a₀)(ha:Of a₀ a)(hb:Of a₀ b)(m2:Pm a b out ia ib)(h1:ia+2<=a.size)(h2:ib+1<=b.size)(hm:m<=out.size+1)(hn:n<=out.size+1)(hk:kindOf st=κ):
 wpS (model prog w) A E s (lo1 a b mg (none,out,ia,ib,ac,bc)) (λr st'=>st'=st/\LQ a b m n r) st:=by
 unfold lo1;dsimp only;refine aaC (cA h2 (aaC (cA (by lia) (aaC (vZ C hk (hb.get h2) (ha.get (by lia)) λt=>?_)))));dsimp only;refine aY (λ_=>aaC (cA h2 ?_)) (λ_=>aaC (cA (by lia) ?_))
 .have p:=m2.xJ h2
  have z:(out.push b[ib]).size=out.size+1:=Array.size_push _;refine aY (λe=>aaJ ⟨Z,p.done⟩) (λe=>?_);have e:¬ib+1=b.size:=by simpa using e
  exact aY (λ_=>aaJ ⟨Z,p,h1,by lia,by lia⟩) (λ_=>aaJ ⟨Z,p,h1,by lia,by lia⟩)
 .have p:=m2.xK (show ia<a.size by lia)
  have z:(out.push (a[ia]'(by lia))).size=out.size+1:=Array.size_push _;refine aY (λe=>aaJ ⟨Z,p.last⟩) (λe=>?_);have e:¬ia+1+1=a.size:=by simpa using e
  exact aY (λ_=>aaJ ⟨Z,p,by lia,h2,by lia⟩) (λ_=>aaJ ⟨Z,p,by lia,h2,by lia⟩)
theorem U0(C:uJ prog w A s κ a₀)(ha:Of a₀ a)(hb:Of a₀ b)(m2:Pm a b out ia ib)(h1:ia+2<=a.size)(h2:ib+1<=b.size)(hm:n<=out.size)(hk:kindOf st0=κ)(kp:pG st0 st):
 wpS (model prog w) A E s (loO a b (none,out,ia,ib,mg)) (λr st'=>pG st0 st'/\LR a b (n+1) r) st:=by
 unfold loO;dsimp only;refine aaC (wpS_mono (wpS_forRange (I:=λy c st2=>st2=st/\LI a b (n+y) c) (Q:=λc st2=>st2=st/\LP a b (n+1) c) ?_ ?_ ⟨Z,m2,h1,h2,hm⟩) ?_)
 .rintro y ⟨_|r,out,ia,ib,ac,bc⟩ _ _ _ ⟨rfl,h⟩
  .obtain⟨p,q1,q2,q3⟩:=h
   refine wpS_mono (U3 (m:=n+1) (n:=n+(y+1)) C ha hb p q1 q2 (by lia) (by lia) (kp.k.trans hk)) λr st' h=>?_;cases r with
   | done c=>exact h
   | yield c=>exact h
  .exact h.elim
 .rintro⟨_|r,out,ia,ib,ac,bc⟩ _ ⟨rfl,h⟩
  .obtain⟨p,q1,q2,q3⟩:=h
   have:=p.size (by lia);lia
  .exact h.elim
 rintro⟨_|r,out,ia,ib,ac,bc⟩ _ ⟨rfl,h⟩
 .obtain⟨p,q1,q2,q3⟩:=h
  dsimp only;refine aaC (wpS_lift (wpAny_rule ⟨Z, ?_⟩));refine aaC (wpS_mono (wpS_forRange (I:=λy c st2=>pG st0 st2/\LI a b (n+1+y) c) (Q:=λc st2=>pG st0 st2/\LP a b (n+1) c) ?_ ?_ ⟨kp,p,q1,q2,q3⟩) ?_)
  .rintro y ⟨_|r,out,ia,ib,mg,ac,bc⟩ st2 _ _ ⟨k2,h⟩
   .obtain⟨p,q1,q2,q3⟩:=h
    dsimp only;refine wpS_mono (aY (λ_=>Kg (m:=n+1) (n:=n+1+(y+1)) C ha hb p q1 q2 (by lia) (by lia) k2 hk) (λ_=>Kg C ha hb p q1 q2 (by lia) (by lia) k2 hk)) λr st' h=>?_;cases r with
    | done c=>exact h
    | yield c=>exact h
   .exact h.elim
  .rintro⟨_|r,out,ia,ib,mg,ac,bc⟩ st2 ⟨k2,h⟩
   .obtain⟨p,q1,q2,q3⟩:=h
    have:=p.size (by lia);lia
   .exact h.elim
  rintro⟨_|r,out,ia,ib,mg,ac,bc⟩ st2 ⟨k2,h⟩
  .exact aaC (oX λuL k4=>aaJ ⟨k2.trans k4,h⟩)
  .exact aaJ ⟨k2,r,_,Z,h⟩
 .exact aaJ ⟨kp,r,_,Z,h⟩
theorem Ea{Q:Array Keyed->SortSt->Prop}(C:uJ prog w A s κ a₀)(hk:kindOf st=κ)(ha:Of a₀ a)(hb:Of a₀ b)(ha1:1<=a.size)(hb1:1<=b.size)(h:∀r st',pG st st'->Mg a b r->Q r st'):wpS (model prog w) A E s (xU a b) Q st:=by
 have p:Pm a b #[b[0]] 0 1:=Pm.xJ (out:= #[]) (ib:=0) (ia:=0) (show Pm a b #[] 0 0 from .refl _) hb1;rw[Gh];refine aaC (wpS_lift (wpAny_rule ⟨Z, ?_⟩));refine aaC (cA hb1 ?_);dsimp only;refine aY (λe=>aaJ (h _ _ (.refl _) p.done)) (λe1=>?_);refine aY (λe=>aaJ (h _ _ (.refl _) p.last)) (λe2=>?_);have e1:¬1=b.size:=by simpa using e1
 have e2:¬1=a.size:=by simpa using e2
 refine aaC (wpS_get ?_);refine aaC (wpS_mono (wpS_forRange (I:=λy c st2=>pG st st2/\LI a b y c) (Q:=λc st2=>pG st st2 /\ ∃r t,c=(some r,t)/\Mg a b r) ?_ ?_ ⟨.refl _,p,by lia,by lia,Nat.zero_le _⟩) ?_)
 .rintro y ⟨_|r,out,ia,ib,mg⟩ st2 _ _ ⟨k2,h⟩
  .obtain⟨p,q1,q2,q3⟩:=h
   refine wpS_mono (U0 (n:=y) C ha hb p q1 q2 q3 hk k2) λr st' h=>?_;cases r with
   | done c=>exact h
   | yield c=>exact h
  .exact h.elim
 .rintro⟨_|r,out,ia,ib,mg⟩ st2 ⟨k2,h⟩
  .obtain⟨p,q1,q2,q3⟩:=h
   have:=p.size (by lia);lia
  .exact h.elim
 rintro c st2 ⟨k2,r,t,rfl,hm⟩;exact aaJ (h _ _ k2 hm)
end
noncomputable abbrev kO(a b out:Array Keyed)(na nb:Nat):Array Keyed:=a.extract 0 na++b.extract 0 nb++out.reverse
noncomputable abbrev rC(a b out:Array Keyed)(na nb:Nat):Array Keyed:=b.extract 0 nb++a.extract 0 na++out.reverse
noncomputable abbrev H1:=Option (Array Keyed)×Nat×Nat×Array Keyed×Nat×Nat
noncomputable abbrev H2:=Option (Array Keyed)×Nat×Nat×Array Keyed×Nat×Nat×Nat
noncomputable abbrev H0:=Option (Array Keyed)×Nat×Nat×Array Keyed×Nat
noncomputable def hiC(a b:Array Keyed)(na mg ac bc:Nat)(out:Array Keyed)(nb:Nat):StateT SortSt Sem (ForInStep H2):=do
 let out:=out.push (←elem' a (na - 1))
 if na - 1==0 then return .done (some (kO a b out (na - 1) nb),na - 1,nb,out,mg,ac,bc)
 if ac<7&&bc<7 then return .done (none,na - 1,nb,out,mg,ac,bc)
 return .yield (none,na - 1,nb,out,mg,ac,bc)
noncomputable def hiB(a b:Array Keyed)(nb mg ac bc:Nat)(out:Array Keyed)(na:Nat):StateT SortSt Sem (ForInStep H2):=do
 let out:=out.push (←elem' b (nb - 1))
 if nb - 1==1 then return .done (some (rC a b out na (nb - 1)),na,nb - 1,out,mg,ac,bc)
 let some t ←j4 true (←elem' a (na - 1)) b 0 (nb - 1) (nb - 1 - 1)|return .done (some (kO a b out na (nb - 1)),na,nb - 1,out,mg,ac,bc)
 if nb - 1 - t>0 then
  if t==1 then return .done (some (rC a b (out++(b.extract t (nb - 1)).reverse) na t),na,t,out++(b.extract t (nb - 1)).reverse,mg,ac,nb - 1 - t)
  else if t==0 then return .done (some (kO a b (out++(b.extract t (nb - 1)).reverse) na t),na,t,out++(b.extract t (nb - 1)).reverse,mg,ac,nb - 1 - t)
  else hiC a b na mg ac (nb - 1 - t) (out++(b.extract t (nb - 1)).reverse) t
 else hiC a b na mg ac (nb - 1 - t) out (nb - 1)
noncomputable def hiA(a b out:Array Keyed)(na nb ac bc mg:Nat):StateT SortSt Sem (ForInStep H2):=do
 fB mg
 let some t ←j4 false (←elem' b (nb - 1)) a 0 na (na - 1)|return .done (some (kO a b out na nb),na,nb,out,mg,ac,bc)
 if na - t>0 then
  if t==0 then return .done (some (kO a b (out++(a.extract t na).reverse) t nb),t,nb,out++(a.extract t na).reverse,mg,na - t,bc)
  else hiB a b nb mg (na - t) bc (out++(a.extract t na).reverse) t
 else hiB a b nb mg (na - t) bc out na
noncomputable def hi1(a b:Array Keyed)(mg:Nat)(c:H1):StateT SortSt Sem (ForInStep H1):=
 let na:=c.2.1;let nb:=c.2.2.1;let out:=c.2.2.2.1;let ac:=c.2.2.2.2.1;let bc:=c.2.2.2.2.2
 do
 let some aWins ←lt' (←elem' b (nb - 1)) (←elem' a (na - 1))|return .done (some (kO a b out na nb),na,nb,out,ac,bc)
 if aWins then
  let out:=out.push (←elem' a (na - 1))
  if na - 1==0 then return .done (some (kO a b out (na - 1) nb),na - 1,nb,out,ac+1,0)
  if ac+1≥mg then return .done (none,na - 1,nb,out,ac+1,0)
  return .yield (none,na - 1,nb,out,ac+1,0)
 else
  let out:=out.push (←elem' b (nb - 1))
  if nb - 1==1 then return .done (some (rC a b out na (nb - 1)),na,nb - 1,out,0,bc+1)
  if bc+1≥mg then return .done (none,na,nb - 1,out,0,bc+1)
  return .yield (none,na,nb - 1,out,0,bc+1)
noncomputable def hiO(a b:Array Keyed)(c:H0):StateT SortSt Sem (ForInStep H0):=do
 let s ←forIn [0:a.size+b.size] ((none,c.2.1,c.2.2.1,c.2.2.2.1,0,0):H1) λ_ s=>hi1 a b c.2.2.2.2 s
 match s.1 with
 | some r=>pure (.done (some r,s.2.1,s.2.2.1,s.2.2.2.1,c.2.2.2.2))
 | none=>do
   rule "list.sort.gallop"
   let s ←forIn [0:a.size+b.size] ((none,s.2.1,s.2.2.1,s.2.2.2.1,c.2.2.2.2+1,s.2.2.2.2.1,s.2.2.2.2.2):H2) λ_ c=>
    if c.2.2.2.2.1>1 then hiA a b c.2.2.2.1 c.2.1 c.2.2.1 c.2.2.2.2.2.1 c.2.2.2.2.2.2 (c.2.2.2.2.1 - 1) else hiA a b c.2.2.2.1 c.2.1 c.2.2.1 c.2.2.2.2.2.1 c.2.2.2.2.2.2 c.2.2.2.2.1
   match s.1 with
   | some r=>pure (.done (some r,s.2.1,s.2.2.1,s.2.2.2.1,s.2.2.2.2.1))
   | none=>do
     fB (s.2.2.2.2.1+1)
     pure (.yield (none,s.2.1,s.2.2.1,s.2.2.2.1,s.2.2.2.2.1+1))
theorem Gi(a b:Array Keyed):xV a b=(do
 rule "list.sort.merge-hi"
 let out:Array Keyed:= #[←elem' a (a.size - 1)]
 if a.size - 1==0 then return kO a b out (a.size - 1) b.size
 if b.size==1 then return rC a b out (a.size - 1) b.size
 let s ←forIn [0:a.size+b.size] ((none,a.size - 1,b.size,out,gallopOf (←get)):H0) λ_ c=>hiO a b c
 match s.1 with
 | some r=>pure r
 | none=>unsupported "internal:list.sort.merge-bound"):=by kernel_rfl
section
variable{a b out:Array Keyed}{na nb k n t:Nat}
noncomputable def Ph(a b out:Array Keyed)(na nb:Nat):Prop:=(out.toList++(a.toList.take na++b.toList.take nb)).Perm (a.toList++b.toList)
theorem Ph.swap(m:Ph a b out na nb):Ph b a out nb na:=(List.Perm.append_left _ List.perm_append_comm).trans (List.Perm.trans m List.perm_append_comm)
theorem Ph.oJ(m:Ph a b out na nb)(h:t<=na):Ph a b (out++(a.extract t na).reverse) t nb:=by
 unfold Ph;rw[Array.toList_append,Array.toList_reverse,fM,List.append_assoc];refine List.Perm.trans (List.Perm.append_left _ ?_) m
 have e:a.toList.take na=a.toList.take t++(a.toList.drop t).take (na - t):=by rw[List.take_drop,show t+(na - t)=na by lia];exact(show _=_ by
  have:=(List.take_append_drop t (a.toList.take na)).symm;rwa [List.take_take,Nat.min_eq_left h] at this)
 rw[e,←List.append_assoc];exact List.Perm.append_right _ ((List.Perm.append_right _ (List.reverse_perm _)).trans List.perm_append_comm)
theorem Ph.oH(m:Ph a b out na nb)(h:t<=nb):Ph a b (out++(b.extract t nb).reverse) na t:=(m.swap.oJ h).swap
theorem Q9(h:na - 1<a.size)(h1:1<=na):out.push a[na - 1]=out++(a.extract (na - 1) na).reverse:=by
 apply Array.toList_inj.mp;rw[Array.toList_push,Array.toList_append,Array.toList_reverse,fM];congr 1;rw[show na - (na - 1)=1 by lia,List.drop_eq_getElem_cons (by rw[aaK];exact h)];rfl
theorem Ph.xK(m:Ph a b out na nb)(h:na - 1<a.size)(h1:1<=na):Ph a b (out.push a[na - 1]) (na - 1) nb:=by
 rw[Q9 h h1];exact m.oJ (Nat.sub_le _ _)
theorem Ph.xJ(m:Ph a b out na nb)(h:nb - 1<b.size)(h1:1<=nb):Ph a b (out.push b[nb - 1]) na (nb - 1):=(m.swap.xK h h1).swap
theorem Ph.done(m:Ph a b out na nb):Mg a b (kO a b out na nb):=by
 unfold Mg kO;rw[Array.toList_append,Array.toList_append,fM,fM,Array.toList_reverse];exact List.perm_append_comm.trans ((List.Perm.append_right _ (List.reverse_perm _)).trans m)
theorem Ph.first(m:Ph a b out na nb):Mg a b (rC a b out na nb):=List.Perm.trans m.swap.done List.perm_append_comm
theorem Ph.size(m:Ph a b out na nb)(h:1<=na)(h2:na<=a.size):out.size<a.size+b.size:=by
 have:=List.Perm.length_eq m;simp only[aaS,aa7,aaK] at this;lia
noncomputable def Hd(a b:Array Keyed)(na nb:Nat):Prop:=1<=na/\2<=nb/\na<=a.size/\nb<=b.size
noncomputable def HI(a b:Array Keyed)(n:Nat){γ:Type}:Option (Array Keyed)×Nat×Nat×Array Keyed×γ->Prop
 | (none,na,nb,out,_)=>Ph a b out na nb/\Hd a b na nb/\n<=out.size
 | _=>False
noncomputable def HP(a b:Array Keyed)(n:Nat){γ:Type}:Option (Array Keyed)×Nat×Nat×Array Keyed×γ->Prop
 | (some r,_)=>Mg a b r
 | c=>HI a b n c
noncomputable def HQ(a b:Array Keyed)(m n:Nat){γ:Type}:ForInStep (Option (Array Keyed)×Nat×Nat×Array Keyed×γ)->Prop
 | .done c=>HP a b m c
 | .yield c=>HI a b n c
noncomputable def HR(a b:Array Keyed)(n:Nat){γ:Type}:ForInStep (Option (Array Keyed)×Nat×Nat×Array Keyed×γ)->Prop
 | .done c=>∃r t,c=(some r,t)/\Mg a b r
 | .yield c=>HI a b n c
end
section
variable{prog:Program}{w:World}{A:Around}{E:Value->Shared->Prop}{s:Shared}{κ:SortKind}{a₀ a b out:Array Keyed}{na nb n m mg ac bc:Nat}{st st0:SortSt}
theorem Kh(p:Ph a b out na nb)(h:Hd a b na nb)(hm:m<=out.size)(hn:n<=out.size+1)(kp:pG st0 st):
 wpS (model prog w) A E s (hiC a b na mg ac bc out nb) (λr st'=>pG st0 st'/\HQ a b m n r) st:=by
 obtain⟨h1,h2,h3,h4⟩:=h;unfold hiC;have i:na - 1<a.size:=by lia
 refine aaC (cA i ?_);have p:=p.xK i h1;have z:(out.push a[na - 1]).size=out.size+1:=Array.size_push _;dsimp only;refine aY (λe=>aaJ ⟨kp,p.done⟩) (λe=>?_);have e:¬na - 1=0:=by simpa using e
 have hd:Hd a b (na - 1) nb:=⟨by lia,h2,by lia,h4⟩;exact aY (λ_=>aaJ ⟨kp,p,hd,by lia⟩) (λ_=>aaJ ⟨kp,p,hd,by lia⟩)
theorem Kl(C:uJ prog w A s κ a₀)(ha:Of a₀ a)(hb:Of a₀ b)(p:Ph a b out na nb)(h:Hd a b na nb)(hm:m<=out.size)(hn:n<=out.size+1)(kp:pG st0 st)(hk:kindOf st=κ):
 wpS (model prog w) A E s (hiB a b nb mg ac bc out na) (λr st'=>pG st0 st'/\HQ a b m n r) st:=by
 obtain⟨h1,h2,h3,h4⟩:=h;unfold hiB;have i:nb - 1<b.size:=by lia
 have j:na - 1<a.size:=by lia
 refine aaC (cA i ?_);have p:=p.xJ i (by lia);have z:(out.push b[nb - 1]).size=out.size+1:=Array.size_push _;dsimp only;generalize out.push b[nb - 1]=afO at p z ⊢;refine aY (λe=>aaJ ⟨kp,p.first⟩) (λe=>?_);have e:¬nb - 1=1:=by simpa using e
 refine aaC (cA j (aaC (iG C hk (ha.get j) hb (by lia) (by lia) λt ht=>?_)));dsimp only;refine aY (λ_=>aY (λe=>aaJ ⟨kp,(p.oH ht).first⟩) (λe1=>aY (λe=>aaJ ⟨kp,(p.oH ht).done⟩) (λe2=>?_))) (λ_=>Kh p ⟨h1,by lia,h3,by lia⟩ (by lia) (by lia) kp);have e1:¬t=1:=by simpa using e1
 have e2:¬t=0:=by simpa using e2
 exact Kh (p.oH ht) ⟨h1,by lia,h3,by lia⟩ (by rw[Array.size_append];lia) (by rw[Array.size_append];lia) kp
theorem Km(C:uJ prog w A s κ a₀)(ha:Of a₀ a)(hb:Of a₀ b)(p:Ph a b out na nb)(h:Hd a b na nb)(hm:m<=out.size)(hn:n<=out.size+1)(kp:pG st0 st)(hk:kindOf st0=κ):
 wpS (model prog w) A E s (hiA a b out na nb ac bc mg) (λr st'=>pG st0 st'/\HQ a b m n r) st:=by
 have h':=h;obtain⟨h1,h2,h3,h4⟩:=h';unfold hiA;have i:nb - 1<b.size:=by lia
 refine aaC (oX λuL k4=>?_);have kp:=kp.trans k4;have hk:=kp.k.trans hk;refine aaC (cA i (aaC (iG C hk (hb.get i) ha (by lia) (by lia) λt ht=>?_)));dsimp only;refine aY (λ_=>aY (λe=>aaJ ⟨kp,(p.oJ ht).done⟩) (λe1=>?_)) (λ_=>Kl C ha hb p h hm hn kp hk);have e1:¬t=0:=by simpa using e1
 exact Kl C ha hb (p.oJ ht) ⟨by lia,h2,by lia,h4⟩ (by rw[Array.size_append];lia) (by rw[Array.size_append];lia) kp hk
theorem U5(C:uJ prog w A s κ a₀)(ha:Of a₀ a)(hb:Of a₀ b)(p:Ph a b out na nb)(h:Hd a b na nb)(hm:m<=out.size+1)(hn:n<=out.size+1)(hk:kindOf st=κ):
 wpS (model prog w) A E s (hi1 a b mg (none,na,nb,out,ac,bc)) (λr st'=>st'=st/\HQ a b m n r) st:=by
 obtain⟨h1,h2,h3,h4⟩:=h;unfold hi1;dsimp only;have i:nb - 1<b.size:=by lia
 have j:na - 1<a.size:=by lia
 refine aaC (cA i (aaC (cA j (aaC (vZ C hk (hb.get i) (ha.get j) λt=>?_)))));dsimp only;refine aY (λ_=>aaC (cA j ?_)) (λ_=>aaC (cA i ?_))
 .have p:=p.xK j h1
  have z:(out.push a[na - 1]).size=out.size+1:=Array.size_push _;refine aY (λe=>aaJ ⟨Z,p.done⟩) (λe=>?_);have e:¬na - 1=0:=by simpa using e
  have hd:Hd a b (na - 1) nb:=⟨by lia,h2,by lia,h4⟩;exact aY (λ_=>aaJ ⟨Z,p,hd,by lia⟩) (λ_=>aaJ ⟨Z,p,hd,by lia⟩)
 .have p:=p.xJ i (by lia)
  have z:(out.push b[nb - 1]).size=out.size+1:=Array.size_push _;refine aY (λe=>aaJ ⟨Z,p.first⟩) (λe=>?_);have e:¬nb - 1=1:=by simpa using e
  have hd:Hd a b na (nb - 1):=⟨h1,by lia,h3,by lia⟩;exact aY (λ_=>aaJ ⟨Z,p,hd,by lia⟩) (λ_=>aaJ ⟨Z,p,hd,by lia⟩)
theorem U4(C:uJ prog w A s κ a₀)(ha:Of a₀ a)(hb:Of a₀ b)(p:Ph a b out na nb)(h:Hd a b na nb)(hm:n<=out.size)(hk:kindOf st0=κ)(kp:pG st0 st):
 wpS (model prog w) A E s (hiO a b (none,na,nb,out,mg)) (λr st'=>pG st0 st'/\HR a b (n+1) r) st:=by
 unfold hiO;dsimp only;refine aaC (wpS_mono (wpS_forRange (I:=λy c st2=>st2=st/\HI a b (n+y) c) (Q:=λc st2=>st2=st/\HP a b (n+1) c) ?_ ?_ ⟨Z,p,h,hm⟩) ?_)
 .rintro y ⟨_|r,na,nb,out,ac,bc⟩ _ _ _ ⟨rfl,h⟩
  .obtain⟨p,q,q3⟩:=h
   refine wpS_mono (U5 (m:=n+1) (n:=n+(y+1)) C ha hb p q (by lia) (by lia) (kp.k.trans hk)) λr st' h=>?_;cases r with
   | done c=>exact h
   | yield c=>exact h
  .exact h.elim
 .rintro⟨_|r,na,nb,out,ac,bc⟩ _ ⟨rfl,h⟩
  .obtain⟨p,q,q3⟩:=h
   have:=p.size q.1 q.2.2.1;lia
  .exact h.elim
 rintro⟨_|r,na,nb,out,ac,bc⟩ _ ⟨rfl,h⟩
 .obtain⟨p,q,q3⟩:=h
  dsimp only;refine aaC (wpS_lift (wpAny_rule ⟨Z, ?_⟩));refine aaC (wpS_mono (wpS_forRange (I:=λy c st2=>pG st0 st2/\HI a b (n+1+y) c) (Q:=λc st2=>pG st0 st2/\HP a b (n+1) c) ?_ ?_ ⟨kp,p,q,q3⟩) ?_)
  .rintro y ⟨_|r,na,nb,out,mg,ac,bc⟩ st2 _ _ ⟨k2,h⟩
   .obtain⟨p,q,q3⟩:=h
    dsimp only;refine wpS_mono (aY (λ_=>Km (m:=n+1) (n:=n+1+(y+1)) C ha hb p q (by lia) (by lia) k2 hk) (λ_=>Km C ha hb p q (by lia) (by lia) k2 hk)) λr st' h=>?_;cases r with
    | done c=>exact h
    | yield c=>exact h
   .exact h.elim
  .rintro⟨_|r,na,nb,out,mg,ac,bc⟩ st2 ⟨k2,h⟩
   .obtain⟨p,q,q3⟩:=h
    have:=p.size q.1 q.2.2.1;lia
   .exact h.elim
  rintro⟨_|r,na,nb,out,mg,ac,bc⟩ st2 ⟨k2,h⟩
  .exact aaC (oX λuL k4=>aaJ ⟨k2.trans k4,h⟩)
  .exact aaJ ⟨k2,r,_,Z,h⟩
 .exact aaJ ⟨kp,r,_,Z,h⟩
theorem Eb{Q:Array Keyed->SortSt->Prop}(C:uJ prog w A s κ a₀)(hk:kindOf st=κ)(ha:Of a₀ a)(hb:Of a₀ b)(ha1:1<=a.size)(hb1:1<=b.size)(h:∀r st',pG st st'->Mg a b r->Q r st'):wpS (model prog w) A E s (xV a b) Q st:=by
 have i:a.size - 1<a.size:=by lia
 have p:Ph a b #[a[a.size - 1]] (a.size - 1) b.size:=by
  refine Ph.xK (out:= #[]) (na:=a.size) ?_ i ha1;unfold Ph;rw[List.take_of_length_le (by rw[aaK];exact aap _),List.take_of_length_le (by rw[aaK];exact aap _)];exact .refl _
 rw[Gi];refine aaC (wpS_lift (wpAny_rule ⟨Z, ?_⟩));refine aaC (cA i ?_);dsimp only;refine aY (λe=>aaJ (h _ _ (.refl _) p.done)) (λe1=>?_);refine aY (λe=>aaJ (h _ _ (.refl _) p.first)) (λe2=>?_);have e1:¬a.size - 1=0:=by simpa using e1
 have e2:¬b.size=1:=by simpa using e2
 refine aaC (wpS_get ?_);refine aaC (wpS_mono (wpS_forRange (I:=λy c st2=>pG st st2/\HI a b y c) (Q:=λc st2=>pG st st2 /\ ∃r t,c=(some r,t)/\Mg a b r) ?_ ?_ ⟨.refl _,p,⟨by lia,by lia,by lia,aap _⟩,Nat.zero_le _⟩) ?_)
 .rintro y ⟨_|r,na,nb,out,mg⟩ st2 _ _ ⟨k2,h⟩
  .obtain⟨p,q,q3⟩:=h
   refine wpS_mono (U4 (n:=y) C ha hb p q q3 hk k2) λr st' h=>?_;cases r with
   | done c=>exact h
   | yield c=>exact h
  .exact h.elim
 .rintro⟨_|r,na,nb,out,mg⟩ st2 ⟨k2,h⟩
  .obtain⟨p,q,q3⟩:=h
   have:=p.size q.1 q.2.2.1;lia
  .exact h.elim
 rintro c st2 ⟨k2,r,t,rfl,hm⟩;exact aaJ (h _ _ k2 hm)
end
noncomputable def crL(lo nrem a:Nat):StateT SortSt Sem (Option (Option Nat)×Nat):=
 forIn [a:nrem] ((none,a):Option (Option Nat)×Nat) λ_ c=>do
  match ←ltAt' (lo+c.2) (lo+c.2 - 1) with
  | some t=>if t=true then pure (.done (none,c.2)) else pure (.yield (none,c.2+1))
  | _=>pure (.done (some none,c.2))
noncomputable def crR(lo nrem n:Nat):StateT SortSt Sem (Option Nat):=do
 reverseSlice' lo (lo+n)
 let s ←crL lo nrem n
 match s.1 with
 | some r=>pure r
 | none=>pure (some s.2)
noncomputable def crB(lo n q:Nat):StateT SortSt Sem (ForInStep (Option (Option Nat)×Nat×Nat)):=do
 match ←ltAt' (lo+n) (lo+n - 1) with
 | some t=>
   if t=true then
    if q>0 then do
     reverseSlice' (lo+n - (q+1)) (lo+n)
     pure (.yield (none,n+1,0))
    else pure (.yield (none,n+1,0))
   else do
    match ←ltAt' (lo+n - 1) (lo+n) with
    | some t=>if t=true then pure (.done (none,n,q)) else pure (.yield (none,n+1,q+1))
    | _=>pure (.done (some none,n,q))
 | _=>pure (.done (some none,n,q))
noncomputable def crD(lo nrem n:Nat):StateT SortSt Sem (Option Nat):=do
 rule "list.sort.descending-run"
 let s ←forIn [n+1:nrem] ((none,n+1,0):Option (Option Nat)×Nat×Nat) λ_ c=>crB lo c.2.1 c.2.2
 match s.1 with
 | some r=>pure r
 | none=>
   if s.2.2>0 then do
    reverseSlice' (lo+s.2.1 - (s.2.2+1)) (lo+s.2.1)
    crR lo nrem s.2.1
   else crR lo nrem s.2.1
theorem countRun'_eq(lo nrem:Nat):countRun' lo nrem=(do
 let s ←crL lo nrem 1
 match s.1 with
 | some r=>pure r
 | none=>
   if (s.2==nrem)=true then pure (some s.2) else
   if s.2>1 then do
    match ←ltAt' lo (lo+s.2 - 1) with
    | some t=>if t=true then pure (some s.2) else do
      reverseSlice' lo (lo+s.2)
      crD lo nrem s.2
    | _=>pure none
   else crD lo nrem s.2):=by kernel_rfl
noncomputable def bsB(lo k:Nat):StateT SortSt Sem (ForInStep (Option Bool×Unit)):=do
 let s ←forIn [0:k] ((none,0,k):Option Bool×Nat×Nat) λ_ c=>
  if c.2.1≥c.2.2 then pure (.done (none,c.2.1,c.2.2)) else do
   match ←ltAt' (lo+k) (lo+(c.2.1+c.2.2) / 2) with
   | some t=>if t=true then pure (.yield (none,c.2.1,(c.2.1+c.2.2) / 2)) else pure (.yield (none,(c.2.1+c.2.2) / 2+1,c.2.2))
   | _=>pure (.done (some false,c.2.1,c.2.2))
 match s.1 with
 | some r=>pure (.done (some r,()))
 | none=>do
   moveDown' (lo+k) (lo+s.2.1)
   pure (.yield (none,()))
theorem G6(lo n ok:Nat):binarySort' lo n ok=(do
 let s ←forIn [max ok 1:n] ((none,()):Option Bool×Unit) λk _=>bsB lo k
 match s.1 with
 | some r=>pure r
 | none=>pure true):=by kernel_rfl
theorem Gj(i:Nat):mergeAt' i=(do
 let s ←get
 match (pendingOf s)[i]?,(pendingOf s)[i+1]? with
 | some (sa,na,power),some (sb,nb,_)=>do
   set (SortSt.mk' (kindOf s) (arrOf s) (((pendingOf s).setIfInBounds i (sa,na+nb,power)).eraseIdxIfInBounds (i+1)) (gallopOf s) (failedOf s))
   match ←j4 false (←elem' (arrOf s) sb) (arrOf s) sa na 0 with
   | some k=>
     if (na - k==0)=true then pure true else do
      match ←j4 true (←elem' (arrOf s) (sa+k+(na - k) - 1)) (arrOf s) sb nb (nb - 1) with
      | some n2=>
        if (n2==0)=true then pure true else do
         let merged ←if na - k<=n2 then xU ((arrOf s).extract (sa+k) sb) ((arrOf s).extract sb (sb+n2)) else xV ((arrOf s).extract (sa+k) sb) ((arrOf s).extract sb (sb+n2))
         modify λs=>setArr s (merged.toList.zipIdx.foldl (λa x=>a.setIfInBounds (sa+k+x.2) x.1) (arrOf s))
         return (failedOf (←get)).isNone
      | _=>pure false
   | _=>pure false
 | _,_=>unsupported "internal:list.sort.pending"):=by kernel_rfl
section
variable{prog:Program}{w:World}{A:Around}{E:Value->Shared->Prop}{s:Shared}{κ:SortKind}{a₀:Array Keyed}{pd:Array (Nat×Nat×Nat)}{st:SortSt}
structure SB(κ:SortKind)(a₀:Array Keyed)(pd:Array (Nat×Nat×Nat))(st:SortSt):Prop where
 perm:(arrOf st).Perm a₀
 kind:kindOf st=κ
 failed:failedOf st=none
 pend:pendingOf st=pd
theorem SB.size(h:SB κ a₀ pd st):(arrOf st).size=a₀.size:=h.perm.size_eq
theorem SB.set(h:SB κ a₀ pd st){xs:Array Keyed}(hp:xs.Perm (arrOf st)):SB κ a₀ pd (setArr st xs):=⟨hp.trans h.perm,h.kind,h.failed,h.pend⟩
theorem SB.of(h:SB κ a₀ pd st):Of a₀ (arrOf st):=λ_ hp=>(Array.perm_iff_toList_perm.mp h.perm).mem_iff.mp hp
theorem wpS_ltAt{i j:Nat}{Q:Option Bool->SortSt->Prop}(C:uJ prog w A s κ a₀)(hB:SB κ a₀ pd st)(hi:i<a₀.size)(hj:j<a₀.size)(h:∀b,Q (some b) st):wpS (model prog w) A E s (ltAt' i j) Q st:=by
 rw[ltAt'_eq];have hi:i<(arrOf st).size:=by rw[hB.size];exact hi
 have hj:j<(arrOf st).size:=by rw[hB.size];exact hj
 exact aaC (wpS_get (aaC (cA hi (aaC (cA hj (vZ C hB.kind (hB.of.get hi) (hB.of.get hj) h))))))
theorem vG{i j:Nat}{Q:PUnit->SortSt->Prop}(hB:SB κ a₀ pd st)(h:∀st',SB κ a₀ pd st'->Q ⟨⟩ st'):wpS (model prog w) A E s (reverseSlice' i j) Q st:=by
 rw[reverseSlice'_eq];exact wpS_modify (h _ (hB.set (mirror_perm _ _ _ _)))
theorem Kr{lo nrem a:Nat}{Q:Option (Option Nat)×Nat->SortSt->Prop}(C:uJ prog w A s κ a₀)(hn:lo+nrem<=a₀.size)(ha:a<=nrem)(hB:SB κ a₀ pd st)(h:∀m,a<=m->m<=nrem->Q (none,m) st):wpS (model prog w) A E s (crL lo nrem a) Q st:=by
 refine wpS_forRange (I:=λx c st'=>st'=st/\c=(none,x)) ?_ ?_ ⟨Z,Z⟩
 .rintro x c st' x1 xn ⟨rfl,rfl⟩
  refine aaC (wpS_ltAt C hB (by dsimp only;lia) (by dsimp only;lia) λb=>?_);exact aY (λ_=>aaJ (h x x1 (by lia))) (λ_=>aaJ ⟨Z,Z⟩)
 .rintro c st' ⟨rfl,rfl⟩
  rw[show max a nrem=nrem by lia];exact h nrem ha (aap _)
theorem Kq{lo nrem n:Nat}{Q:Option Nat->SortSt->Prop}(C:uJ prog w A s κ a₀)(hn:lo+nrem<=a₀.size)(n1:1<=n)(n2:n<=nrem)(hB:SB κ a₀ pd st)(h:∀m st',SB κ a₀ pd st'->1<=m->m<=nrem->Q (some m) st'):wpS (model prog w) A E s (crR lo nrem n) Q st:=
 aaC (vG hB λst' hB'=>aaC (Kr C hn n2 hB' λm m1 m2=>aaJ (h m st' hB' (by lia) m2)))
theorem Ks{lo nrem n:Nat}{Q:Option Nat->SortSt->Prop}(C:uJ prog w A s κ a₀)(hn:lo+nrem<=a₀.size)(n2:n+1<=nrem)(hB:SB κ a₀ pd st)(h:∀m st',SB κ a₀ pd st'->1<=m->m<=nrem->Q (some m) st'):wpS (model prog w) A E s (crD lo nrem n) Q st:=by
 unfold crD;refine aaC (wpS_lift (wpAny_rule ⟨Z, ?_⟩));refine aaC (wpS_mono (wpS_forRange (I:=λx c st'=>SB κ a₀ pd st' /\ ∃q,c=(none,x,q)) (Q:=λc st'=>SB κ a₀ pd st' /\ ∃x q,c=(none,x,q)/\n+1<=x/\x<=nrem) ?_ ?_ ⟨hB,0,Z⟩) ?_)
 .rintro x c st' x1 xn ⟨hB',q,rfl⟩
  dsimp only;unfold crB;refine aaC (wpS_ltAt C hB' (by lia) (by lia) λb=>?_);dsimp only;refine aY (λ_=>aY (λ_=>aaC (vG hB' λst2 hB2=>aaJ ⟨hB2,_,Z⟩)) (λ_=>aaJ ⟨hB',_,Z⟩)) (λ_=>?_);refine aaC (wpS_ltAt C hB' (by lia) (by lia) λb=>?_);exact aY (λ_=>aaJ ⟨hB',x,_,Z,x1,by lia⟩) (λ_=>aaJ ⟨hB',_,Z⟩)
 .rintro c st' ⟨hB',q,rfl⟩
  rw[show max (n+1) nrem=nrem by lia];exact⟨hB',nrem,q,Z,n2,aap _⟩
 .rintro c st' ⟨hB',x,q,rfl,x1,x2⟩
  exact aY (λ_=>aaC (vG hB' λst2 hB2=>Kq C hn (by dsimp only;lia) x2 hB2 h)) (λ_=>Kq C hn (by dsimp only;lia) x2 hB' h)
theorem wpS_countRun{lo nrem:Nat}{Q:Option Nat->SortSt->Prop}(C:uJ prog w A s κ a₀)(hn:lo+nrem<=a₀.size)(h1:1<=nrem)(hB:SB κ a₀ pd st)(h:∀m st',SB κ a₀ pd st'->1<=m->m<=nrem->Q (some m) st'):wpS (model prog w) A E s (countRun' lo nrem) Q st:=by
 rw[countRun'_eq];refine aaC (Kr C hn h1 hB λm m1 m2=>?_);dsimp only;refine aY (λ_=>aaJ (h m _ hB m1 m2)) (λe=>?_);have e:¬m=nrem:=λz=>e (beq_iff_eq.mpr z);refine aY (λ_=>aaC (wpS_ltAt C hB (by lia) (by lia) λb=>?_)) (λ_=>Ks C hn (by lia) hB h);exact aY (λ_=>aaJ (h m _ hB m1 m2)) (λ_=>aaC (vG hB λst2 hB2=>Ks C hn (by lia) hB2 h))
theorem Ed{lo n ok:Nat}{Q:Bool->SortSt->Prop}(C:uJ prog w A s κ a₀)(hn:lo+n<=a₀.size)(hB:SB κ a₀ pd st)(h:∀st',SB κ a₀ pd st'->Q true st'):wpS (model prog w) A E s (binarySort' lo n ok) Q st:=by
 rw[G6];refine aaC (wpS_mono (wpS_forRange (I:=λ_ c st'=>c=(none,())/\SB κ a₀ pd st') (Q:=λc st'=>c=(none,())/\SB κ a₀ pd st') ?_ (λ_ _ z=>z) ⟨Z,hB⟩) ?_)
 .rintro k c st' _ kn ⟨rfl,hB'⟩
  unfold bsB;refine aaC (wpS_mono (wpS_forRange (I:=λ_ c st2=>st2=st' /\ ∃l r,c=(none,l,r)/\r<=k) (Q:=λc st2=>st2=st' /\ ∃l r,c=(none,l,r)/\r<=k) ?_ (λ_ _ z=>z) ⟨Z,0,k,Z,aap _⟩) ?_)
  .rintro x c st2 _ _ ⟨rfl,l,r,rfl,rk⟩
   refine aY (λ_=>aaJ ⟨Z,l,r,Z,rk⟩) (λz=>?_);dsimp only at z ⊢;refine aaC (wpS_ltAt C hB' (by lia) (by lia) λb=>?_);exact aY (λ_=>aaJ ⟨Z,_,_,Z,by lia⟩) (λ_=>aaJ ⟨Z,_,_,Z,rk⟩)
  .rintro c st2 ⟨rfl,l,r,rfl,_⟩
   refine aaC ?_;rw[moveDown'_eq];exact wpS_modify (aaJ ⟨Z,hB'.set (bubble_perm _ _ _)⟩)
 .rintro c st' ⟨rfl,hB'⟩
  exact aaJ (h st' hB')
theorem Q6(b:Nat)(m:List Keyed):∀(n:Nat)(xs:Array Keyed),b+n+m.length<=xs.size->((m.zipIdx n).foldl (λa x=>a.setIfInBounds (b+x.2) x.1) xs).toList=xs.toList.take (b+n)++(m++xs.toList.drop (b+n+m.length)):=by
 induction m with
 | nil=>intro n xs h;simp
 | cons p m ih=>
   intro n xs h;rw[abo] at h;have hl:b+n<xs.toList.length:=by rw[aaK];lia
   rw[List.zipIdx_cons,List.foldl_cons,ih (n+1) _ (by rw[Array.size_setIfInBounds];lia),Array.toList_setIfInBounds,abo,List.drop_set_of_lt (by lia),show b+(n+1)=b+n+1 by lia,aa5,List.take_set_of_le (aap _),List.getElem?_set_self hl,show b+n+1+m.length=b+n+(m.length+1) by lia];simp
theorem Q5{b n:Nat}{m:List Keyed}{xs:Array Keyed}(hb:b+n<=xs.size)(hp:m.Perm ((xs.toList.drop b).take n)):((m.zipIdx).foldl (λa x=>a.setIfInBounds (b+x.2) x.1) xs).Perm xs:=by
 have hl:m.length=n:=by rw[hp.length_eq,aa7,List.length_drop,aaK];lia
 refine Array.perm_iff_toList_perm.mpr ?_;rw[Q6 b m 0 xs (by lia),hl,Nat.add_zero];refine List.Perm.trans ?_ (List.Perm.of_eq (List.take_append_drop b xs.toList));rw[yF xs.toList b n];exact List.Perm.append_left _ (List.Perm.append_right _ hp)
theorem UW{σ:Type}{M:Model}{A:Around}{E:Value->Shared->Prop}{s:Shared}{x:σ}{Q:PUnit->σ->Prop}{st:σ}(h:Q ⟨⟩ x):wpS M A E s (set x:StateT σ Sem PUnit) Q st:=by
 unfold wpS;rw[StateT.run_set];exact aaB ⟨Z,h⟩
theorem Ec{i sa na pw sb nb pw2:Nat}{Q:Bool->SortSt->Prop}(C:uJ prog w A s κ a₀)(hB:SB κ a₀ pd st)(h1:pd[i]? = some (sa,na,pw))(h2:pd[i+1]? = some (sb,nb,pw2))(hsb:sa+na=sb)(na1:1<=na)(nb1:1<=nb)(hz:sb+nb<=a₀.size)(h:∀st',SB κ a₀ ((pd.setIfInBounds i (sa,na+nb,pw)).eraseIdxIfInBounds (i+1)) st'->Q true st'):wpS (model prog w) A E s (mergeAt' i) Q st:=by
 rw[Gj];refine aaC (wpS_get ?_);rw[hB.pend,h1,h2];dsimp only;have sz:(arrOf st).size=a₀.size:=hB.size;refine aaC (UW ?_);have pq:SB κ a₀ ((pd.setIfInBounds i (sa,na+nb,pw)).eraseIdxIfInBounds (i+1)) (SortSt.mk' (kindOf st) (arrOf st) ((pd.setIfInBounds i (sa,na+nb,pw)).eraseIdxIfInBounds (i+1)) (gallopOf st) (failedOf st)):=⟨hB.perm,hB.kind,hB.failed,Z⟩;have hA1:arrOf (SortSt.mk' (kindOf st) (arrOf st) ((pd.setIfInBounds i (sa,na+nb,pw)).eraseIdxIfInBounds (i+1)) (gallopOf st) (failedOf st))=arrOf st:=Z;generalize (pd.setIfInBounds i (sa,na+nb,pw)).eraseIdxIfInBounds (i+1)=pd1 at pq hA1 h ⊢;generalize SortSt.mk' (kindOf st) (arrOf st) pd1 (gallopOf st) (failedOf st)=st1 at pq hA1 ⊢;have of:=hB.of;have zb:sb<(arrOf st).size:=by lia
 refine aaC (cA zb (aaC (iG C pq.kind (of.get zb) of (by lia) (by lia) λk k1=>?_)));dsimp only;refine aY (λe=>aaJ (h st1 pq)) (λe=>?_);have ek:k<na:=by have:¬na - k=0:=λz=>e (beq_iff_eq.mpr z);lia
 have zc:sa+k+(na - k) - 1<(arrOf st).size:=by lia
 refine aaC (cA zc (aaC (iG C pq.kind (of.get zc) of (by lia) (by lia) λn2 l1=>?_)));dsimp only;refine aY (λe=>aaJ (h st1 pq)) (λe=>?_);have e2:¬n2=0:=λz=>e (beq_iff_eq.mpr z);have xz:((arrOf st).extract (sa+k) sb).size=sb - (sa+k):=by rw[Array.size_extract,Nat.min_eq_left (by lia)]
 have yz:((arrOf st).extract sb (sb+n2)).size=n2:=by rw[Array.size_extract,Nat.min_eq_left (by lia)];lia
 have sub:∀i j,Of a₀ ((arrOf st).extract i j):=λi j p hp=>of p (by rw[fM] at hp;exact List.mem_of_mem_drop (List.mem_of_mem_take hp))
 have fin:∀r st2,pG st1 st2->Mg ((arrOf st).extract (sa+k) sb) ((arrOf st).extract sb (sb+n2)) r->wpS (model prog w) A E s (do
  modify λs=>setArr s (List.foldl (λa x=>a.setIfInBounds (sa+k+x.2) x.1) (arrOf s) r.toList.zipIdx)
  return (failedOf (←get)).isNone) Q st2:=λr st2 k2 mg=>by
  refine aaC (wpS_modify (aaC (wpS_get ?_)));have hf:failedOf (setArr st2 (List.foldl (λa x=>a.setIfInBounds (sa+k+x.2) x.1) (arrOf st2) r.toList.zipIdx))=none:=k2.f.trans pq.failed;rw[hf];have hA2:arrOf st2=arrOf st:=k2.a.trans hA1;refine aaJ (h _ ⟨?_,k2.k.trans pq.kind,hf,k2.p.trans pq.pend⟩);refine Array.Perm.trans ?_ hB.perm;rw[←hA2];refine Q5 (n:=na - k+n2) (by rw[hA2];lia) (List.Perm.trans mg (List.Perm.of_eq ?_));rw[hA2,fM,fM,List.take_add,List.drop_drop,show sb+n2 - sb=n2 by lia,show sa+k+(na - k)=sb by lia,show sb - (sa+k)=na - k by lia]
 exact aY (λ_=>aaC (Ea C pq.kind (sub _ _) (sub _ _) (by lia) (by lia) fin)) (λ_=>aaC (Eb C pq.kind (sub _ _) (sub _ _) (by lia) (by lia) fin))
end
noncomputable def srP(lo n:Nat):StateT SortSt Sem (ForInStep (Option Unit×Nat)):=do
 modify λs=>setPending s ((pendingOf s).push (lo,n,0))
 pure (.yield (none,lo+n))
noncomputable def srC(pw:Nat):StateT SortSt Sem (ForInStep (Option Unit×Unit)):=do
 let st ←get
 match (if (pendingOf st).size>1 then (pendingOf st)[(pendingOf st).size - 2]? else none) with
 | some (_,_,older)=>if older<=pw then pure (.done (none,())) else do
   if (!(←mergeAt' ((pendingOf st).size - 2)))=true then pure (.done (some (),())) else pure (.yield (none,()))
 | _=>pure (.done (none,()))
noncomputable def srM(size lo n:Nat):StateT SortSt Sem (ForInStep (Option Unit×Nat)):=do
 let st ←get
 match (pendingOf st).back? with
 | some (s1,n1,_)=>do
   let s ←forIn [0:size] ((none,()):Option Unit×Unit) λ_ _=>srC (power' size (2*s1+n1) (2*s1+n1+n1+n) size)
   match s.1 with
   | some r=>pure (.done (some r,lo))
   | none=>do
     modify λs=>setPending s ((pendingOf s).modify ((pendingOf s).size - 1) λx=>match x with |(st,len,_)=>(st,len,power' size (2*s1+n1) (2*s1+n1+n1+n) size))
     srP lo n
 | _=>srP lo n
noncomputable def srB(size mr:Nat)(lo:Nat):StateT SortSt Sem (ForInStep (Option Unit×Nat)):=
 if lo≥size then pure (.done (none,lo)) else do
  match ←countRun' lo (size - lo) with
  | some n=>
    if n<mr then do
     rule "list.sort.binary-insertion"
     if (!(←binarySort' lo (min (size - lo) mr) n))=true then pure (.done (some (),lo)) else srM size lo (min (size - lo) mr)
    else srM size lo n
  | _=>pure (.done (some (),lo))
noncomputable def srI(p:Array (Nat×Nat×Nat)):Nat:=if Option.any (λx=>decide (x<p[p.size - 2+1]?.elim 0 λx=>x.2.1)) (if p.size - 2>0 then Option.map (λx=>x.2.1) p[p.size - 2 - 1]? else none)=true then p.size - 2 - 1 else p.size - 2
noncomputable def srF:StateT SortSt Sem (ForInStep (Option Unit×Unit)):=do
 let st ←get
 if (pendingOf st).size<=1 then pure (.done (none,())) else do
  if (!(←mergeAt' (srI (pendingOf st))))=true then pure (.done (some (),())) else pure (.yield (none,()))
theorem sortRuns'_eq:sortRuns'=(do
 let st ←get
 let s ←forIn [0:(arrOf st).size] ((none,0):Option Unit×Nat) λ_ c=>srB (arrOf st).size (minRun' (arrOf st).size (arrOf st).size 0) c.2
 match s.1 with
 | some r=>pure r
 | none=>do
   let s ←forIn [0:(arrOf st).size] ((none,()):Option Unit×Unit) λ_ _=>srF
   match s.1 with
   | some r=>pure r
   | none=>pure ()):=by kernel_rfl
section
variable{prog:Program}{w:World}{A:Around}{E:Value->Shared->Prop}{s:Shared}{κ:SortKind}{a₀:Array Keyed}{st:SortSt}{e lo n:Nat}
noncomputable def Rn:List (Nat×Nat×Nat)->Nat->Nat->Prop
 | [],a,e=>a=e
 | (s,n,_)::r,a,e=>s=a/\1<=n/\Rn r (a+n) e
theorem Rn.le:∀{l:List (Nat×Nat×Nat)}{a e:Nat},Rn l a e->a<=e
 | [],_,_,h=>Nat.le_of_eq h
 | _::_,_,_,h=>abG (Nat.le_add_right _ _) (Rn.le h.2.2)
theorem Rn.app{r:List (Nat×Nat×Nat)}:∀{l:List (Nat×Nat×Nat)}{a e:Nat},Rn (l++r) a e ↔ ∃m,Rn l a m/\Rn r m e
 | [],a,e=>⟨λh=>⟨a,Z,h⟩,λ⟨m,h1,h2⟩=>(show a=m from h1)▸h2⟩
 | (s,n,_)::l,a,e=>⟨λ⟨h1,h2,h3⟩=>(Rn.app.mp h3).elim λm ⟨m1,m2⟩=>⟨m,⟨h1,h2,m1⟩,m2⟩,λ⟨m,⟨h1,h2,h3⟩,m2⟩=>⟨h1,h2,Rn.app.mpr ⟨m,h3,m2⟩⟩⟩
theorem Rn.modify{f:Nat×Nat×Nat->Nat×Nat×Nat}(hf:∀x,(f x).1=x.1/\(f x).2.1=x.2.1)(l:List (Nat×Nat×Nat)):∀(i a e:Nat),Rn l a e->Rn (l.modify i f) a e:=by
 induction l with
 | nil=>intro i a e h;cases i<;>exact h
 | cons t r ih=>
   intro i a e h;obtain⟨h1,h2,h3⟩:=h;cases i with
   | zero=>
     rw[List.modify_zero_cons];obtain⟨q1,q2⟩:=hf t;exact⟨q1.trans h1,by rw[q2];exact h2,by rw[q2];exact h3⟩
   | succ i=>
     rw[List.modify_succ_cons];exact⟨h1,h2,ih i _ _ h3⟩
noncomputable def RI(κ:SortKind)(a₀:Array Keyed)(e:Nat)(st:SortSt):Prop:=SB κ a₀ (pendingOf st) st/\Rn (pendingOf st).toList 0 e
theorem vY{i:Nat}{Q:Bool->SortSt->Prop}(C:uJ prog w A s κ a₀)(hR:RI κ a₀ e st)(he:e<=a₀.size)(hi:i+1<(pendingOf st).size)(h:∀st',RI κ a₀ e st'->Q true st'):wpS (model prog w) A E s (mergeAt' i) Q st:=by
 obtain⟨hB,hr⟩:=hR;have hl:(pendingOf st).toList.length=(pendingOf st).size:=aaK;generalize pendingOf st=pd at hB hr hi hl
 obtain⟨pre,⟨sa,na,pw⟩,⟨sb,nb,pw2⟩,post,el,pl⟩:∃pre p q post,pd.toList=pre++p::q::post/\pre.length=i:=
  ⟨pd.toList.take i,pd.toList[i],pd.toList[i+1],pd.toList.drop (i+2),by rw[←List.drop_eq_getElem_cons,←List.drop_eq_getElem_cons,List.take_append_drop],by rw[aa7];lia⟩
 rw[el] at hr;obtain⟨m,r1,e1,n1,e2,n2,r3⟩:=Rn.app.mp hr;subst e1;have le3:=Rn.le r3;have h1:pd[i]? = some (sa,na,pw):=by rw[←Array.getElem?_toList,el,aaT (by lia),pl,Nat.sub_self];rfl
 have h2:pd[i+1]? = some (sb,nb,pw2):=by rw[←Array.getElem?_toList,el,aaT (by lia),pl,show i+1 - i=1 by lia];rfl
 refine Ec C hB h1 h2 e2.symm n1 n2 (by lia) λst' hB'=>h st' ?_
 have ep:((pd.setIfInBounds i (sa,na+nb,pw)).eraseIdxIfInBounds (i+1)).toList=pre++(sa,na+nb,pw)::post:=by
  rw[Array.toList_eraseIdxIfInBounds,Array.toList_setIfInBounds,el,List.set_append_right _ _ (by lia),pl,Nat.sub_self,List.eraseIdx_append_of_length_le (by lia),pl,show i+1 - i=1 by lia];rfl
 unfold RI;rw[hB'.pend,ep];exact⟨hB',Rn.app.mpr ⟨sa,r1,Z,by lia,by rw[←Nat.add_assoc];exact r3⟩⟩
theorem Kc{Q:ForInStep (Option Unit×Nat)->SortSt->Prop}(hR:RI κ a₀ lo st)(n1:1<=n)(h:∀st',RI κ a₀ (lo+n) st'->Q (.yield (none,lo+n)) st'):wpS (model prog w) A E s (srP lo n) Q st:=by
 unfold srP;refine aaC (wpS_modify (aaJ (h _ ⟨⟨hR.1.perm,hR.1.kind,hR.1.failed,Z⟩, ?_⟩)));show Rn ((pendingOf st).push _).toList _ _;rw[Array.toList_push];exact Rn.app.mpr ⟨lo,hR.2,Z,n1,Z⟩
theorem Kd{Q:ForInStep (Option Unit×Nat)->SortSt->Prop}(C:uJ prog w A s κ a₀)(hR:RI κ a₀ lo st)(hlo:lo<=a₀.size)(n1:1<=n)(h:∀st',RI κ a₀ (lo+n) st'->Q (.yield (none,lo+n)) st'):wpS (model prog w) A E s (srM a₀.size lo n) Q st:=by
 unfold srM;refine aaC (wpS_get ?_);cases hb:(pendingOf st).back? with
 | none=>exact Kc hR n1 h
 | some t=>
   obtain⟨s1,n1',pw⟩:=t;dsimp only;generalize power' a₀.size (2*s1+n1') (2*s1+n1'+n1'+n) a₀.size=pwr;refine aaC (wpS_mono (wpS_forRange (I:=λ_ c uL=>c=(none,())/\RI κ a₀ lo uL) (Q:=λc uL=>c=(none,())/\RI κ a₀ lo uL) ?_ (λ_ _ z=>z) ⟨Z,hR⟩) ?_)
   .rintro y c uL _ _ ⟨rfl,h4⟩
    unfold srC;refine aaC (wpS_get ?_);cases hg:(if (pendingOf uL).size>1 then (pendingOf uL)[(pendingOf uL).size - 2]? else none) with
    | none=>exact aaJ ⟨Z,h4⟩
    | some t=>
      have gt:(pendingOf uL).size>1:=by
       by_cases g:(pendingOf uL).size>1
       .exact g
       .rw[abN g] at hg;cases hg
      exact aY (λ_=>aaJ ⟨Z,h4⟩) (λ_=>aaC (vY C h4 hlo (by lia) λVh h5=>aaJ ⟨Z,h5⟩))
   .rintro c uL ⟨rfl,h4⟩
    refine aaC (wpS_modify (Kc ⟨⟨h4.1.perm,h4.1.kind,h4.1.failed,Z⟩, ?_⟩ n1 h));show Rn ((pendingOf uL).modify _ _).toList _ _;rw[Array.toList_modify];exact Rn.modify (f:=λx=>(x.1,x.2.1,pwr)) (λx=>⟨Z,Z⟩) _ _ _ _ h4.2
theorem wpS_sortRuns{Q:Unit->SortSt->Prop}(C:uJ prog w A s κ a₀)(hB:SB κ a₀ #[] st)(h:∀st',(arrOf st').Perm a₀->failedOf st'=none->Q () st'):wpS (model prog w) A E s sortRuns' Q st:=by
 rw[sortRuns'_eq];refine aaC (wpS_get ?_);rw[hB.size];generalize minRun' a₀.size a₀.size 0=mr;refine aaC (wpS_mono (wpS_forRange (I:=λ_ c st'=>∃lo,c=(none,lo)/\lo<=a₀.size/\RI κ a₀ lo st') (Q:=λc st'=>∃lo,c=(none,lo)/\lo<=a₀.size/\RI κ a₀ lo st') ?_ (λ_ _ z=>z) ⟨0,Z,Nat.zero_le _,by unfold RI;rw[hB.pend];exact⟨hB,Z⟩⟩) ?_)
 .rintro x c st' _ _ ⟨lo,rfl,x2,hR⟩
  dsimp only;unfold srB;refine aY (λ_=>aaJ ⟨lo,Z,x2,hR⟩) (λge=>?_);refine aaC (wpS_countRun C (by lia) (by lia) hR.1 λm st2 hB2 m1 m2=>?_);have O4:RI κ a₀ lo st2:=by unfold RI;rw[hB2.pend];exact⟨hB2,hR.2⟩
  refine aY (λlt=>?_) (λ_=>Kd C O4 x2 m1 λst3 h3=>⟨lo+m,Z,by lia,h3⟩);refine aaC (wpS_lift (wpAny_rule ⟨Z,aaC (Ed C (by lia) hB2 λst3 hB3=>?_)⟩));have Wq:RI κ a₀ lo st3:=by unfold RI;rw[hB3.pend];exact⟨hB3,hR.2⟩
  exact Kd C Wq x2 (by lia) λuL h4=>⟨_,Z,by lia,h4⟩
 .rintro c st' ⟨lo,rfl,x2,hR⟩
  dsimp only;refine aaC (wpS_mono (wpS_forRange (I:=λ_ c uL=>c=(none,())/\RI κ a₀ lo uL) (Q:=λc uL=>c=(none,())/\RI κ a₀ lo uL) ?_ (λ_ _ z=>z) ⟨Z,hR⟩) ?_)
  .rintro y c uL _ _ ⟨rfl,h4⟩
   unfold srF;refine aaC (wpS_get (aY (λ_=>aaJ ⟨Z,h4⟩) (λl1=>aaC (vY C h4 x2 ?_ λVh h5=>aaJ ⟨Z,h5⟩))));have hix:∀(c:Prop)[Decidable c],(if c then (pendingOf uL).size - 2 - 1 else (pendingOf uL).size - 2)+1<(pendingOf uL).size:=λc _=>by split<;>lia
   exact hix _
  .rintro c uL ⟨rfl,h4⟩
   exact aaJ (h uL h4.1.perm h4.1.failed)
end
section
variable{prog:Program}{w:World}{A:Around}{E:Value->Shared->Prop}{s:Shared}{κ:SortKind}
theorem Zk{vs:List Value}{xs:Array Keyed}(hp:xs.Perm (pairsOf vs)):(xs.map (·.2)).toList.Perm vs:=by
 have:=(Array.perm_iff_toList_perm.mp hp).map Prod.snd;rwa [pairsOf_toList,List.map_snd_zip (aap _),←Array.toList_map] at this
theorem zB{a:Addr}{vs:List Value}{n:Nat}{P:PySem.Fin->Shared->Prop}(ho:s.heap.get? a=some (seqObj "list" vs.toArray n))(hz:vs.length<=sizeLine)(hk:2<=vs.length -> ∀h':Heap,(∀b o,b≠a->s.heap.get? b=some o->h'.get? b=some o)->(∀(Q:SortKind->Shared->Prop)(E:Value->Shared->Prop),Q κ {s with heap:=h'}->wpAny (model prog w) A (keyKind' vs.toArray) Q E {s with heap:=h'})/\uJ prog w A {s with heap:=h'} κ (pairsOf vs))(h:∀out:List Value,out.Perm vs->P (.done (.ret .none)) {s with heap:=sortedHeap s.heap a vs out.toArray}):
 wpAny (model prog w) A (Builtin.«list.sort» ⟨[.ref a],[]⟩) P E s:=by
 rw[list_sort_plain];have ha:a<s.heap.objs.size:=aal ho;refine aay (listItems_at ho rfl ?_);refine aay (listUpdate_at ho rfl ?_ (by rw[aaQ];exact hz) (Nat.zero_le _));obtain⟨e1,ho1⟩:∃e1,(s.heap.update a (Obj.mapSeq λ_=> #[])).get? a=some (seqObj "list" #[] e1):=⟨_,get?_update_seq ho (λ_=> #[])⟩;refine aay (seqEpoch_at ho1 rfl ?_);refine aay (wpAny_newTuple ?_ (by show vs.length<=_;exact hz));refine aay (wpAny_newList ?_ (Nat.zero_le _));refine wpAny_holding ?_
 have keep:∀b o,b≠a->s.heap.get? b=some o->(((s.heap.update a (Obj.mapSeq λ_=> #[])).push (seqObj "tuple" vs.toArray 0)).push (seqObj "list" #[] 0)).get? b=some o:=λb o nb e=>by
  refine aai _ (aai _ ?_);rw[Heap.get?_update_ne _ _ _ _ nb];exact e
 have ho6:(((s.heap.update a (Obj.mapSeq λ_=> #[])).push (seqObj "tuple" vs.toArray 0)).push (seqObj "list" #[] 0)).get? a=some (seqObj "list" #[] e1):=aai _ (aai _ ho1);show wpAny (model prog w) A _ P E {s with heap:=((s.heap.update a (Obj.mapSeq λ_=> #[])).push (seqObj "tuple" vs.toArray 0)).push (seqObj "list" #[] 0)};dsimp only;have hsz:vs.toArray.size=vs.length:=by simp
 have fin:∀st':SortSt,(arrOf st').Perm (pairsOf vs)->P (.done (.ret .none)) {s with heap:=sortedHeap s.heap a vs ((arrOf st').map (·.2))}:=by
  intro st' hp;have:=h _ (Zk hp);rwa [Array.toArray_toList] at this
 by_cases h2:vs.toArray.size<2
 .rw[abW h2,abW h2]
  refine aay (aaB ?_);rw[StateT.run_pure];refine aay (aaB ?_);dsimp only;refine aay (seqEpoch_at ho6 rfl ?_);refine aay (listUpdate_at ho6 rfl ?_ (Nat.zero_le _) (by rw[Array.size_map];show (pairsOf vs).size<=_;rw[pairsOf_size];lia));simp only[bne_self_eq_false,Bool.false_eq_true,if_false];exact aaB (fin (SortSt.mk' general' (vs.toArray.zip vs.toArray) #[] 7 none) (Array.Perm.refl _))
 .rw[abN h2,abN h2]
  obtain⟨kk,kc⟩:=hk (by lia) _ keep;refine aay (kk _ _ ?_)
  refine aay (wpAny_mono (wpS_sortRuns (a₀:=pairsOf vs) (st:=SortSt.mk' κ (vs.toArray.zip vs.toArray) #[] 7 none)
   (Q:=λ_ st'=>(arrOf st').Perm (pairsOf vs)/\failedOf st'=none)
   kc ⟨Array.Perm.refl _,Z,Z,Z⟩ λst' a1 a2=>⟨a1,a2⟩) ?_ λ_ _ e=>e)
  rintro⟨⟨⟩,st'⟩ s' ⟨rfl,hp,hf⟩;dsimp only;refine aay (seqEpoch_at ho6 rfl ?_);refine aay (listUpdate_at ho6 rfl ?_ (Nat.zero_le _) (abG (Nat.le_of_eq ((Array.size_map ..).trans (hp.size_eq.trans (pairsOf_size _)))) (Nat.le_succ_of_le hz)));rw[hf];simp only[bne_self_eq_false,Bool.false_eq_true,if_false];exact aaB (fin st' hp)
theorem HX{l:Addr}{vs:List Value}{Q:Value->Shared->Prop}(hl:s.heap.IsList l vs.toArray)(hz:vs.length<=sizeLine)(hk:2<=vs.length -> ∀h':Heap,(∀b o,s.heap.get? b=some o->h'.get? b=some o)->(∀(Q:SortKind->Shared->Prop)(E:Value->Shared->Prop),Q κ {s with heap:=h'}->wpAny (model prog w) A.in1.in1 (keyKind' vs.toArray) Q E {s with heap:=h'})/\uJ prog w A.in1.in1 {s with heap:=h'} κ (pairsOf vs))(h:∀(h':Heap)(D:Addr)(c:Nat)(out:List Value),(∀b o,s.heap.get? b=some o->h'.get? b=some o)->s.heap.objs.size<=D->h'.get? D=some (seqObj "list" out.toArray c)->out.Perm vs->Q (.ref D) {s with heap:=h'}):
 wpAny (model prog w) A (call (.builtin "sorted") [.ref l]) Q E s:=by
 refine Calls.call_function_entry kind_sorted plain_sorted entry_sorted (args_sorted1 _) ?_;unfold Builtin.«sorted»;refine aay (m:=checkCount "sorted" 1 1 _) (aaB ?_);refine aay (collect_list hl ?_ hz);refine aay (wpAny_newList ?_ hz)
 have hsz:((s.heap.push (seqObj "list" #[] 0)).update s.heap.objs.size (Obj.mapSeq (· ++ vs.toArray))).objs.size=s.heap.objs.size+1:=by
  rw[Heap.size_update,size_push']
 have hoL:(((s.heap.push (seqObj "list" #[] 0)).update s.heap.objs.size (Obj.mapSeq (· ++ vs.toArray))).push (seqObj "list" vs.toArray 0)).get? (s.heap.objs.size+1)=some (seqObj "list" vs.toArray 0):=by
  rw[←hsz];exact aaj _ rfl
 have keep:∀b o,s.heap.get? b=some o->(((s.heap.push (seqObj "list" #[] 0)).update s.heap.objs.size (Obj.mapSeq (· ++ vs.toArray))).push (seqObj "list" vs.toArray 0)).get? b=some o:=λb o q=>by
  have hlt:b<s.heap.objs.size:=aal q;rw[Heap.get?_push_ne _ _ _ (by rw[hsz];exact aaV (Nat.lt_succ_of_lt hlt)),Heap.get?_update_ne _ _ _ _ (aaV hlt),Heap.get?_push_ne _ _ _ (aaV hlt)];exact q
 show wpAny _ _ _ _ _ {s with heap:=((s.heap.push (seqObj "list" #[] 0)).update s.heap.objs.size (Obj.mapSeq (· ++ vs.toArray))).push (seqObj "list" vs.toArray 0)};rw[hsz];generalize ((s.heap.push (seqObj "list" #[] 0)).update s.heap.objs.size (Obj.mapSeq (· ++ vs.toArray))).push (seqObj "list" vs.toArray 0)=h1 at keep hoL ⊢;have nD:∀b o,s.heap.get? b=some o->b≠s.heap.objs.size+1:=λb o e=>aaV (Nat.lt_succ_of_lt (aal e));refine aay (wpAny_holding (wpAny_call_entry slot_list_sort ⟨_,hoL,Z⟩ entry_list_sort (zB (s:={s with heap:=h1}) hoL hz (λh2 h' kp=>hk h2 h' λb o e=>kp b o (nD b o e) (keep b o e)) λout p1=>⟨_,Z, ?_⟩) (args_list_sort _)));refine aaB ⟨_,Z, ?_⟩;obtain⟨e1,ho1⟩:∃e1,(h1.update (s.heap.objs.size+1) (Obj.mapSeq λ_=> #[])).get? (s.heap.objs.size+1)=some (seqObj "list" #[] e1):=⟨_,get?_update_seq hoL (λ_=> #[])⟩;have ho2:(((h1.update (s.heap.objs.size+1) (Obj.mapSeq λ_=> #[])).push (seqObj "tuple" vs.toArray 0)).push (seqObj "list" #[] 0)).get? (s.heap.objs.size+1)=some (seqObj "list" #[] e1):=aai _ (aai _ ho1);refine h (sortedHeap h1 (s.heap.objs.size+1) vs out.toArray) _ _ out (λb o e=>?_) (Nat.le_succ _) (by unfold sortedHeap;exact get?_update_seq ho2 (λ_=>out.toArray)) p1;unfold sortedHeap;rw[Heap.get?_update_ne _ _ _ _ (nD b o e)];refine aai _ (aai _ ?_);rw[Heap.get?_update_ne _ _ _ _ (nD b o e)];exact keep b o e
end
end Tip
namespace L2
open PySem PySem.Spec PyProof.Rows PySem.W
section
variable{X:Cx}
theorem Lr{prog:Program}{w:World}{A:Around}{s:Shared}{Q:Bool->Shared->Prop}(h:∀b,Q b s)(fin:Bool):∀(xs ys:List Value)(ns ms:List Int)(i:Nat),IntsAre xs ns->IntsAre ys ms->KatLex prog w A true fin Q (xs.zip ys) i s
 | _,_,[],[],i,.nil,.nil=>h fin
 | _,_,_::_,[],_,.cons _ _ _,.nil=>h fin
 | _,_,[],_::_,_,.nil,.cons _ _ _=>h fin
 | _,_,n::ns,m::ms,i,.cons _ t hx,.cons _ u hy=>by
   rw[List.zip_cons_cons];refine kat_cons (wpAny_eqBool_int ?_);cases (n==m) with
   | true=>exact kat_yes (Lr h fin _ _ ns ms (i+1) hx hy)
   | false=>
     refine kat_no ?_;cases (true&&i==0) with
     | true=>exact oneLt_int (h _)
     | false=>exact kat_one _ _ (lt_int (show W.BoolBack Q (.bool (decide (n<m))) s from h _))
noncomputable def Um(h:Heap)(vs:List Value):Prop:=∀v∈vs,∃a its ns,v = .ref a/\IsTup h a its.toArray/\IntsAre its ns/\1<=ns.length
theorem Qs{prog:Program}{w:World}{A:Around}{s:Shared}{vs:List Value}{h0:Heap}(T:Um h0 vs)(kp:∀b o,h0.get? b=some o->s.heap.get? b=some o):Tip.uJ prog w A s (tuples' true) (pairsOf vs):=by
 refine⟨λp hp q hq E Q h=>?_⟩;rw[pairsOf_toList] at hp hq;obtain⟨_,mp⟩:=mem_zip_self hp;obtain⟨_,mq⟩:=mem_zip_self hq;obtain⟨a,its,ns,ep,⟨oa,ea,ca,n1,da⟩,ia,_⟩:=T _ mp;obtain⟨b,jts,ms,eq,⟨ob,eb,cb,n2,db⟩,ib,_⟩:=T _ mq;rw[ep,eq];refine kat_lt (kp _ _ ea) da (kp _ _ eb) db ?_;rw[show its.toArray.toList=its by simp,show jts.toArray.toList=jts by simp];exact Lr h _ its jts ns ms 0 ia ib
theorem Ej{h0 h1:Heap}(kp:∀b o,h0.get? b=some o->h1.get? b=some o):∀{vs:List Value},Um h0 vs -> ∃fs,KatTups h1 vs fs/\fs.length=vs.length /\ ∀f∈fs,∃n t,f=Value.int n t
 | [],_=>⟨[],trivial,Z,λ_ z=>abZ z (by simp)⟩
 | v::vs,T=>by
   obtain⟨fs,t1,t2,t3⟩:=Ej kp (vs:=vs) λu hu=>T u (aa0 _ hu);obtain⟨a,its,ns,rfl,⟨o,e,c,n,d⟩,ia,la⟩:=T v (List.mem_cons_self ..)
   match its,ns,ia,la,d with
   | _,_,.nil,la,d=>simp at la
   | _,_,.cons m t r,la,d=>
     refine⟨_::fs,KatTups.cons (kp _ _ e) c d rfl t1,by simp[t2],λf hf=>?_⟩;rcases List.mem_cons.mp hf with rfl|hf
     .exact⟨_,_,Z⟩
     .exact t3 f hf
theorem M7{ys:List V}{us out:List Value}(r:Vals ys us)(p:out.Perm us):∃zs,Vals zs out/\zs.Perm ys:=by
 induction p generalizing ys with
 | nil=>cases r;exact⟨[],.nil,.refl _⟩
 | cons x p ih=>
   cases r with
   | cons rx rt=>
     obtain⟨zs,z1,z2⟩:=ih rt;exact⟨_::zs,.cons rx z1,.cons _ z2⟩
 | swap x y l=>
   cases r with
   | cons rx rt=>
     cases rt with
     | cons ry rl=>exact⟨_,.cons ry (.cons rx rl),.swap _ _ _⟩
 | trans p q ih1 ih2=>
   obtain⟨zs,z1,z2⟩:=ih2 r;obtain⟨ws,w1,w2⟩:=ih1 z1;exact⟨ws,w1,w2.trans z2⟩
theorem Ad:∀{ns:List Int}{vs:List Value},Vals (ns.map V.int) vs->IntsAre vs ns
 | [],_,.nil=> .nil
 | n::ns,_,.cons ⟨t,e⟩ r=>by subst e;exact .cons n t (Ad r)
noncomputable def Ik(K:PySem.W.Frag):List V->Hp->VK->Prop:=λxs H Q=>∃(p:Addr) (ys:List V),xs=[.ref p]/\bB K H p ys/\(∀y∈ys,∃(a:Addr) (ns:List Int),y = .ref a/\bO K H a (ns.map V.int)/\1<=ns.length) /\
 ∀l zs,H l=none->zs.Perm ys->Q (.ref l) (upd H l (.lst zs))
theorem JF:jr X (.builtin "sorted") (Ik X.K):=by
 intro pins s σ H xs us Q I r h;obtain⟨p,ys,rfl,hq,ht,q⟩:=h;obtain⟨u,rfl,rx⟩:=vals1 r;cases rx;obtain⟨its,rv,pl,hz⟩:=I.list hq;have hlen:its.length=ys.length:=by rw[←rv.length]
 have T:Um s.heap its:=λv hv=>by
  obtain⟨i,hi,e⟩:=List.getElem_of_mem hv;have hy:i<ys.length:=by lia
  obtain⟨v',hv',ry⟩:=rv.get (i:=i) (x:=ys[i]) (by rw[aae hy]);rw[aae hi,e] at hv';cases hv';obtain⟨a,ns,e1,sq,hl⟩:=ht _ (List.getElem_mem hy);rw[e1] at ry;cases ry;obtain⟨jts,rj,tj,_⟩:=I.tuple sq;exact⟨a,jts,_,Z,tj,Ad rj,hl⟩
 refine Tip.HX (κ:=tuples' true) pl.isList (by lia) (λh2 h' kp=>⟨λQ E hQ=>?_,Qs T kp⟩) λh' D c out kp hD hd hp=>?_
 .obtain⟨fs,t1,t2,t3⟩:=Ej (h1:=h') kp T
  exact kat_kind (T:= .type "int") t1 (by lia) (λv hv=>by obtain⟨n,t,rfl⟩:=t3 v hv;exact .now) rfl hQ
 obtain⟨zs,z1,z2⟩:=M7 rv hp;have hzl:zs.length<=sizeLine:=by rw[z2.length_eq];lia
 exact⟨.ref D,_,I.laid (t':=s.toks) kp hD (show cW X.prog X.w _ h' _ (.lst zs) from ⟨hzl,out,c,z1,hd⟩),Z,q D zs (I.hok.fresh hD) z2⟩
theorem uX{K:PySem.W.Frag}(hK:X.K=K):jr X (.builtin "sorted") (Ik K):=by subst hK;exact JF
end
end L2
namespace Prf
open PySem L2
noncomputable def top(i:Nat):Stmt:=PySem.Challenge.pw_fewnotes_k60_whole_both_ways.main.body.getD i (.Pass ⟨0,0,0,0⟩)
noncomputable abbrev p8:Stmt:=top 8
noncomputable abbrev qe:Stmt:=top 9
noncomputable abbrev tV:Stmt:=top 12
noncomputable abbrev nH:Stmt:=inClass (top 16) 0
noncomputable abbrev jG:Stmt:=inClass (top 16) 1
noncomputable abbrev jF:Stmt:=inClass (top 16) 3
noncomputable abbrev tX:Stmt:=inClass (top 16) 4
noncomputable abbrev mj:Stmt:=inClass (top 16) 5
noncomputable abbrev nG:Stmt:=inClass (top 16) 6
noncomputable abbrev gH:Stmt:=inClass (top 16) 7
noncomputable abbrev bU:Stmt:=inClass (top 17) 0
noncomputable abbrev lZ:Stmt:=inClass (top 17) 1
noncomputable abbrev iH:Stmt:=inClass (top 17) 2
noncomputable abbrev kh:Stmt:=inClass (top 17) 3
noncomputable abbrev nF:Stmt:=inClass (top 17) 6
noncomputable abbrev lY:Stmt:=inClass (top 17) 8
noncomputable abbrev jf:Stmt:=inClass (top 17) 9
noncomputable abbrev jd:Stmt:=top 18
noncomputable abbrev dM:Stmt:=top 20
noncomputable abbrev bT:Stmt:=top 21
noncomputable abbrev BK:Stmt:=top 22
noncomputable abbrev jD:Stmt:=top 23
noncomputable abbrev tR:Stmt:=top 24
noncomputable abbrev lW:Stmt:=top 25
noncomputable abbrev BJ:Stmt:=top 27
noncomputable abbrev tU:Stmt:=top 28
noncomputable abbrev jE:Stmt:=top 29
noncomputable abbrev nA:Stmt:=top 30
noncomputable abbrev je:Stmt:=top 31
noncomputable abbrev p7:Stmt:=top 32
noncomputable abbrev lX:Stmt:=top 33
noncomputable abbrev qd:Stmt:=top 34
noncomputable abbrev BL:Stmt:=top 35
noncomputable abbrev cC:Stmt:=top 37
noncomputable abbrev tQ:Stmt:=top 38
noncomputable abbrev Ii:Stmt:=top 40
noncomputable abbrev BR:Stmt:=top 41
noncomputable abbrev Ca:Stmt:=top 42
noncomputable abbrev wZ:Stmt:=top 43
noncomputable abbrev wX:Stmt:=top 44
noncomputable abbrev Ih:Stmt:=top 45
noncomputable abbrev B_:Stmt:=top 46
noncomputable abbrev qg:Stmt:=top 47
noncomputable abbrev xg:Stmt:=top 48
noncomputable abbrev Ig:Stmt:=top 49
noncomputable abbrev wY:Stmt:=top 50
noncomputable abbrev qR:Stmt:=top 51
noncomputable abbrev BP:Stmt:=top 52
noncomputable abbrev tW:Stmt:=top 53
noncomputable abbrev BX:Stmt:=top 54
noncomputable abbrev BZ:Stmt:=top 55
noncomputable abbrev BW:Stmt:=top 56
noncomputable abbrev QL:Stmt:=top 57
structure rQ(mg:Str->Option Value):Prop where
 Uj:mg "all" = none
 ajC:mg "any" = none
 JV:mg "bool" = none
 uZ:mg "enumerate" = none
 Ui:mg "int" = none
 bV:mg "isinstance" = none
 iZ:mg "len" = none
 iy:mg "list" = none
 Uh:mg "max" = none
 ac1:mg "min" = none
 gJ:mg "range" = none
 G7:mg "sorted" = none
 mL:mg "tuple" = none
 Yd:mg "zip" = none
theorem E_:aV ["value"] ["value"] (aJ p8):=⟨Z,Z,Z,by decide +kernel,Z,by decide +kernel,by decide +kernel⟩
theorem Fd:aV ["value","count"] ["value","count"] (aJ qe):=⟨Z,Z,Z,by decide +kernel,Z,by decide +kernel,by decide +kernel⟩
theorem Ib:aV ["row"] ["row"] (aJ tV):=⟨Z,Z,Z,by decide +kernel,Z,by decide +kernel,by decide +kernel⟩
theorem Bx:aV ["self","rows"] ["self","rows"] (aJ nH):=⟨Z,Z,Z,by decide +kernel,Z,by decide +kernel,by decide +kernel⟩
theorem mQ:aV ["self","other"] ["self"] (aJ jG):=⟨Z,Z,Z,by decide +kernel,Z,by decide +kernel,by decide +kernel⟩
theorem jc:aV ["self","done"] ["self"] (aJ jF):=⟨Z,Z,Z,by decide +kernel,Z,by decide +kernel,by decide +kernel⟩
theorem Ie:aV ["self","row"] ["self","row"] (aJ tX):=⟨Z,Z,Z,by decide +kernel,Z,by decide +kernel,by decide +kernel⟩
theorem j_:aV ["self","row","left","right"] ["self","row"] (aJ mj):=⟨Z,Z,Z,by decide +kernel,Z,by decide +kernel,by decide +kernel⟩
theorem Bw:aV ["self","box","number"] ["self","box","number"] (aJ nG):=⟨Z,Z,Z,by decide +kernel,Z,by decide +kernel,by decide +kernel⟩
theorem fU:aV ["self","part","left","right"] ["self","part"] (aJ gH):=⟨Z,Z,Z,by decide +kernel,Z,by decide +kernel,by decide +kernel⟩
theorem j9:aV ["self","program","cells","one"] ["self","program","cells"] (aJ bU):=⟨Z,Z,Z,by decide +kernel,Z,by decide +kernel,by decide +kernel⟩
theorem j8:aV ["self","hand","one","touch"] ["self","hand"] (aJ lZ):=⟨Z,Z,Z,by decide +kernel,Z,by decide +kernel,by decide +kernel⟩
theorem d7:aV ["self","one","row","cell","read","written"] ["self","one"] (aJ iH):=⟨Z,Z,Z,by decide +kernel,Z,by decide +kernel,by decide +kernel⟩
theorem wO:aV ["self"] ["self"] (aJ kh):=⟨Z,Z,Z,by decide +kernel,Z,by decide +kernel,by decide +kernel⟩
theorem Bv:aV ["self","hand"] ["self","hand"] (aJ nF):=⟨Z,Z,Z,by decide +kernel,Z,by decide +kernel,by decide +kernel⟩
theorem pJ:aV ["self","other"] ["self"] (aJ lY):=⟨Z,Z,Z,by decide +kernel,Z,by decide +kernel,by decide +kernel⟩
theorem tM:aV ["self","hand"] ["self","hand"] (aJ jf):=⟨Z,Z,Z,by decide +kernel,Z,by decide +kernel,by decide +kernel⟩
theorem tK:aV ["cells","count"] ["cells","count"] (aJ jd):=⟨Z,Z,Z,by decide +kernel,Z,by decide +kernel,by decide +kernel⟩
theorem lg:aV ["program","order","cells","works","web","hand","touch"] ["program","order","cells"] (aJ dM):=⟨Z,Z,Z,by decide +kernel,Z,by decide +kernel,by decide +kernel⟩
theorem gA:aV ["program","order","cells","works","touches","hand","touch"] ["program","order","cells"] (aJ bT):=⟨Z,Z,Z,by decide +kernel,Z,by decide +kernel,by decide +kernel⟩
theorem ni:aV ["web","counts","told","touch","k"] ["web"] (aJ BK):=⟨Z,Z,Z,by decide +kernel,Z,by decide +kernel,by decide +kernel⟩
theorem u9:aV ["one","other"] ["one","other"] (aJ jD):=⟨Z,Z,Z,by decide +kernel,Z,by decide +kernel,by decide +kernel⟩
theorem H_:aV ["web","place","later"] ["web","place","later"] (aJ tR):=⟨Z,Z,Z,by decide +kernel,Z,by decide +kernel,by decide +kernel⟩
theorem iT:aV ["web","one","other","left","here","steps"] ["web","one","other"] (aJ lW):=⟨Z,Z,Z,by decide +kernel,Z,by decide +kernel,by decide +kernel⟩
theorem jC:aV ["web","named","knowns","told","place","name","found"] ["web"] (aJ BJ):=⟨Z,Z,Z,by decide +kernel,Z,by decide +kernel,by decide +kernel⟩
theorem Ia:aV ["value"] ["value"] (aJ tU):=⟨Z,Z,Z,by decide +kernel,Z,by decide +kernel,by decide +kernel⟩
theorem u_:aV ["web","note"] ["web","note"] (aJ jE):=⟨Z,Z,Z,by decide +kernel,Z,by decide +kernel,by decide +kernel⟩
theorem jt:aV ["web","places","place","name"] ["web"] (aJ nA):=⟨Z,Z,Z,by decide +kernel,Z,by decide +kernel,by decide +kernel⟩
theorem lq:aV ["web","one","other","left"] ["web","one","other"] (aJ je):=⟨Z,Z,Z,by decide +kernel,Z,by decide +kernel,by decide +kernel⟩
theorem Ez:aV ["named","bare","name"] ["named","bare","name"] (aJ p7):=⟨Z,Z,Z,by decide +kernel,Z,by decide +kernel,by decide +kernel⟩
theorem iU:aV ["web","named","knowns","place","bare","known","earlier"] ["web","named","knowns","place"] (aJ lX):=⟨Z,Z,Z,by decide +kernel,Z,by decide +kernel,by decide +kernel⟩
theorem Fb:aV ["name","known"] ["name","known"] (aJ qd):=⟨Z,Z,Z,by decide +kernel,Z,by decide +kernel,by decide +kernel⟩
theorem EY:aV ["known","more","hand"] ["known","more"] (aJ BL):=⟨Z,Z,Z,by decide +kernel,Z,by decide +kernel,by decide +kernel⟩
theorem fQ:aV ["program","order","note","cells","web","places","ahead","works","hand"] ["program","order","note","cells"] (aJ cC):=⟨Z,Z,Z,by decide +kernel,Z,by decide +kernel,by decide +kernel⟩
theorem pZ:aV ["works","one","other","twin","first"] ["works","one","other"] (aJ tQ):=⟨Z,Z,Z,by decide +kernel,Z,by decide +kernel,by decide +kernel⟩
theorem vM:aV ["script","total","cell"] ["script"] (aJ Ii):=⟨Z,Z,Z,by decide +kernel,Z,by decide +kernel,by decide +kernel⟩
theorem wQ:aV ["number","place","one","two"] ["number","place"] (aJ BR):=⟨Z,Z,Z,by decide +kernel,Z,by decide +kernel,by decide +kernel⟩
theorem wW:aV ["bag","many","cell","found"] ["bag","many"] (aJ Ca):=⟨Z,Z,Z,by decide +kernel,Z,by decide +kernel,by decide +kernel⟩
theorem Np:aV ["bag"] ["bag"] (aJ wZ):=⟨Z,Z,Z,by decide +kernel,Z,by decide +kernel,by decide +kernel⟩
theorem tO:aV ["bag","kind","one"] ["bag"] (aJ wX):=⟨Z,Z,Z,by decide +kernel,Z,by decide +kernel,by decide +kernel⟩
theorem qQ:aV ["bag","size","rows","kind","box","cell","to"] ["bag","size","rows"] (aJ Ih):=⟨Z,Z,Z,by decide +kernel,Z,by decide +kernel,by decide +kernel⟩
theorem wV:aV ["bag","size","rows"] ["bag","size"] (aJ B_):=⟨Z,Z,Z,by decide +kernel,Z,by decide +kernel,by decide +kernel⟩
theorem nu:aV ["bag","many","size"] ["bag"] (aJ qg):=⟨Z,Z,Z,by decide +kernel,Z,by decide +kernel,by decide +kernel⟩
theorem Nq:aV ["bag","size"] ["bag","size"] (aJ xg):=⟨Z,Z,Z,by decide +kernel,Z,by decide +kernel,by decide +kernel⟩
theorem oY:aV ["bag","program","first","works","order","great","step","some"] ["bag","program","first"] (aJ Ig):=⟨Z,Z,Z,by decide +kernel,Z,by decide +kernel,by decide +kernel⟩
theorem cT:aV ["touches","hands","rows","called","brought","many","hand","kind","cell","got","fresh","i","other","sort","there","meets"] ["touches","hands"] (aJ wY):=⟨Z,Z,Z,by decide +kernel,Z,by decide +kernel,by decide +kernel⟩
theorem zV:aV ["found","due"] ["found","due"] (aJ qR):=⟨Z,Z,Z,by decide +kernel,Z,by decide +kernel,by decide +kernel⟩
theorem QK:aV ["kind","program","order","tie","first"] ["kind","program","order","tie","first"] (aJ BP):=⟨Z,Z,Z,by decide +kernel,Z,by decide +kernel,by decide +kernel⟩
theorem dF:aV ["web","tie","hands","rows","many","spots","at","pair","due","found","hand","kind","cell"] ["web","tie","hands"] (aJ tW):=⟨Z,Z,Z,by decide +kernel,Z,by decide +kernel,by decide +kernel⟩
theorem wR:aV ["told","number","found"] ["told","number"] (aJ BX):=⟨Z,Z,Z,by decide +kernel,Z,by decide +kernel,by decide +kernel⟩
theorem wU:aV ["one","other","number","seen","later"] ["one","other","number"] (aJ BZ):=⟨Z,Z,Z,by decide +kernel,Z,by decide +kernel,by decide +kernel⟩
theorem Fe:aV ["found","due","told"] ["found","due"] (aJ BW):=⟨Z,Z,Z,by decide +kernel,Z,by decide +kernel,by decide +kernel⟩
theorem eV:aV ["script","bag","kind","program","first","order","hands","web","ties","row","tie","handed","found","works","hand","run","one","other","number"] ["script"] (aJ QL):=⟨Z,Z,Z,by decide +kernel,Z,by decide +kernel,by decide +kernel⟩
structure gj(K:PySem.W.Frag)(C:Addr):Prop where
 cls:Cls K C
 nU:gq K C "rows"
 ud:gq K C "at"
 jM:gq K C "in_boxes"
 o8:gq K C "sayings"
 jY:gq K C "state"
structure d9(K:PySem.W.Frag)(C:Addr):Prop where
 cls:Cls K C
 t_:gq K C "program"
 iK:gq K C "numbers"
 o9:gq K C "hands"
 vQ:gq K C "turns"
section
variable{P:Program}{w:World}{K:PySem.W.Frag}{mg:Str->Option Value}{base:Heap}
noncomputable def cL(H:Hp)(r b:Addr)(n:Nat):Prop:=∃(ns:List Int) (i f c t:Int),H r=some (.lst [.ref b,.int i,.int f,.int c,.int t])/\H b=some (.lst (ns.map V.int))/\b≠r/\0<=i/\i<=ns.length/\0<=f/\0<=c/\c<=n
theorem cL.keep{H H':Hp}{r b:Addr}{n:Nat}(h:cL H r b n)(k:Same H H'):cL H' r b n:=by
 obtain⟨ns,i,f,c,t,e1,e2,q⟩:=h;exact⟨ns,i,f,c,t,k _ _ e1,k _ _ e2,q⟩
theorem cL.kp{H H':Hp}{r b p:Addr}{n:Nat}(h:cL H r b n)(k:Kp p H H')(n1:r≠p)(n2:b≠p):cL H' r b n:=by
 obtain⟨ns,i,f,c,t,e1,e2,q⟩:=h;exact⟨ns,i,f,c,t,k _ _ e1 n1,k _ _ e2 n2,q⟩
theorem cL.mono{H:Hp}{r b:Addr}{n m:Nat}(h:cL H r b n)(k:n<=m):cL H r b m:=by
 obtain⟨ns,i,f,c,t,e1,e2,q0,q1,q2,q3,q4,q5⟩:=h;exact⟨ns,i,f,c,t,e1,e2,q0,q1,q2,q3,q4,by lia⟩
theorem cL.lst{H:Hp}{r b:Addr}{n:Nat}(h:cL H r b n):∃ys,H r=some (.lst ys):=by
 obtain⟨ns,i,f,c,t,e1,_⟩:=h;exact⟨_,e1⟩
theorem cL.ne{H:Hp}{r b p:Addr}{n:Nat}(h:cL H r b n)(hp:H p=none):p≠r/\p≠b:=by
 obtain⟨ns,i,f,c,t,e1,e2,_⟩:=h;exact⟨(au e1 hp).symm,(au e2 hp).symm⟩
theorem cL.at{H:Hp}{r b:Addr}{n:Nat}(h:cL H r b n):∃o,H r=some o:=by
 obtain⟨ns,i,f,c,t,e1,_⟩:=h;exact⟨_,e1⟩
theorem cL.tups{H H':Hp}{r b:Addr}{n:Nat}(h:cL H r b n)(k:Kp r H H'):∀a xs,H a=some (HO.tup xs)->H' a=some (HO.tup xs):=by
 obtain⟨ys,e⟩:=h.lst;exact k.tups e
noncomputable def Qy(K:PySem.W.Frag):Sp:=λvs H Q _=>∃(x p:Int),vs=[.int x,.int p]/\0<=p/\p<2 ^ 62 /\ ∀z:Int,0<=z->Q (.int z) H
theorem VJ{f:Addr}{fd:FuncData}(F:fZ K "_law_stir" "_law_stir" BR f fd):bL P w K mg base iC 1 f fd ["number","place"] (Qy K):=by
 refine F.ok wQ (λvs H Q E h=>?_) (λcdv A outer s H vs Q E hr h=>?_)
 .obtain⟨x,p,rfl,_⟩:=h
  rfl
 .obtain⟨x,p,rfl,p0,p1,k⟩:=h
  refine⟨_,(ao (aQ (i:=2) wQ.nd rfl (Or.inl rfl) (bQ jL (bQ eZ (bQ eZ (bQ qp (pv 0) aA) (bQ qp (pv 1) aA)) aA) aA))
   (ao (aQ (i:=3) wQ.nd rfl (Or.inl rfl) (bQ jL (bQ qp (pv 2) (pv 2)) aA))
   (aG (aU (bQ Li (bQ jL (bQ eZ (bQ eZ (bQ qp (pv 3) aA) (bQ qp (bQ qp (pv 1) (pv 1)) aA)) (bQ Li (pv 2) aA)) aA) aA))))), ?_⟩
  refine⟨_,Z,_,_,Z,Z,.inr ⟨by decide,by decide⟩,_,Z,_,_,Z,Z,.inr ⟨by decide,by decide⟩,_,_,Z,Z,_,_,Z,Z,_,_,Z,Z,(by show (0:Int)<2305843009213693951;decide), ?_⟩;have o0:(0:Int)<=(x*998244353+p*1000000007+5) % 2305843009213693951:=Int.emod_nonneg _ (by decide);have o1:(x*998244353+p*1000000007+5) % 2305843009213693951<2305843009213693951:=Int.emod_lt_of_pos _ (by decide);generalize (x*998244353+p*1000000007+5) % 2305843009213693951=one at o0 o1;refine⟨_,Z,_,Z,_,_,Z,Z,.inl ⟨by lia,by lia⟩,_,_,Z,Z,(by show (0:Int)<2305843009213693951;decide), ?_⟩;refine⟨_,Z,_,_,Z,Z,.inr ⟨by decide,by decide⟩,_,Z,_,Z,_,_,Z,Z,.inl ⟨by lia,by lia⟩,_,_,Z,Z,.inr ⟨by decide,by decide⟩,_,_,Z,Z,_,Z,_,_,Z,Z,(by show aaI _ 3;exact⟨by decide,by decide⟩),_,_,Z,Z,_,_,Z,Z,(by show (0:Int)<2305843009213693921;decide),_,_,Z,Z,(by show aaI _ 1024;exact⟨by decide,by decide⟩), ?_⟩;exact k _ (Int.ediv_nonneg (Int.emod_nonneg _ (by decide)) (by decide))
noncomputable def lV(K:PySem.W.Frag):Sp:=λvs H Q _=>∃(r b:Addr) (m:Int) (n:Nat),vs=[.ref r,.int m]/\cL H r b n/\n<1099511627776/\0<m/\m<1329227995784915872903807060280344576 /\ ∀(z:Int)(H':Hp),0<=z->z<m->cL H' r b (n+1)->Kp r H H'->Q (.int z) H'
theorem V0{f:Addr}{fd:FuncData}(F:fZ K "_law_draw" "_law_draw" Ca f fd)(MN:FnAt P w K mg base 1 "_law_stir" ["number","place"] (Qy K))(Bt:rQ mg):bL P w K mg base iC 2 f fd ["bag","many"] (lV K):=by
 refine F.ok wW (λvs H Q E h=>?_) (λcdv A outer s H vs Q E hr h=>?_)
 .obtain⟨r,b,m,n,rfl,_⟩:=h
  rfl
 .obtain⟨r,b,m,n,rfl,⟨ns,i,f,c,t,hR,hB,nb,i0,i1,f0,c0,c1⟩,hn,m0,m1,k⟩:=h
  have iM:=hr.units
  refine⟨_,(ao (cj (aR dN (pv 1) aA (aW _)) (aG (aU aA)) bw)
   (ao (g8 (bQ eZ (aH (aL (K:=K) rfl) (pv 0) aA (λ_ _=>rfl)) aA) (jg (pv 0) aA set_list))
   (ao (cj (PW.pt (xG (aR pL (aH (aL (K:=K) rfl) (pv 0) aA (λ_ _=>rfl)) aA (aW _)) (qW (aR dN (aH (aL (K:=K) rfl) (pv 0) aA (λ_ _=>rfl)) (bf (bH (K:=K) rfl) (by rfl) Bt.iZ fP (aj (aH (aL (K:=K) rfl) (pv 0) aA (λ_ _=>rfl)) aq)) (aW _))))) (aG (aU (bQ jL (bh MN (hr.mono (by decide)) (by rfl) (aj (aH (aL (K:=K) rfl) (pv 0) aA (λ_ _=>rfl)) (aj (aH (aL (K:=K) rfl) (pv 0) aA (λ_ _=>rfl)) aq))) (pv 1)))) bw)
   (ao (cj (aR pL (aH (aL (K:=K) rfl) (pv 0) aA (λ_ _=>rfl)) aA (aW _)) (ao (aQ (i:=2) wW.nd rfl (Or.inl rfl) (aH (aL (K:=K) rfl) (aH (aL (K:=K) rfl) (pv 0) aA (λ_ _=>rfl)) (aH (aL (K:=K) rfl) (pv 0) aA (λ_ _=>rfl)) (λ_ _=>rfl)))
   (ao (g8 (bQ eZ (aH (aL (K:=K) rfl) (pv 0) aA (λ_ _=>rfl)) aA) (jg (pv 0) aA set_list))
   (ao (cj (aR pL (pv 2) (bQ Rt aA aA) (aW _)) (aG (aU (bQ jL (bh MN (hr.mono (by decide)) (by rfl) (aj (bQ jL (pv 2) aA) (aj (aH (aL (K:=K) rfl) (pv 0) aA (λ_ _=>rfl)) aq))) (pv 1)))) bw)
   (aG (g8 (bQ qm (pv 2) (bQ Rt aA aA)) (jg (pv 0) aA set_list)))))) bw)
   (ao (aQ (i:=3) wW.nd rfl (Or.inl rfl) (bQ jL (aH (aL (K:=K) rfl) (pv 0) aA (λ_ _=>rfl)) (pv 1)))
   (ao (g8 (bQ Ru (aH (aL (K:=K) rfl) (pv 0) aA (λ_ _=>rfl)) (pv 1)) (jg (pv 0) aA set_list))
   (aG (aU (pv 3))))))))), ?_⟩
  refine⟨_,Z,Z,_,Z, ?_⟩;refine bK (λh0=>?_) (λh0=>?_)
  .have e:m=1:=by injection (aaO h0)
   subst e;exact k 0 H (by decide) (by decide) ⟨ns,i,f,c,t,hR,hB,nb,i0,i1,f0,c0,by lia⟩ (Kp.refl _ _)
  .
   refine⟨_,Z,_,_,_,_,Z,Z,bB.of hR,Z,_,_,Z,Z,_,Z,_,_,_,_,Z,Z,hR,Z, ?_⟩;have k1:Kp r H (upd H r (.lst [.ref b,.int i,.int f,.int (c+1),.int t])):=Kp.set;have pP:(upd H r (.lst [.ref b,.int i,.int f,.int (c+1),.int t])) r=some (.lst [.ref b,.int i,.int f,.int (c+1),.int t]):=ak;have pq:=k1 _ _ hB nb;have ln:(List.map V.int ns).length=ns.length:=aad ..;have zp:(0:Int)<=c+1:=by lia
   have Fy:c+1<2 ^ 62:=by lia
   have md0:∀z:Int,0<=z % m:=λz=>Int.emod_nonneg _ (by lia);have md1:∀z:Int,z % m<m:=λz=>Int.emod_lt_of_pos _ m0;refine⟨_,Z,_,_,_,_,Z,Z,bB.of pP,Z,_,_,Z,Z,_,Z, ?_⟩
   by_cases f2:f<2
   .rw[aaM f2]
    refine eO ?_;refine⟨_,Z,_,_,_,_,Z,Z,bB.of pP,Z,_,Z,_,_,_,_,Z,Z,bB.of pP,Z,b,_,Z,.inl (bB.of pq),Z,_,Z, ?_⟩;refine bK (λh1=>?_) (λh1=>?_)
    .refine⟨_,Z,_,_,_,_,Z,Z,bB.of pP,Z,_,Z,_,_,_,_,Z,Z,bB.of pP,Z,t,c+1,Z,zp,Fy,λz z0=>?_⟩
     refine⟨_,Z,_,_,Z,Z,m0, ?_⟩;exact k _ _ (md0 z) (md1 z) ⟨ns,i,f,c+1,t,pP,pq,nb,i0,i1,f0,zp,by lia⟩ k1
    .have hlt:i<ns.length:=by
      have:¬i=(ns.length:Int):=λz=>h1 (aaM (by rw[ln,z]));lia
     obtain⟨cell,hc,_⟩:∃cell:Int,pF (ns.map V.int) i=some (V.int cell)/\True:=by
      obtain⟨m',rfl⟩:=abD i0;have:m'<ns.length:=by lia
      exact⟨ns[m'],bI (by simp[this]),trivial⟩
     refine⟨_,Z,_,_,_,_,Z,Z,bB.of pP,Z,_,_,Z,Z,_,Z, ?_⟩;rw[aaM f2];refine eO ?_;refine⟨_,Z,_,_,_,_,Z,Z,bB.of pP,Z,_,Z,_,_,_,_,Z,Z,bB.of pP,Z,_,_,_,_,Z,Z,bB.of pq,hc, ?_⟩;refine⟨_,Z,_,_,_,_,Z,Z,bB.of pP,Z,_,_,Z,Z,_,Z,_,_,_,_,Z,Z,pP,Z, ?_⟩;have k2:Kp r (upd H r (.lst [.ref b,.int i,.int f,.int (c+1),.int t])) (upd (upd H r (.lst [.ref b,.int i,.int f,.int (c+1),.int t])) r (.lst [.ref b,.int (i+1),.int f,.int (c+1),.int t])):=Kp.set;have O4:(upd (upd H r (.lst [.ref b,.int i,.int f,.int (c+1),.int t])) r (.lst [.ref b,.int (i+1),.int f,.int (c+1),.int t])) r=some (.lst [.ref b,.int (i+1),.int f,.int (c+1),.int t]):=ak;have hB2:=k2 _ _ pq nb;refine⟨_,Z,_,_,Z,Z,(by show aaG 10 18;exact⟨by decide,by decide,by decide⟩),_,_,Z,Z,_,Z, ?_⟩;refine bK (λh2=>?_) (λh2=>?_)
     .refine⟨_,Z,_,_,Z,Z,(by show (0:Int)<2305843009213693951;decide),_,Z,_,_,_,_,Z,Z,bB.of O4,Z,_,c+1,Z,zp,Fy,λz z0=>?_⟩
      refine⟨_,Z,_,_,Z,Z,m0, ?_⟩;exact k _ _ (md0 z) (md1 z) ⟨ns,i+1,f,c+1,t,O4,hB2,nb,by lia,by lia,f0,zp,by lia⟩ (k1.trans k2)
     .have hbig:(0:Int)<=cell - 10 ^ ((18:Int).toNat):=by
       have h2':(1000000000000000000:Int)<=cell:=by simpa using h2
       show (0:Int)<=cell - 1000000000000000000
       lia
      refine⟨_,Z,_,_,Z,Z,(by show aaG 10 18;exact⟨by decide,by decide,by decide⟩),_,_,Z,Z,_,Z,_,_,_,_,Z,Z,O4,Z, ?_⟩;have Wq:(upd (upd (upd H r (.lst [.ref b,.int i,.int f,.int (c+1),.int t])) r (.lst [.ref b,.int (i+1),.int f,.int (c+1),.int t])) r (.lst [.ref b,.int (i+1),.int (cell - 10 ^ ((18:Int).toNat)),.int (c+1),.int t])) r=some (.lst [.ref b,.int (i+1),.int (cell - 10 ^ ((18:Int).toNat)),.int (c+1),.int t]):=ak;have k3:Kp r (upd (upd H r (.lst [.ref b,.int i,.int f,.int (c+1),.int t])) r (.lst [.ref b,.int (i+1),.int f,.int (c+1),.int t])) (upd (upd (upd H r (.lst [.ref b,.int i,.int f,.int (c+1),.int t])) r (.lst [.ref b,.int (i+1),.int f,.int (c+1),.int t])) r (.lst [.ref b,.int (i+1),.int (cell - 10 ^ ((18:Int).toNat)),.int (c+1),.int t])):=Kp.set;have hB3:=k3 _ _ hB2 nb;refine⟨_,Z,_,_,_,_,Z,Z,bB.of Wq,Z,_,Z,_,_,Z,Z,m0, ?_⟩;refine⟨_,Z,_,_,_,_,Z,Z,bB.of Wq,Z,_,Z,_,_,Z,Z,⟨m0,m1⟩,_,Z,_,_,_,_,Z,Z,Wq,Z, ?_⟩;refine⟨_,Z, ?_⟩;refine k _ _ (md0 _) (md1 _) ⟨ns,i+1,_,c+1,t,ak, ?_,nb,by lia,by lia,Int.ediv_nonneg hbig (by lia),zp,by lia⟩ (((k1.trans k2).trans k3).trans Kp.set);rw[aF nb];exact hB3
   .have f2':decide (f<2)=false:=aaN f2
    rw[f2'];refine dG ?_;refine⟨_,Z,_,_,_,_,Z,Z,bB.of pP,Z,_,_,Z,Z,_,Z, ?_⟩;rw[f2'];refine dG ?_;refine⟨_,Z,_,_,_,_,Z,Z,bB.of pP,Z,_,Z,_,_,Z,Z,m0, ?_⟩;refine⟨_,Z,_,_,_,_,Z,Z,bB.of pP,Z,_,Z,_,_,Z,Z,⟨m0,m1⟩,_,Z,_,_,_,_,Z,Z,pP,Z, ?_⟩;refine⟨_,Z, ?_⟩;refine k _ _ (md0 _) (md1 _) ⟨ns,i,_,c+1,t,ak, ?_,nb,by lia,by lia,Int.ediv_nonneg f0 (by lia),zp,by lia⟩ (k1.trans Kp.set);rw[aF nb];exact pq
noncomputable def Xw(K:PySem.W.Frag):Sp:=λvs H Q _=>∃(a:Addr) (ns:List Int),vs=[.ref a]/\bB K H a (ns.map V.int)/\ns.length<=63 /\ ∀(r b:Addr)(H':Hp),H r=none->H b=none->cL H' r b 0->Same H H'->Q (.ref r) H'
theorem Zu{f:Addr}{fd:FuncData}(F:fZ K "_law_bag" "_law_bag" Ii f fd)(Bt:rQ mg):bL P w K mg base iC 1 f fd ["script"] (Xw K):=by
 refine F.ok vM (λvs H Q E h=>?_) (λcdv A outer s H vs Q E hr h=>?_)
 .obtain⟨a,ns,rfl,_⟩:=h
  rfl
 .obtain⟨a,ns,rfl,hs,hlen,k⟩:=h
  refine⟨_,(ao (aQ (i:=1) vM.nd rfl (Or.inl rfl) aA)
   (ao (eY PassesOwn.never rfl (cV (K:=K) rfl (pv 0)) (aZ (i:=2) vM.nd rfl (Or.inl rfl))
   (aG (aQ (i:=1) vM.nd rfl (Or.inl rfl) (bQ jL (bQ eZ (bQ eZ (bQ qp (pv 1) aA) (bQ jL (pv 2) aA)) aA) aA))))
   (aG (aU (bW (aj (eG (cO (K:=K) rfl) (by rfl) Bt.iy fJ (aj (pv 0) aq)) (aj aA (aj aA (aj aA (aj (pv 1) aq)))))))))), ?_⟩
  refine⟨_,Z,a,Z,⟨_,hs⟩,gC (K:=K) (a:=a) (xs:=ns.map V.int) (λi σ H2=>∃(t:Int) (v:Option V),σ=[some (.ref a),some (.int t),v]/\H2=H)
   ⟨1,none,Z,Z⟩ (λi σ H2 _ ⟨_,_,_,e⟩=>by rw[e];exact hs) ?_ ?_⟩
  .rintro i y σ H2 hi ⟨t,v,rfl,rfl⟩
   obtain⟨z,rfl⟩:∃z,y=V.int z:=by
    rw[aag] at hi;cases e:ns[i]? with
    | none=>rw[e] at hi;cases hi
    | some z=>rw[e] at hi;exact⟨z,(aaR hi).symm⟩
   refine⟨_,Z,_,_,Z,Z,.inr ⟨by decide,by decide⟩,_,Z,_,_,Z,Z,(by show (0:Int)<2305843009213693951;decide),_,_,Z,Z,_,_,Z,Z,_,_,Z,Z,(by show (0:Int)<2305843009213693951;decide), ?_⟩;exact⟨_,_,Z,Z⟩
  .rintro σ H2 ⟨t,v,rfl,rfl⟩
   refine⟨_,Z,a,_,Z,.inl hs,λb hb=>?_⟩;refine⟨_,Z,(by show 5<=sizeLine;decide),λr hr'=>?_⟩;have sm:=aD (o:=HO.lst (ns.map V.int)) hb;exact k r b _ (sm.free hr') hb ⟨ns,0,0,0,t,ak,aD hr' _ _ ak,au ak hr',by decide,by lia,by decide,by decide,by decide⟩ (sm.trans (aD hr'))
section
variable{D r b:Addr}{te:TE}{Q:VK}{rest:St}{H1:Hp}{n bn:Nat}
end
noncomputable abbrev cZ:=Int×Str×Int
noncomputable def tD(x:cZ):PyData:= .tuple [.int x.1,.str x.2.1,.int x.2.2]
theorem yq(x:cZ):zq (tD x)=true:=Z
theorem WT{H:Hp}{t:Addr}{x:cZ}(h:H t=some (.tup [.int x.1,.str x.2.1,.int x.2.2])):Dat H (.ref t) (tD x):=by
 simp only[tD,Dat];exact⟨t,_,Z,h,by simp only[aO,Dat,and_self]⟩
theorem GK{H:Hp}{v:V}{d:PyData}(h:Dat H v d):aO H [v] [d]:=by
 simp only[aO,and_true];exact h
noncomputable def i_(H:Hp)(a:Addr)(ws:List cZ):Prop:=∃vs,H a=some (.lst vs)/\aO H vs (ws.map tD)
theorem i_.same{H H':Hp}{a:Addr}{ws:List cZ}(h:i_ H a ws)(k:Same H H'):i_ H' a ws:=by
 obtain⟨vs,e,d⟩:=h;exact⟨vs,k _ _ e,aO.keep k.tups _ (cu _ yq ws) d⟩
theorem oA{H:Hp}{v:V}{x:cZ}(h:Dat H v (tD x)):∃t,v = .ref t/\H t=some (.tup [.int x.1,.str x.2.1,.int x.2.2]):=by
 simp only[tD,Dat] at h;obtain⟨t,vs,e,q,d⟩:=h
 match vs,d with
 | [a,b,c],d=>
   simp only[aO,Dat,and_true] at d;obtain⟨rfl,rfl,rfl⟩:=d;exact⟨t,e,q⟩
 | [],d=>simp only[aO] at d
 | [_],d=>simp only[aO,and_false] at d
 | [_,_],d=>simp only[aO,and_false] at d
 | _::_::_::_::_,d=>simp only[aO,and_false] at d
theorem lN{H:Hp}{a:Addr}{ws:List cZ}{i:Nat}{x:cZ}(h:i_ H a ws)(e:ws[i]? = some x):∃vs t,H a=some (.lst vs)/\vs[i]? = some (.ref t)/\H t=some (.tup [.int x.1,.str x.2.1,.int x.2.2]):=by
 obtain⟨vs,ha,d⟩:=h;obtain⟨v,ev,dv⟩:=d.getD (i:=i) (d:=tD x) (by rw[aag,e];rfl);obtain⟨t,rfl,ht⟩:=oA dv;exact⟨vs,t,ha,ev,ht⟩
noncomputable def Pz(k:Str):Prop:=k = "load" \/ k = "store" \/ k = "swap"
noncomputable def MF(hn:Int)(x:cZ):Prop:=(0<=x.1/\x.1<hn)/\Pz x.2.1/\(0<=x.2.2/\x.2.2<20)
noncomputable def mt(x y:cZ):Bool:=if x.1=y.1 then false else if x.2.2=y.2.2 then (if x.2.1 = "load" then !decide (y.2.1 = "load") else true) else false
noncomputable def abE(K:PySem.W.Frag):Sp:=λvs H Q _=>∃(a b:Addr) (x y:cZ),vs=[.ref a,.ref b]/\H a=some (.tup [.int x.1,.str x.2.1,.int x.2.2])/\H b=some (.tup [.int y.1,.str y.2.1,.int y.2.2])/\Q (.bl (mt x y)) H
theorem V8{K:PySem.W.Frag}{a b:Addr}{x y:cZ}{H:Hp}{Q:VK}(ha:H a=some (.tup [.int x.1,.str x.2.1,.int x.2.2]))(hb:H b=some (.tup [.int y.1,.str y.2.1,.int y.2.2]))(k:Q (.bl (mt x y)) H){D:Ends}(hD:D.rt=Q):
 (Qu (abw (tOr (Kz (Hz rEq (Hz (Cg K) (zy 0) (tC (.int 0))) (Hz (Cg K) (zy 1) (tC (.int 0))))) (Kz (Hz rNe (Hz (Cg K) (zy 0) (tC (.int 2))) (Hz (Cg K) (zy 1) (tC (.int 2)))))) (Yx (tC (.bl false))) Xq)
   (Yx (abr (Hz rNe (Hz (Cg K) (zy 0) (tC (.int 1))) (tC (.str "load"))) (Hz rNe (Hz (Cg K) (zy 1) (tC (.int 1))) (tC (.str "load")))))) D [some (.ref a),some (.ref b)] H:=by
 refine⟨_,Z,_,_,_,_,Z,Z,bO.of ha,Z,_,Z,_,_,_,_,Z,Z,bO.of hb,Z,Z,_,Z, ?_⟩;refine bK (λh1=>?_) (λh1=>?_)
 .have e:x.1=y.1:=by injection (aaO h1)
  have em:mt x y=false:=by unfold mt;rw[abW e]
  refine(show D.rt (.bl false) H from ?_);rw[hD,←em];exact k
 .have e:¬x.1=y.1:=λz=>h1 (aaM (by rw[z]))
  refine⟨_,Z,_,_,_,_,Z,Z,bO.of ha,Z,_,Z,_,_,_,_,Z,Z,bO.of hb,Z,Z,_,Z, ?_⟩
  by_cases e2:x.2.2=y.2.2
  .refine nY (by rw[e2]) ?_
   refine⟨_,Z,_,_,_,_,Z,Z,bO.of ha,Z,Z,_,Z, ?_⟩
   by_cases e3:x.2.1 = "load"
   .refine nY (by rw[e3]) ?_
    refine⟨_,Z,_,_,_,_,Z,Z,bO.of hb,Z,Z, ?_⟩
    have em:mt x y = !decide (V.str y.2.1=V.str "load"):=by
     unfold mt;rw[abN e,abW e2,abW e3];congr 1;rw[Bool.eq_iff_iff,decide_eq_true_iff,decide_eq_true_iff];exact⟨λz=>by rw[z],λz=>by injection z⟩
    rw[←em,hD];exact k
   .have ne:¬V.str x.2.1=V.str "load" :=λz=>e3 (by injection z)
    rw[aaN ne];refine eO ?_;have em:mt x y=true:=by unfold mt;rw[abN e,abW e2,abN e3]
    rw[←em,hD];exact k
  .have ne:¬V.int x.2.2=V.int y.2.2:=λz=>e2 (by injection z)
   rw[aaN ne];refine eO ?_;have em:mt x y=false:=by unfold mt;rw[abN e,abN e2]
   refine(show D.rt (.bl false) H from ?_);rw[hD,←em];exact k
theorem vd{f:Addr}{fd:FuncData}(F:fZ K "touches_meet" "touches_meet" jD f fd):bL P w K mg base iC 1 f fd ["one","other"] (abE K):=by
 refine F.ok u9 (λvs H Q E h=>?_) (λcdv A outer s H vs Q E hr h=>?_)
 .obtain⟨a,b,x,y,rfl,_⟩:=h
  rfl
 .obtain⟨a,b,x,y,rfl,ha,hb,k⟩:=h
  exact⟨_,(ao (cj (PW.pt (lu (aR dN (aH (aK (K:=K) rfl) (pv 0) aA (λ_ _=>rfl)) (aH (aK (K:=K) rfl) (pv 1) aA (λ_ _=>rfl)) (aW _)) (jJ (aR iD (aH (aK (K:=K) rfl) (pv 0) aA (λ_ _=>rfl)) (aH (aK (K:=K) rfl) (pv 1) aA (λ_ _=>rfl)) (aW _))))) (aG (aU mR)) bw)
   (aG (aU (Rg (fW iD (aH (aK (K:=K) rfl) (pv 0) aA (λ_ _=>rfl)) bD (aW _)) (nO (fW iD (aH (aK (K:=K) rfl) (pv 1) aA (λ_ _=>rfl)) bD (aW _))))))),V8 (K:=K) ha hb k rfl⟩
noncomputable def Uu(ws:List cZ)(i j:Nat):Bool:=match ws[i]?,ws[j]? with |some x,some y=>decide (x.1=y.1)||mt x y|_,_=>false
noncomputable def lU(ws:List cZ)(i j:Nat):Bool:=decide (i<j)&&Uu ws i j
theorem lR{ws:List cZ}{i j:Nat}(h:lU ws i j=true):i<j/\j<ws.length:=by
 unfold lU Uu at h;simp only[aaZ,decide_eq_true_eq] at h;refine⟨h.1, ?_⟩
 by_cases l:j<ws.length
 .exact l
 .have e:ws[j]? = none:=by simp;lia
  rw[e] at h;cases ws[i]? <;> simp at h
theorem vW{vs:List V}{i:Nat}{v:V}(h:vs[i]? = some v):pF vs (i:Int)=some v:=bI h
noncomputable def HW(K:PySem.W.Frag):Sp:=λvs H Q _=>∃(a:Addr) (ws:List cZ) (i j:Nat),vs=[.ref a,.int i,.int j]/\i_ H a ws/\i<ws.length/\j<ws.length/\Q (.bl (lU ws i j)) H
theorem Iw{f:Addr}{fd:FuncData}(F:fZ K "is_step" "is_step" tR f fd)(yZ:FnAt P w K mg base 1 "touches_meet" ["one","other"] (abE K)):bL P w K mg base iC 2 f fd ["web","place","later"] (HW K):=by
 refine F.ok H_ (λvs H Q E h=>?_) (λcdv A outer s H vs Q E hr h=>?_)
 .obtain⟨a,ws,i,j,rfl,_⟩:=h
  rfl
 .obtain⟨a,ws,i,j,rfl,W,hi,hj,k⟩:=h
  refine⟨_,(ao (cj (aR XM (pv 1) (pv 2) (aW _)) (aG (aU mR)) bw)
   (aG (aU (Rg (fW dN (aH (aK (K:=K) rfl) (aH (aL (K:=K) rfl) (pv 0) (pv 1) (λ_ _=>rfl)) aA (λ_ _=>rfl)) (aH (aK (K:=K) rfl) (aH (aL (K:=K) rfl) (pv 0) (pv 2) (λ_ _=>rfl)) aA (λ_ _=>rfl)) (aW _)) (nO (bh yZ (hr.mono (by decide)) (by rfl) (aj (aH (aL (K:=K) rfl) (pv 0) (pv 1) (λ_ _=>rfl)) (aj (aH (aL (K:=K) rfl) (pv 0) (pv 2) (λ_ _=>rfl)) aq)))))))), ?_⟩
  refine⟨_,Z,_,Z,_,_,Z,Z,_,Z, ?_⟩
  by_cases l:i<j
  .rw[aaN (show ¬(j:Int)<=(i:Int) by lia)]
   refine dG ?_;obtain⟨x,ex⟩:∃x,ws[i]? = some x:=⟨ws[i],by simp[hi]⟩;obtain⟨y,ey⟩:∃y,ws[j]? = some y:=⟨ws[j],by simp[hj]⟩;obtain⟨vs,t1,ha,e1,ht1⟩:=lN W ex;obtain⟨vs',t2,ha',e2,Uz⟩:=lN W ey;have ev:vs=vs':=by rw[ha] at ha';injection ha' with q;injection q
   subst ev;have es:lU ws i j=(decide (x.1=y.1)||mt x y):=by unfold lU Uu;rw[ex,ey,aaM l,Bool.true_and]
   refine⟨_,Z,_,Z,_,_,_,_,Z,Z,bB.of ha,vW e1,_,_,_,_,Z,Z,bO.of ht1,Z,_,Z,_,Z,_,_,_,_,Z,Z,bB.of ha,vW e2,_,_,_,_,Z,Z,bO.of Uz,Z,Z,_,Z, ?_⟩
   by_cases q:x.1=y.1
   .rw[show decide (V.int x.1=V.int y.1)=true by simp[q]]
    refine eO ?_;rw[aaM q,Bool.true_or] at es;rw[←es];exact k
   .rw[show decide (V.int x.1=V.int y.1)=false by simp[q]]
    refine dG ?_;rw[aaN q,Bool.false_or] at es;exact⟨_,Z,_,Z,_,_,_,_,Z,Z,bB.of ha,vW e1,_,Z,_,Z,_,_,_,_,Z,Z,bB.of ha,vW e2,t1,t2,x,y,Z,ht1,Uz,by rw[←es];exact k⟩
  .rw[aaM (show (j:Int)<=(i:Int) by lia)]
   refine eO ?_;have es:lU ws i j=false:=by unfold lU;rw[aaN l,Bool.false_and]
   rw[←es];exact k
inductive lF(ws:List cZ)(j:Nat):Nat->Prop
 | one {i:Nat} (h:lU ws i j=true):lF ws j i
 | more {i k:Nat} (h:lU ws i k=true) (r:lF ws j k):lF ws j i
theorem lF.lt{ws:List cZ}{i j:Nat}(r:lF ws j i):i<j/\j<ws.length:=by
 induction r with
 | one h=>exact lR h
 | more h _ ih=>exact⟨Nat.lt_trans (lR h).1 ih.1,ih.2⟩
noncomputable abbrev Nt:=Int×Int×Int×Int
noncomputable def nD(x:Nt):PyData:= .tuple [.int x.1,.int x.2.1,.int x.2.2.1,.int x.2.2.2]
noncomputable def nV(x:Nt):List V:=[.int x.1,.int x.2.1,.int x.2.2.1,.int x.2.2.2]
theorem jN(x:Nt):zq (nD x)=true:=Z
theorem Jy{H:Hp}{t:Addr}{x:Nt}(h:H t=some (.tup (nV x))):Dat H (.ref t) (nD x):=by
 simp only[nD,Dat];exact⟨t,_,Z,h,by simp only[nV,aO,Dat,and_self]⟩
theorem Jx{H:Hp}{v:V}{x:Nt}(h:Dat H v (nD x)):∃t,v = .ref t/\H t=some (.tup (nV x)):=by
 simp only[nD,Dat] at h;obtain⟨t,vs,e,q,d⟩:=h
 match vs,d with
 | [a,b,c,z],d=>
   simp only[aO,Dat,and_true] at d;obtain⟨rfl,rfl,rfl,rfl⟩:=d;exact⟨t,e,q⟩
 | [],d=>simp only[aO] at d
 | [_],d=>simp only[aO,and_false] at d
 | [_,_],d=>simp only[aO,and_false] at d
 | [_,_,_],d=>simp only[aO,and_false] at d
 | _::_::_::_::_::_,d=>simp only[aO,and_false] at d
noncomputable def jR(H:Hp)(a:Addr)(ns:List Nt):Prop:=∃vs,H a=some (.lst vs)/\aO H vs (ns.map nD)
theorem jR.kp{H H':Hp}{a r:Addr}{ns:List Nt}(h:jR H a ns)(hr:∀a xs,H a=some (HO.tup xs)->H' a=some (HO.tup xs))(k:Kp r H H')(n:a≠r):jR H' a ns:=by
 obtain⟨vs,e,d⟩:=h;exact⟨vs,k _ _ e n,aO.keep hr _ (cu _ jN ns) d⟩
theorem jR.same{H H':Hp}{a:Addr}{ns:List Nt}(h:jR H a ns)(k:Same H H'):jR H' a ns:=by
 obtain⟨vs,e,d⟩:=h;exact⟨vs,k _ _ e,aO.keep k.tups _ (cu _ jN ns) d⟩
theorem Lk{H:Hp}{vs:List V}{ns:List Nt}{i:Nat}{v:V}(d:aO H vs (ns.map nD))(e:vs[i]? = some v):∃x t,ns[i]? = some x/\v = .ref t/\H t=some (.tup (nV x)):=by
 obtain⟨q,eq,dq⟩:=d.get e;rw[aag] at eq;cases ex:ns[i]? with
 | none=>rw[ex] at eq;cases eq
 | some x=>
   rw[ex] at eq;cases eq;obtain⟨t,rfl,ht⟩:=Jx dq;exact⟨x,t,Z,Z,ht⟩
noncomputable def gI(cs:List Int)(h:Int):Int:=(cs[h.toNat]?).getD 0
theorem kW{cs:List Int}{h:Int}(h0:0<=h)(h1:h<cs.length):pF (cs.map V.int) h=some (.int (gI cs h)):=by
 obtain⟨m,rfl⟩:=abD h0;have:m<cs.length:=by lia
 refine bI ?_;simp[gI,this]
theorem yD{cs:List Int}{i:Nat}{c:Int}(h:cs[i]? = some c):gI cs i=c:=by simp[gI,h]
theorem o_{n:Nat}{i:Int}(h0:0<=i)(h1:i<n):Lz n i=some i.toNat:=by unfold Lz;rw[abW h0,abW h1]
theorem qz{cs:List Int}{h k v:Int}(h0:0<=h)(h1:h<cs.length)(k0:0<=k):gI (cs.set h.toNat v) k=if k=h then v else gI cs k:=by
 unfold gI;rw[List.getElem?_set]
 by_cases e:k=h
 .subst e
  have:k.toNat<cs.length:=by lia
  simp[this]
 .have:¬h.toNat=k.toNat:=by lia
  simp[e,this]
noncomputable abbrev yV:=Int×Int
noncomputable def pD(x:yV):PyData:= .tuple [.int x.1,.int x.2]
theorem Jo(x:yV):zq (pD x)=true:=Z
theorem WX{H:Hp}{t:Addr}{x:yV}(h:H t=some (.tup [.int x.1,.int x.2])):Dat H (.ref t) (pD x):=by
 simp only[pD,Dat];exact⟨t,_,Z,h,by simp only[aO,Dat,and_self]⟩
theorem uW{H:Hp}{v:V}{x:yV}(h:Dat H v (pD x)):∃t,v = .ref t/\H t=some (.tup [.int x.1,.int x.2]):=by
 simp only[pD,Dat] at h;obtain⟨t,vs,e,q,d⟩:=h
 match vs,d with
 | [a,b],d=>
   simp only[aO,Dat,and_true] at d;obtain⟨rfl,rfl⟩:=d;exact⟨t,e,q⟩
 | [],d=>simp only[aO] at d
 | [_],d=>simp only[aO,and_false] at d
 | _::_::_::_,d=>simp only[aO,and_false] at d
noncomputable def mV(H:Hp)(a:Addr)(ps:List yV):Prop:=∃vs,H a=some (.lst vs)/\aO H vs (ps.map pD)
theorem mV.same{H H':Hp}{a:Addr}{ws:List yV}(h:mV H a ws)(k:Same H H'):mV H' a ws:=by
 obtain⟨vs,e,d⟩:=h;exact⟨vs,k _ _ e,aO.keep k.tups _ (cu _ Jo ws) d⟩
theorem mV.kp{H H':Hp}{a r:Addr}{ws:List yV}{ys:List V}(h:mV H a ws)(hr:H r=some (.lst ys))(k:Kp r H H')(n:a≠r):mV H' a ws:=by
 obtain⟨vs,e,d⟩:=h;exact⟨vs,k _ _ e n,aO.keep (k.tups hr) _ (cu _ Jo ws) d⟩
theorem Vq{H:Hp}{vs:List V}{ps:List yV}{i:Nat}{v:V}(d:aO H vs (ps.map pD))(e:vs[i]? = some v):∃x t,ps[i]? = some x/\v = .ref t/\H t=some (.tup [.int x.1,.int x.2]):=by
 obtain⟨q,eq,dq⟩:=d.get e;rw[aag] at eq;cases ex:ps[i]? with
 | none=>rw[ex] at eq;cases eq
 | some x=>
   rw[ex] at eq;cases eq;obtain⟨t,rfl,ht⟩:=uW dq;exact⟨x,t,Z,Z,ht⟩
noncomputable def cnt(ws:List cZ)(h:Int):Int:=((ws.filter λx=>decide (x.1=h)).length:Int)
theorem fO(ws:List cZ)(x:cZ)(h:Int):cnt (ws++[x]) h=if h=x.1 then cnt ws h+1 else cnt ws h:=by
 unfold cnt;rw[abL,aaS]
 by_cases e:h=x.1
 .subst e;simp
 .rw[abN e]
  have:¬x.1=h:=λz=>e z.symm;simp[this]
noncomputable def hnd(ws:List cZ)(i:Nat):Int:=match ws[i]? with |some x=>x.1|none=>0
theorem dH{ws:List cZ}{i:Nat}{x:cZ}(h:ws[i]? = some x):hnd ws i=x.1:=by unfold hnd;rw[h]
noncomputable def nm(ws:List cZ):List yV:=(List.range ws.length).map λi=>(hnd ws i,cnt (ws.take i) (hnd ws i))
theorem V5(ws:List cZ)(x:cZ):nm (ws++[x])=nm ws++[(x.1,cnt ws x.1)]:=by
 unfold nm;rw[aaS,aa4,List.range_succ,aaX];congr 1
 .refine List.map_congr_left λi hi=>?_
  have hi':i<ws.length:=by simpa using hi
  unfold hnd;rw[aaU hi',List.take_append_of_le_length (by lia)]
 .simp[hnd]
theorem iJ(ws:List cZ):(nm ws).length=ws.length:=by unfold nm;simp
noncomputable def Bo(K:PySem.W.Frag):Sp:=λvs H Q _=>∃(a:Addr) (ws:List cZ),vs=[.ref a]/\i_ H a ws/\ws.length<=1000 /\ ∀(r:Addr)(H':Hp),H r=none->mV H' r (nm ws)->Same H H'->Q (.ref r) H'
theorem RD{f:Addr}{fd:FuncData}(F:fZ K "names" "names" BK f fd):bL P w K mg base iC 1 f fd ["web"] (Bo K):=by
 refine F.ok ni (λvs H Q E h=>?_) (λcdv A outer s H vs Q E hr h=>?_)
 .obtain⟨a,ws,rfl,_⟩:=h
  rfl
 .obtain⟨a,ws,rfl,W,hlen,k⟩:=h
  have hu:=rB hr
  refine⟨_,(ao (aQ (i:=1) ni.nd rfl (Or.inl rfl) Fx)
   (ao (aQ (i:=2) ni.nd rfl (Or.inl rfl) (bW aq))
   (ao (eY PassesOwn.never rfl (cV (K:=K) rfl (pv 0)) (aZ (i:=3) ni.nd rfl (Or.inl rfl))
   (ao (aQ (i:=4) ni.nd rfl (Or.inl rfl) (xQ hu (pv 1) (aH (aK (K:=K) rfl) (pv 3) aA (λ_ _=>rfl)) aA ⟨Z,Z,Z,Z⟩))
   (ao (cF (cX (K:=K) rfl (pv 2) (aj (cN (aj (aH (aK (K:=K) rfl) (pv 3) aA (λ_ _=>rfl)) (aj (pv 4) aq))) aq)))
   (aG (qY hu (pv 1) (aH (aK (K:=K) rfl) (pv 3) aA (λ_ _=>rfl)) (bQ eZ (pv 4) aA) rfl)))))
   (aG (aU (pv 2)))))), ?_⟩
  obtain⟨vs,ha,dv⟩:=id W;have dY:vs.length=ws.length:=by rw[dv.length,aad]
  intro d hd;have sm1:=aD (o:=HO.dK []) hd;refine⟨(by show 0<=sizeLine;decide),λp hp=>?_⟩;have sm2:=aD (o:=HO.lst []) hp;have V7:d≠p:=au ak hp;have hp0:H p=none:=sm1.free hp
  refine⟨_,Z,a,Z,⟨_,bB.of (sm2 _ _ (sm1 _ _ ha))⟩,gC (K:=K) (a:=a) (xs:=vs) (λi σ H2=>∃(kvs:List (Key×V)) (x1 x2:Option V),σ=[some (.ref a),some (.ref d),some (.ref p),x1,x2]/\Same H H2 /\
   H2 d=some (.dK kvs)/\kvs.length<=i/\(∀h:Int,(gn kvs (Sum.inl h)).getD (.int 0) = .int (cnt (ws.take i) h))/\mV H2 p (nm (ws.take i)))
   ⟨[],none,none,Z,sm1.trans sm2,sm2 _ _ ak,Nat.zero_le _,λh=>rfl,⟨[],ak,by simp only[List.take_zero,nm,List.length_nil,List.range_zero,List.map_nil,aO]⟩⟩ (λi σ H2 _ ⟨_,_,_,_,sm,_⟩=>bB.of (sm _ _ ha)) ?_ ?_⟩
  .rintro i y σ H2 hi ⟨kvs,x1,x2,rfl,sm,hd2,kl,hval,PA⟩
   have hil:i<ws.length:=by have:=(aaf.mp hi).1;lia
   obtain⟨x,ex⟩:∃x,ws[i]? = some x:=⟨ws[i],by simp[hil]⟩;obtain⟨dd,ed,dy⟩:=dv.get hi;rw[aag,ex] at ed;cases ed;obtain⟨t,rfl,ht⟩:=oA dy;have Uz:H2 t=some (.tup [.int x.1,.str x.2.1,.int x.2.2]):=sm.tups _ _ ht;have tk:ws.take (i+1)=ws.take i++[x]:=by rw[aa5,ex];rfl
   have U9:(ws.take i).length=i:=by rw[aa7];lia
   refine⟨_,Z,d,Z,.inl ⟨_,.inl hd2⟩,_,Z,_,_,_,_,Z,Z,bO.of Uz,Z,_,mO.k (k:=Sum.inl x.1) hd2, ?_⟩;rw[hval x.1];obtain⟨ts,hts,DW⟩:=id PA;refine⟨_,Z,.inl ⟨Z,_,bB.of hts⟩,_,Z,_,_,_,_,Z,Z,bO.of Uz,Z,_,Z,(by show 2<=sizeLine;decide),λq hq=>?_⟩;have sm3:=aD (o:=HO.tup [V.int x.1,V.int (cnt (ws.take i) x.1)]) hq;have Gp:=sm3 _ _ hts;have Ky:ts.length=i:=by rw[DW.length,aad,iJ,U9]
   refine⟨p,ts,_,Z,Z,Gp,(by rw[Ky,sizeLine_eq];lia), ?_⟩;have Ov:Kp p (upd H2 q (HO.tup [V.int x.1,V.int (cnt (ws.take i) x.1)])) (upd (upd H2 q (HO.tup [V.int x.1,V.int (cnt (ws.take i) x.1)])) p (HO.lst (ts++[V.ref q]))):=Kp.set;have CT:=Ov _ _ (sm3 _ _ hd2) V7;refine⟨_,Z,_,_,Z,Z,_,Z,_,Z,_,_,_,_,Z,Z,bO.of (Ov.tups Gp _ _ (sm3.tups _ _ Uz)),Z,d,_,Z,zm.k (k:=Sum.inl x.1) CT (Nk (by lia)), ?_⟩;refine⟨putK kvs (Sum.inl x.1) (V.int (cnt (ws.take i) x.1+1)),_,_,Z, ?_,ak, ?_,λh=>?_, ?_⟩
   .intro b o e
    have nb:b≠p:=au e hp0;have nb2:b≠d:=au e hd;rw[aF nb2];exact Ov b o (sm3 b o (sm b o e)) nb
   .exact abG (gP ..) (by lia)
   .rw[m7,tk,fO]
    by_cases e:h=x.1
    .subst e
     rw[abW rfl,abW rfl];rfl
    .rw[abN (λz=>e (Sum.inl.inj z)),abN e]
     exact hval h
   .rw[tk,V5]
    have kd2:Kp d (upd (upd H2 q (HO.tup [V.int x.1,V.int (cnt (ws.take i) x.1)])) p (HO.lst (ts++[V.ref q]))) (upd (upd (upd H2 q (HO.tup [V.int x.1,V.int (cnt (ws.take i) x.1)])) p (HO.lst (ts++[V.ref q]))) d (HO.dK (putK kvs (Sum.inl x.1) (V.int (cnt (ws.take i) x.1+1))))):=Kp.set
    have abf:∀a xs,(upd H2 q (HO.tup [V.int x.1,V.int (cnt (ws.take i) x.1)])) a=some (HO.tup xs)->(upd (upd (upd H2 q (HO.tup [V.int x.1,V.int (cnt (ws.take i) x.1)])) p (HO.lst (ts++[V.ref q]))) d (HO.dK (putK kvs (Sum.inl x.1) (V.int (cnt (ws.take i) x.1+1))))) a=some (HO.tup xs):=λa xs hx=>
     kd2.tups' CT _ _ (Ov.tups Gp _ _ hx)
    refine⟨_,kd2 _ _ ak V7.symm, ?_⟩;rw[aaX];refine aO.append (aO.keep (λa xs hx=>abf a xs (sm3.tups _ _ hx)) _ (cu _ Jo _) DW) (GK (WX (x:=(x.1,cnt (ws.take i) x.1)) ?_));exact kd2 _ _ (Ov _ _ ak (cH ak Gp (by intro z;cases z))) (cH (Ov _ _ ak (cH ak Gp (by intro z;cases z))) CT (by intro z;cases z))
  .rintro σ H2 ⟨kvs,x1,x2,rfl,sm,hd2,kl,hval,PA⟩
   rw[dY,aa3] at PA;exact⟨_,Z,k p H2 hp0 PA sm⟩
theorem Fq{ws:List cZ}{j m:Nat}(r:lF ws j m):∃i,lU ws i j=true/\(m=i\/lF ws i m):=by
 induction r with
 | one h=>exact⟨_,h,.inl rfl⟩
 | more h _ ih=>
   obtain⟨i,st,q⟩:=ih;refine⟨i,st,.inr ?_⟩;rcases q with rfl|q
   .exact .one h
   .exact .more h q
theorem QX{ws:List cZ}{i j m:Nat}(st:lU ws i j=true)(r:lF ws i m):lF ws j m:=by
 induction r with
 | one h=>exact .more h (.one st)
 | more h _ ih=>exact .more h ih
theorem oF(ws:List cZ)(h:Int)(i:Nat):∀d:Nat,cnt (ws.take i) h<=cnt (ws.take (i+d)) h
 | 0=>Int.le_refl _
 | d+1=>by
   have ih:=oF ws h i d;have e:ws.take (i+(d+1))=ws.take (i+d)++(ws[i+d]?).toList:=by rw[←Nat.add_assoc,aa5]
   rw[e];cases ws[i+d]? with
   | none=>simpa using ih
   | some x=>
     show _<=cnt (ws.take (i+d)++[x]) h;rw[fO];split<;>lia
theorem qF(ws:List cZ)(h:Int):0<=cnt ws h:=by unfold cnt;lia
theorem qt{ws:List cZ}{i:Nat}{x:cZ}(e:ws[i]? = some x):(nm ws)[i]? = some (x.1,cnt (ws.take i) x.1):=by
 have:i<ws.length:=(aaf.mp e).1;unfold nm;rw[aag,List.getElem?_range this];simp only[Option.map_some,dH e]
theorem Cj{H:Hp}{a:Addr}{ps:List yV}{i:Nat}{x:yV}(h:mV H a ps)(e:ps[i]? = some x):∃vs t,H a=some (.lst vs)/\vs[i]? = some (.ref t)/\H t=some (.tup [.int x.1,.int x.2]):=by
 obtain⟨vs,ha,d⟩:=h;obtain⟨v,ev,dv⟩:=d.getD (i:=i) (d:=pD x) (by rw[aag,e];rfl);obtain⟨t,rfl,ht⟩:=uW dv;exact⟨vs,t,ha,ev,ht⟩
noncomputable def mx(a b:Int):Int:=if b>a then b else a
theorem Sg{c a b:Int}:c<mx a b↔c<a\/c<b:=by unfold mx;split<;>lia
theorem ab7{a b:Int}(h:0<=a):0<=mx a b:=by unfold mx;split<;>lia
noncomputable def KR(K:PySem.W.Frag):Sp:=λvs H Q _=>∃(t d:Addr) (h k:Int) (g:Int->Int),vs=[.ref t,.ref d]/\H t=some (.tup [.int h,.int k])/\jo H d g/\Q (.bl (decide (k<g h))) H
theorem RK{f:Addr}{fd:FuncData}(F:fZ K "is_known" "is_known" qd f fd):bL P w K mg base iC 1 f fd ["name","known"] (KR K):=by
 refine F.ok Fb (λvs H Q E h=>?_) (λcdv A outer s H vs Q E hr h=>?_)
 .obtain⟨t,d,h,k,g,rfl,_⟩:=h
  rfl
 .obtain⟨t,d,h,k,g,rfl,ht,kd,q⟩:=h
  have hu:=rB hr;refine⟨_,(aG (aU (fW pL (aH (aK (K:=K) rfl) (pv 0) aA (λ_ _=>rfl)) (xQ hu (pv 1) (aH (aK (K:=K) rfl) (pv 0) aA (λ_ _=>rfl)) aA ⟨Z,Z,Z,Z⟩) (aW _)))), ?_⟩;obtain⟨kvs,hd,_,val⟩:=kd.get;refine⟨_,Z,_,_,_,_,Z,Z,bO.of ht,Z,_,Z,d,Z,.inl ⟨_,.inl hd⟩,_,Z,_,_,_,_,Z,Z,bO.of ht,Z,_,mO.k (k:=Sum.inl h) hd, ?_⟩;rw[val h];exact⟨_,_,Z,Z,q⟩
noncomputable def KN(K:PySem.W.Frag):Sp:=λvs H Q _=>∃(d m:Addr) (g1 g2:Int->Int),vs=[.ref d,.ref m]/\jo H d g1/\jo H m g2/\d≠m /\ ∀H',jo H' d (λh=>mx (g1 h) (g2 h))->Kp d H H'->Q .non H'
noncomputable def gUp(hs:List Int)(g1 g2:Int->Int):Int->Int:=λh=>if h∈hs then mx (g1 h) (g2 h) else g1 h
theorem RG{f:Addr}{fd:FuncData}(F:fZ K "learn" "learn" BL f fd)(Bt:rQ mg):bL P w K mg base iC 1 f fd ["known","more"] (KN K):=by
 refine F.ok EY (λvs H Q E h=>?_) (λcdv A outer s H vs Q E hr h=>?_)
 .obtain⟨d,m,g1,g2,rfl,_⟩:=h
  rfl
 .obtain⟨d,m,g1,g2,rfl,k1,k2,ne,q⟩:=h
  have hu:=rB hr
  refine⟨_,(aG (K9 (eY PassesOwn.never rfl (Le (pv 1)) (aZ (i:=2) EY.nd rfl (Or.inl rfl))
   (aG (qY hu (pv 0) (pv 2) (bf (uE rfl) (by rfl) Bt.Uh JL (aj (xQ hu (pv 0) (pv 2) aA ⟨Z,Z,Z,Z⟩) (aj (oZ hu (pv 1) (pv 2) (λ_ _=>rfl)) aq))) rfl))))), ?_⟩
  obtain⟨hs,hm,nd,rg,zz⟩:=k2.ex;refine⟨_,Z,m,_,Z,hm,λo=>?_⟩;have kf:Kp m H (upd H m (.mJ o (.dK (zE hs g2)))):=Kp.set
  refine Tf (λi σ H2=>∃v:Option V,σ=[some (.ref d),some (.ref m),v]/\jo H2 d (gUp (hs.take i) g1 g2)/\H2 m=some (.mJ o (.dK (zE hs g2)))/\Kp d (upd H m (.mJ o (.dK (zE hs g2)))) H2)
   ⟨none,Z,(k1.kp kf ne).ext (λh=>by simp[gUp]),ak,Kp.refl _ _⟩ (λi σ H2 _ ⟨_,_,_,e,_⟩=>e) ?_ ?_
  .rintro i kk v σ H2 hi ⟨x,rfl,kd,fz,kp⟩
   have hi':(zE hs g2)[i]? = some (kk,v):=hi;unfold zE at hi';rw[aag] at hi';cases eh:hs[i]? with
   | none=>rw[eh] at hi';cases hi'
   | some h=>
     rw[eh] at hi';cases hi';have hm':h∈hs:=aaL eh;obtain⟨h0,h1⟩:=rg h hm';have tk:hs.take (i+1)=hs.take i++[h]:=by rw[aa5,eh];rfl
     have nin:h∉hs.take i:=by
      intro z;have:(hs.take i++[h]).Nodup:=by rw[←tk];exact nd.sublist (List.take_sublist _ _)
      rw[List.nodup_append] at this;exact this.2.2 h z h (by simp) rfl
     obtain⟨kvs,hd2,_,val⟩:=kd.get;have gi:gUp (hs.take i) g1 g2 h=g1 h:=by unfold gUp;rw[abN nin]
     refine⟨_,Z,d,Z,.inl ⟨_,.inl hd2⟩,_,Z,_,mO.k (k:=Sum.inl h) hd2, ?_⟩;rw[val h,gi];have gm:mO H2 m (kV (Sum.inl h)) (some (V.int (g2 h))):= .inl ⟨_,Sum.inl h,.inr ⟨o,fz⟩,Z,by rw[Cz,abW hm']⟩;refine⟨_,Z,_,Z,m,_,Z,gm,_,_,Z, ?_⟩;obtain⟨kvs',Z5,hz,put⟩:=kd.put (v:=mx (g1 h) (g2 h)) h0 h1 (ab7 (k1.nn h));refine⟨_,Z,_,Z,d,_,Z,zm.k (k:=Sum.inl h) Z5 hz, ?_⟩;refine⟨_,Z,(put _ ak).ext λx=>?_,by rw[aF ne.symm];exact fz,kp.trans Kp.set⟩;unfold Gs gUp;rw[tk]
     by_cases e:x=h
     .subst e;simp
     .simp[e]
  .rintro σ H2 ⟨x,rfl,kd,fz,kp⟩
   refine⟨_,⟨m,_,o,_,hm,fz,Z⟩, ?_⟩;have kt:Kp m H2 (upd H2 m (.dK (zE hs g2))):=Kp.set;refine q _ ((kd.kp kt ne).ext λh=>?_) λb u e nb=>?_
   .have el:hs.take (zE hs g2).length=hs:=by rw[zE,aad,aa3]
    rw[el];unfold gUp
    by_cases hh:h∈hs
    .rw[abW hh]
    .rw[abN hh,zz h hh]
     have:=k1.nn h;unfold mx;rw[abN (by lia)]
   .by_cases eb:b=m
    .subst eb
     rw[hm] at e;rw[ak];exact e
    .rw[aF eb]
     exact kp _ _ (by rw[aF eb];exact e) nb
noncomputable def Xg(ws:List cZ)(g:Int->Int)(R:Nat->Prop):Prop:=∀m x,ws[m]? = some x->(cnt (ws.take m) x.1<g x.1↔R m)
noncomputable def aaA(ws:List cZ)(j:Nat)(g:Int->Int):Prop:=Xg ws g (λm=>m=j\/lF ws j m) /\ ∀h,g h<=cnt (ws.take (j+1)) h
noncomputable def PL(ws:List cZ)(j lo m:Nat):Prop:=∃x,lo<=x/\lU ws x j=true/\(m=x\/lF ws x m)
noncomputable def Bare(ws:List cZ)(j e:Nat):Prop:=lU ws e j=true /\ ¬PL ws j (e+1) e
noncomputable instance (ws:List cZ) (j e:Nat):Decidable (Bare ws j e):=Classical.propDecidable _
theorem jx{ws:List cZ}{a b c:Nat}(h:lF ws b a)(g:lF ws c b):lF ws c a:=by
 induction h with
 | one h=>exact .more h g
 | more h _ ih=>exact .more h ih
theorem Xg.iff{ws:List cZ}{g:Int->Int}{R S:Nat->Prop}(h:Xg ws g R)(e:∀m,R m↔S m):Xg ws g S:=λm x ex=>(h m x ex).trans (e m)
theorem GQ{ws:List cZ}{j e m:Nat}(h:¬lU ws e j=true):PL ws j (e+1) m↔PL ws j e m:=by
 constructor
 .rintro⟨x,a,b,c⟩
  exact⟨x,by lia,b,c⟩
 .rintro⟨x,a,b,c⟩
  have:x≠e:=λz=>h (z▸b);exact⟨x,by lia,b,c⟩
theorem Pb{ws:List cZ}{j e m:Nat}(k:PL ws j (e+1) e):PL ws j (e+1) m↔PL ws j e m:=by
 constructor
 .rintro⟨x,a,b,c⟩
  exact⟨x,by lia,b,c⟩
 .rintro⟨x,a,b,c⟩
  by_cases z:x=e
  .subst z
   obtain⟨y,y1,y2,y3⟩:=k;have r:lF ws y x:=y3.resolve_left (by lia);rcases c with c|c
   .subst c;exact⟨y,y1,y2,.inr r⟩
   .exact⟨y,y1,y2,.inr (jx c r)⟩
  .exact⟨x,by lia,b,c⟩
theorem Mp{ws:List cZ}{j e m:Nat}(h:lU ws e j=true):(PL ws j (e+1) m\/(m=e\/lF ws e m))↔PL ws j e m:=by
 constructor
 .rintro(⟨x,a,b,c⟩|c)
  .exact⟨x,by lia,b,c⟩
  .exact⟨e,aap _,h,c⟩
 .rintro⟨x,a,b,c⟩
  by_cases z:x=e
  .subst z;exact .inr c
  .exact .inl ⟨x,by lia,b,c⟩
theorem Wd{ws:List cZ}{g g':Int->Int}{R S:Nat->Prop}(h:Xg ws g R)(h':Xg ws g' S):Xg ws (λx=>mx (g x) (g' x)) λm=>R m\/S m:=λm x ex=>by
 show cnt _ _<mx _ _↔_;rw[Sg,h m x ex,h' m x ex]
theorem Ml{ws:List cZ}{j m:Nat}:PL ws j 0 m↔lF ws j m:=by
 constructor
 .rintro⟨x,_,b,c|c⟩
  .subst c;exact .one b
  .exact QX b c
 .intro r
  obtain⟨i,s,q⟩:=Fq r;exact⟨i,Nat.zero_le _,s,q⟩
theorem Wc{ws:List cZ}{j:Nat}{y:cZ}{g:Int->Int}(h:Xg ws g (lF ws j))(bd:∀h,g h<=cnt (ws.take j) h)(ey:ws[j]? = some y):aaA ws j (λx=>mx (g x) (if x=y.1 then cnt (ws.take j) y.1+1 else 0)):=by
 have tk:ws.take (j+1)=ws.take j++[y]:=by rw[aa5,ey];rfl
 refine⟨?_,λh=>?_⟩
 rotate_left
 .have b1:=bd h
  have b2:=qF (ws.take j) h;rw[tk,fO];show mx _ _<=_;unfold mx
  by_cases e:h=y.1
  .rw[abW e,abW e];subst e;split<;>lia
  .rw[abN e,abN e];split<;>lia
 intro m x ex;show cnt _ _<mx _ _↔_;rw[Sg,h m x ex]
 by_cases e:x.1=y.1
 .rw[abW e]
  constructor
  .rintro(z|z)
   .exact .inr z
   .rw[e] at z
    by_cases l:m<=j
    .by_cases em:m=j
     .exact .inl em
     .refine .inr (.one ?_)
      unfold lU Uu;rw[ex,ey,aaM (show m<j by lia)];simp[e]
    .have:=oF ws y.1 (j+1) (m - (j+1))
     rw[show j+1+(m - (j+1))=m by lia] at this;have t:ws.take (j+1)=ws.take j++[y]:=by rw[aa5,ey];rfl
     rw[t,fO,abW rfl] at this;lia
  .rintro(z|z)
   .subst z
    rw[e];exact .inr (by lia)
   .exact .inl z
 .rw[abN e]
  constructor
  .rintro(z|z)
   .exact .inr z
   .have:=qF (ws.take m) x.1;lia
  .rintro(z|z)
   .subst z
    rw[ex] at ey;cases ey;exact abZ rfl e
   .exact .inl z
noncomputable def u5(H:Hp)(kn:Addr)(ws:List cZ)(n:Nat):Prop:=∃rs:List Addr,H kn=some (.lst (rs.map V.ref))/\rs.length=n /\ ∀j r,rs[j]? = some r -> ∃g,jo H r g/\aaA ws j g
theorem u5.same{H H':Hp}{kn:Addr}{ws:List cZ}{n:Nat}(h:u5 H kn ws n)(k:Same H H'):u5 H' kn ws n:=by
 obtain⟨rs,e,l,q⟩:=h;refine⟨rs,k _ _ e,l,λj r hj=>?_⟩;obtain⟨g,a,b⟩:=q j r hj;exact⟨g,a.same k,b⟩
theorem u5.kp{H H':Hp}{kn r:Addr}{ys:List V}{ws:List cZ}{n:Nat}(h:u5 H kn ws n)(k:Kp r H H')(hr:H r=some (.lst ys))(ne:kn≠r):u5 H' kn ws n:=by
 obtain⟨rs,e,l,q⟩:=h;refine⟨rs,k _ _ e ne,l,λj r' hj=>?_⟩;obtain⟨g,a,b⟩:=q j r' hj;obtain⟨hs,e',_⟩:=a.ex;exact⟨g,a.kp k (cH e' hr (by intro z;cases z)),b⟩
noncomputable def eN(ws:List cZ)(j i:Nat):List Nat:=((List.range i).map λt=>j - 1 - t).filter λe=>decide (Bare ws j e)
theorem yR(ws:List cZ)(j i:Nat):eN ws j (i+1)=eN ws j i++(if Bare ws j (j - 1 - i) then [j - 1 - i] else []):=by
 unfold eN;rw[List.range_succ,aaX,abL];congr 1
 by_cases h:Bare ws j (j - 1 - i)<;>simp[h]
theorem pC(ws:List cZ)(j i:Nat):(eN ws j i).length<=i:=by
 unfold eN;exact abG (List.length_filter_le _ _) (by simp)
noncomputable def mU(l:List Nat):List V:=l.map λn:Nat=>V.int (n:Int)
noncomputable def QG(K:PySem.W.Frag):Sp:=λvs H Q _=>∃(a nd kn:Addr) (ws:List cZ) (j:Nat),vs=[.ref a,.ref nd,.ref kn,.int j]/\i_ H a ws/\mV H nd (nm ws)/\u5 H kn ws j/\j<ws.length/\ws.length<=300/\(∀x∈ws,0<=x.1/\x.1<8) /\
 ∀(p b d:Addr)(g:Int->Int)(H':Hp),H' p=some (.tup [.ref b,.ref d])->H' b=some (.lst (mU (eN ws j j)))->jo H' d g->aaA ws j g->H b=none->H d=none->H p=none->Same H H'->Q (.ref p) H'
theorem ZQ{H:Hp}{d:Addr}(h:H d=some (.dK [])):jo H d λ_=>0:=⟨⟨[],h,List.nodup_nil,λ_ z=>abZ z (by simp),λ_ _=>rfl⟩,λ_=>Int.le_refl _⟩
theorem V1{f:Addr}{fd:FuncData}(F:fZ K "bare_steps" "bare_steps" lX f fd)(uH:FnAt P w K mg base 2 "is_step" ["web","place","later"] (HW K))(J8:FnAt P w K mg base 1 "is_known" ["name","known"] (KR K))(MK:FnAt P w K mg base 1 "learn" ["known","more"] (KN K))(Bt:rQ mg):bL P w K mg base iC 3 f fd ["web","named","knowns","place"] (QG K):=by
 refine F.ok iU (λvs H Q E h=>?_) (λcdv A outer s H vs Q E hr h=>?_)
 .obtain⟨a,nd,kn,ws,j,rfl,_⟩:=h
  rfl
 .obtain⟨a,nd,kn,ws,j,rfl,W,N,Kn,jl,wl,Uw,k⟩:=h
  have hu:=rB hr
  refine⟨_,(ao (aQ (i:=4) iU.nd rfl (Or.inl rfl) (bW aq))
   (ao (aQ (i:=5) iU.nd rfl (Or.inl rfl) Fx)
   (ao (eY PassesOwn.never rfl (tZ (by rfl) Bt.gJ (aj (bQ qm (pv 3) aA) (aj (uN m_ aA) (aj (uN m_ aA) aq)))) (aZ (i:=6) iU.nd rfl (Or.inl rfl))
   (aG (cj (PW.pt (xG (eX (bh uH (hr.mono (by decide)) (by rfl) (aj (pv 0) (aj (pv 6) (aj (pv 3) aq))))) (qW (iI (eX (bh J8 (hr.mono (by decide)) (by rfl) (aj (aH (aL (K:=K) rfl) (pv 1) (pv 6) (λ_ _=>rfl)) (aj (pv 5) aq)))))))) (ao (cF (cX (K:=K) rfl (pv 4) (aj (pv 6) aq)))
   (aG (cF (bh MK (hr.mono (by decide)) (by rfl) (aj (pv 5) (aj (aH (aL (K:=K) rfl) (pv 2) (pv 6) (λ_ _=>rfl)) aq)))))) bw)))
   (ao (cF (bh MK (hr.mono (by decide)) (by rfl) (aj (pv 5) (aj (Lf (Ft (aH (aK (K:=K) rfl) (aH (aL (K:=K) rfl) (pv 1) (pv 3) (λ_ _=>rfl)) aA (λ_ _=>rfl)) (bQ eZ (aH (aK (K:=K) rfl) (aH (aL (K:=K) rfl) (pv 1) (pv 3) (λ_ _=>rfl)) aA (λ_ _=>rfl)) aA) K_) rfl rfl (by simp) (by decide)) aq))))
   (aG (aU (cN (aj (pv 4) (aj (pv 5) aq))))))))), ?_⟩
  refine⟨(by show 0<=sizeLine;decide),λb hb=>?_⟩;have s1:=aD (o:=HO.lst []) hb;intro d hd;have s2:=aD (o:=HO.dK []) hd;have s12:=s1.trans s2;have hd0:H d=none:=s1.free hd;have Gd:b≠d:=au ak hd;refine⟨_,Z,_,_,Z,Z,_,Z,_,Z,(j:Int) - 1, -1,Z,⟨by lia,by lia,by lia,by lia⟩, ?_⟩;have en:((j:Int) - 1 - (-1)).toNat=j:=by lia
  rw[en]
  refine qC (hi:=(j:Int) - 1) (n:=j) (λi σ H2=>∃(x1:Option V) (g:Int->Int),σ=[some (.ref a),some (.ref nd),some (.ref kn),some (.int j),some (.ref b),some (.ref d),x1]/\Same H H2/\H2 b=some (.lst (mU (eN ws j i)))/\jo H2 d g/\Xg ws g (PL ws j (j - i)) /\ ∀h,g h<=cnt (ws.take j) h)
   ⟨none,λ_=>0,Z,s12,s2 _ _ (by rw[ak];rfl),ZQ ak,⟨λm x ex=>⟨λz=>?_,λ⟨x,x1,x2,_⟩=>?_⟩,λh=>qF _ _⟩⟩ ?_ ?_
  .have:=qF (ws.take m) x.1
   have z:cnt (ws.take m) x.1<0:=z;lia
  .have:=(lR x2).1
   lia
  .rintro i σ H2 hi ⟨x1,g,rfl,sm,hb2,kd,kp,bd⟩
   have ee:(j:Int) - 1 - (i:Int)=((j - 1 - i:Nat):Int):=by lia
   rw[ee];have bs:=yR ws j i;have bl:=pC ws j i;generalize he:j - 1 - i=e at bs;have el:e<ws.length:=by lia
   have e1:j - i=e+1:=by lia
   have e2:j - (i+1)=e:=by lia
   rw[e1] at kp;rw[e2];obtain⟨x,ex⟩:∃x,ws[e]? = some x:=⟨ws[e],by simp[el]⟩;refine⟨_,Z,_,Z,_,Z,a,ws,e,j,Z,W.same sm,el,jl,_,Z, ?_⟩
   by_cases st:lU ws e j=true
   .rw[st]
    refine eO ?_;obtain⟨ns,t,hn,en,ht⟩:=Cj (N.same sm) (qt ex);refine⟨_,Z,_,Z,_,_,_,_,Z,Z,bB.of hn,bI en,_,Z,t,d,_,_,g,Z,ht,kd,_,Z, ?_⟩;have kx:=kp e x ex
    by_cases kk:PL ws j (e+1) e
    .rw[aaM (kx.mpr kk)]
     refine dG ?_;have nb:¬Bare ws j e:=λz=>z.2 kk;rw[abN nb,List.append_nil] at bs;exact⟨_,g,Z,sm,by rw[bs];exact hb2,kd,kp.iff λm=>Pb kk,bd⟩
    .rw[aaN (λz=>kk (kx.mp z))]
     refine eO ?_;have nb:Bare ws j e:=⟨st,kk⟩;rw[abW nb] at bs;refine⟨_,Z,.inl ⟨Z,_,bB.of hb2⟩,_,Z,b,_,_,Z,Z,hb2,by rw[mU,aad,sizeLine_eq];lia, ?_⟩;have k3:Kp b H2 (upd H2 b (.lst (mU (eN ws j i)++[V.int (e:Int)]))):=Kp.set;obtain⟨rs,hk,rl,rq⟩:=id (Kn.same sm);have er:e<rs.length:=by lia
     obtain⟨r,err⟩:∃r,rs[e]? = some r:=⟨rs[e],by simp[er]⟩;obtain⟨ge,kde,kne⟩:=rq e r err
     have nkb:kn≠b:=by
      obtain⟨_,hk0,_⟩:=Kn;exact au hk0 hb
     obtain⟨_,Z4,_⟩:=kde.ex;have V4:r≠b:=cH Z4 hb2 (by intro z;cases z)
     have nrd:d≠r:=by
      obtain⟨PX,hk0,_,rq0⟩:=Kn
      have er0:rs=PX:=by
       have:=(sm _ _ hk0).symm.trans hk;injection this with this
       injection this with this
       exact(List.map_inj_right (λx y e=>by injection e)).mp this.symm
      subst er0;obtain⟨g0,kd0,_⟩:=rq0 e r err;obtain⟨_,h0,_⟩:=kd0.ex;exact(au h0 hd0).symm
     have hk3:=k3 _ _ hk nkb;have kd3:=kd.kp k3 Gd.symm;have ago:=kde.kp k3 V4;refine⟨_,Z,_,Z,_,Z,_,_,_,_,Z,Z,bB.of hk3,bI (by rw[aag,err];rfl),d,r,g,ge,Z,kd3,ago,nrd,λH4 kd4 k4=>?_⟩;refine⟨_,_,Z,λy u hy=>k4 _ _ (k3 _ _ (sm _ _ hy) (au hy hb)) (au hy hd0), ?_,kd4, ?_,λh=>?_⟩
     .have:=k4 _ _ (ak (H:=H2) (a:=b) (o:= .lst (mU (eN ws j i)++[V.int (e:Int)]))) Gd
      rw[this,bs];unfold mU;rw[aaX];rfl
     .exact(Wd kp kne.1).iff λm=>Mp st
     .have b1:=bd h
      have b2:=kne.2 h;have b3:=oF ws h (e+1) (j - (e+1));rw[show e+1+(j - (e+1))=j by lia] at b3;show mx _ _<=_;unfold mx;split<;>lia
   .have st':lU ws e j=false:=by simpa using st
    rw[st'];refine dG ?_;have nb:¬Bare ws j e:=λz=>st z.1;rw[abN nb,List.append_nil] at bs;exact⟨_,g,Z,sm,by rw[bs];exact hb2,kd,kp.iff λm=>GQ st,bd⟩
  .rintro σ H2 ⟨x1,g,rfl,sm,hb2,kd,kp,bd⟩
   rw[Nat.sub_self] at kp;obtain⟨y,ey⟩:∃y,ws[j]? = some y:=⟨ws[j],by simp[jl]⟩;obtain⟨y0,y1⟩:=Uw y (aaL ey);obtain⟨ns,t,hn,en,ht⟩:=Cj (N.same sm) (qt ey);refine⟨_,Z,λm hm=>?_⟩;have s3:=aD (o:=HO.dK []) hm;refine⟨_,Z,_,Z,_,_,_,_,Z,Z,bB.of (s3 _ _ hn),bI en,_,_,_,_,Z,Z,bO.of (s3 _ _ ht),Z,_,Z,_,Z,_,_,_,_,Z,Z,bB.of (s3 _ _ hn),bI en,_,_,_,_,Z,Z,bO.of (s3 _ _ ht),Z,_,_,Z,Z,ak,[(Sum.inl y.1,V.int (cnt (ws.take j) y.1+1))],Z,by show 1<=15;decide, ?_⟩
   have e1:upd (upd H2 m (.dK [])) m (.dK (qu [] [(Sum.inl y.1,V.int (cnt (ws.take j) y.1+1))]))=upd H2 m (.dK (zE [y.1] λx=>if x=y.1 then cnt (ws.take j) y.1+1 else 0)):=by
    rw[Kw];congr 2;show [(Sum.inl y.1,V.int (cnt (ws.take j) y.1+1))]=_;simp[zE]
   rw[e1];have s4:Same H2 (upd H2 m (.dK (zE [y.1] λx=>if x=y.1 then cnt (ws.take j) y.1+1 else 0))):=aD hm
   have hmd:d≠m:=by
    obtain⟨_,h,_⟩:=kd.ex;exact au h hm
   have kdm:jo (upd H2 m (.dK (zE [y.1] λx=>if x=y.1 then cnt (ws.take j) y.1+1 else 0))) m (λx=>if x=y.1 then cnt (ws.take j) y.1+1 else 0):=by
    refine⟨⟨[y.1],ak,by simp,λh hh=>?_,λh hh=>?_⟩,λh=>?_⟩
    .have:h=y.1:=by simpa using hh
     subst this;exact⟨y0,y1⟩
    .have:h≠y.1:=by simpa using hh
     rw[abN this]
    .have:=qF (ws.take j) y.1
     show (0:Int)<=if h=y.1 then _ else 0;split<;>lia
   refine⟨d,m,g,_,Z,kd.same s4,kdm,hmd,λH5 kd5 k5=>?_⟩;have hb5:H5 b=some (.lst (mU (eN ws j j))):=k5 _ _ (s4 _ _ hb2) Gd;refine⟨_,Z,_,Z,(by show 2<=sizeLine;decide),λp hp=>?_⟩;have s6:=aD (o:=HO.tup [V.ref b,V.ref d]) hp;have s05:Same H H5:=λy u hy=>k5 _ _ (s4 _ _ (sm _ _ hy)) (au hy hd0);exact k p b d _ _ ak (s6 _ _ hb5) (kd5.same s6) (Wc (kp.iff λm=>Ml) bd ey) hb hd0 (s05.free hp) (s05.trans s6)
theorem O8{α:Type}{H:Hp}{f:α->PyData}{ys zs:List V}(p:zs.Perm ys):∀{ns:List α},aO H ys (ns.map f) -> ∃ms:List α,aO H zs (ms.map f)/\ms.Perm ns:=by
 induction p with
 | nil=>intro ns d;exact⟨ns,d,.refl _⟩
 | cons x p ih=>
   intro ns d;cases ns with
   | nil=>simp only[List.map_nil,aO] at d
   | cons n ns=>
     simp only[List.map_cons,aO] at d;obtain⟨ms,d',p'⟩:=ih d.2;exact⟨n::ms,by simp only[List.map_cons,aO];exact⟨d.1,d'⟩,.cons _ p'⟩
 | swap x y l=>
   intro ns d
   match ns,d with
   | [],d=>simp only[List.map_nil,aO] at d
   | [_],d=>simp only[List.map_cons,List.map_nil,aO,and_false] at d
   | a::b::ns,d=>
     simp only[List.map_cons,aO] at d;exact⟨b::a::ns,by simp only[List.map_cons,aO];exact⟨d.2.1,d.1,d.2.2⟩,.swap _ _ _⟩
 | trans p q ih1 ih2=>
   intro ns d;obtain⟨ms,d1,p1⟩:=ih2 d;obtain⟨ks,d2,p2⟩:=ih1 d1;exact⟨ks,d2,p2.trans p1⟩
noncomputable def ac'(_:List Nt):Prop:=True
theorem Ey{K:PySem.W.Frag}{H:Hp}{p:Addr}{ns:List Nt}{Q:VK}(N:jR H p ns)(k:∀l ns' H',H l=none->jR H' l ns'->ns'.Perm ns->ac' ns'->Same H H'->Q (.ref l) H'):Ik K [.ref p] H Q:=by
 obtain⟨ys,hp,d⟩:=N;refine⟨p,ys,Z,bB.of hp,λy hy=>?_,λl zs hl pz=>?_⟩
 .obtain⟨i,hi,e⟩:=List.getElem_of_mem hy
  obtain⟨x,t,ex,ev,ht⟩:=Lk d (i:=i) (v:=y) (by rw[aae hi,e]);exact⟨t,[x.1,x.2.1,x.2.2.1,x.2.2.2],ev,bO.of ht,by show 1<=4;decide⟩
 .have sm:=aD (o:=HO.lst zs) hl
  obtain⟨ms,d1,p1⟩:=O8 pz d;exact k l ms _ hl ⟨zs,ak,aO.keep sm.tups _ (cu _ jN _) d1⟩ p1 trivial sm
noncomputable def fD(ws:List cZ)(i j:Nat):Nt:=(hnd ws i,cnt (ws.take i) (hnd ws i),hnd ws j,cnt (ws.take j) (hnd ws j))
noncomputable def cR(ws:List cZ)(j:Nat)(l:List Nat):List Nt:=(l.filter λe=>decide (¬hnd ws e=hnd ws j)).map λe=>fD ws e j
noncomputable def zU(K:PySem.W.Frag):Sp:=λvs H Q _=>∃(nd b t:Addr) (ws:List cZ) (j:Nat) (l:List Nat),vs=[.ref nd,.ref b,.ref t]/\mV H nd (nm ws)/\H b=some (.lst (mU l))/\H t=some (.tup [.int (hnd ws j),.int (cnt (ws.take j) (hnd ws j))])/\(∀e∈l,e<ws.length)/\l.length<=300 /\
 ∀(r:Addr)(H':Hp),H r=none->jR H' r (cR ws j l)->Same H H'->Q (.ref r) H'
theorem Tj{α β:Type}(l:List α)(f:α->Option β):(List.range l.length).filterMap (λi=>(l[i]?).bind f)=l.filterMap f:=by
 induction l with
 | nil=>rfl
 | cons x l ih=>
   rw[abo,List.range_succ_eq_map,List.filterMap_cons,List.filterMap_map,List.filterMap_cons];have e:List.filterMap ((λi=>((x::l)[i]?).bind f)∘Nat.succ) (List.range l.length)=l.filterMap f:=by rw[←ih];rfl
   rw[e];rfl
theorem Ja(ws:List cZ)(j:Nat)(l:List Nat):(l.filterMap λe=>if hnd ws e=hnd ws j then none else some (nD (fD ws e j)))=(cR ws j l).map nD:=by
 unfold cR
 induction l with
 | nil=>rfl
 | cons e l ih=>
   rw[List.filterMap_cons,abn]
   by_cases h:hnd ws e=hnd ws j
   .rw[abW h]
    simp only[h,not_true_eq_false,decide_false,Bool.false_eq_true,if_false];exact ih
   .rw[abN h]
    simp only[h,not_false_eq_true,decide_true,if_true,List.map_cons];rw[ih]
theorem Iv{f:Addr}{fd:FuncData}(F:fZ K "notes_to" "notes_to" p7 f fd):bL P w K mg base iC 1 f fd ["named","bare","name"] (zU K):=by
 refine F.ok Ez (λvs H Q E h=>?_) (λcdv A outer s H vs Q E hr h=>?_)
 .obtain⟨nd,b,t,ws,j,l,rfl,_⟩:=h
  rfl
 .obtain⟨nd,b,t,ws,j,l,rfl,N,hb,ht,el,ll,k⟩:=h
  refine⟨_,(aG (aU (fH rfl (N:=["earlier","name","named"]) (own:=["earlier"]) (caps:=[2,0]) (bA.of (by kernel_rfl)) (cV (K:=K) rfl (pv 1)) (λ_ _ _ _=>(aZ (i:=0) (show List.Nodup (["earlier","name","named"]:List Str) by decide +kernel) rfl (Or.inl rfl))) (λ_ _ _ _=>(qX (aR iD (aH (aK (K:=K) rfl) (aH (aL (K:=K) rfl) (pv 2) (pv 0) (λ_ _=>rfl)) aA (λ_ _=>rfl)) (aH (aK (K:=K) rfl) (pv 1) aA (λ_ _=>rfl)) (aW _)))) (λ_ _ _ _=>(bQ (Rv (K:=K) rfl) (aH (aL (K:=K) rfl) (pv 2) (pv 0) (λ_ _=>rfl)) (pv 1)))))), ?_⟩;have il:(mU l).length=l.length:=by rw[mU,aad]
  refine⟨_,Z,b,Z,⟨_,bB.of hb⟩,λD hD=>?_⟩;refine Pn (K:=K) (xs:=mU l) (λi=>(l[i]?).bind λe=>if hnd ws e=hnd ws j then none else some (nD (fD ws e j))) (λi d h=>?_) hD (bB.of hb) (by lia) (λi x H2 G F hi s2 kG kF=>?_) (λH2 vs s2 e2 d2=>?_)
  .cases e:l[i]? with
   | none=>rw[e] at h;cases h
   | some z=>
     rw[e] at h;simp only[Option.bind_some] at h;split at h
     .cases h
     .cases h;rfl
  .unfold mU at hi
   rw[aag] at hi;cases e:l[i]? with
   | none=>rw[e] at hi;cases hi
   | some z=>
     rw[e] at hi;cases hi;have zl:=el z (aaL e);obtain⟨x,ex⟩:∃x,ws[z]? = some x:=⟨ws[z],by simp[zl]⟩;have hx:=dH ex;obtain⟨ns,tz,hn,en,htz⟩:=Cj (N.same s2) (qt ex);rw[←hx] at htz;refine⟨_,Z,_,Z,_,_,_,_,Z,Z,bB.of hn,bI en,_,_,_,_,Z,Z,bO.of htz,Z,_,Z,_,_,_,_,Z,Z,bO.of (s2 _ _ ht),Z,Z,_,Z, ?_⟩
     by_cases eh:hnd ws z=hnd ws j
     .rw[show (!decide (V.int (hnd ws z)=V.int (hnd ws j)))=false by simp[eh]]
      refine dG ?_;exact kG _ (Same.refl _) (by rw[e];simp[eh])
     .rw[show (!decide (V.int (hnd ws z)=V.int (hnd ws j)))=true by simp[eh]]
      refine eO ?_;refine⟨_,Z,_,Z,_,_,_,_,Z,Z,bB.of hn,bI en,_,Z,tz,t,_,_,Z,Z,bO.of htz,bO.of (s2 _ _ ht),by simp,by show 4<=sizeLine;decide,λz=>abZ z (by simp),λ_ p hp=>?_⟩;exact kF _ (nD (fD ws z j)) _ (aD hp) (by rw[e];simp[eh]) (Jy (x:=fD ws z j) (by rw[ak];rfl))
  .rw[il,Tj,Ja] at d2
   exact k D H2 hD ⟨vs,e2,d2⟩ s2
noncomputable def lE(ws:List cZ)(n:Nat):List Nt:=(List.range n).flatMap λj=>cR ws j (eN ws j j)
theorem uF(ws:List cZ)(n:Nat):lE ws (n+1)=lE ws n++cR ws n (eN ws n n):=by
 unfold lE;rw[List.range_succ,List.flatMap_append];simp
theorem nR(ws:List cZ)(j:Nat)(l:List Nat):(cR ws j l).length<=l.length:=by
 unfold cR;rw[aad];exact List.length_filter_le _ _
theorem yU(ws:List cZ):∀n,(lE ws n).length<=n*n
 | 0=>aap _
 | n+1=>by
   rw[uF,aaS];have h1:=yU ws n;have h2:=abG (nR ws n (eN ws n n)) (pC ws n n);have:(n+1)*(n+1)=n*n+n+n+1:=by rw[Nat.add_mul,Nat.mul_add];lia
   lia
theorem Uk{ws:List cZ}{j i e:Nat}(h:e∈eN ws j i):e<j\/j=0:=by
 unfold eN at h;obtain⟨h1,_⟩:=aa8.mp h;obtain⟨t,_,rfl⟩:=aa2.mp h1;lia
noncomputable def KJ(K:PySem.W.Frag):Sp:=λvs H Q _=>∃(a:Addr) (ws:List cZ),vs=[.ref a]/\i_ H a ws/\ws.length<=300/\(∀x∈ws,0<=x.1/\x.1<8) /\
 ∀(r:Addr)(ns:List Nt)(H':Hp),H r=none->jR H' r ns->ns.Perm (lE ws ws.length)->ac' ns->Same H H'->Q (.ref r) H'
theorem RB{f:Addr}{fd:FuncData}(F:fZ K "notes" "notes" BJ f fd)(Dz:FnAt P w K mg base 1 "names" ["web"] (Bo K))(DN:FnAt P w K mg base 3 "bare_steps" ["web","named","knowns","place"] (QG K))(J7:FnAt P w K mg base 1 "notes_to" ["named","bare","name"] (zU K))(Bt:rQ mg):bL P w K mg base iC 4 f fd ["web"] (KJ K):=by
 refine F.ok jC (λvs H Q E h=>?_) (λcdv A outer s H vs Q E hr h=>?_)
 .obtain⟨a,ws,rfl,_⟩:=h
  rfl
 .obtain⟨a,ws,rfl,W,wl,Uw,k⟩:=h
  refine⟨_,(ao (aQ (i:=1) jC.nd rfl (Or.inl rfl) (bh Dz (hr.mono (by decide)) (by rfl) (aj (pv 0) aq)))
   (ao (aQ (i:=2) jC.nd rfl (Or.inl rfl) (bW aq))
   (ao (aQ (i:=3) jC.nd rfl (Or.inl rfl) (bW aq))
   (ao (eY PassesOwn.never rfl (Fv (K:=K) rfl (by rfl) Bt.uZ (aj (pv 1) aq)) (jX (K:=K) (n:=2) rfl rfl (cQ (aZ (i:=4) jC.nd rfl (Or.inl rfl)) (cQ (aZ (i:=5) jC.nd rfl (Or.inl rfl)) jW)))
   (ao (aQ (i:=6) jC.nd rfl (Or.inl rfl) (bh DN (hr.mono (by decide)) (by rfl) (aj (pv 0) (aj (pv 1) (aj (pv 2) (aj (pv 4) aq))))))
   (ao (cF (Cm (K:=K) rfl PySem.F.plainAttrs_list PySem.F.slot_list_extend PySem.F.type_list_extend z_ (pv 3) (aj (bh J7 (hr.mono (by decide)) (by rfl) (aj (pv 1) (aj (aH (aK (K:=K) rfl) (pv 6) aA (λ_ _=>rfl)) (aj (pv 5) aq)))) aq)))
   (aG (cF (cX (K:=K) rfl (pv 2) (aj (aH (aK (K:=K) rfl) (pv 6) aA (λ_ _=>rfl)) aq)))))))
   (aG (aU (bf (uX (K:=K) rfl) (by rfl) Bt.G7 Aq (aj (pv 3) aq)))))))), ?_⟩
  refine⟨_,Z,a,ws,Z,W,by lia,λnd H1 ak8 N s1=>?_⟩;refine⟨(by show 0<=sizeLine;decide),λkn hkn=>?_⟩;have s2:=aD (o:=HO.lst []) hkn;refine⟨(by show 0<=sizeLine;decide),λtl htl=>?_⟩;have s3:=aD (o:=HO.lst []) htl;have s13:=(s1.trans s2).trans s3;have agL:H kn=none:=s1.free hkn;have agC:H tl=none:=(s1.trans s2).free htl;have nkt:kn≠tl:=au ak htl;obtain⟨vs,hv,dv⟩:=id N;have vl:vs.length=ws.length:=by rw[dv.length,aad,iJ]
  have nnk:nd≠kn:=au hv hkn;have nnt:nd≠tl:=au (s2 _ _ hv) htl;refine⟨_,Z,nd,vs,Z,bB.of (s3 _ _ (s2 _ _ hv)), ?_⟩
  refine Gu (K:=K) (a:=nd) (xs:=vs) (λj σ H3=>∃(x1 x2 x3:Option V),σ=[some (.ref a),some (.ref nd),some (.ref kn),some (.ref tl),x1,x2,x3]/\Same H H3/\H3 nd=some (.lst vs)/\mV H3 nd (nm ws)/\u5 H3 kn ws j/\jR H3 tl (lE ws j))
   ⟨none,none,none,Z,s13,s3 _ _ (s2 _ _ hv),(N.same s2).same s3,⟨[],s3 _ _ ak,Z,λj r hj=>by simp at hj⟩,⟨[],ak,by simp[lE,aO]⟩⟩ (λi σ H3 _ ⟨_,_,_,_,_,e,_⟩=>bB.of e) ?_ ?_
  .rintro j v σ H3 q hj ⟨x1,x2,x3,rfl,sm,hv3,N3,Kn,T⟩ hq
   have jl:j<ws.length:=by have:=(aaf.mp hj).1;lia
   obtain⟨y,ey⟩:∃y,ws[j]? = some y:=⟨ws[j],by simp[jl]⟩;have hy:=dH ey;obtain⟨vs',t,hv',et,ht⟩:=Cj N3 (qt ey);have ev:vs'=vs:=by rw[hv3] at hv';injection hv' with z;injection z with z;exact z.symm
   subst ev;rw[hj] at et;cases et;rw[←hy] at ht;have sq:=aD (o:=HO.tup [V.int j,V.ref t]) hq;refine⟨q,_,Z,bO.of ak,Z,_,_,Z,_,_,Z,Z, ?_⟩;refine⟨_,Z,_,Z,_,Z,_,Z,a,nd,kn,ws,j,Z,W.same (sm.trans sq),N3.same sq,Kn.same sq,jl,wl,Uw,λp b d g H4 hp hb kd ko hb0 hd0 hp0 s4=>?_⟩;have YW:=sq.trans s4;obtain⟨ts,hts,DW⟩:=id (T.same YW)
   have el:∀e∈eN ws j j,e<ws.length:=λe he=>by
    rcases Uk he with h|h
    .lia
    .subst h;simp[eN] at he
   have bl:=pC ws j j;refine⟨_,Z,.inl ⟨Z,_,bB.of hts⟩,_,Z,_,Z,_,_,_,_,Z,Z,bO.of hp,Z,_,Z,nd,b,t,ws,j,_,Z,N3.same YW,hb,YW _ _ ht,el,by lia,λr H5 hr0 NT s5=>?_⟩;obtain⟨YZ,hrs,drs⟩:=NT;have tll:=yU ws j;have l1:ts.length=(lE ws j).length:=by rw[DW.length,aad]
   have l2:YZ.length=(cR ws j (eN ws j j)).length:=by rw[drs.length,aad]
   have l3:=nR ws j (eN ws j j);have jj:j*j<=300*300:=Nat.mul_le_mul (by lia) (by lia);refine⟨tl,r,_,_,Z,Z,s5 _ _ hts,hrs,by rw[sizeLine_eq];lia, ?_⟩;have k6:Kp tl H5 (upd H5 tl (.lst (ts++YZ))):=Kp.set;have Wi:=s5 _ _ hts;have t6:=k6.tups Wi;obtain⟨rs,hk,rl,rq⟩:=id (((Kn.same YW).same s5).kp k6 Wi nkt);have hp6:(upd H5 tl (.lst (ts++YZ))) p=some (.tup [.ref b,.ref d]):=t6 _ _ (s5 _ _ hp);refine⟨_,Z,.inl ⟨Z,_,bB.of hk⟩,_,Z,_,_,_,_,Z,Z,bO.of hp6,Z,kn,_,_,Z,Z,hk,by rw[aad,sizeLine_eq];lia, ?_⟩;have k7:Kp kn (upd H5 tl (.lst (ts++YZ))) (upd (upd H5 tl (.lst (ts++YZ))) kn (.lst (rs.map V.ref++[V.ref d]))):=Kp.set;have t7:=k7.tups hk
   have kd6:jo (upd H5 tl (.lst (ts++YZ))) d g:=by
    obtain⟨_,h,_⟩:=kd.ex;exact(kd.same s5).kp k6 (cH (s5 _ _ h) Wi (by intro z;cases z))
   refine⟨_,_,_,Z,λx u e=>k7 _ _ (k6 _ _ (s5 _ _ (YW _ _ (sm _ _ e))) (au e agC)) (au e agL), ?_, ?_, ?_, ?_⟩
   .exact k7 _ _ (k6 _ _ (s5 _ _ (YW _ _ hv3)) nnt) nnk
   .exact(((N3.same YW).same s5).kp Wi k6 nnt).kp hk k7 nnk
   .refine⟨rs++[d],by rw[ak,aaX];rfl,by simp[rl],λm r' hm=>?_⟩
    by_cases hml:m<rs.length
    .rw[aaU hml] at hm
     obtain⟨g',kd',ko'⟩:=rq m r' hm;obtain⟨_,h,_⟩:=kd'.ex;exact⟨g',kd'.kp k7 (cH h hk (by intro z;cases z)),ko'⟩
    .have hm2:=(aaf.mp hm).1
     rw[aaS,aa4] at hm2;have em:m=rs.length:=by lia
     subst em;rw[aaT (aap _)] at hm;simp at hm;subst hm;rw[rl];obtain⟨_,h,_⟩:=kd6.ex;exact⟨g,kd6.kp k7 (cH h hk (by intro z;cases z)),ko⟩
   .refine⟨ts++YZ,k7 _ _ ak nkt.symm, ?_⟩
    rw[uF,aaX];refine aO.append (aO.keep (λa xs h=>t7 _ _ (t6 _ _ (s5.tups _ _ h))) _ (cu _ jN _) DW) (aO.keep (λa xs h=>t7 _ _ (t6 _ _ h)) _ (cu _ jN _) drs)
  .rintro σ H3 ⟨x1,x2,x3,rfl,sm,hv3,N3,Kn,T⟩
   rw[vl] at T;exact⟨_,Z,Ey T λl ns H4 hl NN pp ss s4=>k l ns H4 (sm.free hl) NN pp ss (sm.trans s4)⟩
noncomputable def vq(ws:List cZ)(hn:Nat)(row:List Int)(R:Nat->Prop):Prop:=row.length=hn /\ ∀m x,ws[m]? = some x->(cnt (ws.take m) x.1<gI row x.1↔R m)
noncomputable def dI(H:Hp)(t:Addr)(ex:List Addr)(n:Nat)(C:Hp->Nat->Addr->Prop):Prop:=∃rs:List Addr,H t=some (.lst (rs.map V.ref))/\rs.length=n /\ ∀j r,rs[j]? = some r->(∀e∈ex,r≠e)/\C H j r
noncomputable def RowC(ws:List cZ)(hn:Nat):Hp->Nat->Addr->Prop:=λH j r=>∃a:List Int,H r=some (.lst (a.map V.int))/\vq ws hn a λm=>m=j\/lF ws j m
noncomputable def BrC(ws:List cZ)(H0:Hp):Hp->Nat->Addr->Prop:=λH j r=>∃ns:List Nt,jR H r ns/\ns.Perm (cR ws j (eN ws j j))/\H0 r=none
noncomputable def Keeps(C:Hp->Nat->Addr->Prop):Prop:=∀(H H':Hp)(j:Nat)(r:Addr),C H j r->(∃o,H r=some o)/\((∀a xs,H a=some (HO.tup xs)->H' a=some (HO.tup xs))->(∀o,H r=some o->H' r=some o)->C H' j r)
theorem gQ(ws:List cZ)(hn:Nat):Keeps (RowC ws hn):=λH H' j r ⟨a,h,q⟩=>⟨⟨_,h⟩,λ_ k=>⟨a,k _ h,q⟩⟩
theorem nW(ws:List cZ)(H0:Hp):Keeps (BrC ws H0):=λH H' j r ⟨ns,⟨vs,h,d⟩,q⟩=>⟨⟨_,h⟩,λt k=>⟨ns,⟨vs,k _ h,aO.keep t _ (cu _ jN ns) d⟩,q⟩⟩
theorem dI.same{H H':Hp}{t:Addr}{ex:List Addr}{n:Nat}{C:Hp->Nat->Addr->Prop}(kc:Keeps C)(h:dI H t ex n C)(k:Same H H'):dI H' t ex n C:=by
 obtain⟨rs,e,l,q⟩:=h;exact⟨rs,k _ _ e,l,λj r hj=>⟨(q j r hj).1,((kc H H' j r (q j r hj).2).2 k.tups λo ho=>k _ _ ho)⟩⟩
theorem dI.kp{H H':Hp}{t x:Addr}{ys:List V}{ex:List Addr}{n:Nat}{C:Hp->Nat->Addr->Prop}(kc:Keeps C)(h:dI H t ex n C)(k:Kp x H H')(hx:H x=some (.lst ys))(ne:t≠x)(m:x∈ex):dI H' t ex n C:=by
 obtain⟨rs,e,l,q⟩:=h;exact⟨rs,k _ _ e ne,l,λj r hj=>⟨(q j r hj).1,((kc H H' j r (q j r hj).2).2 (k.tups hx) λo ho=>k _ _ ho ((q j r hj).1 x m))⟩⟩
theorem dI.move{H2 H':Hp}{t:Addr}{ex:List Addr}{n:Nat}{C:Hp->Nat->Addr->Prop}(kc:Keeps C)(h:dI H2 t ex n C)(W:List Addr)(k:∀b o,H2 b=some o->b∉W->H' b=some o)(tw:t∉W)(hw:∀x∈W,x∈ex\/H2 x=none)(tp:∀a xs,H2 a=some (HO.tup xs)->H' a=some (HO.tup xs)):dI H' t ex n C:=by
 obtain⟨rs,e,l,q⟩:=h;refine⟨rs,k _ _ e tw,l,λj r hj=>⟨(q j r hj).1, ?_⟩⟩;have c:=(q j r hj).2;refine(kc H2 H' j r c).2 tp λo ho=>k _ _ ho λm=>?_;rcases hw r m with z|z
 .exact(q j r hj).1 r z rfl
 .rw[ho] at z;cases z
theorem dI.push{H:Hp}{t r:Addr}{ex:List Addr}{n:Nat}{C:Hp->Nat->Addr->Prop}(kc:Keeps C)(h:dI H t ex n C)(te:t∈ex)(re:∀e∈ex,r≠e)(c:C H n r):∃rs:List Addr,H t=some (.lst (rs.map V.ref))/\rs.length=n/\dI (upd H t (.lst (rs.map V.ref++[V.ref r]))) t ex (n+1) C:=by
 obtain⟨rs,e,l,q⟩:=h;have k:Kp t H (upd H t (.lst (rs.map V.ref++[V.ref r]))):=Kp.set;have mv:∀j r',(∀e∈ex,r'≠e)->C H j r'->C (upd H t (.lst (rs.map V.ref++[V.ref r]))) j r':=λj r' x c=>(kc _ _ j r' c).2 (k.tups e) λo ho=>k _ _ ho (x t te);refine⟨rs,e,l,rs++[r],by rw[ak,aaX];rfl,by simp[l],λj r' hj=>?_⟩
 by_cases hl:j<rs.length
 .rw[aaU hl] at hj
  exact⟨(q j r' hj).1,mv _ _ (q j r' hj).1 (q j r' hj).2⟩
 .have h2:=(aaf.mp hj).1
  rw[aaS,aa4] at h2;have em:j=rs.length:=by lia
  subst em;rw[aaT (aap _)] at hj;simp at hj;subst hj;rw[l];exact⟨re,mv _ _ re c⟩
noncomputable def Sd(hn:Nat)(a b:List Int):List Int:=(List.range hn).map λh:Nat=>mx (gI a (h:Int)) (gI b (h:Int))
theorem Z7{hn:Nat}{a b:List Int}{h:Int}(h0:0<=h)(h1:h<hn):gI (Sd hn a b) h=mx (gI a h) (gI b h):=by
 obtain⟨m,rfl⟩:=abD h0;have hm:m<hn:=by lia
 refine yD ?_;unfold Sd;rw[aag,List.getElem?_range hm];rfl
theorem Fp{ws:List cZ}{hn:Nat}{a b:List Int}{R S:Nat->Prop}(ok:∀x∈ws,0<=x.1/\x.1<(hn:Int))(p:vq ws hn a R)(q:vq ws hn b S):vq ws hn (Sd hn a b) λm=>R m\/S m:=by
 refine⟨by unfold Sd;simp,λm x ex=>?_⟩;obtain⟨x0,x1⟩:=ok x (aaL ex);rw[Z7 x0 x1,Sg,p.2 m x ex,q.2 m x ex]
theorem vq.iff{ws:List cZ}{hn:Nat}{a:List Int}{R S:Nat->Prop}(h:vq ws hn a R)(e:∀m,R m↔S m):vq ws hn a S:=⟨h.1,λm x ex=>(h.2 m x ex).trans (e m)⟩
theorem QV{ws:List cZ}{hn j:Nat}{a:List Int}{y:cZ}(ok:∀x∈ws,0<=x.1/\x.1<(hn:Int))(p:vq ws hn a (lF ws j))(ey:ws[j]? = some y):vq ws hn (a.set y.1.toNat (cnt (ws.take j) y.1+1)) λm=>m=j\/lF ws j m:=by
 obtain⟨y0,y1⟩:=ok y (aaL ey);have al:=p.1;refine⟨by simp[al],λm x ex=>?_⟩;obtain⟨x0,x1⟩:=ok x (aaL ex);rw[qz y0 (by lia) x0]
 by_cases e:x.1=y.1
 .rw[abW e,e]
  by_cases l:m<=j
  .have:=oF ws y.1 m (j - m)
   rw[show m+(j - m)=j by lia] at this;refine⟨λ_=>?_,λ_=>by lia⟩
   by_cases em:m=j
   .exact .inl em
   .refine .inr (.one ?_)
    unfold lU Uu;rw[ex,ey,aaM (show m<j by lia)];simp[e]
  .have:=oF ws y.1 (j+1) (m - (j+1))
   rw[show j+1+(m - (j+1))=m by lia] at this;have t:ws.take (j+1)=ws.take j++[y]:=by rw[aa5,ey];rfl
   rw[t,fO,abW rfl] at this;refine⟨λh=>by lia,λh=>?_⟩;rcases h with h|h
   . lia
   .have:=h.lt;lia
 .rw[abN e,p.2 m x ex]
  constructor
  .intro z;exact .inr z
  .rintro(z|z)
   .subst z
    rw[ex] at ey;cases ey;exact abZ rfl e
   .exact z
theorem Vl(hn:Int):(List.replicate hn.toNat [V.int 0]).flatten=(List.replicate hn.toNat (0:Int)).map V.int:=by
 generalize hn.toNat=n
 induction n with
 | zero=>rfl
 | succ n ih=>rw[List.replicate_succ,List.flatten_cons,ih,List.replicate_succ,List.map_cons];rfl
theorem C_(n:Nat)(h:Int):gI (List.replicate n 0) h=0:=by unfold gI;rw[List.getElem?_replicate];split<;>rfl
noncomputable def DX(ws:List cZ)(n:Nat):List Int:=(List.range n).map λi=>cnt (ws.take i) (hnd ws i)
theorem W5{ws:List cZ}{n i:Nat}(h:i<n):(DX ws n)[i]? = some (cnt (ws.take i) (hnd ws i)):=by
 unfold DX;rw[aag,List.getElem?_range h];rfl
theorem Ub(ws:List cZ)(n:Nat):DX ws (n+1)=DX ws n++[cnt (ws.take n) (hnd ws n)]:=by
 unfold DX;rw[List.range_succ,aaX];rfl
theorem uO(ws:List cZ)(j:Nat)(l l':List Nat):cR ws j (l++l')=cR ws j l++cR ws j l':=by
 unfold cR;rw[abL,aaX]
noncomputable def wK(K:PySem.W.Frag):Sp:=λvs H Q _=>∃(a:Addr) (hn:Int) (ws:List cZ),vs=[.ref a,.int hn]/\i_ H a ws/\(∀x∈ws,MF hn x)/\1<=hn/\hn<=8/\ws.length<=300 /\
 ∀(p t1 t2:Addr)(H':Hp),H' p=some (.tup [.ref t1,.ref t2])->dI H' t1 [] ws.length (RowC ws hn.toNat)->dI H' t2 [] ws.length (BrC ws H)->H t1=none->H t2=none->Same H H'->Q (.ref p) H'
theorem dI.any{H:Hp}{t:Addr}{ex:List Addr}{n:Nat}{C:Hp->Nat->Addr->Prop}(h:dI H t ex n C):dI H t [] n C:=by
 obtain⟨rs,e,l,q⟩:=h;exact⟨rs,e,l,λj r hj=>⟨λ_ z=>abZ z (by simp),(q j r hj).2⟩⟩
noncomputable def bSt(a:Addr)(hn:Int)(rw' cl br mn:Addr)(x1 x2 x3 x4 x5 x6 x7 x8 x9 x10:Option V):St:=[some (.ref a),some (.int hn),some (.ref rw'),some (.ref cl),some (.ref br),some (.ref mn),x1,x2,x3,x4,x5,x6,x7,x8,x9,x10]
structure adh(ws:List cZ)(hn:Int)(H H2:Hp)(a rw' cl br mn:Addr)(j:Nat):Prop where
 sm:Same H H2
 rows:dI H2 rw' [rw',cl,br,mn] j (RowC ws hn.toNat)
 brt:dI H2 br [rw',cl,br,mn] j (BrC ws H)
 called:H2 cl=some (.lst ((DX ws j).map V.int))
 many:∃ms:List Int,H2 mn=some (.lst (ms.map V.int))/\ms.length=hn.toNat /\ ∀h:Int,0<=h->h<hn->gI ms h=cnt (ws.take j) h
theorem Wf{c:Bool}{A B:Prop}(a:A)(b:¬c=true->A->B):if c=true then A else B:=by
 split
 .exact a
 .rename_i h
  exact b h a
theorem Oi{f:Addr}{fd:FuncData}(F:fZ K "_law_table" "_law_table" wY f fd)(Bt:rQ mg):bL P w K mg base iC 1 f fd ["touches","hands"] (wK K):=by
 refine F.ok cT (λvs H Q E h=>?_) (λcdv A outer s H vs Q E hr h=>?_)
 .obtain⟨a,hn,ws,rfl,_⟩:=h
  rfl
 .obtain⟨a,hn,ws,rfl,W,ok,hn0,hn1,wl,k⟩:=h
  obtain⟨vs,ha,dv⟩:=id W;have dY:vs.length=ws.length:=by rw[dv.length,aad]
  have Uw:∀x∈ws,0<=x.1/\x.1<((hn.toNat:Nat):Int):=λx hx=>⟨(ok x hx).1.1,by have:=(ok x hx).1.2;lia⟩
  refine⟨_,(ao (aQ (i:=2) cT.nd rfl (Or.inl rfl) (bW aq))
   (ao (aQ (i:=3) cT.nd rfl (Or.inl rfl) (bW aq))
   (ao (aQ (i:=4) cT.nd rfl (Or.inl rfl) (bW aq))
   (ao (aQ (i:=5) cT.nd rfl (Or.inl rfl) (bQ Cq (bW (aj aA aq)) (pv 1)))
   (ao (eY PassesOwn.never rfl (cV (K:=K) rfl (pv 0)) (jX (K:=K) (n:=3) rfl rfl (cQ (aZ (i:=6) cT.nd rfl (Or.inl rfl)) (cQ (aZ (i:=7) cT.nd rfl (Or.inl rfl)) (cQ (aZ (i:=8) cT.nd rfl (Or.inl rfl)) jW))))
   (ao (aQ (i:=9) cT.nd rfl (Or.inl rfl) (bQ Cq (bW (aj aA aq)) (pv 1)))
   (ao (aQ (i:=10) cT.nd rfl (Or.inl rfl) (bW aq))
   (ao (eY PassesOwn.never rfl (tZ (by rfl) Bt.gJ (aj (bQ qm (bf (bH (K:=K) rfl) (by rfl) Bt.iZ fP (aj (pv 2) aq)) aA) (aj (uN m_ aA) (aj (uN m_ aA) aq)))) (aZ (i:=11) cT.nd rfl (Or.inl rfl))
   (ao (g8 (aH (aL (K:=K) rfl) (pv 0) (pv 11) (λ_ _=>rfl)) (jX (K:=K) (n:=3) rfl rfl (cQ (aZ (i:=12) cT.nd rfl (Or.inl rfl)) (cQ (aZ (i:=13) cT.nd rfl (Or.inl rfl)) (cQ (aZ (i:=14) cT.nd rfl (Or.inl rfl)) jW)))))
   (ao (aQ (i:=15) cT.nd rfl (Or.inl rfl) (ql (fW iD (pv 12) (pv 6) (aW _)) (ql (fW dN (pv 14) (pv 8) (aW _)) (nO (Rg (fW iD (pv 7) bD (aW _)) (nO (fW iD (pv 13) bD (aW _))))))))
   (ao (cj (PW.pt (xG (eX (pv 15)) (qW (aR XM (aH (aL (K:=K) rfl) (pv 3) (pv 11) (λ_ _=>rfl)) (aH (aL (K:=K) rfl) (pv 9) (pv 12) (λ_ _=>rfl)) (aW _))))) (aG (cF (cX (K:=K) rfl (pv 10) (aj (cN (aj (pv 12) (aj (aH (aL (K:=K) rfl) (pv 3) (pv 11) (λ_ _=>rfl)) (aj (pv 6) (aj (aH (aL (K:=K) rfl) (pv 5) (pv 6) (λ_ _=>rfl)) aq))))) aq)))) bw)
   (aG (cj (PW.pt (lu (eX (pv 15)) (jJ (aR dN (pv 12) (pv 6) (aW _))))) (aG (mz (i:=9) rfl cT.nd rfl (Or.inl rfl) (N:=["a","b"]) (own:=["a","b"]) (caps:=[]) (bA.of (by kernel_rfl)) (Ld (K:=K) rfl (by rfl) Bt.Yd (aj (pv 9) (aj (aH (aL (K:=K) rfl) (pv 2) (pv 11) (λ_ _=>rfl)) aq))) (λ_ _ _ _=>(jX (K:=K) (n:=2) rfl rfl (cQ (aZ (i:=0) (show List.Nodup (["a","b"]:List Str) by decide +kernel) rfl (Or.inl rfl)) (cQ (aZ (i:=1) (show List.Nodup (["a","b"]:List Str) by decide +kernel) rfl (Or.inl rfl)) jW)))) (λ_ _ _ _=>d_) (λ_ _ _ _=>(bf (uE rfl) (by rfl) Bt.Uh JL (aj (pv 0) (aj (pv 1) aq)))))) bw))))))
   (ao (cF (cX (K:=K) rfl (pv 3) (aj (aH (aL (K:=K) rfl) (pv 5) (pv 6) (λ_ _=>rfl)) aq)))
   (ao (g8 (bQ eZ (aH (aL (K:=K) rfl) (pv 5) (pv 6) (λ_ _=>rfl)) aA) (jg (pv 5) (pv 6) set_list))
   (ao (g8 (aH (aL (K:=K) rfl) (pv 5) (pv 6) (λ_ _=>rfl)) (jg (pv 9) (pv 6) set_list))
   (ao (cF (cX (K:=K) rfl (pv 2) (aj (pv 9) aq)))
   (aG (cF (cX (K:=K) rfl (pv 4) (aj (bf (uX (K:=K) rfl) (by rfl) Bt.G7 Aq (aj (pv 10) aq)) aq))))))))))))
   (aG (aU (cN (aj (pv 2) (aj (pv 4) aq)))))))))), ?_⟩
  refine⟨(by show 0<=sizeLine;decide),λrw' h1=>?_⟩;have s1:=aD (o:=HO.lst []) h1;refine⟨(by show 0<=sizeLine;decide),λcl h2=>?_⟩;have s2:=aD (o:=HO.lst []) h2;refine⟨(by show 0<=sizeLine;decide),λbr h3=>?_⟩;have s3:=aD (o:=HO.lst []) h3;refine⟨(by show 1<=sizeLine;decide),λl h4=>?_⟩;have s4:=aD (o:=HO.lst [V.int 0]) h4;refine⟨_,Z,l,_,_,Z,Z,ak,by lia,by lia,by rw[sizeLine_eq];simp;lia,λmn h5=>?_⟩;rw[Vl];have s5:=aD (o:=HO.lst ((List.replicate hn.toNat (0:Int)).map V.int)) h5;have n12:rw'≠cl:=au ak h2;have n13:rw'≠br:=au (s2 _ _ ak) h3;have n23:cl≠br:=au ak h3;have n15:rw'≠mn:=au (s4 _ _ (s3 _ _ (s2 _ _ ak))) h5;have n25:cl≠mn:=au (s4 _ _ (s3 _ _ ak)) h5;have n35:br≠mn:=au (s4 _ _ ak) h5;have YX:=(((s1.trans s2).trans s3).trans s4).trans s5;have f1:H rw'=none:=h1;have f2:H cl=none:=s1.free h2;have f3:H br=none:=(s1.trans s2).free h3;have f5:H mn=none:=(((s1.trans s2).trans s3).trans s4).free h5
  have I0:adh ws hn H _ a rw' cl br mn 0:=⟨YX,⟨[],s5 _ _ (s4 _ _ (s3 _ _ (s2 _ _ ak))),Z,λj r hj=>by simp at hj⟩,⟨[],s5 _ _ (s4 _ _ ak),Z,λj r hj=>by simp at hj⟩,s5 _ _ (s4 _ _ (s3 _ _ ak)),
   ⟨List.replicate hn.toNat 0,ak,by simp,λh _ _=>by rw[C_];rfl⟩⟩
  generalize (upd (upd (upd (upd (upd H rw' (HO.lst [])) cl (HO.lst [])) br (HO.lst [])) l (HO.lst [V.int 0])) mn (HO.lst ((List.replicate hn.toNat (0:Int)).map V.int)))=H5 at I0 ⊢;refine⟨_,Z,a,Z,⟨_,bB.of (I0.sm _ _ ha)⟩, ?_⟩
  refine gC (K:=K) (a:=a) (xs:=vs) (λj σ H2=>∃x1 x2 x3 x4 x5 x6 x7 x8 x9 x10,σ=bSt a hn rw' cl br mn x1 x2 x3 x4 x5 x6 x7 x8 x9 x10/\adh ws hn H H2 a rw' cl br mn j)
   ⟨none,none,none,none,none,none,none,none,none,none,Z,I0⟩ (λj σ H2 _ ⟨_,_,_,_,_,_,_,_,_,_,_,I⟩=>bB.of (I.sm _ _ ha)) ?_ ?_
  .rintro j v σ H2 hj ⟨x1,x2,x3,x4,x5,x6,x7,x8,x9,x10,rfl,I⟩
   have jl:j<ws.length:=by have:=(aaf.mp hj).1;lia
   obtain⟨y,ey⟩:∃y,ws[j]? = some y:=⟨ws[j],by simp[jl]⟩;obtain⟨dd,ed,dy⟩:=dv.get hj;rw[aag,ey] at ed;cases ed;obtain⟨t,rfl,ht⟩:=oA dy;obtain⟨⟨y0,y1⟩,ykd,_⟩:=ok y (aaL ey);have mZ:=dH ey;refine⟨t,_,Z,bO.of (I.sm _ _ ht),Z,_,_,Z,_,_,Z,_,_,Z,Z, ?_⟩;refine⟨(by show 1<=sizeLine;decide),λl0 hl0=>?_⟩;have s6:=aD (o:=HO.lst [V.int 0]) hl0;refine⟨_,Z,l0,_,_,Z,Z,ak,by lia,by lia,by rw[sizeLine_eq];simp;lia,λgt hgt=>?_⟩;rw[Vl];have s7:=aD (o:=HO.lst ((List.replicate hn.toNat (0:Int)).map V.int)) hgt;refine⟨(by show 0<=sizeLine;decide),λfr hfr=>?_⟩;have s8:=aD (o:=HO.lst []) hfr;have s27:=s6.trans s7;have s28:=s27.trans s8;have g0:H2 gt=none:=s6.free hgt;have r0:H2 fr=none:=s27.free hfr;have o7:gt≠fr:=au ak hfr;have gY:(upd (upd (upd H2 l0 (HO.lst [V.int 0])) gt (HO.lst ((List.replicate hn.toNat (0:Int)).map V.int))) fr (HO.lst [])) gt=some (.lst ((List.replicate hn.toNat (0:Int)).map V.int)):=s8 _ _ ak;have gZ:(upd (upd (upd H2 l0 (HO.lst [V.int 0])) gt (HO.lst ((List.replicate hn.toNat (0:Int)).map V.int))) fr (HO.lst [])) fr=some (.lst []):=ak;generalize (upd (upd (upd H2 l0 (HO.lst [V.int 0])) gt (HO.lst ((List.replicate hn.toNat (0:Int)).map V.int))) fr (HO.lst []))=H8 at s28 gY gZ ⊢;obtain⟨rs,hrs,rl,_⟩:=id I.rows;refine⟨_,Z,rw',_,Z,.inl (bB.of (s28 _ _ hrs)),_,_,Z,Z,_,Z,_,Z,(j:Int) - 1, -1,by rw[aad,rl],⟨by lia,by lia,by lia,by lia⟩, ?_⟩;rw[show ((j:Int) - 1 - (-1)).toNat=j by lia]
   refine qC (hi:=(j:Int) - 1) (n:=j) (λi σ H9=>∃(gt:Addr) (row:List Int) (x6 x7 x8 x9 x10:Option V),σ=bSt a hn rw' cl br mn (some (.int y.1)) (some (.str y.2.1)) (some (.int y.2.2)) (some (.ref gt)) (some (.ref fr)) x6 x7 x8 x9 x10/\Same H2 H9/\H2 gt=none/\gt≠fr/\H9 gt=some (.lst (row.map V.int))/\vq ws hn.toNat row (PL ws j (j - i))/\jR H9 fr (cR ws j (eN ws j i)))
    ⟨gt,List.replicate hn.toNat 0,_,_,_,_,_,Z,s28,g0,o7,gY,⟨by simp,λm x ex=>⟨λz=>?_,λ⟨x,q1,q2,_⟩=>?_⟩⟩,⟨[],gZ,by simp[eN,cR,aO]⟩⟩ ?_ ?_
   .rw[C_] at z
    have:=qF (ws.take m) x.1;lia
   .have:=(lR q2).1
    lia
   .rintro i σ H9 hi ⟨gt,row,x6,x7,x8,x9,x10,rfl,s9,g0,o7,rT,rh,N9⟩
    have ee:(j:Int) - 1 - (i:Int)=((j - 1 - i:Nat):Int):=by lia
    rw[ee];have bs:=yR ws j i;have bl:=pC ws j i;generalize he:j - 1 - i=e at bs;have el:e<ws.length:=by lia
    have ej:e<j:=by lia
    have e1:j - i=e+1:=by lia
    have e2:j - (i+1)=e:=by lia
    rw[e1] at rh;rw[e2];obtain⟨x,ex⟩:∃x,ws[e]? = some x:=⟨ws[e],by simp[el]⟩;obtain⟨⟨x0,x1'⟩,xkd,_⟩:=ok x (aaL ex);have P_:=dH ex;have sH9:=I.sm.trans s9;obtain⟨us,tx,hus,X8,htx⟩:=lN (W.same sH9) ex;have vh:lU ws e j=(decide (x.1=y.1)||mt x y):=by unfold lU Uu;rw[ex,ey,aaM ej,Bool.true_and]
    have DQ:=rh.1;refine⟨_,Z,_,Z,_,_,_,_,Z,Z,bB.of hus,bI X8,tx,_,Z,bO.of htx,Z,_,_,Z,_,_,Z,_,_,Z,Z, ?_⟩;dsimp only;refine qP (λσ J6=>J6=H9/\σ=bSt a hn rw' cl br mn (some (.int y.1)) (some (.str y.2.1)) (some (.int y.2.2)) (some (.ref gt)) (some (.ref fr)) (some (.int (e:Int))) (some (.int x.1)) (some (.str x.2.1)) (some (.int x.2.2)) (some (.bl (mt x y)))) (λD' hD' _=>?_) ?_
    .have fin:∀b:Bool,b=mt x y->D'.nx (bSt a hn rw' cl br mn (some (.int y.1)) (some (.str y.2.1)) (some (.int y.2.2)) (some (.ref gt)) (some (.ref fr)) (some (.int (e:Int))) (some (.int x.1)) (some (.str x.2.1)) (some (.int x.2.2)) (some (.bl b))) H9:=λb hb=>hD' _ _ ⟨Z,by rw[hb]⟩
     refine⟨_,Z,_,Z,Z,_,Z, ?_⟩
     by_cases c1:x.1=y.1
     .rw[show (!decide (V.int x.1=V.int y.1))=false by simp[c1]]
      refine dG ?_;exact fin false (by unfold mt;rw[abW c1])
     rw[show (!decide (V.int x.1=V.int y.1))=true by simp[c1]];refine eO ?_;refine⟨_,Z,_,Z,Z,_,Z, ?_⟩
     by_cases c2:x.2.2=y.2.2
     rotate_left
     .rw[show decide (V.int x.2.2=V.int y.2.2)=false by simp[c2]]
      refine dG ?_;exact fin false (by unfold mt;rw[abN c1,abN c2])
     rw[show decide (V.int x.2.2=V.int y.2.2)=true by simp[c2]];refine eO ?_;refine⟨_,Z,Z,_,Z, ?_⟩
     by_cases c3:y.2.1 = "load"
     .rw[show (!decide (V.str y.2.1=V.str "load"))=false by simp[c3]]
      refine dG ?_;refine⟨_,Z,Z, ?_⟩;refine fin _ ?_;unfold mt;rw[abN c1,abW c2,c3]
      by_cases c4:x.2.1 = "load"
      .rw[abW c4];simp[c4]
      .rw[abN c4];simp[c4]
     .rw[show (!decide (V.str y.2.1=V.str "load"))=true by simp[c3]]
      refine eO ?_;refine fin true ?_;unfold mt;rw[abN c1,abW c2]
      by_cases c4:x.2.1 = "load"
      .rw[abW c4];simp[c3]
      .rw[abN c4]
    rintro σ J6 ⟨rfl,rfl⟩;have ji:J6 cl=some (.lst ((DX ws j).map V.int)):=s9 _ _ I.called;have hcle:pF ((DX ws j).map V.int) ((e:Nat):Int)=some (V.int (cnt (ws.take e) (hnd ws e))):=bI (by rw[aag,W5 ej];rfl);have rx:=rh.2 e x ex;refine qP (λσ H11=>σ=bSt a hn rw' cl br mn (some (.int y.1)) (some (.str y.2.1)) (some (.int y.2.2)) (some (.ref gt)) (some (.ref fr)) (some (.int (e:Int))) (some (.int x.1)) (some (.str x.2.1)) (some (.int x.2.2)) (some (.bl (mt x y)))/\Same H2 H11/\H11 gt=some (.lst (row.map V.int))/\jR H11 fr (cR ws j (eN ws j (i+1)))) (λD' hD' _=>?_) ?_
    .have stay:¬(Bare ws j e /\ ¬hnd ws e=hnd ws j)->D'.nx (bSt a hn rw' cl br mn (some (.int y.1)) (some (.str y.2.1)) (some (.int y.2.2)) (some (.ref gt)) (some (.ref fr)) (some (.int (e:Int))) (some (.int x.1)) (some (.str x.2.1)) (some (.int x.2.2)) (some (.bl (mt x y)))) J6:=λnb=>hD' _ _ ⟨Z,s9,rT,by
      rw[bs,uO]
      by_cases b1:Bare ws j e
      .have b2:hnd ws e=hnd ws j:=Classical.byContradiction λz=>nb ⟨b1,z⟩
       rw[abW b1];simp only[cR,abn,b2,not_true_eq_false,decide_false,Bool.false_eq_true,if_false,List.filter_nil,List.map_nil,List.append_nil];exact N9
      .rw[abN b1]
       simp only[cR,List.filter_nil,List.map_nil,List.append_nil];exact N9⟩
     refine⟨_,Z,_,Z, ?_⟩
     by_cases mm:mt x y=true
     rotate_left
     .have mm':mt x y=false:=by simpa using mm
      refine bK (λz=>abZ z mm) (λ_=>?_);refine bK (λz=>abZ z (by decide)) (λ_=>?_);refine stay λz=>?_;have st:=z.1.1;rw[vh,mm',Bool.or_false] at st;exact z.2 (by rw[P_,mZ];exact aaO st)
     refine bK (λ_=>?_) (λz=>abZ mm z);have hne:¬x.1=y.1:=λz=>by unfold mt at mm;rw[abW z] at mm;cases mm
     have st:lU ws e j=true:=by rw[vh,mm,Bool.or_true]
     refine⟨_,Z,_,Z,_,_,_,_,Z,Z,bB.of ji,hcle,_,Z,_,Z,_,_,_,_,Z,Z,bB.of rT,kW x0 (by lia),_,_,Z,Z,_,Z, ?_⟩;rw[P_]
     by_cases cv:PL ws j (e+1) e
     .have lt:=rx.mpr cv
      rw[aaN (show ¬gI row x.1<=cnt (ws.take e) x.1 by lia)];refine dG ?_;exact stay λz=>z.1.2 cv
     .have ge:¬cnt (ws.take e) x.1<gI row x.1:=λz=>cv (rx.mp z)
      rw[aaM (show gI row x.1<=cnt (ws.take e) x.1 by lia)];refine eO ?_;obtain⟨ms,hm,ml,mg⟩:=I.many;obtain⟨ts,hts,DW⟩:=id N9;have tl:ts.length<=i:=by rw[DW.length,aad];exact abG (nR ws j _) bl
      refine⟨_,Z,.inl ⟨Z,_,bB.of hts⟩,_,Z,_,Z,_,Z,_,_,_,_,Z,Z,bB.of ji,hcle,_,Z,_,Z,_,Z,_,_,_,_,Z,Z,bB.of (s9 _ _ hm),kW y0 (by lia),(by show 4<=sizeLine;decide),λq hq=>?_⟩;rw[mg y.1 y0 y1,←P_,←mZ];have sq:=aD (o:=HO.tup [V.int (hnd ws e),V.int (cnt (ws.take e) (hnd ws e)),V.int (hnd ws j),V.int (cnt (ws.take j) (hnd ws j))]) hq;refine⟨fr,ts,_,Z,Z,sq _ _ hts,by rw[sizeLine_eq];lia, ?_⟩;have kf:Kp fr (upd J6 q (HO.tup [V.int (hnd ws e),V.int (cnt (ws.take e) (hnd ws e)),V.int (hnd ws j),V.int (cnt (ws.take j) (hnd ws j))])) (upd (upd J6 q (HO.tup [V.int (hnd ws e),V.int (cnt (ws.take e) (hnd ws e)),V.int (hnd ws j),V.int (cnt (ws.take j) (hnd ws j))])) fr (.lst (ts++[V.ref q]))):=Kp.set;have tf:=kf.tups (sq _ _ hts);refine hD' _ _ ⟨by rw[P_,mZ],λb u e=>kf _ _ (sq _ _ (s9 _ _ e)) (au e r0),kf _ _ (sq _ _ rT) o7,ts++[V.ref q],ak, ?_⟩;have nb:Bare ws j e:=⟨st,cv⟩;have hne':¬hnd ws e=hnd ws j:=by rw[P_,mZ];exact hne
      rw[bs,abW nb,uO,aaX];refine aO.append (aO.keep (λa xs h=>tf _ _ (sq.tups _ _ h)) _ (cu _ jN _) DW) ?_;simp only[cR,abn,hne',not_false_eq_true,decide_true,if_true,List.filter_nil,List.map_cons,List.map_nil];exact GK (Jy (x:=fD ws e j) (tf _ _ ak))
    rintro σ H11 ⟨rfl,s11,SQ,N11⟩;obtain⟨rs2,Z1,rl2,rq2⟩:=I.rows.same (gQ ws hn.toNat) s11;have er:e<rs2.length:=by lia
    obtain⟨rr,err⟩:∃rr,rs2[e]? = some rr:=⟨rs2[e],by simp[er]⟩;obtain⟨_,re,Z4,rhe⟩:=rq2 e rr err;have rel:=rhe.1;refine⟨_,Z,_,Z, ?_⟩
    by_cases st:lU ws e j=true
    rotate_left
    .have mm:mt x y=false:=by
      cases q:mt x y with
      | false=>rfl
      | true=>rw[vh,q,Bool.or_true] at st;exact abZ rfl st
     have hne:¬x.1=y.1:=λz=>by rw[vh,aaM z,Bool.true_or] at st;exact abZ rfl st
     rw[mm];refine dG ?_;refine⟨_,Z,_,Z,Z,_,Z, ?_⟩;rw[show decide (V.int x.1=V.int y.1)=false by simp[hne]];refine dG ?_;exact⟨gt,row,_,_,_,_,_,Z,s11,g0,o7,SQ,rh.iff λm=>GQ st,N11⟩
    refine Wf ?_ (λmm core=>?_)
    rotate_left
    .have mm:mt x y=false:=by simpa using mm
     have heq:x.1=y.1:=by rw[vh,mm,Bool.or_false] at st;exact aaO st
     refine⟨_,Z,_,Z,Z,_,Z, ?_⟩;rw[show decide (V.int x.1=V.int y.1)=true by simp[heq]];exact eO core
    refine⟨_,Z,_,Z,_,Z,_,_,_,_,Z,Z,bB.of Z1,bI (by rw[aag,err];rfl),gt,rr,_,_,Z,bB.of SQ,bB.of Z4,λD hD=>?_⟩;refine Am (K:=K) (n:=hn.toNat) (by rw[aad,DQ]) (by rw[aad,rel]) (λh=>some (.int (mx (gI row (h:Int)) (gI re (h:Int))))) hD (bB.of SQ) (bB.of Z4) (by lia) (λh u v u6 G F hu hv s12 kG kF=>?_) (λu6 s12 e12=>?_)
    .rw[aag] at hu hv
     cases eu:row[h]? with
     | none=>rw[eu] at hu;cases hu
     | some uu=>
       cases ev:re[h]? with
       | none=>rw[ev] at hv;cases hv
       | some vv=>
         rw[eu] at hu;rw[ev] at hv;cases hu;cases hv;exact⟨_,Z,_,Z,_,_,Z,kF _ u6 (Same.refl _) (by rw[yD eu,yD ev];rfl)⟩
    have WL:u6 D=some (.lst ((Sd hn.toNat row re).map V.int)):=by
     rw[e12];unfold Sd;rw[List.map_map,←List.filterMap_eq_map];rfl
    have nDf:D≠fr:=by
     obtain⟨_,h,_⟩:=N11;exact(au h hD).symm
    exact⟨D,Sd hn.toNat row re,_,_,_,_,_,Z,s11.trans s12,s11.free hD,nDf,WL,(Fp Uw rh rhe).iff λm=>Mp st,N11.same s12⟩
   .rintro σ H9 ⟨gt,row,x6,x7,x8,x9,x10,rfl,s9,g0,o7,rT,rh,N9⟩
    rw[Nat.sub_self] at rh;have rh':=rh.iff λm=>Ml;have DQ:=rh'.1;obtain⟨ms,hm,ml,mg⟩:=I.many;have ji:=s9 _ _ I.called;have hm9:=s9 _ _ hm;have PN:y.1<ms.length:=by lia
    have W4:(DX ws j).length=j:=by unfold DX;simp
    have f1':=I.rows;have f2':=I.brt;obtain⟨PX,vm,_,_⟩:=id I.rows;obtain⟨bs0,yu,_,_⟩:=id I.brt;refine⟨_,Z,.inl ⟨Z,_,bB.of ji⟩,_,Z,_,Z,_,_,_,_,Z,Z,bB.of hm9,kW y0 (by lia),cl,_,_,Z,Z,ji,by rw[aad,sizeLine_eq];lia, ?_⟩;rw[mg y.1 y0 y1];have k1:Kp cl H9 (upd H9 cl (.lst ((DX ws j).map V.int++[V.int (cnt (ws.take j) y.1)]))):=Kp.set;have hm1:=k1 _ _ hm9 n25.symm;refine⟨_,Z,_,Z,_,_,_,_,Z,Z,bB.of hm1,kW y0 (by lia),_,_,Z,Z,_,Z,_,Z,_,_,_,_,Z,Z,hm1,o_ y0 (by rw[aad];lia), ?_⟩;rw[mg y.1 y0 y1];have k2:Kp mn (upd H9 cl (.lst ((DX ws j).map V.int++[V.int (cnt (ws.take j) y.1)]))) (upd (upd H9 cl (.lst ((DX ws j).map V.int++[V.int (cnt (ws.take j) y.1)]))) mn (.lst ((ms.map V.int).set y.1.toNat (V.int (cnt (ws.take j) y.1+1))))):=Kp.set;have hm2:(upd (upd H9 cl (.lst ((DX ws j).map V.int++[V.int (cnt (ws.take j) y.1)]))) mn (.lst ((ms.map V.int).set y.1.toNat (V.int (cnt (ws.take j) y.1+1))))) mn=some (.lst ((ms.set y.1.toNat (cnt (ws.take j) y.1+1)).map V.int)):=by rw[ak,List.map_set]
    have yt:=k2 _ _ (ak (H:=H9) (a:=cl) (o:= .lst ((DX ws j).map V.int++[V.int (cnt (ws.take j) y.1)]))) n25;have Gb:gt≠cl:=(au I.called g0).symm;have Ga:gt≠mn:=(au hm g0).symm;have IW:gt≠rw':=(au vm g0).symm;have Jd:gt≠br:=(au yu g0).symm;have hg2:=k2 _ _ (k1 _ _ rT Gb) Ga;have Jc:fr≠cl:=(au I.called r0).symm;have Jb:fr≠mn:=(au hm r0).symm;have I_:fr≠rw':=(au vm r0).symm;have N2:=(N9.kp (k1.tups ji) k1 Jc).kp (k2.tups hm1) k2 Jb;have T2:∀a xs,H2 a=some (HO.tup xs)->(upd (upd H9 cl (.lst ((DX ws j).map V.int++[V.int (cnt (ws.take j) y.1)]))) mn (.lst ((ms.map V.int).set y.1.toNat (V.int (cnt (ws.take j) y.1+1))))) a=some (HO.tup xs):=λa xs h=>k2.tups hm1 _ _ (k1.tups ji _ _ (s9.tups _ _ h));have S2:∀b u,H2 b=some u->b≠cl->b≠mn->(upd (upd H9 cl (.lst ((DX ws j).map V.int++[V.int (cnt (ws.take j) y.1)]))) mn (.lst ((ms.map V.int).set y.1.toNat (V.int (cnt (ws.take j) y.1+1))))) b=some u:=λb u e n1 n2=>k2 _ _ (k1 _ _ (s9 _ _ e) n1) n2;generalize (upd (upd H9 cl (.lst ((DX ws j).map V.int++[V.int (cnt (ws.take j) y.1)]))) mn (.lst ((ms.map V.int).set y.1.toNat (V.int (cnt (ws.take j) y.1+1)))))=u6 at hm2 yt hg2 N2 S2 T2 ⊢;have gm2:gI (ms.set y.1.toNat (cnt (ws.take j) y.1+1)) y.1=cnt (ws.take j) y.1+1:=by rw[qz y0 (by lia) y0,abW rfl]
    refine⟨_,Z,_,Z,_,_,_,_,Z,Z,bB.of hm2,kW y0 (by rw[aa6];lia),_,Z,_,Z,_,_,_,_,Z,Z,hg2,o_ y0 (by rw[aad];lia), ?_⟩;rw[gm2];have k3:Kp gt u6 (upd u6 gt (.lst ((row.map V.int).set y.1.toNat (V.int (cnt (ws.take j) y.1+1))))):=Kp.set;have hg3:(upd u6 gt (.lst ((row.map V.int).set y.1.toNat (V.int (cnt (ws.take j) y.1+1))))) gt=some (.lst ((row.set y.1.toNat (cnt (ws.take j) y.1+1)).map V.int)):=by rw[ak,List.map_set]
    have abO:RowC ws hn.toNat (upd u6 gt (.lst ((row.map V.int).set y.1.toNat (V.int (cnt (ws.take j) y.1+1))))) j gt:=⟨_,hg3,QV Uw rh' ey⟩
    have S3:∀b u,H2 b=some u->b∉[cl,mn,gt]->(upd u6 gt (.lst ((row.map V.int).set y.1.toNat (V.int (cnt (ws.take j) y.1+1))))) b=some u:=λb u e m=>by
     have m1:b≠cl:=λz=>m (by simp[z]);have m2:b≠mn:=λz=>m (by simp[z]);have m3:b≠gt:=λz=>m (by simp[z]);exact k3 _ _ (S2 b u e m1 m2) m3
    have T3:∀a xs,H2 a=some (HO.tup xs)->(upd u6 gt (.lst ((row.map V.int).set y.1.toNat (V.int (cnt (ws.take j) y.1+1))))) a=some (HO.tup xs):=λa xs h=>k3.tups hg2 _ _ (T2 _ _ h)
    have hW:∀x∈[cl,mn,gt],x∈[rw',cl,br,mn]\/H2 x=none:=λx hx=>by
     simp only[List.mem_cons,List.not_mem_nil,or_false] at hx;rcases hx with rfl|rfl|rfl
     .exact .inl (by simp)
     .exact .inl (by simp)
     .exact .inr g0
    have R3:=I.rows.move (gQ _ _) [cl,mn,gt] S3 (by simp[n12,n15,IW.symm]) hW T3;have B3:=I.brt.move (nW _ _) [cl,mn,gt] S3 (by simp[n23.symm,n35,Jd.symm]) hW T3;have N3:=N2.kp (k3.tups hg2) k3 o7.symm;have SX:=k3 _ _ yt Gb.symm;have hm3:=k3 _ _ hm2 Ga.symm
    have S3':Same H (upd u6 gt (.lst ((row.map V.int).set y.1.toNat (V.int (cnt (ws.take j) y.1+1))))):=λb u e=>S3 _ _ (I.sm _ _ e) (by
     simp only[List.mem_cons,List.not_mem_nil,or_false];rintro(z|z|z)
     .exact au e f2 z
     .exact au e f5 z
     .exact au e (I.sm.free g0) z)
    generalize (upd u6 gt (.lst ((row.map V.int).set y.1.toNat (V.int (cnt (ws.take j) y.1+1)))))=MJ at R3 B3 N3 SX hm3 S3' abO ⊢
    obtain⟨rs3,Jp,rl3,R4⟩:=R3.push (gQ _ _) (by simp) (λx hx=>by
     simp only[List.mem_cons,List.not_mem_nil,or_false] at hx;rcases hx with rfl|rfl|rfl|rfl<;>assumption) abO
    refine⟨_,Z,.inl ⟨Z,_,bB.of Jp⟩,_,Z,rw',_,_,Z,Z,Jp,by rw[aad,sizeLine_eq];lia, ?_⟩;have k4:Kp rw' MJ (upd MJ rw' (.lst (rs3.map V.ref++[V.ref gt]))):=Kp.set;have B4:=B3.kp (nW _ _) k4 Jp n13.symm (by simp);have N4:=N3.kp (k4.tups Jp) k4 I_;have Jq:=k4 _ _ SX n12.symm;have hm4:=k4 _ _ hm3 n15.symm;have S4:Same H (upd MJ rw' (.lst (rs3.map V.ref++[V.ref gt]))):=λb u e=>k4 _ _ (S3' _ _ e) (au e f1);generalize (upd MJ rw' (.lst (rs3.map V.ref++[V.ref gt])))=H14 at R4 B4 N4 Jq hm4 S4 ⊢;obtain⟨bs4,Wn,bl4,_⟩:=id B4;obtain⟨rs4,Z0,rl4,_⟩:=id R4;refine⟨_,Z,.inl ⟨Z,_,bB.of Wn⟩,_,Z, ?_⟩;dsimp only[lQ];refine Ey (K:=K) N4 λsl ns H15 hsl NN pp ss YX=>?_
    have re:∀e∈[rw',cl,br,mn],sl≠e:=λx hx=>by
     simp only[List.mem_cons,List.not_mem_nil,or_false] at hx;rcases hx with rfl|rfl|rfl|rfl
     .exact(au Z0 hsl).symm
     .exact(au Jq hsl).symm
     .exact(au Wn hsl).symm
     .exact(au hm4 hsl).symm
    obtain⟨bs5,Wm,bl5,B6⟩:=(B4.same (nW _ _) YX).push (nW _ _) (by simp) re (show BrC ws H H15 j sl from ⟨ns,NN,pp,S4.free hsl⟩);refine⟨br,_,_,Z,Z,Wm,by rw[aad,sizeLine_eq];lia, ?_⟩;have k6:Kp br H15 (upd H15 br (.lst (bs5.map V.ref++[V.ref sl]))):=Kp.set;refine⟨_,_,_,_,_,_,_,_,_,_,Z,⟨λb u e=>k6 _ _ (YX _ _ (S4 _ _ e)) (au e f3),(R4.same (gQ _ _) YX).kp (gQ _ _) k6 Wm n13 (by simp),B6, ?_,⟨ms.set y.1.toNat (cnt (ws.take j) y.1+1),k6 _ _ (YX _ _ hm4) n35.symm,by simp[ml],λh h0 h1=>?_⟩⟩⟩
    .rw[k6 _ _ (YX _ _ Jq) n23,Ub,aaX,mZ]
     rfl
    .have tk:ws.take (j+1)=ws.take j++[y]:=by rw[aa5,ey];rfl
     rw[qz y0 (by lia) h0,tk,fO]
     by_cases e:h=y.1
     .subst e;rw[abW rfl,abW rfl]
     .rw[abN e,abN e];exact mg h h0 h1
  .rintro σ H2 ⟨x1,x2,x3,x4,x5,x6,x7,x8,x9,x10,rfl,I⟩
   rw[dY] at I;refine⟨_,Z,_,Z,(by show 2<=sizeLine;decide),λp hp=>?_⟩;have sp:=aD (o:=HO.tup [V.ref rw',V.ref br]) hp;exact k p rw' br _ ak (I.rows.same (gQ _ _) sp).any (I.brt.same (nW _ _) sp).any f1 f3 (I.sm.trans sp)
noncomputable def Ae(i:Int)(n:Nat):Prop:=0<=i/\i<(n:Int)
instance (i:Int) (n:Nat):Decidable (Ae i n):=inferInstanceAs (Decidable (_/\_))
noncomputable def YK(K:PySem.W.Frag):Sp:=λvs H Q _=>∃i:Int,vs=[.int i]/\Q (.bl true) H
theorem FN{f:Addr}{fd:FuncData}(F:fZ K "is_whole" "is_whole" p8 f fd)(Bt:rQ mg):bL P w K mg base iC 1 f fd ["value"] (YK K):=by
 refine F.ok E_ (λvs H Q E h=>?_) (λcdv A outer s H vs Q E hr h=>?_)
 .obtain⟨i,rfl,_⟩:=h
  rfl
 .obtain⟨i,rfl,k⟩:=h
  refine⟨_,(aG (aU (ql (bf (dD (K:=K) (cv:= .ty "int") (c:= .type "int") rfl rfl) (by rfl) Bt.bV bM (aj (pv 0) (aj (eE (v:= .ty "int") (by rfl) Bt.Ui JM rfl) aq))) (nO (Rh (bf (dD (K:=K) (cv:= .ty "bool") (c:= .type "bool") rfl rfl) (by rfl) Bt.bV bM (aj (pv 0) (aj (eE (v:= .ty "bool") (by rfl) Bt.JV Dl rfl) aq)))))))), ?_⟩;refine⟨_,Z,_,_,true,Z,.int i,uT K,true,Z, ?_⟩;refine eO ?_;exact⟨_,Z,_,_,false,Z,.int i,rA K,false,Z,k⟩
noncomputable def Bu(K:PySem.W.Frag):Sp:=λvs H Q _=>∃(i:Int) (n:Nat),vs=[.int i,.int n]/\Q (.bl (decide (Ae i n))) H
theorem FP{f:Addr}{fd:FuncData}(F:fZ K "is_below" "is_below" qe f fd)(qH:FnAt P w K mg base 1 "is_whole" ["value"] (YK K)):bL P w K mg base iC 2 f fd ["value","count"] (Bu K):=by
 refine F.ok Fd (λvs H Q E h=>?_) (λcdv A outer s H vs Q E hr h=>?_)
 .obtain⟨i,n,rfl,_⟩:=h
  rfl
 .obtain⟨i,n,rfl,k⟩:=h
  refine⟨_,(aG (aU (ql (bh qH (hr.mono (by decide)) (by rfl) (aj (pv 0) aq)) (nO (Ro abX pL aA (pv 0) (pv 1)))))), ?_⟩;refine⟨_,Z,i,Z,true,Z, ?_⟩;refine eO ?_;refine⟨_,Z,_,_,Z,Z,_,Z, ?_⟩;refine bK (λh0=>?_) (λh0=>?_)
  .refine⟨_,Z,_,_,Z,Z, ?_⟩
   have e:decide (Ae i n)=decide (i<(n:Int)):=by
    have h0:=aaO h0;rw[Bool.eq_iff_iff,decide_eq_true_iff,decide_eq_true_iff];exact⟨λz=>z.2,λz=>⟨h0,z⟩⟩
   show Q (.bl (decide (i<(n:Int)))) H;rw[←e];exact k
  .have e:decide (Ae i n)=false:=aaN λz=>h0 (aaM z.1)
   rw[←e];exact k
theorem Wy(x y:Int):PyData.eqv (.int x) (.int y)=decide (x=y):=by
 simp only[PyData.eqv];rw[Bool.eq_iff_iff];simp
theorem iV{H:Hp}{a:Addr}{ns:List Int}(h:H a=some (.lst (ns.map V.int))):Dat H (.ref a) (.list (ns.map PyData.int)):=oE h (aO.ints ns)
theorem shaped_ints(ns:List Int):SeqAt.shaped (.list (ns.map PyData.int))=true:=uM PyData.int 0 (by decide) (λ_ _=>rfl) (λ_ _=>by show 0<=0;decide)
noncomputable def LI(H:Hp)(a:Addr)(os:List Int):Prop:=H a=some (.lst (os.map V.int))
theorem LI.same{H H':Hp}{a:Addr}{os:List Int}(h:LI H a os)(k:Same H H'):LI H' a os:=k _ _ h
noncomputable def nI(l:List Nat):List Int:=l.map λn:Nat=>(n:Int)
theorem R_(l:List Nat):(nI l).length=l.length:=by simp[nI]
theorem ZD{l:List Nat}{i x:Nat}(e:l[i]? = some x):(nI l)[i]? = some (x:Int):=by unfold nI;rw[aag,e];rfl
theorem uz{ws:List cZ}{m n:Nat}(h:m<=n)(g:Int):cnt (ws.take m) g<=cnt (ws.take n) g:=by
 have e:ws.take n=ws.take m++(ws.take n).drop m:=by
  have:=List.take_append_drop m (ws.take n);rw[List.take_take,Nat.min_eq_left h] at this;exact this.symm
 unfold cnt;rw[e,abL,aaS];lia
theorem Ln{ws:List cZ}{i:Nat}{x:yV}(h:(nm ws)[i]? = some x):∃y,ws[i]? = some y/\x=(y.1,cnt (ws.take i) y.1):=by
 have il:i<ws.length:=by have:=(aaf.mp h).1;rw[iJ] at this;exact this
 have e:ws[i]? = some ws[i]:=by simp[il]
 rw[qt e] at h;exact⟨ws[i],e,(aaR h).symm⟩
theorem XS{ws:List cZ}{i j:Nat}{x:yV}(hi:(nm ws)[i]? = some x)(hj:(nm ws)[j]? = some x):¬i<j:=λlt=>by
 obtain⟨y,ey,e1⟩:=Ln hi;obtain⟨z,ez,e2⟩:=Ln hj;rw[e1] at e2;injection e2 with h1 h2
 have tk:ws.take (i+1)=ws.take i++[y]:=by rw[aa5,ey];rfl
 have m:=uz (ws:=ws) (m:=i+1) (n:=j) lt y.1;rw[tk,fO,abW rfl] at m;rw[←h1] at h2;lia
theorem xT{ws:List cZ}{i j:Nat}{x:yV}(hi:(nm ws)[i]? = some x)(hj:(nm ws)[j]? = some x):i=j:=by
 have:=XS hi hj;have:=XS hj hi;lia
noncomputable def kx(x:yV):List Key:=[Sum.inl x.1,Sum.inl x.2]
theorem Cy{x y:yV}(h:kx x=kx y):x=y:=by
 unfold kx at h;injection h with h1 h2
 injection h2 with h2 _
 have a:x.1=y.1:=Sum.inl.inj h1;have b:x.2=y.2:=Sum.inl.inj h2;exact Prod.ext a b
noncomputable def Uo(kvs:List (List Key×V))(ps:List yV):Prop:=(∀(m:Nat)(x:yV),ps[m]? = some x->gn kvs (kx x)=some (.int m)) /\ ∀x:yV,x∉ps->gn kvs (kx x)=none
noncomputable def plK(ps:List yV):List (List Key×V):=(List.range ps.length).filterMap λm:Nat=>(ps[m]?).map λx=>(kx x,V.int (m:Int))
theorem Rc(ps:List yV)(x:yV):plK (ps++[x])=plK ps++[(kx x,V.int (ps.length:Int))]:=by
 unfold plK;rw[aaS,aa4,dB];congr 1
 .refine ou _ trivial λm hm=>?_
  have:m<ps.length:=by simpa using hm
  rw[aaU this]
 .simp
theorem Vo{kvs:List (List Key×V)}{k:List Key}{v:V}(h:gn kvs k=none):putK kvs k v=kvs++[(k,v)]:=by
 unfold putK;rw[jz,h];rfl
noncomputable def Ep(K:PySem.W.Frag):Sp:=λvs H Q _=>∃(a:Addr) (ws:List cZ),vs=[.ref a]/\i_ H a ws/\ws.length<=300 /\ ∀(d:Addr)(kvs:List (List Key×V))(H':Hp),H d=none->H' d=some (.dT kvs)->Uo kvs (nm ws)->kvs=plK (nm ws)->Same H H'->Q (.ref d) H'
theorem Ob{f:Addr}{fd:FuncData}(F:fZ K "places_of" "places_of" nA f fd)(Dz:FnAt P w K mg base 1 "names" ["web"] (Bo K))(Bt:rQ mg):bL P w K mg base iC 2 f fd ["web"] (Ep K):=by
 refine F.ok jt (λvs H Q E h=>?_) (λcdv A outer s H vs Q E hr h=>?_)
 .obtain⟨a,ws,rfl,_⟩:=h
  rfl
 .obtain⟨a,ws,rfl,W,wl,k⟩:=h
  have hu:=rB hr
  refine⟨_,(ao (aQ (i:=1) jt.nd rfl (Or.inl rfl) Fw)
   (ao (eY PassesOwn.never rfl (Fv (K:=K) rfl (by rfl) Bt.uZ (aj (bh Dz (hr.mono (by decide)) (by rfl) (aj (pv 0) aq)) aq)) (jX (K:=K) (n:=2) rfl rfl (cQ (aZ (i:=2) jt.nd rfl (Or.inl rfl)) (cQ (aZ (i:=3) jt.nd rfl (Or.inl rfl)) jW)))
   (aG (qY hu (pv 1) (pv 3) (pv 2) rfl)))
   (aG (aU (pv 1))))), ?_⟩
  intro d hd;have s1:=aD (o:=HO.dT []) hd;refine⟨_,Z,a,ws,Z,W.same s1,by lia,λp H2 hp PA s2=>?_⟩;obtain⟨vs,hp2,dv⟩:=id PA;have vl:vs.length=ws.length:=by rw[dv.length,aad,iJ]
  refine⟨p,vs,Z,bB.of hp2, ?_⟩;have V7:d≠p:=au ak hp
  refine Gu (K:=K) (a:=p) (xs:=vs) (λi σ H3=>∃(kvs:List (List Key×V)) (x1 x2:Option V),σ=[some (.ref a),some (.ref d),x1,x2]/\H3 d=some (.dT kvs)/\kvs.length<=i/\Uo kvs ((nm ws).take i)/\Kp d H2 H3/\kvs=plK ((nm ws).take i))
   ⟨[],none,none,Z,s2 _ _ ak,aap _,⟨λm x e=>by simp at e,λx _=>rfl⟩,Kp.refl _ _,by simp[plK]⟩ (λi σ H3 _ ⟨_,_,_,_,_,_,_,kp,_⟩=>bB.of (kp _ _ hp2 V7.symm)) ?_ ?_
  .rintro i v σ H3 q hi ⟨kvs,x1,x2,rfl,Z5,kl,pl,kp,ek⟩ hq
   obtain⟨x,t,ex,rfl,ht⟩:=Vq dv hi;have il:=(aaf.mp hi).1;have sq:=aD (o:=HO.tup [V.int i,V.ref t]) hq;have ht3:H3 t=some (.tup [.int x.1,.int x.2]):=kp _ _ ht (cH ht (s2 _ _ ak) (by intro z;cases z));refine⟨q,_,Z,bO.of ak,Z,_,_,Z,_,_,Z,Z, ?_⟩;refine⟨_,Z,_,Z,_,Z,d,_,Z,zm.t (k:=kx x) (sq _ _ Z5) (sq _ _ ht3) (by rw[sizeLine_eq];lia), ?_⟩;have tk:(nm ws).take (i+1)=(nm ws).take i++[x]:=by rw[aa5,ex];rfl
   have tl:((nm ws).take i).length=i:=by rw[aa7,iJ];lia
   refine⟨putK kvs (kx x) (V.int i),_,_,Z,ak, ?_,⟨λm y e=>?_,λy hy=>?_⟩,λb o e nb=>?_, ?_⟩
   .exact abG (gP ..) (by lia)
   .rw[m7]
    rw[tk] at e
    by_cases hm:m<i
    .rw[aaU (by lia)] at e
     have ne:¬kx y=kx x:=λz=>by
      have z:=Cy z;subst z;have e':(nm ws)[m]? = some y:=by rw[List.getElem?_take_of_lt hm] at e;exact e
      have:=xT e' ex;lia
     rw[abN ne];exact pl.1 m y e
    .rw[aaT (by lia),tl] at e
     have ml:m - i<1:=(aaf.mp e).1;have:m=i:=by lia
     subst this;rw[Nat.sub_self] at e;cases e;rw[abW rfl]
   .rw[tk] at hy
    have n1:y∉(nm ws).take i:=λz=>hy (aa1.mpr (.inl z));have n2:y≠x:=λz=>hy (aa1.mpr (.inr (by rw[z];simp)));rw[m7,abN (λz=>n2 (Cy z))];exact pl.2 y n1
   .rw[aF nb]
    exact sq _ _ (kp _ _ e nb)
   .have nx:x∉(nm ws).take i:=λz=>by
     obtain⟨m,em⟩:=List.getElem?_of_mem z;have hm:m<i:=by have:=(aaf.mp em).1;rw[aa7] at this;lia
     rw[List.getElem?_take_of_lt hm] at em;have:=xT em ex;lia
    rw[Vo (pl.2 x nx),ek,tk,Rc,tl]
  .rintro σ H3 ⟨kvs,x1,x2,rfl,Z5,kl,pl,kp,ek⟩
   have e:(nm ws).take vs.length=nm ws:=by rw[vl,←iJ ws,aa3]
   rw[e] at pl ek;exact⟨_,Z,k d kvs H3 hd Z5 pl ek λb o eb=>kp _ _ (s2 _ _ (s1 _ _ eb)) (au eb hd)⟩
theorem Yb(a b c d:V):rF [a,b,c,d] none (some 2)=[a,b]:=T4 _ 2
theorem X_(a b c d:V):rF [a,b,c,d] (some 2) none=[c,d]:=T5 _ 2
theorem Rr{α:Type}(xs:List α)(h:xs.length=4):¬(HT.jU xs.length 0 none=0/\HT.jU xs.length xs.length (some 2)=xs.length):=by
 rw[h];decide
theorem Rp{α:Type}(xs:List α)(h:xs.length=4):¬(HT.jU xs.length 0 (some 2)=0/\HT.jU xs.length xs.length none=xs.length):=by
 rw[h];decide
noncomputable def Eu(K:PySem.W.Frag):Sp:=λvs H Q _=>∃(t:Addr) (x:Nt),vs=[.ref t]/\H t=some (.tup (nV x)) /\ ∀H',Same H H'->Q (.bl (!decide (x.1=x.2.2.1))) H'
theorem Iz{f:Addr}{fd:FuncData}(F:fZ K "is_note" "is_note" tU f fd)(qH:FnAt P w K mg base 1 "is_whole" ["value"] (YK K))(Bt:rQ mg):bL P w K mg base iC 2 f fd ["value"] (Eu K):=by
 refine F.ok Ia (λvs H Q E h=>?_) (λcdv A outer s H vs Q E hr h=>?_)
 .obtain⟨t,x,rfl,_⟩:=h
  rfl
 .obtain⟨t,x,rfl,ht,k⟩:=h
  have iM:=hr.units
  refine⟨_,(ao (cj (PW.pt (lu (iI (eX (bf (dD (K:=K) (cv:= .ty "tuple") (c:= .type "tuple") rfl rfl) (by rfl) Bt.bV bM (aj (pv 0) (aj (eE (v:= .ty "tuple") (by rfl) Bt.mL jQ rfl) aq))))) (jJ (aR iD (bf (bH (K:=K) rfl) (by rfl) Bt.iZ fP (aj (pv 0) aq)) aA (aW _))))) (aG (aU mR)) bw)
   (aG (aU (ql (bf (jk (K:=K) rfl rfl) (by rfl) Bt.Uj JN (aj (fH rfl (N:=["number"]) (own:=["number"]) (caps:=[]) (bA.of (by kernel_rfl)) (Ck (K:=K) rfl (pv 0)) (λ_ _ _ _=>(aZ (i:=0) (show List.Nodup (["number"]:List Str) by decide +kernel) rfl (Or.inl rfl))) (λ_ _ _ _=>d_) (λ_ _ _ _=>(bh qH (hr.mono (by decide)) (by rfl) (aj (pv 0) aq)))) aq)) (nO (fW iD (aH (aK (K:=K) rfl) (pv 0) aA (λ_ _=>rfl)) (aH (aK (K:=K) rfl) (pv 0) aA (λ_ _=>rfl)) (aW _))))))), ?_⟩
  refine⟨_,Z,_,_,true,Z,.tup ht,dW K,true,Z, ?_⟩;refine dG ?_;refine⟨_,Z,t,_,Z,.inr (bO.of ht),Z,_,Z, ?_⟩;refine nY (by rfl) ?_;refine⟨_,Z,t,Z,⟨_,bO.of ht⟩,λD hD=>?_⟩;refine Ao (K:=K) (λi=>some (.bl true)) hD ht (by show 4<=100000;decide) (λi v H2 G F hi s2 kG kF=>?_) (λH2 s2 e2=>?_)
  .obtain⟨z,rfl⟩:∃z,v=V.int z:=by
    have hm:=aaL hi;simp only[nV,List.mem_cons,List.not_mem_nil,or_false] at hm;rcases hm with rfl|rfl|rfl|rfl<;>exact⟨_,rfl⟩
   exact⟨_,Z,z,Z,kF _ H2 (Same.refl _) rfl⟩
  .refine⟨D,[true,true,true,true],Z,bB.of e2,true,Z, ?_⟩
   refine eO ?_;refine⟨_,Z,_,_,_,_,Z,Z,bO.of (s2 _ _ ht),Z,_,Z,_,_,_,_,Z,Z,bO.of (s2 _ _ ht),Z,Z, ?_⟩
   have e:(!decide (V.int x.1=V.int x.2.2.1))=(!decide (x.1=x.2.2.1)):=by
    by_cases q:x.1=x.2.2.1
    .simp[q]
    .simp[q]
   show Q (.bl (!decide (V.int x.1=V.int x.2.2.1))) H2;rw[e];exact k H2 s2
theorem Jt(x y:Nt):PyData.eqv (nD x) (nD y)=decide (x=y):=by
 obtain⟨a,b,c,d⟩:=x;obtain⟨a',b',c',d'⟩:=y;simp only[nD,PyData.eqv,PyData.eqvAll,Bool.and_true]
 by_cases e1:a=a'
 .subst e1
  by_cases e2:b=b'
  .subst e2
   by_cases e3:c=c'
   .subst e3
    by_cases e4:d=d'
    .subst e4;simp
    .simp[e4]
   .simp[e3]
  .simp[e2]
 .simp[e1]
theorem wM(ns:List Nt):SeqAt.shaped (.list (ns.map nD))=true:=
 uM nD 1 (by decide) (λ_ _=>rfl) (λ_ _=>by show (max 0 (max 0 (max 0 (max 0 0))))+1<=1;decide)
structure Lft(ws:List cZ)(other lo:Nat)(ps:List (Nat×Nat)):Prop where
 last:(other,0)∈ps
 nd:(ps.map Prod.fst).Nodup
 ln:ps.length<=other - lo+1
 rng:∀q∈ps,lo<=q.1/\q.1<=other
 bd:∀q∈ps,q.2+q.1<=other
 way:∀p n,(p,n)∈ps->(p=other/\n=0) \/ ∃q k,n=k+1/\(q,k)∈ps/\lU ws p q=true
 all:∀p,lo<=p->p<other->(∃q k,(q,k)∈ps/\lU ws p q=true) -> ∃n,(p,n)∈ps
noncomputable def yd(ps:List (Nat×Nat)):List (Key×V):=ps.map λq=>(Sum.inl (q.1:Int),V.int (q.2:Int))
theorem v8:∀{ps:List (Nat×Nat)}(p n:Nat),(ps.map Prod.fst).Nodup->(p,n)∈ps->gn (yd ps) (Sum.inl (p:Int))=some (V.int (n:Int))
 | [],p,n,_,h=>by cases h
 | x::ps,p,n,nd,h=>by
   rw[List.map_cons,List.nodup_cons] at nd;show gn ((Sum.inl (x.1:Int),V.int (x.2:Int))::yd ps) _=_;rcases List.mem_cons.mp h with rfl|h
   .rw[eF rfl]
   .have ne:x.1≠p:=λz=>nd.1 (by rw[z];exact aa2.mpr ⟨(p,n),h,Z⟩)
    rw[dZ (λz=>ne (by have:=Sum.inl.inj z;lia)),v8 p n nd.2 h]
theorem j7:∀{ps:List (Nat×Nat)}(p:Nat),(∀n,(p,n)∉ps)->gn (yd ps) (Sum.inl (p:Int))=none
 | [],p,_=>rfl
 | x::ps,p,h=>by
   show gn ((Sum.inl (x.1:Int),V.int (x.2:Int))::yd ps) _=_;have ne:x.1≠p:=λz=>h x.2 (by rw[←z];simp);rw[dZ (λz=>ne (by have:=Sum.inl.inj z;lia)),j7 p λn hn=>h n (by simp[hn])]
noncomputable def QC(K:PySem.W.Frag):Sp:=λvs H Q _=>∃(a:Addr) (ws:List cZ) (one other:Nat),vs=[.ref a,.int one,.int other]/\i_ H a ws/\one<=other/\other<ws.length/\ws.length<=300 /\ ∀(d:Addr)(ps:List (Nat×Nat))(H':Hp),H d=none->Lft ws other one ps->H' d=some (.dK (yd ps))->Same H H'->Q (.ref d) H'
theorem VP{f:Addr}{fd:FuncData}(F:fZ K "steps_left" "steps_left" lW f fd)(uH:FnAt P w K mg base 2 "is_step" ["web","place","later"] (HW K))(Bt:rQ mg):bL P w K mg base iC 3 f fd ["web","one","other"] (QC K):=by
 refine F.ok iT (λvs H Q E h=>?_) (λcdv A outer s H vs Q E hr h=>?_)
 .obtain⟨a,ws,one,other,rfl,_⟩:=h
  rfl
 .obtain⟨a,ws,one,other,rfl,W,le,ol,wl,k⟩:=h
  have hu:=rB hr
  refine⟨_,(ao (aQ (i:=3) iT.nd rfl (Or.inr rfl) (Lf (Ft (pv 2) aA K_) rfl rfl (by simp) (by decide)))
   (ao (eY PassesOwn.never rfl (tZ (by rfl) Bt.gJ (aj (bQ qm (pv 2) aA) (aj (bQ qm (pv 1) aA) (aj (uN m_ aA) aq)))) (aZ (i:=4) iT.nd rfl (Or.inr rfl))
   (ao (K9 (mz (i:=5) rfl iT.nd rfl (Or.inl rfl) (N:=["place","left","web","here"]) (own:=["place"]) (caps:=[3,0,4]) (bA.of (by kernel_rfl)) (Le (pv 3)) (λ_ _ _ _=>(aZ (i:=0) (show List.Nodup (["place","left","web","here"]:List Str) by decide +kernel) rfl (Or.inl rfl))) (λ_ _ _ _=>(qX (eX (bh uH (hr.mono (by decide)) (by rfl) (aj (pv 2) (aj (pv 3) (aj (pv 0) aq))))))) (λ_ _ _ _=>(oZ hu (pv 1) (pv 0) (λ_ _=>rfl)))))
   (aG (cj (Nz (K:=K) rfl (pv 5)) (aG (qY hu (pv 3) (pv 4) (bQ eZ aA (bf (JG (K:=K) rfl rfl) (by rfl) Bt.ac1 aar (aj (pv 5) aq))) rfl)) bw))))
   (aG (aU (pv 3))))), ?_⟩
  intro d hd;have s1:=aD (o:=HO.dK []) hd;refine⟨_,Z,ak,[(Sum.inl (other:Int),V.int 0)],Z,by show 1<=15;decide, ?_⟩;have e1:upd (upd H d (.dK [])) d (.dK (qu [] [(Sum.inl (other:Int),V.int 0)]))=upd H d (.dK (yd [(other,0)])):=Kw;rw[e1];have s2:Same H (upd H d (.dK (yd [(other,0)]))):=aD hd;refine⟨_,Z,_,_,Z,Z,_,Z,_,_,Z,Z,_,Z,(other:Int) - 1,(one:Int) - 1,Z,⟨by lia,by lia,by lia,by lia⟩, ?_⟩;have en:((other:Int) - 1 - ((one:Int) - 1)).toNat=other - one:=by lia
  rw[en]
  refine qC (hi:=(other:Int) - 1) (n:=other - one) (λi σ H2=>∃(ps:List (Nat×Nat)) (x1 x2:Option V),σ=[some (.ref a),some (.int one),some (.int other),some (.ref d),x1,x2]/\H2 d=some (.dK (yd ps))/\Lft ws other (other - i) ps/\Same H H2)
   ⟨[(other,0)],none,none,Z,ak,⟨by simp,by simp,by simp,λq hq=>?_,λq hq=>?_,λp n h=>?_,λp h1 h2=>by lia⟩,s2⟩ ?_ ?_
  .have:q=(other,0):=by simpa using hq
   subst this;exact⟨by simp,aap _⟩
  .have:q=(other,0):=by simpa using hq
   subst this;simp
  .have:p=other/\n=0:=by simpa using h
   exact .inl this
  .rintro i σ H2 hi ⟨ps,x1,x2,rfl,hd2,zu,sm⟩
   have eh:(other:Int) - 1 - (i:Int)=((other - 1 - i:Nat):Int):=by lia
   rw[eh];generalize hh:other - 1 - i=here;have W2:=W.same sm;have pl:=zu.ln;refine⟨_,Z,d,_,Z,hd2,λo D hD=>?_⟩;have Lp:D≠d:=λz=>by rw[z,ak] at hD;cases hD
   have fz:(upd H2 d (.mJ o (.dK (yd ps)))) d=some (.mJ o (.dK (yd ps))):=ak
   have W3:i_ (upd H2 d (.mJ o (.dK (yd ps)))) a ws:=by
    obtain⟨vs,ha,dv⟩:=W2;have nad:a≠d:=cH ha hd2 (by intro z;cases z);exact⟨vs,by rw[aF nad];exact ha,aO.keep (λb xs h=>by rw[aF (cH h hd2 (by intro z;cases z))];exact h) _ (cu _ yq ws) dv⟩
   refine Pk (λi=>(ps[i]?).bind λx=>if lU ws here x.1 then some (V.int (x.2:Int)) else none) hD fz (by simp[yd];lia) (λj kk v H3 G F hj s3 kG kF=>?_) (λH3 s3 e3=>?_)
   .unfold yd at hj
    rw[aag] at hj;cases ej:ps[j]? with
    | none=>rw[ej] at hj;cases hj
    | some x=>
      rw[ej] at hj;cases hj;simp only[ej,Option.bind_some] at kG kF;have xm:=aaL ej;have xr:=zu.rng x xm;refine⟨_,Z,_,Z,_,Z,a,ws,here,x.1,Z,W3.same s3,by lia,by lia,_,Z, ?_⟩
      by_cases st:lU ws here x.1=true
      .rw[st]
       refine eO ?_;refine⟨_,Z,_,Z,d,_,Z,.inl ⟨_,Sum.inl (x.1:Int),.inr ⟨o,s3 _ _ fz⟩,Z,(v8 x.1 x.2 zu.nd xm).symm⟩,kF _ H3 (Same.refl _) (by rw[abW st])⟩
      .have st':lU ws here x.1=false:=by simpa using st
       rw[st'];exact dG (kG H3 (Same.refl _) (by rw[st'];rfl))
   have hlk:(yd ps).length=ps.length:=by simp[yd]
   rw[hlk,O6] at e3;refine⟨_,⟨d,_,o,_,hd2,s3 _ _ fz,Z⟩, ?_⟩
   have LK:(upd H3 d (.dK (yd ps))) D=some (.lst (((ps.filter λx=>lU ws here x.1).map λx=>(x.2:Int)).map V.int)):=by
    rw[aF Lp,e3,List.map_map];rfl
   have sm4:Same H (upd H3 d (.dK (yd ps))):=λb u e=>by
    have nb:b≠d:=au e hd;rw[aF nb];exact s3 _ _ (by rw[aF nb];exact sm _ _ e)
   have CT:(upd H3 d (.dK (yd ps))) d=some (.dK (yd ps)):=ak;generalize (upd H3 d (.dK (yd ps)))=H4 at LK sm4 CT;refine⟨_,Z,_,.inl ⟨_,bB.of LK,Z⟩, ?_⟩;cases hf:ps.filter (λx=>lU ws here x.1) with
   | nil=>
     refine dG ?_;refine⟨ps,_,_,Z,CT,⟨zu.last,zu.nd,by lia,λq hq=>⟨by have:=(zu.rng q hq).1;lia,(zu.rng q hq).2⟩,zu.bd,zu.way,λp h1 h2 ⟨q,kq,hq,st⟩=>?_⟩,sm4⟩
     by_cases ep:p=here
     .subst ep
      exfalso;have:(q,kq)∈ps.filter λx=>lU ws p x.1:=aa8.mpr ⟨hq,st⟩;rw[hf] at this;cases this
     .exact zu.all p (by lia) h2 ⟨q,kq,hq,st⟩
   | cons y ys=>
     rw[hf] at LK;refine eO ?_;refine⟨_,Z,D,_,Z,bB.of LK,by simp,λm hm hmin=>?_⟩;obtain⟨y0,hy0,rfl⟩:=aa2.mp hm;have ym:y0∈ps.filter λx=>lU ws here x.1:=by rw[hf];exact hy0
     obtain⟨y1,y2⟩:=aa8.mp ym
     have fresh:∀n,(here,n)∉ps:=λn z=>by
      have:=(zu.rng _ z).1;simp only at this;lia
     refine⟨_,_,Z,Z,_,Z,_,Z,d,_,Z,zm.k (k:=Sum.inl (here:Int)) CT (by rw[hlk,sizeLine_eq];lia), ?_⟩
     have ek:putK (yd ps) (Sum.inl (here:Int)) (V.int (1+(y0.2:Int)))=yd (ps++[(here,y0.2+1)]):=by
      rw[Q7 _ (j7 here fresh)];unfold yd;rw[aaX];congr 1;simp;lia
     refine⟨ps++[(here,y0.2+1)],_,_,Z,by rw[ak];exact congrArg (λz=>some (HO.dK z)) ek,⟨by simp[zu.last], ?_,by simp;lia,λq hq=>?_,λq hq=>?_,λp n h=>?_,λp h1 h2 ⟨q,kq,hq,st⟩=>?_⟩,λb u e=>by rw[aF (au e hd)];exact sm4 _ _ e⟩
     .rw[aaX]
      refine List.nodup_append.mpr ⟨zu.nd,by simp, ?_⟩;intro u hu v hv e;have:v=here:=by simpa using hv
      subst this;subst e;obtain⟨q,hq,e⟩:=aa2.mp hu;exact fresh q.2 (by rw[←e];exact hq)
     .rcases aa1.mp hq with hq|hq
      .exact⟨by have:=(zu.rng q hq).1;lia,(zu.rng q hq).2⟩
      .have:q=(here,y0.2+1):=by simpa using hq
       subst this;exact⟨by simp;lia,by simp;lia⟩
     .rcases aa1.mp hq with hq|hq
      .exact zu.bd q hq
      .have:q=(here,y0.2+1):=by simpa using hq
       subst this;have b1:=zu.bd _ y1;have b2:=(lR y2).1;simp only;lia
     .rcases aa1.mp h with h|h
      .rcases zu.way p n h with z|⟨q,kq,z1,z2,z3⟩
       .exact .inl z
       .exact .inr ⟨q,kq,z1,by simp[z2],z3⟩
      .have:p=here/\n=y0.2+1:=by simpa using h
       obtain⟨rfl,rfl⟩:=this;exact .inr ⟨y0.1,y0.2,Z,by simp[y1],y2⟩
     .by_cases ep:p=here
      .subst ep
       exact⟨y0.2+1,by simp⟩
      .have hq':(q,kq)∈ps:=by
        rcases aa1.mp hq with hq|hq
        .exact hq
        .have:q=here/\kq=y0.2+1:=by simpa using hq
         have lt:=(lR st).1
         lia
       obtain⟨n,hn⟩:=zu.all p (by lia) h2 ⟨q,kq,hq',st⟩;exact⟨n,by simp[hn]⟩
  .rintro σ H2 ⟨ps,x1,x2,rfl,hd2,zu,sm⟩
   rw[show other - (other - one)=one by lia] at zu;exact⟨_,Z,k d ps H2 hd zu hd2 sm⟩
theorem Wa{ws:List cZ}{other lo:Nat}{ps:List (Nat×Nat)}(L:Lft ws other lo ps):∀n p,(p,n)∈ps->p≠other->lF ws other p:=by
 intro n
 induction n with
 | zero=>
   intro p h ne;rcases L.way p 0 h with z|⟨q,k,z,_⟩
   .exact abZ z.1 ne
   . lia
 | succ n ih=>
   intro p h ne;rcases L.way p (n+1) h with z|⟨q,k,z1,z2,z3⟩
   .exact abZ z.1 ne
   .have:k=n:=by lia
    subst this
    by_cases e:q=other
    .subst e;exact .one z3
    .exact .more z3 (ih q z2 e)
noncomputable instance (ws:List cZ) (j e:Nat):Decidable (lF ws j e):=Classical.propDecidable _
theorem Gm{ws:List cZ}{other:Nat}{ps:List (Nat×Nat)}(L:Lft ws other 0 ps){p:Nat}(h:p<other):(∃n,(p,n)∈ps)↔lF ws other p:=by
 constructor
 .rintro⟨n,hn⟩
  exact Wa L n p hn (by lia)
 .intro r
  have:∀{p:Nat},lF ws other p -> ∃n,(p,n)∈ps:=fun {p} r=>by
   induction r with
   | one h=>exact L.all _ (Nat.zero_le _) (lR h).1 ⟨other,0,L.last,h⟩
   | @more i k h r ih=>
     obtain⟨n,hn⟩:=ih;exact L.all _ (Nat.zero_le _) (Nat.lt_trans (lR h).1 r.lt.1) ⟨k,n,hn,h⟩
  exact this r
noncomputable def bY(ws:List cZ)(i j:Nat):List Nat:=(List.range j).filter λp=>decide (lF ws j p/\p≠i)
theorem gO{ws:List cZ}{i j p:Nat}:p∈bY ws i j↔lF ws j p/\p≠i:=by
 unfold bY;rw[aa8,aa9,decide_eq_true_iff];exact⟨λh=>h.2,λh=>⟨h.1.lt.1,h⟩⟩
structure J3(ws:List cZ)(i j:Nat):Prop where
 lt:i<j
 jl:j<ws.length
 br:Bare ws j i
 ne:¬hnd ws i=hnd ws j
theorem J3.st{ws:List cZ}{i j:Nat}(h:J3 ws i j):lU ws i j=true:=h.br.1
theorem J3.no{ws:List cZ}{i j x:Nat}(h:J3 ws i j)(r:lF ws j x):¬lF ws x i:=λq=>by
 obtain⟨y,sy,c⟩:=Fq r;refine h.br.2 ⟨y, ?_,sy, ?_⟩
 .rcases c with c|c
  .subst c;have:=q.lt;lia
  .have:=q.lt;have:=c.lt;lia
 .rcases c with c|c
  .subst c;exact .inr q
  .exact .inr (jx q c)
theorem Wg{ws:List cZ}{i j:Nat}(h:J3 ws i j):fD ws i j∈lE ws ws.length:=by
 unfold lE;refine List.mem_flatMap.mpr ⟨j,aa9.mpr h.jl, ?_⟩;unfold cR eN;refine aa2.mpr ⟨i,aa8.mpr ⟨aa8.mpr ⟨aa2.mpr ⟨j - 1 - i,aa9.mpr (by have:=h.lt;lia),by have:=h.lt;lia⟩,aaM h.br⟩,aaM h.ne⟩,Z⟩
theorem aav(ns:List Nt)(x:Nt):((ns.map nD).any λe=>PyData.eqv e (nD x))=decide (x∈ns):=by
 rw[Bool.eq_iff_iff,List.any_eq_true,decide_eq_true_iff];constructor
 .rintro⟨e,he,q⟩
  obtain⟨y,hy,rfl⟩:=aa2.mp he;rw[Jt,decide_eq_true_iff] at q;rw[←q];exact hy
 .intro h
  exact⟨nD x,aa2.mpr ⟨x,h,Z⟩,by rw[Jt];simp⟩
theorem uf{ws:List cZ}{x:Nt}(h:x∈lE ws ws.length):∃i j,x=fD ws i j/\J3 ws i j:=by
 unfold lE at h;obtain⟨j,hj,h⟩:=List.mem_flatMap.mp h;unfold cR eN at h;obtain⟨i,hi,rfl⟩:=aa2.mp h;obtain⟨h1,h2⟩:=aa8.mp hi;obtain⟨h3,h4⟩:=aa8.mp h1;have b:=aaO h4;exact⟨i,j,Z,(lR b.1).1,aa9.mp hj,b,aaO h2⟩
noncomputable def QF(C:Addr)(K:PySem.W.Frag):Sp:=λvs H Q E=>∃(a t:Addr) (ws:List cZ) (x:Nt),vs=[.ref a,.ref t]/\i_ H a ws/\ws.length<=300/\(∀x∈ws,0<=x.1/\x.1<8)/\H t=some (.tup (nV x))/\(x∈lE ws ws.length -> ∀H',Same H H'->Q .non H')/\(x∉lE ws ws.length -> ∀H',Same H H'->E (.ref C) none H')
theorem Zt{f:Addr}{fd:FuncData}(F:fZ K "check_fewest" "check_fewest" jE f fd){dj:Addr}(rH:Xr K mg dj "NoNote")(PB:FnAt P w K mg base 2 "is_note" ["value"] (Eu K))(Xh:FnAt P w K mg base 4 "notes" ["web"] (KJ K))(Bt:rQ mg):bL P w K mg base (oW P w) 5 f fd ["web","note"] (QF dj K):=by
 refine F.Ux u_ (λvs H Q E h=>?_) (λcdv A outer s H vs Q E hr h hR=>?_)
 .obtain⟨a,t,ws,x,rfl,_⟩:=h
  rfl
 .obtain⟨a,t,ws,x,rfl,W,wl,Uw,ht,k1,k2⟩:=h
  refine⟨_,(aG (cj (PW.pt (lu (iI (eX (bh PB (hr.mono (by decide)) (by rfl) (aj (pv 1) aq)))) (jJ (aR (Ip (K:=K) rfl hr.Yo) (pv 1) (bh Xh (hr.mono (by decide)) (by rfl) (aj (pv 0) aq)) (by with_unfolding_all rfl))))) (aG (nJ PySem.F.excBase_ValueError rH.ex rH.bd (by rfl) rfl rfl hR (aj bD aq))) bw)), ?_⟩;refine⟨_,Z,t,x,Z,ht,λH1 s1=>⟨_,Z, ?_⟩⟩
  by_cases ne:x.1=x.2.2.1
  .rw[aaM ne]
   refine(show if true=true then _ else _ from eO ?_);refine(show if true=true then _ else _ from eO ?_);refine⟨(by show 1<=sizeLine;decide),k2 (λz=>?_) H1 s1⟩;obtain⟨i,j,rfl,np⟩:=uf z;exact np.ne ne
  rw[aaN ne];refine(show if false=true then _ else _ from dG ?_);refine⟨_,Z,_,Z,a,ws,Z,W.same s1,wl,Uw,λr ns H2 hr2 N2 p2 so2 s2=>?_⟩;obtain⟨vs,hv,dv⟩:=id N2;refine⟨r,vs,nD x,ns.map nD,Z,bB.of hv,dv,Jy (s2 _ _ (s1 _ _ ht)),Z,λe he=>?_,_,Z, ?_⟩
  .obtain⟨y,_,rfl⟩:=aa2.mp he
   rfl
  rw[abW rfl,aav]
  by_cases z:x∈lE ws ws.length
  .rw[aaM (p2.mem_iff.mpr z)]
   exact(show if false=true then _ else _ from dG (k1 z _ (s1.trans s2)))
  .rw[aaN (λw=>z (p2.mem_iff.mp w))]
   refine(show if true=true then _ else _ from eO ?_);exact⟨(by show 1<=sizeLine;decide),k2 z _ (s1.trans s2)⟩
noncomputable def KZ(K:PySem.W.Frag):Sp:=λvs H Q _=>∃(a:Addr) (ws:List cZ) (i j:Nat),vs=[.ref a,.int i,.int j]/\i_ H a ws/\ws.length<=300/\j<ws.length /\ ∀(D:Addr) H',H D=none->LI H' D (nI (bY ws i j))->Same H H'->Q (.ref D) H'
theorem RV{f:Addr}{fd:FuncData}(F:fZ K "ahead_of_both" "ahead_of_both" je f fd)(Dy:FnAt P w K mg base 3 "steps_left" ["web","one","other"] (QC K))(Bt:rQ mg):bL P w K mg base iC 4 f fd ["web","one","other"] (KZ K):=by
 refine F.ok lq (λvs H Q E h=>?_) (λcdv A outer s H vs Q E hr h=>?_)
 .obtain⟨a,ws,i,j,rfl,_⟩:=h
  rfl
 .obtain⟨a,ws,i,j,rfl,W,wl,jl,k⟩:=h
  have hu:=rB hr
  refine⟨_,(ao (aQ (i:=3) lq.nd rfl (Or.inr rfl) (bh Dy (hr.mono (by decide)) (by rfl) (aj (pv 0) (aj aA (aj (pv 2) aq)))))
   (aG (aU (fH rfl (N:=["place","left","one"]) (own:=["place"]) (caps:=[3,1]) (bA.of (by kernel_rfl)) (fV (by rfl) Bt.gJ (aj (pv 2) aq)) (λ_ _ _ _=>(aZ (i:=0) (show List.Nodup (["place","left","one"]:List Str) by decide +kernel) rfl (Or.inl rfl))) (λ_ _ _ _=>(qX (PW.pt (xG (Y9 (Zj hu (pv 0) (pv 1))) (qW (aR iD (pv 0) (pv 2) (aW _))))))) (λ_ _ _ _=>(pv 0)))))), ?_⟩
  refine⟨_,Z,_,Z,a,ws,0,j,Z,W,Nat.zero_le _,jl,wl,λd ps H1 hd L h1 s1=>?_⟩;refine⟨_,Z,_,Z,by lia,by lia, ?_⟩;rw[aaY];intro D hD;refine lD (λp:Nat=>if lF ws j p/\p≠i then some (V.int (p:Int)) else none) hD (by lia) (λp H2 G F hp s2 kG kF=>?_) (λH2 s2 e2=>?_)
  .have hpp:(0+(p:Int))=(p:Int):=Int.zero_add _
   rw[hpp];refine⟨_,Z,_,Z,d,_,Z,.inl ⟨_,Sum.inl (p:Int),.inl (s2 _ _ h1),Z,Z⟩,_,Z, ?_⟩
   by_cases r:lF ws j p
   .obtain⟨n,hn⟩:=(Gm L hp).mpr r
    rw[v8 p n L.nd hn];refine(show if true=true then _ else _ from eO ?_);refine⟨_,Z,_,Z,Z,_,Z, ?_⟩
    by_cases e:p=i
    .subst e
     rw[show (!decide (V.int (p:Int)=V.int (p:Int)))=false by simp];exact dG (kG _ (Same.refl _) (abN λz=>z.2 rfl))
    .rw[show (!decide (V.int (p:Int)=V.int (i:Int)))=true by simp;lia]
     exact eO ⟨_,Z,kF _ _ (Same.refl _) (abW ⟨r,e⟩)⟩
   .rw[j7 p λn hn=>r ((Gm L hp).mp ⟨n,hn⟩)]
    refine(show if false=true then _ else _ from dG ?_);exact(show if false=true then _ else _ from dG (kG _ (Same.refl _) (abN λz=>r z.1)))
  .refine k D H2 (s1.free hD) ?_ (s1.trans s2)
   show H2 D=_;rw[e2,nI,List.map_map];congr 2;unfold bY;rw[←List.filterMap_eq_filter,List.map_filterMap];refine ou _ trivial λp _=>?_
   by_cases z:lF ws j p/\p≠i<;>simp[Option.guard,z]
theorem uP{ws:List cZ}{i:Nat}(h:i<ws.length):(nm ws)[i]? = some (hnd ws i,cnt (ws.take i) (hnd ws i)):=by
 have e:ws[i]? = some ws[i]:=by simp[h]
 rw[qt e];rw[dH e]
noncomputable def hF(r:Addr)(n:Int)(b sy:Addr)(st:Str):List (Str×V):=[("rows",.ref r),("at",.int n),("in_boxes",.ref b),("sayings",.ref sy),("state",.str st)]
structure oR where
 (h hx r b sy:Addr)
structure mW(CH:Addr)(H:Hp)(A:oR)(s:bJ):Prop where
 h:H A.h=some (.ins CH A.hx (hF A.r s.pos A.b A.sy s.st))
 b:H A.b=some (.lst (s.bs.map V.int))
 y:H A.sy=some (.lst (s.sy.map V.int))
 Ot:A.b≠A.sy
 bl:s.bs.length=8
noncomputable def KH(A:oR)(H H':Hp):Prop:=∀x o,H x=some o->x≠A.h->x≠A.b->x≠A.sy->H' x=some o
theorem KH.of_same{A:oR}{H H':Hp}(k:Same H H'):KH A H H':=λx o e _ _ _=>k _ _ e
theorem KH.trans{A:oR}{H H1 H2:Hp}(a:KH A H H1)(b:KH A H1 H2):KH A H H2:=λx o e n1 n2 n3=>b x o (a x o e n1 n2 n3) n1 n2 n3
theorem KH.pY{A:oR}{H:Hp}{o:HO}:KH A H (upd H A.h o):=λx u e n _ _=>by rw[aF n];exact e
theorem KH.QJ{A:oR}{H:Hp}{o:HO}:KH A H (upd H A.b o):=λx u e _ n _=>by rw[aF n];exact e
theorem KH.YQ{A:oR}{H:Hp}{o:HO}:KH A H (upd H A.sy o):=λx u e _ _ n=>by rw[aF n];exact e
theorem mW.V6{CH:Addr}{H:Hp}{A:oR}{s:bJ}(c:mW CH H A s):A.h≠A.b:=cH c.h c.b (by intro z;cases z)
theorem mW.X3{CH:Addr}{H:Hp}{A:oR}{s:bJ}(c:mW CH H A s):A.h≠A.sy:=cH c.h c.y (by intro z;cases z)
theorem mW.same{CH:Addr}{H H':Hp}{A:oR}{s:bJ}(c:mW CH H A s)(k:Same H H'):mW CH H' A s:=⟨k _ _ c.h,k _ _ c.b,k _ _ c.y,c.Ot,c.bl⟩
theorem mW.tup{CH:Addr}{H H':Hp}{A:oR}{s:bJ}(c:mW CH H A s)(k:KH A H H'):∀x xs,H x=some (.tup xs)->H' x=some (.tup xs):=λx xs e=>k _ _ e (cH e c.h (by intro z;cases z)) (cH e c.b (by intro z;cases z)) (cH e c.y (by intro z;cases z))
theorem mW.pY{CH:Addr}{H:Hp}{A:oR}{s:bJ}(c:mW CH H A s)(n:Nat)(st:Str):mW CH (upd H A.h (.ins CH A.hx (hF A.r n A.b A.sy st))) A {s with pos:=n,st:=st}:=
 ⟨ak,by rw[aF c.V6.symm];exact c.b,by rw[aF c.X3.symm];exact c.y,c.Ot,c.bl⟩
theorem mW.QJ{CH:Addr}{H:Hp}{A:oR}{s:bJ}(c:mW CH H A s)(bs:List Int)(l:bs.length=8):mW CH (upd H A.b (.lst (bs.map V.int))) A {s with bs:=bs}:=
 ⟨by rw[aF c.V6];exact c.h,ak,by rw[aF c.Ot.symm];exact c.y,c.Ot,l⟩
theorem mW.YQ{CH:Addr}{H:Hp}{A:oR}{s:bJ}(c:mW CH H A s)(ys:List Int):mW CH (upd H A.sy (.lst (ys.map V.int))) A {s with sy:=ys}:=
 ⟨by rw[aF c.X3];exact c.h,by rw[aF c.Ot];exact c.b,ak,c.Ot,c.bl⟩
theorem xH(r b sy:Addr)(n m:Int)(st:Str):dz "at" (.int m) (hF r n b sy st)=hF r m b sy st:=by rfl
theorem Ci(r b sy:Addr)(n:Int)(st st':Str):dz "state" (.str st') (hF r n b sy st)=hF r n b sy st':=by rfl
theorem L_(n:Nat):(List.range n).filterMap (λ_=>some (V.int 0))=(List.replicate n 0).map V.int:=by
 induction n with
 | zero=>rfl
 | succ n ih=>rw[dB,ih,List.replicate_succ',aaX];rfl
theorem vR{H H':Hp}{o p:Addr}(h:Kp o H H')(ne:p≠o)(n:H' p=none):H p=none:=by
 cases e:H p with
 | none=>rfl
 | some u=>rw[h _ _ e ne] at n;cases n
theorem ac0:∀b:Fin 8,Builtin.Str.occurrences (Str.ofString "abcdefgh") (rW b.val) 0 (Str.ofString "abcdefgh").length 1=[b.val]:=by decide +kernel
theorem Ug{b:Nat}(h:b<8):Builtin.Str.occurrences (Str.ofString "abcdefgh") (rW b) 0 (Str.ofString "abcdefgh").length 1=[b]:=ac0 ⟨b,h⟩
noncomputable def vK(CH:Addr)(K:PySem.W.Frag):Sp:=λvs H Q _=>∃(a r dx:Addr),vs=[.ref a,.ref r]/\H a=some (.ins CH dx []) /\ ∀(b sy:Addr)(H':Hp),H b=none->H sy=none->b≠sy ->
 H' a=some (.ins CH dx (hF r 0 b sy "waits"))->H' b=some (.lst ((List.replicate 8 0).map V.int))->H' sy=some (.lst [])->Kp a H H'->Q .non H'
theorem RM{aC:Addr}{f:Addr}{fd:FuncData}(F:fZ K "__init__" "Hand.__init__" nH f fd)(aM:gj K aC)(fY:Gv mg "BOXES" (.str "abcdefgh")):bL P w K mg base iC 1 f fd ["self","rows"] (vK aC K):=by
 refine F.ok Bx (λvs H Q E h=>?_) (λcdv A outer s H vs Q E hr h=>?_)
 .obtain⟨a,r,dx,rfl,_⟩:=h
  rfl
 .obtain⟨a,r,dx,rfl,ha,k⟩:=h
  refine⟨_,(ao (dR (K:=K) rfl (pv 0) (pv 1) rfl)
   (ao (dR (K:=K) rfl (pv 0) aA rfl)
   (ao (dR (K:=K) rfl (pv 0) (fH rfl (N:=["box"]) (own:=["box"]) (caps:=[]) (bA.of (by kernel_rfl)) (Ze (mD (by rfl) fY.choose_spec.1 fY.choose_spec.2)) (λ_ _ _ _=>(aZ (i:=0) (show List.Nodup (["box"]:List Str) by decide +kernel) rfl (Or.inl rfl))) (λ_ _ _ _=>d_) (λ_ _ _ _=>aA)) rfl)
   (ao (dR (K:=K) rfl (pv 0) (bW aq) rfl)
   (aG (dR (K:=K) rfl (pv 0) bD rfl)))))), ?_⟩
  refine⟨_,Z,_,Z,a,aC,dx,[],Z,ha,aM.cls,aM.nU,by decide, ?_⟩;refine⟨_,Z,a,aC,dx,_,Z,ak,aM.cls,aM.ud,(by show 1<1000;decide), ?_⟩;refine⟨_,Z,λD hD=>?_⟩;refine Pg (λ_=>some (.int 0)) hD (by decide) (λi c H1 G F hi s1 kG kF=>kF _ H1 (Same.refl _) rfl) (λH1 s1 e1=>?_);rw[L_] at e1;refine⟨_,Z,a,aC,dx,_,Z,s1 _ _ ak,aM.cls,aM.jM,(by show 2<1000;decide), ?_⟩;have naD:a≠D:=au ak hD;refine⟨(by show 0<=sizeLine;decide),λq hq=>?_⟩;have naq:a≠q:=au ak hq;refine⟨_,Z,a,aC,dx,_,Z,(by rw[aF naq];exact ak),aM.cls,aM.o8,(by show 3<1000;decide), ?_⟩;refine⟨_,Z,a,aC,dx,_,Z,ak,aM.cls,aM.jY,(by show 4<1000;decide), ?_⟩;have S5:H D=none:=by rw[aF naD.symm,aF naD.symm] at hD;exact hD
  have nDq:D≠q:=by
   intro e;rw[←e,aF naD.symm,e1] at hq;cases hq
  have hq0:H q=none:=by
   rw[aF naq.symm] at hq;cases e:H q with
   | none=>rfl
   | some o=>
     have:=s1 q o (by rw[aF naq.symm,aF naq.symm];exact e);rw[this] at hq;cases hq
  refine k D q _ S5 hq0 nDq ?_ ?_ ?_ ?_
  .rw[ak];rfl
  .rw[aF naD.symm,aF naD.symm,aF nDq,aF naD.symm,e1];rfl
  .rw[aF naq.symm,aF naq.symm,ak]
  .intro x o e n
   have nq:x≠q:=au e hq0;rw[aF n,aF n,aF nq,aF n];exact s1 x o (by rw[aF n,aF n];exact e)
theorem Yg{x:V}{l:List V}:pF (x::l) 0=some x:=bI (j:=0) rfl
theorem ac2{x y z:V}{l:List V}:pF (x::y::z::l) 2=some z:=bI (j:=2) rfl
noncomputable def G3(r:Rw):V:=if touch r then .int (cJ r) else .non
noncomputable def wG(K:PySem.W.Frag):Sp:=λvs H Q _=>∃(v:V) (r:Rw),vs=[v]/\Dat H v (kZ r) /\ ∀H',Same H H'->Q (G3 r) H'
theorem Oh{f:Addr}{fd:FuncData}(F:fZ K "cell_of" "cell_of" tV f fd):bL P w K mg base iC 1 f fd ["row"] (wG K):=by
 refine F.ok Ib (λvs H Q E h=>?_) (λcdv A outer s H vs Q E hr h=>?_)
 .obtain⟨v,r,rfl,_⟩:=h
  rfl
 .obtain⟨v,r,rfl,d,k⟩:=h
  obtain⟨t,ws,rfl,ht,ps⟩:=Mx d
  refine⟨_,(ao (cj (aR dN (aH (aK (K:=K) rfl) (pv 0) aA (λ_ _=>rfl)) bD (aW _)) (aG (aU (aH (aK (K:=K) rfl) (pv 0) aA (λ_ _=>rfl)))) bw)
   (aG (aU (jK (aR (Ir (K:=K) rfl) (aH (aK (K:=K) rfl) (pv 0) aA (λ_ _=>rfl)) (cN (aj bD (aj bD aq))) (by with_unfolding_all rfl)) (aH (aK (K:=K) rfl) (pv 0) aA (λ_ _=>rfl)) jh)))), ?_⟩
  have cs:(∃c e,r = .store c e) \/ ∃(x:Str) (ys:List V),ws = .str x::ys/\x≠Str.ofString "store" /\ (x=Str.ofString "load" \/ x=Str.ofString "swap" -> ∃y z,ys=y :: .int (cJ r)::z/\touch r=true)/\(x≠Str.ofString "load" -> x≠Str.ofString "swap" -> touch r=false):=by
   cases r with
   | store c e=>exact .inl ⟨c,e,Z⟩
   | load b c=>exact .inr ⟨_,_,ps,by decide +kernel,λ_=>⟨_,_,Z,Z⟩,λz=>abZ rfl z⟩
   | swap b c e=>
     obtain⟨x,e1,_⟩:=ps;exact .inr ⟨_,_,e1,by decide +kernel,λ_=>⟨_,_,Z,Z⟩,λ_ z=>abZ rfl z⟩
   | vf b e=>
     obtain⟨x,e1,_⟩:=ps;exact .inr ⟨_,_,e1,by decide +kernel,λz=>abZ z (by decide +kernel),λ_ _=>rfl⟩
   | say e=>
     obtain⟨x,e1,_⟩:=ps;exact .inr ⟨_,_,e1,by decide +kernel,λz=>abZ z (by decide +kernel),λ_ _=>rfl⟩
   | go n=>exact .inr ⟨_,_,ps,by decide +kernel,λz=>abZ z (by decide +kernel),λ_ _=>rfl⟩
   | zx q e f n=>
     obtain⟨x,y,e1,_⟩:=ps;exact .inr ⟨_,_,e1,by decide +kernel,λz=>abZ z (by decide +kernel),λ_ _=>rfl⟩
  rcases cs with ⟨c,e,rfl⟩|⟨x,ys,rfl,nx,h1,h2⟩
  .obtain⟨x,rfl,_⟩:=ps
   refine⟨_,Z,_,_,_,_,Z,Z,bO.of ht,Z,Z,_,Z, ?_⟩;refine bK (λ_=>?_) (λz=>abZ (aaM rfl) z);exact⟨_,Z,_,_,_,_,Z,Z,bO.of ht,Z,k H (Same.refl _)⟩
  refine⟨_,Z,_,_,_,_,Z,Z,bO.of ht,Yg,Z,_,Z, ?_⟩;refine bK (λz=>abZ (by simpa using aaO z) nx) (λ_=>?_);refine⟨_,Z,_,_,_,_,Z,Z,bO.of ht,Yg,(by show 2<=sizeLine;decide),λp hp=>?_⟩;have sp:=aD (o:=HO.tup [V.str (Str.ofString "load"),V.str (Str.ofString "swap")]) hp;refine⟨p,_,Z,.inr (bO.of ak),Z,Z,_,Z, ?_⟩
  by_cases z:x=Str.ofString "load" \/ x=Str.ofString "swap"
  .obtain⟨y,w',rfl,tr⟩:=h1 z
   refine bK (λ_=>?_) (λq=>abZ ?_ q)
   .refine⟨_,Z,_,_,_,_,Z,Z,bO.of (sp _ _ ht),ac2, ?_⟩
    have:=k _ sp;unfold G3 at this;rw[abW tr] at this;exact this
   .rcases z with rfl|rfl<;>decide +kernel
  .have n1:x≠Str.ofString "load" :=λq=>z (.inl q)
   have n2:x≠Str.ofString "swap" :=λq=>z (.inr q);have tr:=h2 n1 n2;refine bK (λq=>abZ q ?_) (λ_=>?_)
   .simp[inV,Wz,n1.symm,n2.symm]
   .have:=k _ sp
    unfold G3 at this;rw[abN (by rw[tr];decide)] at this;exact this
noncomputable def Gx:Hq->Nat
 | .one _=>1
 | .two _ _ _=>2
noncomputable def wC(CH:Addr)(n:Nat)(K:PySem.W.Frag):Sp:=λvs H Q _=>∃(A:oR) (s:bJ) (v:V) (e:Hq),vs=[.ref A.h,v]/\mW CH H A s/\Dat H v (lJ e)/\ux e/\Gx e<=n/\Q (.int (vx s.bs e)) H
theorem VD{aC:Addr}{f:Addr}{fd:FuncData}(F:fZ K "value_of" "Hand.value_of" gH f fd):bL P w K mg base iC 1 f fd ["self","part"] (wC aC 0 K):=by
 refine F.ok fU (λvs H Q E h=>?_) (λcdv A outer s H vs Q E hr h=>?_)
 .obtain⟨A,s,v,e,rfl,_,_,_,z,_⟩:=h
  cases e<;>simp[Gx] at z
 .obtain⟨A,s,v,e,rfl,_,_,_,z,_⟩:=h
  cases e<;>simp[Gx] at z
theorem Lj{aC:Addr}{n:Nat}{f:Addr}{fd:FuncData}(F:fZ K "value_of" "Hand.value_of" gH f fd)(cD:MethAt P w K mg base (n+1) aC "value_of" ["self","part"] (wC aC n K))(aM:gj K aC)(fY:Gv mg "BOXES" (.str "abcdefgh"))(iB:Gv mg "ROUND" (.int 1000)):bL P w K mg base iC (n+1+1) f fd ["self","part"] (wC aC (n+1) K):=by
 refine F.ok fU (λvs H Q E h=>?_) (λcdv A outer s H vs Q E hr h=>?_)
 .obtain⟨A,s,v,e,rfl,_⟩:=h
  rfl
 .obtain⟨B,z,v,e,rfl,c,d,eo,dp,k⟩:=h
  refine⟨_,(ao (cj (aR dN (aH (aK (K:=K) rfl) (pv 1) aA (λ_ _=>rfl)) bD (aW _)) (aG (aU (bQ jL (aH (aK (K:=K) rfl) (pv 1) aA (λ_ _=>rfl)) (mD (by rfl) iB.choose_spec.1 iB.choose_spec.2)))) bw)
   (ao (cj (aR dN (aH (aK (K:=K) rfl) (pv 1) aA (λ_ _=>rfl)) bD (aW _)) (aG (aU (aH (aL (K:=K) rfl) (bR (K:=K) rfl (pv 0) rfl) (Cm (K:=K) rfl PySem.F.plainAttrs_str PySem.F.slot_str_index PySem.F.type_str_index zZ (mD (by rfl) fY.choose_spec.1 fY.choose_spec.2) (aj (aH (aK (K:=K) rfl) (pv 1) aA (λ_ _=>rfl)) aq)) (λ_ _=>rfl)))) bw)
   (ao (aQ (i:=2) fU.nd rfl (Or.inl rfl) (dg cD aM.cls (hr.mono (aap _)) (pv 0) (aj (aH (aK (K:=K) rfl) (pv 1) aA (λ_ _=>rfl)) aq)))
   (ao (aQ (i:=3) fU.nd rfl (Or.inl rfl) (dg cD aM.cls (hr.mono (aap _)) (pv 0) (aj (aH (aK (K:=K) rfl) (pv 1) aA (λ_ _=>rfl)) aq)))
   (aG (aU (bQ jL (jK (aR dN (aH (aK (K:=K) rfl) (pv 1) aA (λ_ _=>rfl)) bD (aW _)) (bQ eZ (pv 2) (pv 3)) (bQ qm (pv 2) (pv 3))) (mD (by rfl) iB.choose_spec.1 iB.choose_spec.2)))))))), ?_⟩
  match e,d,eo,dp,k with
  | .one (.num m),d,eo,dp,k=>
    obtain⟨t,rfl,ht⟩:=Ye (x:= .num m) d;refine⟨_,Z,_,_,_,_,Z,Z,bO.of ht,Z,Z,_,Z, ?_⟩;refine bK (λ_=>?_) (λz=>abZ (aaM rfl) z);exact⟨_,Z,_,_,_,_,Z,Z,bO.of ht,Z,_,_,Z,Z,(by show (0:Int)<1000;decide),k⟩
  | .one (.box b),d,eo,dp,k=>
    obtain⟨t,rfl,ht⟩:=Ye (x:= .box b) d;refine⟨_,Z,_,_,_,_,Z,Z,bO.of ht,Z,Z,_,Z, ?_⟩;refine bK (λz=>abZ (aaO z) (by decide)) (λ_=>?_);refine⟨_,Z,_,_,_,_,Z,Z,bO.of ht,Z,Z,_,Z, ?_⟩;refine bK (λ_=>?_) (λz=>abZ (aaM rfl) z);have hb:b<8:=eo;refine⟨_,Z,B.h,aC,B.hx,_,_,Z,c.h,aM.cls,aM.jM,Z,Z,_,Z,_,_,_,_,Z,Z,bO.of ht,Z,_,_,b,[],Z,Z,Ug hb,_,_,_,_,Z,Z,bB.of c.b,bI (v:= .int ((z.bs[b]?).getD 0)) ?_,k⟩;have hl:b<z.bs.length:=by rw[c.bl];exact hb
    rw[aag,aae hl];rfl
  | .two p x y,d,eo,dp,k=>
    obtain⟨t,u,w',rfl,ht,du,dw⟩:=aau d;have e1:ux (.one x)/\ux (.one y):=eo
    have dn:1<=n:=by
     have:2<=n+1:=dp;lia
    have np:∀q:Bool,(Str.ofString "number")≠(if q then Str.ofString "plus" else Str.ofString "minus"):=by decide +kernel
    have nb:∀q:Bool,(Str.ofString "box")≠(if q then Str.ofString "plus" else Str.ofString "minus"):=by decide +kernel
    refine⟨_,Z,_,_,_,_,Z,Z,bO.of ht,Z,Z,_,Z, ?_⟩;refine bK (λz=>abZ (by simpa using (aaO z).symm) (np p)) (λ_=>?_);refine⟨_,Z,_,_,_,_,Z,Z,bO.of ht,Z,Z,_,Z, ?_⟩;refine bK (λz=>abZ (by simpa using (aaO z).symm) (nb p)) (λ_=>?_);refine⟨_,Z,B.h,B.hx,_,Z,c.h,Z,_,Z,_,_,_,_,Z,Z,bO.of ht,Z,B,z,u,.one x,Z,c,du,e1.1,dn, ?_⟩;refine⟨_,Z,B.h,B.hx,_,Z,c.h,Z,_,Z,_,_,_,_,Z,Z,bO.of ht,Z,B,z,w',.one y,Z,c,dw,e1.2,dn, ?_⟩;refine⟨_,Z,_,_,_,_,Z,Z,bO.of ht,Z,Z,_,Z, ?_⟩;cases p with
    | true=>
      refine bK (λ_=>?_) (λz=>abZ (aaM rfl) z);exact⟨_,Z,_,Z,_,_,Z,Z,_,_,Z,Z,(by show (0:Int)<1000;decide),k⟩
    | false=>
      refine bK (λz=>abZ (aaO z) (by decide)) (λ_=>?_);exact⟨_,Z,_,Z,_,_,Z,Z,_,_,Z,Z,(by show (0:Int)<1000;decide),k⟩
theorem O7(e:Hq):Gx e<=2:=by cases e<;>simp[Gx]
noncomputable def Bq(CH:Addr)(K:PySem.W.Frag):Sp:=λvs H Q _=>∃(A:oR) (s:bJ) (v:V) (q:Bool) (e f:Hq) (n:Nat),vs=[.ref A.h,v]/\mW CH H A s/\Dat H v (kZ (.zx q e f n))/\ux e/\ux f/\Q (.bl (uq s.bs (.zx q e f n))) H
theorem RL{aC:Addr}{f:Addr}{fd:FuncData}(F:fZ K "holds" "Hand.holds" mj f fd)(cD:MethAt P w K mg base 3 aC "value_of" ["self","part"] (wC aC 2 K))(aM:gj K aC):bL P w K mg base iC 4 f fd ["self","row"] (Bq aC K):=by
 refine F.ok j_ (λvs H Q E h=>?_) (λcdv A outer s H vs Q E hr h=>?_)
 .obtain⟨A,s,v,q,e,f,n,rfl,_⟩:=h
  rfl
 .obtain⟨B,z,v,q,e,f,n,rfl,c,d,o1,o2,k⟩:=h
  refine⟨_,(ao (aQ (i:=2) j_.nd rfl (Or.inl rfl) (dg cD aM.cls (hr.mono (by decide)) (pv 0) (aj (aH (aK (K:=K) rfl) (pv 1) aA (λ_ _=>rfl)) aq)))
   (ao (aQ (i:=3) j_.nd rfl (Or.inl rfl) (dg cD aM.cls (hr.mono (by decide)) (pv 0) (aj (aH (aK (K:=K) rfl) (pv 1) aA (λ_ _=>rfl)) aq)))
   (aG (aU (jK (aR dN (aH (aK (K:=K) rfl) (pv 1) aA (λ_ _=>rfl)) bD (aW _)) (fW dN (pv 2) (pv 3) (aW _)) (fW pL (pv 2) (pv 3) (aW _))))))), ?_⟩
  obtain⟨t,ws,rfl,ht,x,y,rfl,dx,dy⟩:=Mx d;refine⟨_,Z,B.h,B.hx,_,Z,c.h,Z,_,Z,_,_,_,_,Z,Z,bO.of ht,Z,B,z,x,e,Z,c,dx,o1,O7 e, ?_⟩;refine⟨_,Z,B.h,B.hx,_,Z,c.h,Z,_,Z,_,_,_,_,Z,Z,bO.of ht,Z,B,z,y,f,Z,c,dy,o2,O7 f, ?_⟩;refine⟨_,Z,_,_,_,_,Z,Z,bO.of ht,Z,Z,_,Z, ?_⟩;cases q with
  | true=>
    refine bK (λ_=>?_) (λz=>abZ (aaM rfl) z);refine⟨_,Z,_,Z,Z, ?_⟩
    have:decide (V.int (vx z.bs e)=V.int (vx z.bs f))=uq z.bs (.zx true e f n):=by
     show _=decide (vx z.bs e=vx z.bs f);rw[Bool.eq_iff_iff,decide_eq_true_iff,decide_eq_true_iff];exact⟨λz=>V.int.inj z,λz=>by rw[z]⟩
    rw[this];exact k
  | false=>
    refine bK (λz=>abZ (aaO z) (by decide)) (λ_=>?_);exact⟨_,Z,_,Z,_,_,Z,Z,k⟩
noncomputable def Bm(CH:Addr)(K:PySem.W.Frag):Sp:=λvs H Q _=>∃(A:oR) (s:bJ) (b:Nat) (i:Int),vs=[.ref A.h,.str (rW b),.int i]/\mW CH H A s/\b<8/\Q .non (upd H A.b (.lst ((s.bs.set b i).map V.int)))
theorem VH{aC:Addr}{f:Addr}{fd:FuncData}(F:fZ K "take" "Hand.take" nG f fd)(aM:gj K aC)(fY:Gv mg "BOXES" (.str "abcdefgh")):bL P w K mg base iC 1 f fd ["self","box","number"] (Bm aC K):=by
 refine F.ok Bw (λvs H Q E h=>?_) (λcdv A outer s H vs Q E hr h=>?_)
 .obtain⟨A,s,b,i,rfl,_⟩:=h
  rfl
 .obtain⟨B,z,b,i,rfl,c,hb,k⟩:=h
  refine⟨_,(aG (g8 (pv 2) (jg (bR (K:=K) rfl (pv 0) rfl) (Cm (K:=K) rfl PySem.F.plainAttrs_str PySem.F.slot_str_index PySem.F.type_str_index zZ (mD (by rfl) fY.choose_spec.1 fY.choose_spec.2) (aj (pv 1) aq)) set_list))), ?_⟩;refine⟨_,Z,_,Z,B.h,aC,B.hx,_,_,Z,c.h,aM.cls,aM.jM,Z,Z,_,Z,_,_,b,[],Z,Z,Ug hb, ?_⟩;rw[List.map_set] at k;exact⟨B.b,_,_,b,Z,Z,c.b,(by rw[aad,c.bl];unfold Lz;rw[abW (by lia),abW (by lia)];simp),k⟩
noncomputable def YL(CH:Addr)(K:PySem.W.Frag):Sp:=λvs H Q _=>∃(A:oR) (s:bJ) (v:V) (r:Rw) (m:Nat),vs=[.ref A.h,v]/\mW CH H A s/\Dat H v (kZ r)/\tY m r/\touch r=false/\s.sy.length<1000000 /\ ∀H',mW CH H' A (uV s r)->KH A H H'->Q .non H'
theorem ab0{aC:Addr}{f:Addr}{fd:FuncData}(F:fZ K "do" "Hand.do" tX f fd)(cD:MethAt P w K mg base 3 aC "value_of" ["self","part"] (wC aC 2 K))(oO:MethAt P w K mg base 1 aC "take" ["self","box","number"] (Bm aC K))(Du:MethAt P w K mg base 4 aC "holds" ["self","row"] (Bq aC K))(aM:gj K aC):bL P w K mg base iC 5 f fd ["self","row"] (YL aC K):=by
 refine F.ok Ie (λvs H Q E h=>?_) (λcdv A outer s H vs Q E hr h=>?_)
 .obtain⟨A,s,v,r,m,rfl,_⟩:=h
  rfl
 .obtain⟨B,z,v,r,m,rfl,c,d,ro,tr,sl,k⟩:=h
  refine⟨_,(ao (xM (K:=K) rfl (pv 0) aA Jl)
   (aG (cj (aR dN (aH (aK (K:=K) rfl) (pv 1) aA (λ_ _=>rfl)) bD (aW _)) (aG (cF (dg oO aM.cls (hr.mono (by decide)) (pv 0) (aj (aH (aK (K:=K) rfl) (pv 1) aA (λ_ _=>rfl)) (aj (dg cD aM.cls (hr.mono (by decide)) (pv 0) (aj (aH (aK (K:=K) rfl) (pv 1) aA (λ_ _=>rfl)) aq)) aq))))) (aG (cj (aR dN (aH (aK (K:=K) rfl) (pv 1) aA (λ_ _=>rfl)) bD (aW _)) (aG (cF (cX (K:=K) rfl (bR (K:=K) rfl (pv 0) rfl) (aj (dg cD aM.cls (hr.mono (by decide)) (pv 0) (aj (aH (aK (K:=K) rfl) (pv 1) aA (λ_ _=>rfl)) aq)) aq)))) (aG (cj (PW.pt (lu (aR dN (aH (aK (K:=K) rfl) (pv 1) aA (λ_ _=>rfl)) bD (aW _)) (jJ (iI (eX (dg Du aM.cls (hr.mono (by decide)) (pv 0) (aj (pv 1) aq))))))) (aG (dR (K:=K) rfl (pv 0) (aH (aK (K:=K) rfl) (pv 1) (uN m_ aA) (λ_ _=>rfl)) rfl)) bw))))))), ?_⟩
  refine⟨_,Z,B.h,aC,B.hx,_,_,Z,c.h,aM.cls,aM.ud,Z,_,_,Z,Z,B.hx,_,c.h,(by show 5<1000;decide), ?_⟩;rw[xH];have c1:=c.pY (z.pos+1) z.st;have k1:KH B H (upd H B.h (.ins aC B.hx (hF B.r ((z.pos+1:Nat):Int) B.b B.sy z.st))):=KH.pY;have d1:=d.keep (c.tup k1) _ (yr r);dsimp only;rw[show ((z.pos:Nat):Int)+1=((z.pos+1:Nat):Int) by lia];generalize (upd H B.h (.ins aC B.hx (hF B.r ((z.pos+1:Nat):Int) B.b B.sy z.st)))=H1 at c1 k1 d1 ⊢;obtain⟨t,ws,rfl,ht,ps⟩:=Mx d1;cases r with
  | load b cc=>cases tr
  | store cc e=>cases tr
  | swap b cc e=>cases tr
  | vf b e=>
    obtain⟨x,rfl,dx⟩:=ps;refine⟨_,Z,_,_,_,_,Z,Z,bO.of ht,Z,Z,_,Z, ?_⟩;refine bK (λ_=>?_) (λz=>abZ (aaM rfl) z);refine⟨_,Z,B.h,B.hx,_,Z,c1.h,Z,_,Z,_,_,_,_,Z,Z,bO.of ht,Z,_,Z,B.h,B.hx,_,Z,c1.h,Z,_,Z,_,_,_,_,Z,Z,bO.of ht,Z,B,_,x,e,Z,c1,dx,ro.2,O7 e, ?_⟩;exact⟨B,_,b,_,Z,c1,ro.1,k _ (c1.QJ _ (by rw[aa6];exact c1.bl)) (k1.trans KH.QJ)⟩
  | say e=>
    obtain⟨x,rfl,dx⟩:=ps;refine⟨_,Z,_,_,_,_,Z,Z,bO.of ht,Z,Z,_,Z, ?_⟩;refine bK (λz=>abZ (aaO z) (by decide)) (λ_=>?_);refine⟨_,Z,_,_,_,_,Z,Z,bO.of ht,Z,Z,_,Z, ?_⟩;refine bK (λ_=>?_) (λz=>abZ (aaM rfl) z);refine⟨_,Z,B.h,aC,B.hx,_,_,Z,c1.h,aM.cls,aM.o8,Z,.inl ⟨Z,_,bB.of c1.y⟩,_,Z,B.h,B.hx,_,Z,c1.h,Z,_,Z,_,_,_,_,Z,Z,bO.of ht,Z,B,_,x,e,Z,c1,dx,ro,O7 e, ?_⟩;refine⟨_,_,_,Z,Z,c1.y,(by rw[aad,sizeLine_eq];show z.sy.length<_;lia), ?_⟩;have:=k _ (c1.YQ (z.sy++[vx z.bs e])) (k1.trans KH.YQ);rw[aaX] at this;exact this
  | go n=>
    obtain rfl:=ps;refine⟨_,Z,_,_,_,_,Z,Z,bO.of ht,Z,Z,_,Z, ?_⟩;refine bK (λz=>abZ (aaO z) (by decide)) (λ_=>?_);refine⟨_,Z,_,_,_,_,Z,Z,bO.of ht,Z,Z,_,Z, ?_⟩;refine bK (λz=>abZ (aaO z) (by decide)) (λ_=>?_);refine⟨_,Z,_,_,_,_,Z,Z,bO.of ht,Z,Z,_,Z, ?_⟩;refine bK (λ_=>?_) (λz=>abZ (aaM rfl) z);refine eO ?_;refine⟨_,Z,_,Z,_,_,_,_,Z,Z,bO.of ht,Z,_,Z,B.h,aC,B.hx,_,Z,c1.h,aM.cls,aM.ud,(by show 5<1000;decide), ?_⟩;rw[xH];exact k _ (c1.pY n z.st) (k1.trans KH.pY)
  | zx q e f n=>
    obtain⟨x,y,rfl,dx,dy⟩:=ps;refine⟨_,Z,_,_,_,_,Z,Z,bO.of ht,Z,Z,_,Z, ?_⟩;refine bK (λz=>abZ (aaO z) (by decide)) (λ_=>?_);refine⟨_,Z,_,_,_,_,Z,Z,bO.of ht,Z,Z,_,Z, ?_⟩;refine bK (λz=>abZ (aaO z) (by decide)) (λ_=>?_);refine⟨_,Z,_,_,_,_,Z,Z,bO.of ht,Z,Z,_,Z, ?_⟩;refine bK (λz=>abZ (aaO z) (by decide)) (λ_=>?_);refine⟨_,Z,B.h,B.hx,_,Z,c1.h,Z,_,Z,B,_,_,q,e,f,n,Z,c1,d1,ro.1,ro.2,_,Z, ?_⟩;cases hh:uq z.bs (.zx q e f n) with
    | true=>
      refine dG ?_;refine k _ ?_ k1;show mW aC H1 B {z with pos:=if uq z.bs (.zx q e f n) then z.pos+1 else n};rw[hh];exact c1
    | false=>
      refine eO ?_;refine⟨_,Z,_,Z,_,_,_,_,Z,Z,bO.of ht,Z,_,Z,B.h,aC,B.hx,_,Z,c1.h,aM.cls,aM.ud,(by show 5<1000;decide), ?_⟩;rw[xH];refine k _ ?_ (k1.trans KH.pY);show mW aC _ B {z with pos:=if uq z.bs (.zx q e f n) then z.pos+1 else n};rw[hh];exact c1.pY n z.st
noncomputable def dO(H:Hp)(r:Addr)(m:Nat)(rws:List Rw):Prop:=∃ts,H r=some (.lst ts)/\aO H ts (rws.map kZ)/\(∀x∈rws,tY m x)/\rws.length<=1000
theorem Gn(rws:List Rw):oh (rws.map kZ)=true:=cu kZ yr rws
theorem dO.keep{H H':Hp}{r:Addr}{m:Nat}{rws:List Rw}(h:dO H r m rws)(k:∀o,H r=some o->H' r=some o)(t:∀x xs,H x=some (.tup xs)->H' x=some (.tup xs)):dO H' r m rws:=by
 obtain⟨ts,e,d,q⟩:=h;exact⟨ts,k _ e,d.keep t _ (Gn rws),q⟩
theorem dO.same{H H':Hp}{r:Addr}{m:Nat}{rws:List Rw}(h:dO H r m rws)(k:Same H H'):dO H' r m rws:=h.keep (λo e=>k _ _ e) k.tups
noncomputable def Bp(CH:Addr)(K:PySem.W.Frag):Sp:=λvs H Q _=>∃(A:oR) (s:bJ) (m:Nat),vs=[.ref A.h]/\mW CH H A s/\dO H A.r m s.rws/\A.r≠A.b/\A.r≠A.sy/\s.sy.length<900000 /\ ∀H',mW CH H' A (lead s)->KH A H H'->Q .non H'
theorem VR{aC:Addr}{f:Addr}{fd:FuncData}(F:fZ K "lead_on" "Hand.lead_on" jF f fd)(uI:FnAt P w K mg base 1 "cell_of" ["row"] (wG K))(Py:MethAt P w K mg base 5 aC "do" ["self","row"] (YL aC K))(aM:gj K aC)(fK:Gv mg "MOST_UNTOUCHING" (.int 60))(Bt:rQ mg):bL P w K mg base iC 6 f fd ["self"] (Bp aC K):=by
 refine F.ok jc (λvs H Q E h=>?_) (λcdv A outer s H vs Q E hr h=>?_)
 .obtain⟨A,s,m,rfl,_⟩:=h
  rfl
 .obtain⟨B,s,m,rfl,c,R,V4,nry,sl,k⟩:=h
  refine⟨_,(ao (aQ (i:=1) jc.nd rfl (Or.inl rfl) aA)
   (ao (Rb PassesOwn.never (PW.pt (xG (aR pL (bR (K:=K) rfl (pv 0) rfl) (bf (bH (K:=K) rfl) (by rfl) Bt.iZ fP (aj (bR (K:=K) rfl (pv 0) rfl) aq)) (aW _)) (qW (aR Cr (bh uI (hr.mono (by decide)) (by rfl) (aj (aH (aL (K:=K) rfl) (bR (K:=K) rfl (pv 0) rfl) (bR (K:=K) rfl (pv 0) rfl) (λ_ _=>rfl)) aq)) jh (aW _))))) (ao (cj (aR dN (pv 1) (mD (by rfl) fK.choose_spec.1 fK.choose_spec.2) (aW _)) (ao (dR (K:=K) rfl (pv 0) bD rfl)
   (aG Vp)) bw)
   (ao (cF (dg Py aM.cls (hr.mono (by decide)) (pv 0) (aj (aH (aL (K:=K) rfl) (bR (K:=K) rfl (pv 0) rfl) (bR (K:=K) rfl (pv 0) rfl) (λ_ _=>rfl)) aq)))
   (aG (Za (i:=1) jc.nd rfl (Or.inl rfl) aA Jl)))))
   (aG (dR (K:=K) rfl (pv 0) (jK (aR pL (bR (K:=K) rfl (pv 0) rfl) (bf (bH (K:=K) rfl) (by rfl) Bt.iZ fP (aj (bR (K:=K) rfl (pv 0) rfl) aq)) (aW _)) bD bD) rfl)))), ?_⟩
  have nrh:B.r≠B.h:=by
   obtain⟨ts,e,_⟩:=R;exact cH e c.h (by intro z;cases z)
  refine⟨λn σ H1=>∃(d:Nat) (z:bJ),σ=[some (.ref B.h),some (.int d)]/\d<=60/\n=60 - d/\mW aC H1 B z/\KH B H H1/\led (60 - d) z=lead s/\z.rws=s.rws/\z.sy.length<=s.sy.length+d,
   ⟨60,0,s,Z,by decide,Z,c,KH.of_same (Same.refl _),Z,Z,aap _⟩,λn σ H1 hσ=>?_⟩
  obtain⟨d,z,rfl,d60,rfl,c1,k1,hl,zr,zs⟩:=hσ
  have R1:dO H1 B.r m z.rws:=by
   rw[zr];exact R.keep (λo e=>k1 _ _ e nrh V4 nry) (c.tup k1)
  obtain⟨ts,hts,DW,ro,rl⟩:=R1;have ln:ts.length=z.rws.length:=by rw[DW.length,aad]
  refine⟨_,Z,B.h,aC,B.hx,_,_,Z,c1.h,aM.cls,aM.ud,Z,_,Z,B.h,aC,B.hx,_,_,Z,c1.h,aM.cls,aM.nU,Z,B.r,_,Z,.inl (bB.of hts),_,_,Z,Z,_,Z, ?_⟩;cases er:z.rws[z.pos]? with
  | none=>
    have ge:z.rws.length<=z.pos:=List.getElem?_eq_none_iff.mp er;have lf:¬decide (((z.pos:Nat):Int)<((ts.length:Nat):Int))=true:=by rw[ln];simp;lia
    refine bK (λq=>abZ q lf) (λ_=>?_);refine dG ?_;refine⟨_,Z,B.h,aC,B.hx,_,_,Z,c1.h,aM.cls,aM.ud,Z,_,Z,B.h,aC,B.hx,_,_,Z,c1.h,aM.cls,aM.nU,Z,B.r,_,Z,.inl (bB.of hts),_,_,Z,Z,_,Z, ?_⟩;refine bK (λq=>abZ q lf) (λ_=>?_);refine⟨_,Z,B.h,aC,B.hx,_,Z,c1.h,aM.cls,aM.jY,(by show 5<1000;decide), ?_⟩;rw[Ci];refine k _ ?_ (k1.trans KH.pY)
    have:lead s={z with st:= "ends" }:=by
     rw[←hl];cases e60:60 - d<;>simp only[led,er]
    rw[this];exact c1.pY z.pos "ends"
  | some r=>
    have lt:z.pos<z.rws.length:=(aaf.mp er).1;have lT:decide (((z.pos:Nat):Int)<((ts.length:Nat):Int))=true:=by rw[ln];simp;lia
    obtain⟨v,ev,dv⟩:=DW.getD (i:=z.pos) (d:=kZ r) (by rw[aag,er];rfl);refine bK (λ_=>?_) (λq=>abZ lT q);refine⟨_,Z,B.h,aC,B.hx,_,_,Z,c1.h,aM.cls,aM.nU,Z,_,Z,B.h,aC,B.hx,_,_,Z,c1.h,aM.cls,aM.ud,Z,_,_,_,_,Z,Z,bB.of hts,bI ev,v,r,Z,dv,λH2 s2=>⟨Z,_,Z, ?_⟩⟩;have c2:=c1.same s2;have acq:=s2 _ _ hts;have k2:=k1.trans (KH.of_same (A:=B) s2);cases tr:touch r with
    | true=>
      refine bK (λq=>abZ (aaO q) (by unfold G3;rw[abW tr];intro z;cases z)) (λ_=>?_);refine⟨_,Z,B.h,aC,B.hx,_,_,Z,c2.h,aM.cls,aM.ud,Z,_,Z,B.h,aC,B.hx,_,_,Z,c2.h,aM.cls,aM.nU,Z,B.r,_,Z,.inl (bB.of acq),_,_,Z,Z,_,Z, ?_⟩;refine bK (λ_=>?_) (λq=>abZ lT q);refine⟨_,Z,B.h,aC,B.hx,_,Z,c2.h,aM.cls,aM.jY,(by show 5<1000;decide), ?_⟩;rw[Ci];refine k _ ?_ (k2.trans KH.pY)
      have:lead s={z with st:= "waits" }:=by
       rw[←hl];cases e60:60 - d<;>simp only[led,er,tr,if_true]
      rw[this];exact c2.pY z.pos "waits"
    | false=>
      refine bK (λ_=>?_) (λq=>abZ (aaM (by unfold G3;rw[abN (by rw[tr];decide)])) q);refine⟨λσ' H'=>∃m',m'<60 - d /\ ∃(d:Nat) (z:bJ),σ'=[some (.ref B.h),some (.int d)]/\d<=60/\m'=60 - d/\mW aC H' B z/\KH B H H'/\led (60 - d) z=lead s/\z.rws=s.rws/\z.sy.length<=s.sy.length+d,λ_ _ q=>q, ?_⟩;refine⟨_,Z,Z,_,Z, ?_⟩
      by_cases e6:d=60
      .subst e6
       refine bK (λ_=>?_) (λq=>abZ (aaM rfl) q);refine⟨_,Z,B.h,aC,B.hx,_,Z,c2.h,aM.cls,aM.jY,(by show 5<1000;decide), ?_⟩;rw[Ci];refine k _ ?_ (k2.trans KH.pY)
       have:lead s={z with st:= "lost" }:=by
        rw[←hl];show led 0 z=_;simp only[led,er,tr];rfl
       rw[this];exact c2.pY z.pos "lost"
      .refine bK (λq=>abZ (by have:=V.int.inj (aaO q);lia) e6) (λ_=>?_)
       refine⟨_,Z,B.h,B.hx,_,Z,c2.h,Z,_,Z,B.h,aC,B.hx,_,_,Z,c2.h,aM.cls,aM.nU,Z,_,Z,B.h,aC,B.hx,_,_,Z,c2.h,aM.cls,aM.ud,Z,_,_,_,_,Z,Z,bB.of acq,bI ev,B,z,v,r,m,Z,c2,dv.same s2 _,ro r (aaL er),tr,by lia,λH3 c3 k3=>?_⟩;refine⟨_,Z,_,_,Z,Z,60 - (d+1),by lia,d+1,uV z r,Z,by lia,Z,c3,k2.trans k3, ?_,by rw[Ak,zr], ?_⟩
       .rw[←hl,show 60 - d=(60 - (d+1))+1 by lia]
        simp only[led,er,tr];rfl
       .have:=GD z r
        lia
noncomputable def wF(pg nb hs tn:Addr):List (Str×V):=[("program",.ref pg),("numbers",.ref nb),("hands",.ref hs),("turns",.ref tn)]
noncomputable def gK(m:Int)(ns:List Int):Prop:=(ns.length:Int)=m /\ ∀x∈ns,0<=x/\x<1000
noncomputable def pW(CN:Addr)(K:PySem.W.Frag):Sp:=λvs H Q E=>∃(cl:Addr) (m:Int) (ns:List Int),vs=[.ref cl,.int m]/\H cl=some (.lst (ns.map V.int))/\ns.length<=100/\(gK m ns -> ∀H',Same H H'->Q .non H')/\(¬gK m ns -> ∀H',Same H H'->E (.ref CN) none H')
theorem FQ{f:Addr}{fd:FuncData}(F:fZ K "check_numbers" "check_numbers" jd f fd)(qI:FnAt P w K mg base 2 "is_below" ["value","count"] (Bu K))(iB:Gv mg "ROUND" (.int 1000))(Bt:rQ mg){aP:Addr}(iR:Xr K mg aP "NoNumber"):bL P w K mg base (oW P w) 3 f fd ["cells","count"] (pW aP K):=by
 refine F.Ux tK (λvs H Q E h=>?_) (λcdv A outer s H vs Q E hr h hR=>?_)
 .obtain⟨cl,m,ns,rfl,_⟩:=h
  rfl
 .obtain⟨cl,m,ns,rfl,hc,nl,k1,k2⟩:=h
  refine⟨_,(ao (cj (PW.pt (lu (iI (eX (bf (dD (K:=K) (cv:= .ty "list") (c:= .type "list") rfl rfl) (by rfl) Bt.bV bM (aj (pv 0) (aj (eE (v:= .ty "list") (by rfl) Bt.iy fJ rfl) aq))))) (jJ (aR iD (bf (bH (K:=K) rfl) (by rfl) Bt.iZ fP (aj (pv 0) aq)) (pv 1) (aW _))))) (aG (nJ PySem.F.excBase_ValueError iR.ex iR.bd (by rfl) rfl rfl hR (aj bD aq))) bw)
   (aG (cj (iI (eX (bf (jk (K:=K) rfl rfl) (by rfl) Bt.Uj JN (aj (fH rfl (N:=["number"]) (own:=["number"]) (caps:=[]) (bA.of (by kernel_rfl)) (cV (K:=K) rfl (pv 0)) (λ_ _ _ _=>(aZ (i:=0) (show List.Nodup (["number"]:List Str) by decide +kernel) rfl (Or.inl rfl))) (λ_ _ _ _=>d_) (λ_ _ _ _=>(bh qI (hr.mono (by decide)) (by rfl) (aj (pv 0) (aj (mD (by rfl) iB.choose_spec.1 iB.choose_spec.2) aq))))) aq)))) (aG (nJ PySem.F.excBase_ValueError iR.ex iR.bd (by rfl) rfl rfl hR (aj bD aq))) bw))), ?_⟩
  refine⟨_,Z,_,_,true,Z,.lst hc,kE K,true,Z, ?_⟩;refine dG ?_;refine⟨_,Z,cl,_,Z,.inl (bB.of hc),_,Z,Z,_,Z, ?_⟩;rw[aad]
  by_cases el:(ns.length:Int)=m
  rotate_left
  .refine bK (λ_=>?_) (λz=>abZ (by simp[el]) z)
   exact⟨(by show 1<=sizeLine;decide),k2 (λz=>el z.1) H (Same.refl _)⟩
  refine nY (by rw[el]) ?_;refine⟨_,Z,cl,Z,⟨_,bB.of hc⟩,λD hD=>?_⟩;refine GR (K:=K) (λi=>(ns[i]?).map λx=>V.bl (decide (Ae x 1000))) hD (bB.of hc) (by rw[aad];lia) (λi v H2 G F hi s2 kG kF=>?_) (λH2 s2 e2=>?_)
  .rw[aag] at hi
   cases ei:ns[i]? with
   | none=>rw[ei] at hi;cases hi
   | some z=>
     rw[ei] at hi;cases hi;exact⟨_,Z,z,1000,Z,kF _ H2 (Same.refl _) (by rw[ei];rfl)⟩
  rw[aad,Wu] at e2;refine⟨D,ns.map (λx=>decide (Ae x 1000)),Z,bB.of (by rw[e2,List.map_map];rfl),_,Z, ?_⟩
  by_cases al:∀x∈ns,Ae x 1000
  .have ea:(ns.map (λx=>decide (Ae x 1000))).all id=true:=by
    rw[List.all_map,List.all_eq_true];intro h hh;exact aaM (al h hh)
   rw[ea];refine dG ?_;exact k1 ⟨el,λx hx=>al x hx⟩ H2 s2
  .have ea:(ns.map (λx=>decide (Ae x 1000))).all id=false:=by
    rw[List.all_map,←Bool.not_eq_true,List.all_eq_true];intro z;exact al λh hh=>aaO (p:=Ae h 1000) (z h hh)
   rw[ea];refine eO ?_;exact⟨(by show 1<=sizeLine;decide),k2 (λz=>al λx hx=>z.2 x hx) H2 s2⟩
noncomputable def sY(CW CH:Addr)(K:PySem.W.Frag):Sp:=λvs H Q _=>∃(o dx pg nb hl tn:Addr) (A:oR) (s:bJ) (m:Nat) (ns:List Int) (r:Rw),vs=[.ref o,.ref A.h]/\H o=some (.ins CW dx (wF pg nb hl tn))/\H nb=some (.lst (ns.map V.int))/\ns.length=m/\mW CH H A s/\dO H A.r m s.rws /\
 s.rws[s.pos]? = some r/\touch r=true/\nb≠A.b/\nb≠A.sy /\
 ∀t H',H t=none->H' t=some (.tup (Bj ns s.bs r))->mW CH H' A {s with bs:=qG ns s.bs r}->H' nb=some (.lst ((dh ns s.bs r).map V.int))->(∀x u,H x=some u->x≠nb->x≠A.b->H' x=some u)->Q (.ref t) H'
theorem Iu{aB aC:Addr}{f:Addr}{fd:FuncData}(F:fZ K "touch_by" "Works.touch_by" iH f fd)(uI:FnAt P w K mg base 1 "cell_of" ["row"] (wG K))(cD:MethAt P w K mg base 3 aC "value_of" ["self","part"] (wC aC 2 K))(oO:MethAt P w K mg base 1 aC "take" ["self","box","number"] (Bm aC K))(aN:d9 K aB)(aM:gj K aC):bL P w K mg base iC 4 f fd ["self","one"] (sY aB aC K):=by
 refine F.ok d7 (λvs H Q E h=>?_) (λcdv A outer s H vs Q E hr h=>?_)
 .obtain⟨o,dx,pg,nb,hl,tn,A,s,m,ns,r,rfl,_⟩:=h
  rfl
 .obtain⟨o,dx,pg,nb,hl,tn,B,z,m,ns,r,rfl,ho,hnb,nl,c,R,er,tr,XR,nny,k⟩:=h
  refine⟨_,(ao (aQ (i:=2) d7.nd rfl (Or.inl rfl) (aH (aL (K:=K) rfl) (bR (K:=K) rfl (pv 1) rfl) (bR (K:=K) rfl (pv 1) rfl) (λ_ _=>rfl)))
   (ao (aQ (i:=3) d7.nd rfl (Or.inl rfl) (bh uI (hr.mono (by decide)) (by rfl) (aj (pv 2) aq)))
   (ao (aQ (i:=4) d7.nd rfl (Or.inl rfl) (jK (aR dN (aH (aK (K:=K) rfl) (pv 2) aA (λ_ _=>rfl)) bD (aW _)) jh (aH (aL (K:=K) rfl) (bR (K:=K) rfl (pv 0) rfl) (pv 3) (λ_ _=>rfl))))
   (ao (aQ (i:=5) d7.nd rfl (Or.inl rfl) (jK (aR dN (aH (aK (K:=K) rfl) (pv 2) aA (λ_ _=>rfl)) bD (aW _)) jh (dg cD aM.cls (hr.mono (by decide)) (pv 1) (aj (aH (aK (K:=K) rfl) (pv 2) (uN m_ aA) (λ_ _=>rfl)) aq))))
   (ao (cj (aR Lh (pv 4) jh (aW _)) (aG (cF (dg oO aM.cls (hr.mono (by decide)) (pv 1) (aj (aH (aK (K:=K) rfl) (pv 2) aA (λ_ _=>rfl)) (aj (pv 4) aq))))) bw)
   (ao (cj (aR Lh (pv 5) jh (aW _)) (aG (g8 (pv 5) (jg (bR (K:=K) rfl (pv 0) rfl) (pv 3) set_list))) bw)
   (aG (aU (cN (aj (aH (aK (K:=K) rfl) (pv 2) aA (λ_ _=>rfl)) (aj (pv 3) (aj (pv 4) (aj (pv 5) aq))))))))))))), ?_⟩
  obtain⟨ts,hts,DW,ro,rl⟩:=R;obtain⟨v,ev,dv⟩:=DW.getD (i:=z.pos) (d:=kZ r) (by rw[aag,er];rfl);have Nv:=ro r (aaL er);refine⟨_,Z,B.h,aC,B.hx,_,_,Z,c.h,aM.cls,aM.nU,Z,_,Z,B.h,aC,B.hx,_,_,Z,c.h,aM.cls,aM.ud,Z,_,_,_,_,Z,Z,bB.of hts,bI ev, ?_⟩;refine⟨_,Z,v,r,Z,dv,λH1 s1=>?_⟩;have c1:=c.same s1;have ho1:=s1 _ _ ho;have CP:=s1 _ _ hnb;obtain⟨t,ws,rfl,ht,ps⟩:=Mx (dv.same s1 _);have nob:o≠nb:=cH ho1 CP (by intro z;cases z);have noB:o≠B.b:=cH ho1 c1.b (by intro z;cases z);have ntb:t≠B.b:=cH ht c1.b (by intro z;cases z);have ntn:t≠nb:=cH ht CP (by intro z;cases z);have cellOf:∀cc,cc<m->ns[cc]? = some ((ns[cc]?).getD 0):=λcc h=>by rw[aae (by lia)];rfl
  have cellAt:∀cc,cc<m->(ns.map V.int)[cc]? = some (.int ((ns[cc]?).getD 0)):=λcc h=>by rw[aag,cellOf cc h];rfl
  have acf:∀cc,cc<m->Lz (ns.map V.int).length ((cc:Nat):Int)=some cc:=λcc h=>by rw[aad];unfold Lz;rw[abW (by lia),abW (by lia)];simp
  cases r with
  | load b cc=>
    obtain rfl:=ps;refine⟨_,Z,_,_,_,_,Z,Z,bO.of ht,Z,Z,_,Z, ?_⟩;refine bK (λz=>abZ (aaO z) (by decide)) (λ_=>?_);refine⟨_,Z,o,aB,dx,_,_,Z,ho1,aN.cls,aN.iK,Z,_,Z,_,_,_,_,Z,Z,bB.of CP,bI (cellAt cc Nv.2), ?_⟩;refine⟨_,Z,_,_,_,_,Z,Z,bO.of ht,Z,Z,_,Z, ?_⟩;refine bK (λ_=>?_) (λz=>abZ (aaM rfl) z);refine⟨_,Z,Z,_,Z, ?_⟩;refine eO ?_;refine⟨_,Z,B.h,B.hx,_,Z,c1.h,Z,_,Z,_,_,_,_,Z,Z,bO.of ht,Z,_,Z,B,z,b,_,Z,c1,Nv.1, ?_⟩;refine⟨_,Z,Z,_,Z, ?_⟩;refine dG ?_;have c2:=c1.QJ (z.bs.set b ((ns[cc]?).getD 0)) (by rw[aa6];exact c1.bl);refine⟨_,Z,_,_,_,_,Z,Z,bO.of (by rw[aF ntb];exact ht),Z,_,Z,_,Z,_,Z,(by show 4<=sizeLine;decide),λp hp=>?_⟩;have sp:=aD (o:=HO.tup [V.str (Str.ofString "load"),V.int cc,V.int ((ns[cc]?).getD 0),V.non]) hp;refine k p _ ?_ ?_ (c2.same sp) (sp _ _ (by rw[aF XR];exact CP)) ?_
    .refine s1.free ?_
     have:p≠B.b:=λe=>by rw[e,ak] at hp;cases hp
     rw[aF this] at hp;exact hp
    .rw[ak]
     show some (HO.tup [V.str (Str.ofString "load"),V.int cc,V.int ((ns[cc]?).getD 0),V.non])=some (HO.tup [V.str (Str.ofString "load"),V.int cc,oV (ns[cc]?),V.non]);rw[cellOf cc Nv.2];rfl
    .intro x u e n1 n2
     exact sp _ _ (by rw[aF n2];exact s1 _ _ e)
  | store cc e=>
    obtain⟨x,rfl,dx'⟩:=ps;refine⟨_,Z,_,_,_,_,Z,Z,bO.of ht,Z,Z,_,Z, ?_⟩;refine bK (λ_=>?_) (λz=>abZ (aaM rfl) z);refine⟨_,Z,_,_,_,_,Z,Z,bO.of ht,Z,Z,_,Z, ?_⟩;refine bK (λz=>abZ (aaO z) (by decide)) (λ_=>?_);refine⟨_,Z,B.h,B.hx,_,Z,c1.h,Z,_,Z,_,Z,_,_,_,_,Z,Z,bO.of ht,Z,B,z,x,e,Z,c1,dx',Nv.2,O7 e, ?_⟩;refine⟨_,Z,Z,_,Z, ?_⟩;refine dG ?_;refine⟨_,Z,Z,_,Z, ?_⟩;refine eO ?_;refine⟨_,Z,_,Z,o,aB,dx,_,_,Z,ho1,aN.cls,aN.iK,Z,_,Z,nb,_,_,cc,Z,Z,CP,acf cc Nv.1, ?_⟩;rw[←List.map_set];refine⟨_,Z,_,_,_,_,Z,Z,bO.of (by rw[aF ntn];exact ht),Z,_,Z,_,Z,_,Z,(by show 4<=sizeLine;decide),λp hp=>?_⟩;have sp:=aD (o:=HO.tup [V.str (Str.ofString "store"),V.int cc,V.non,V.int (vx z.bs e)]) hp;have nbh:B.h≠nb:=cH c1.h CP (by intro z;cases z);refine k p _ ?_ ak (mW.same ⟨by rw[aF nbh];exact c1.h,by rw[aF XR.symm];exact c1.b,by rw[aF nny.symm];exact c1.y,c1.Ot,c1.bl⟩ sp) (sp _ _ ak) ?_
    .refine s1.free ?_
     have:p≠nb:=λe=>by rw[e,ak] at hp;cases hp
     rw[aF this] at hp;exact hp
    .intro x u e n1 n2
     exact sp _ _ (by rw[aF n1];exact s1 _ _ e)
  | swap b cc e=>
    obtain⟨x,rfl,dx'⟩:=ps;refine⟨_,Z,_,_,_,_,Z,Z,bO.of ht,Z,Z,_,Z, ?_⟩;refine bK (λz=>abZ (aaO z) (by decide)) (λ_=>?_);refine⟨_,Z,o,aB,dx,_,_,Z,ho1,aN.cls,aN.iK,Z,_,Z,_,_,_,_,Z,Z,bB.of CP,bI (cellAt cc Nv.2.1), ?_⟩;refine⟨_,Z,_,_,_,_,Z,Z,bO.of ht,Z,Z,_,Z, ?_⟩;refine bK (λz=>abZ (aaO z) (by decide)) (λ_=>?_);refine⟨_,Z,B.h,B.hx,_,Z,c1.h,Z,_,Z,_,Z,_,_,_,_,Z,Z,bO.of ht,Z,B,z,x,e,Z,c1,dx',Nv.2.2,O7 e, ?_⟩;refine⟨_,Z,Z,_,Z, ?_⟩;refine eO ?_;refine⟨_,Z,B.h,B.hx,_,Z,c1.h,Z,_,Z,_,_,_,_,Z,Z,bO.of ht,Z,_,Z,B,z,b,_,Z,c1,Nv.1, ?_⟩;refine⟨_,Z,Z,_,Z, ?_⟩;refine eO ?_;have c2:=c1.QJ (z.bs.set b ((ns[cc]?).getD 0)) (by rw[aa6];exact c1.bl);have agJ:(upd H1 B.b (.lst ((z.bs.set b ((ns[cc]?).getD 0)).map V.int))) nb=some (.lst (ns.map V.int)):=by rw[aF XR];exact CP
    refine⟨_,Z,_,Z,o,aB,dx,_,_,Z,(by rw[aF noB];exact ho1),aN.cls,aN.iK,Z,_,Z,nb,_,_,cc,Z,Z,agJ,acf cc Nv.2.1, ?_⟩;rw[←List.map_set];refine⟨_,Z,_,_,_,_,Z,Z,bO.of (by rw[aF ntn,aF ntb];exact ht),Z,_,Z,_,Z,_,Z,(by show 4<=sizeLine;decide),λp hp=>?_⟩;have sp:=aD (o:=HO.tup [V.str (Str.ofString "swap"),V.int cc,V.int ((ns[cc]?).getD 0),V.int (vx z.bs e)]) hp;have nbh:B.h≠nb:=cH c1.h CP (by intro z;cases z);refine k p _ ?_ ?_ (mW.same ⟨by rw[aF nbh];exact c2.h,by rw[aF XR.symm];exact c2.b,by rw[aF nny.symm];exact c2.y,c2.Ot,c2.bl⟩ sp) (sp _ _ ak) ?_
    .refine s1.free ?_
     have n1:p≠nb:=λe=>by rw[e,ak] at hp;cases hp
     rw[aF n1] at hp;have n2:p≠B.b:=λe=>by rw[e,ak] at hp;cases hp
     rw[aF n2] at hp;exact hp
    .rw[ak]
     show some (HO.tup [V.str (Str.ofString "swap"),V.int cc,V.int ((ns[cc]?).getD 0),V.int (vx z.bs e)])=some (HO.tup [V.str (Str.ofString "swap"),V.int cc,oV (ns[cc]?),V.int (vx z.bs e)]);rw[cellOf cc Nv.2.1];rfl
    .intro x u e n1 n2
     exact sp _ _ (by rw[aF n1,aF n2];exact s1 _ _ e)
  | vf b e=>cases tr
  | say e=>cases tr
  | go n=>cases tr
  | zx q e f n=>cases tr
structure Ht where
 (o dx pg L nb hl tn:Addr) (rs:List Addr) (hd:List oR)
structure vA(CH:Addr)(i k m:Nat)(τ:Tg)(H:Hp)(A:oR)(s:bJ):Prop where
 c:mW CH H A s
 r:dO H A.r m s.rws
 tr:τ A.r=[0]
 th:τ A.h=[i,4,k]
 tb:τ A.b=[i,5,k]
 ty:τ A.sy=[i,6,k]
structure kY(CW CH:Addr)(i:Nat)(τ:Tg)(H:Hp)(W:Ht)(S:gU):Prop where
 un:vp τ H
 i0:i≠0
 o:H W.o=some (.ins CW W.dx (wF W.pg W.nb W.hl W.tn))
 pg:H W.pg=some (.tup [.int S.m,.ref W.L])
 L:H W.L=some (.lst (W.rs.map V.ref))
 nb:H W.nb=some (.lst (S.ns.map V.int))
 hl:H W.hl=some (.lst (W.hd.map λa=> .ref a.h))
 tn:H W.tn=some (.lst (S.ts.map V.int))
 to:τ W.o=[i,0]
 tb:τ W.nb=[i,1]
 tl:τ W.hl=[i,2]
 tt:τ W.tn=[i,3]
 tL:τ W.L=[0]
 rl:W.rs.length=S.hs.length
 rs:∀(k:Nat)(r:Addr)(s:bJ),W.rs[k]? = some r->S.hs[k]? = some s->τ r=[0]/\dO H r S.m s.rws
 len:W.hd.length=S.hs.length
 hd:∀(k:Nat)(A:oR)(s:bJ),W.hd[k]? = some A->S.hs[k]? = some s->vA CH i k S.m τ H A s
 ok:∀s∈S.hs,lK s
 sl:∀s∈S.hs,s.sy.length<=60*(S.ts.length+1)
 nl:S.ns.length=S.m
 hn:S.hs.length<=100
section
variable{CW CH:Addr}{i:Nat}{τ τ':Tg}{H H':Hp}{W:Ht}{S:gU}
theorem vA.mv{k m:Nat}{A:oR}{s:bJ}(h:vA CH i k m τ H A s)(q:Mv i τ H τ' H'):vA CH i k m τ' H' A s:=by
 obtain⟨⟨c1,c2,c3,c4,c5⟩,r,tr,th,tb,ty⟩:=h;have e1:=q.keep _ _ c1 (.inr (by rw[th];rfl));have e2:=q.keep _ _ c2 (.inr (by rw[tb];rfl));have e3:=q.keep _ _ c3 (.inr (by rw[ty];rfl));have rr:=r;obtain⟨ts,hr,_⟩:=rr;have e4:=q.keep _ _ hr (.inl tr);exact⟨⟨e1.1,e2.1,e3.1,c4,c5⟩,r.keep (λo e=>(q.keep _ _ e (.inl tr)).1) q.tup,e4.2.trans tr,e1.2.trans th,e2.2.trans tb,e3.2.trans ty⟩
theorem Vk{r:Addr}{m:Nat}{rws:List Rw}(h:τ r=[0]/\dO H r m rws)(q:Mv i τ H τ' H'):τ' r=[0]/\dO H' r m rws:=by
 obtain⟨t,R⟩:=h;have rr:=R;obtain⟨ts,hr,_⟩:=rr;have e4:=q.keep _ _ hr (.inl t);exact⟨e4.2.trans t,R.keep (λo e=>(q.keep _ _ e (.inl t)).1) q.tup⟩
theorem kY.mv(w:kY CW CH i τ H W S)(q:Mv i τ H τ' H')(u:vp τ' H'):kY CW CH i τ' H' W S:=by
 have e1:=q.keep _ _ w.o (.inr (by rw[w.to];rfl));have e2:=q.keep _ _ w.nb (.inr (by rw[w.tb];rfl));have e3:=q.keep _ _ w.hl (.inr (by rw[w.tl];rfl));have e4:=q.keep _ _ w.tn (.inr (by rw[w.tt];rfl));have e5:=q.keep _ _ w.L (.inl w.tL);exact⟨u,w.i0,e1.1,q.tup _ _ w.pg,e5.1,e2.1,e3.1,e4.1,e1.2.trans w.to,e2.2.trans w.tb,e3.2.trans w.tl,e4.2.trans w.tt,e5.2.trans w.tL,w.rl,λk r s h1 h2=>Vk (w.rs k r s h1 h2) q,w.len,λk A s h1 h2=>(w.hd k A s h1 h2).mv q,w.ok,w.sl,w.nl,w.hn⟩
theorem kY.same(w:kY CW CH i τ H W S)(k:Same H H'):kY CW CH i τ H' W S:=w.mv (Mv.of_same k) (w.un.same k)
theorem kY.kp{a:Addr}{o:HO}(w:kY CW CH i τ H W S)(k:Kp a H H')(ha:H a=some o)(hn:∀xs,o ≠ .tup xs)(ht:τ a=[])(ha':∃o',H' a=some o'):kY CW CH i τ H' W S:=
 w.mv (Mv.ab1 k ha hn ht) (w.un.dom λx e=>by
  by_cases z:x=a
  .obtain⟨o',h'⟩:=ha'
   rw[z,h'] at e;cases e
  .exact vR k z e)
theorem kY.hand{k:Nat}{s:bJ}(w:kY CW CH i τ H W S)(h:S.hs[k]? = some s):∃A,W.hd[k]? = some A/\vA CH i k S.m τ H A s:=by
 have:k<W.hd.length:=by rw[w.len];exact(aaf.mp h).1
 exact⟨W.hd[k],by simp[this],w.hd k _ _ (by simp[this]) h⟩
end
noncomputable def qM(CW CH CN:Addr)(K:PySem.W.Frag):Sp:=λvs H Q E=>∃(i:Nat) (τ:Tg) (W:Ht) (S:gU) (h:Int),vs=[.ref W.o,.int h]/\kY CW CH i τ H W S/\(∀(k:Nat)(A:oR)(s:bJ),h=k->W.hd[k]? = some A->S.hs[k]? = some s->Q (.ref A.h) H)/\(¬Ae h S.hs.length->E (.ref CN) none H)
theorem Oe{aB aC:Addr}{f:Addr}{fd:FuncData}(F:fZ K "hand_of" "Works.hand_of" jf f fd)(qI:FnAt P w K mg base 2 "is_below" ["value","count"] (Bu K))(aN:d9 K aB)(Bt:rQ mg){aX:Addr}(rJ:Xr K mg aX "NoHand"):bL P w K mg base (oW P w) 3 f fd ["self","hand"] (qM aB aC aX K):=by
 refine F.Ux tM (λvs H Q E h=>?_) (λcdv A outer s H vs Q E hr h hR=>?_)
 .obtain⟨i,τ,W,S,h,rfl,_⟩:=h
  rfl
 .obtain⟨i,τ,W,S,h,rfl,w,k1,k2⟩:=h
  refine⟨_,(ao (cj (iI (eX (bh qI (hr.mono (by decide)) (by rfl) (aj (pv 1) (aj (bf (bH (K:=K) rfl) (by rfl) Bt.iZ fP (aj (bR (K:=K) rfl (pv 0) rfl) aq)) aq))))) (aG (nJ PySem.F.excBase_ValueError rJ.ex rJ.bd (by rfl) rfl rfl hR (aj bD aq))) bw)
   (aG (aU (aH (aL (K:=K) rfl) (bR (K:=K) rfl (pv 0) rfl) (pv 1) (λ_ _=>rfl))))), ?_⟩
  refine⟨_,Z,_,Z,W.o,aB,W.dx,_,_,Z,w.o,aN.cls,aN.o9,Z,W.hl,_,Z,.inl (bB.of w.hl),h,_,Z,_,Z, ?_⟩;have ll:(W.hd.map λa=>V.ref a.h).length=S.hs.length:=by rw[aad,w.len]
  by_cases hh:Ae h (W.hd.map λa=>V.ref a.h).length
  .rw[aaM hh]
   refine dG ?_;obtain⟨n,rfl⟩:=abD hh.1;have nl:n<S.hs.length:=by have:=hh.2;rw[ll] at this;lia
   have es:S.hs[n]? = some S.hs[n]:=by simp[nl]
   obtain⟨A,eA,_⟩:=w.hand es;exact⟨_,Z,W.o,aB,W.dx,_,_,Z,w.o,aN.cls,aN.o9,Z,_,Z,_,_,_,_,Z,Z,bB.of w.hl,bI (by rw[aag,eA];rfl),k1 n A _ rfl eA es⟩
  .rw[aaN hh]
   refine eO ?_;rw[ll] at hh;exact⟨(by show 1<=sizeLine;decide),k2 hh⟩
noncomputable def QD(CW CH CN:Addr)(K:PySem.W.Frag):Sp:=λvs H Q E=>∃(i:Nat) (τ:Tg) (W:Ht) (S:gU) (h:Int),vs=[.ref W.o,.int h]/\kY CW CH i τ H W S/\(∀(k:Nat)(s:bJ),h=k->S.hs[k]? = some s->Q (.str s.st) H)/\(¬Ae h S.hs.length->E (.ref CN) none H)
theorem Zr{aB aC aX:Addr}{f:Addr}{fd:FuncData}(F:fZ K "how" "Works.how" nF f fd)(jm:jw P w K mg base 3 aB "hand_of" ["self","hand"] (qM aB aC aX K))(aN:d9 K aB)(aM:gj K aC):bL P w K mg base (oW P w) 4 f fd ["self","hand"] (QD aB aC aX K):=by
 refine F.Ux Bv (λvs H Q E h=>?_) (λcdv A outer s H vs Q E hr h hR=>?_)
 .obtain⟨i,τ,W,S,h,rfl,_⟩:=h
  rfl
 .obtain⟨i,τ,W,S,h,rfl,w,k1,k2⟩:=h
  refine⟨_,(aG (aU (bR (K:=K) rfl (nP jm aN.cls rfl hR (hr.mono (by decide)) (pv 0) (aj (pv 1) aq)) rfl))), ?_⟩;refine⟨_,Z,W.o,W.dx,_,Z,w.o,Z,_,Z,i,τ,W,S,h,Z,w,λk A s e eA es=>?_,k2⟩;have a:=w.hd k A s eA es;exact⟨A.h,aC,A.hx,_,_,Z,a.c.h,aM.cls,aM.jY,Z,k1 k s e es⟩
structure pH(C:List (List Nat))(τ:Tg)(H:Hp)(τ':Tg)(H':Hp):Prop where
 keep:∀x u,H x=some u->τ x∉C->H' x=some u/\τ' x=τ x
 tup:∀x xs,H x=some (.tup xs)->H' x=some (.tup xs)
theorem pH.of_same{C:List (List Nat)}{τ:Tg}{H H':Hp}(k:Same H H'):pH C τ H τ H':=⟨λx u e _=>⟨k _ _ e,Z⟩,k.tups⟩
theorem pH.claim{C:List (List Nat)}{τ:Tg}{H H':Hp}{p:Addr}{t:List Nat}(k:Same H H')(hp:H p=none):pH C τ H (bF τ p t) H':=⟨λx u e _=>⟨k _ _ e,bC (au e hp)⟩,k.tups⟩
theorem pH.set{C:List (List Nat)}{τ:Tg}{H:Hp}{x:Addr}{o u:HO}(ht:τ x∈C)(hx:H x=some o)(hn:∀xs,o ≠ .tup xs):pH C τ H τ (upd H x u):=
 ⟨λy v e n=>⟨by rw[aF (λz:y=x=>n (by rw[z];exact ht))];exact e,Z⟩,λy xs e=>by rw[aF (cH e hx λz=>hn xs z.symm)];exact e⟩
theorem pH.trans{C:List (List Nat)}{τ τ1 τ2:Tg}{H H1 H2:Hp}(a:pH C τ H τ1 H1)(b:pH C τ1 H1 τ2 H2):pH C τ H τ2 H2:=⟨λx u e n=>by
 obtain⟨e1,t1⟩:=a.keep x u e n;obtain⟨e2,t2⟩:=b.keep x u e1 (by rw[t1];exact n);exact⟨e2,by rw[t2,t1]⟩,λx xs e=>b.tup _ _ (a.tup _ _ e)⟩
theorem vA.mvT{C:List (List Nat)}{CH:Addr}{i k m:Nat}{τ τ':Tg}{H H':Hp}{A:oR}{s:bJ}(h:vA CH i k m τ H A s)(q:pH C τ H τ' H')(h0:[0]∉C)(h4:[i,4,k]∉C)(h5:[i,5,k]∉C)(h6:[i,6,k]∉C):vA CH i k m τ' H' A s:=by
 obtain⟨⟨c1,c2,c3,c4,c5⟩,r,tr,th,tb,ty⟩:=h;have e1:=q.keep _ _ c1 (by rw[th];exact h4);have e2:=q.keep _ _ c2 (by rw[tb];exact h5);have e3:=q.keep _ _ c3 (by rw[ty];exact h6);have rr:=r;obtain⟨ts,hr,_⟩:=rr;have e4:=q.keep _ _ hr (by rw[tr];exact h0);exact⟨⟨e1.1,e2.1,e3.1,c4,c5⟩,r.keep (λo e=>(q.keep _ _ e (by rw[tr];exact h0)).1) q.tup,e4.2.trans tr,e1.2.trans th,e2.2.trans tb,e3.2.trans ty⟩
theorem gB{C:List (List Nat)}{τ τ':Tg}{H H':Hp}{r:Addr}{m:Nat}{rws:List Rw}(h:τ r=[0]/\dO H r m rws)(q:pH C τ H τ' H')(h0:[0]∉C):τ' r=[0]/\dO H' r m rws:=by
 obtain⟨t,R⟩:=h;have rr:=R;obtain⟨ts,hr,_⟩:=rr;have e4:=q.keep _ _ hr (by rw[t];exact h0);exact⟨e4.2.trans t,R.keep (λo e=>(q.keep _ _ e (by rw[t];exact h0)).1) q.tup⟩
noncomputable def jA(CW CH CN CO:Addr)(K:PySem.W.Frag):Sp:=λvs H Q E=>∃(i:Nat) (τ:Tg) (W:Ht) (S:gU) (h:Int),vs=[.ref W.o,.int h]/\kY CW CH i τ H W S/\S.ts.length<=10000 /\
 (∀(k:Nat)(s:bJ)(r:Rw)(t:Addr)(H':Hp),h=k->S.hs[k]? = some s->s.st = "waits" -> s.rws[s.pos]? = some r->touch r=true->H t=none->H' t=some (.tup (Bj S.ns s.bs r))->kY CW CH i τ H' W (cB S k)->Yi i τ H H'->Q (.ref t) H') /\
 (¬Ae h S.hs.length->E (.ref CN) none H)/\(∀(k:Nat)(s:bJ),h=k->S.hs[k]? = some s->s.st ≠ "waits" -> E (.ref CO) none H)
theorem Qq{S:gU}{k:Nat}{s:bJ}{r:Rw}(es:S.hs[k]? = some s)(er:s.rws[s.pos]? = some r):cB S k={S with ns:=dh S.ns s.bs r,hs:=S.hs.set k (jO S.ns s r),ts:=S.ts++[(k:Int)]}:=by
 unfold cB;simp only[es,er]
theorem JB(ns bs:List Int)(r:Rw):(dh ns bs r).length=ns.length:=by cases r<;>simp[dh]
theorem kY.turned{CW CH:Addr}{i:Nat}{τ:Tg}{H H':Hp}{W:Ht}{S:gU}{k:Nat}{A:oR}{s:bJ}{r:Rw}(w:kY CW CH i τ H W S)(eA:W.hd[k]? = some A)(es:S.hs[k]? = some s)(er:s.rws[s.pos]? = some r)(kp:∀x u,H x=some u->x≠W.nb->x≠A.b->x≠A.h->x≠A.sy->x≠W.tn->H' x=some u)(c:mW CH H' A (jO S.ns s r))(hnb:H' W.nb=some (.lst ((dh S.ns s.bs r).map V.int)))(htn:H' W.tn=some (.lst ((S.ts++[(k:Int)]).map V.int))):kY CW CH i τ H' W (cB S k)/\Yi i τ H H':=by
 have a:=w.hd k A s eA es;have tup:∀x xs,H x=some (.tup xs)->H' x=some (.tup xs):=λx xs e=>kp _ _ e (cH e w.nb (by intro z;cases z)) (cH e a.c.b (by intro z;cases z)) (cH e a.c.h (by intro z;cases z)) (cH e a.c.y (by intro z;cases z)) (cH e w.tn (by intro z;cases z))
 have st:Yi i τ H H':=by
  refine⟨λx u e n=>?_,tup,λx e=>?_⟩
  .have ne:∀(y:Addr)(t:List Nat),τ y=i::t->x≠y:=λy t ty z=>n (by rw[z,ty];rfl)
   exact kp _ _ e (ne _ _ w.tb) (ne _ _ a.tb) (ne _ _ a.th) (ne _ _ a.ty) (ne _ _ w.tt)
  .cases q:H x with
   | none=>rfl
   | some u=>
     have no:∀y o,H' y=some o->x≠y:=λy o h z=>by rw[z,h] at e;cases e
     rw[kp _ _ q (no _ _ hnb) (no _ _ c.b) (no _ _ c.h) (no _ _ c.y) (no _ _ htn)] at e;cases e
 refine⟨?_,st⟩
 have q:pH [[i,1],[i,5,k],[i,4,k],[i,6,k],[i,3]] τ H τ H':=by
  refine⟨λx u e n=>⟨?_,Z⟩,tup⟩;have ne:∀(y:Addr)(t:List Nat),τ y=t->t∈[[i,1],[i,5,k],[i,4,k],[i,6,k],[i,3]]->x≠y:=λy t ty ht z=>n (by rw[z,ty];exact ht);exact kp _ _ e (ne _ _ w.tb (by simp)) (ne _ _ a.tb (by simp)) (ne _ _ a.th (by simp)) (ne _ _ a.ty (by simp)) (ne _ _ w.tt (by simp))
 have i0:=w.i0;have z0:[0]∉[[i,1],[i,5,k],[i,4,k],[i,6,k],[i,3]]:=by simp
 rw[Qq es er];have hk:k<S.hs.length:=(aaf.mp es).1
 have get:∀(j:Nat)(s':bJ),(S.hs.set k (jO S.ns s r))[j]? = some s'->(j=k/\s'=jO S.ns s r)\/(j≠k/\S.hs[j]? = some s'):=λj s' e=>by
  rw[List.getElem?_set] at e
  by_cases z:k=j
  .subst z
   simp[hk] at e;exact .inl ⟨Z,e.symm⟩
  .rw[abN z] at e
   exact .inr ⟨λy=>z y.symm,e⟩
 have gr:(jO S.ns s r).rws=s.rws:=mG _ _;have mem:∀s'∈S.hs.set k (jO S.ns s r),s'=jO S.ns s r\/s'∈S.hs:=λs' m=>(List.mem_or_eq_of_mem_set m).symm;refine⟨st.un w.un,i0,(q.keep _ _ w.o (by rw[w.to];simp)).1,tup _ _ w.pg,(q.keep _ _ w.L (by rw[w.tL];exact z0)).1,hnb,(q.keep _ _ w.hl (by rw[w.tl];simp)).1,htn,w.to,w.tb,w.tl,w.tt,w.tL, ?_, ?_, ?_, ?_, ?_, ?_, ?_, ?_⟩
 .simp[w.rl]
 .intro j r' s' h1 h2
  rcases get j s' h2 with ⟨rfl,rfl⟩|⟨_,h2⟩
  .rw[gr]
   exact gB (w.rs j r' s h1 es) q z0
  .exact gB (w.rs j r' s' h1 h2) q z0
 .simp[w.len]
 .intro j A' s' h1 h2
  rcases get j s' h2 with ⟨rfl,rfl⟩|⟨nj,h2⟩
  .rw[eA] at h1
   cases h1;refine⟨c, ?_,a.tr,a.th,a.tb,a.ty⟩;rw[gr];exact(gB ⟨a.tr,a.r⟩ q z0).2
  .exact(w.hd j A' s' h1 h2).mvT q z0 (by simp[nj]) (by simp[nj]) (by simp[nj])
 .intro s' m
  rcases mem s' m with rfl|m
  .exact yc _ _
  .exact w.ok s' m
 .intro s' m
  simp only[aaS,aa4];rcases mem s' m with rfl|m
  .have:=Ji 60 {s with pos:=s.pos+1,bs:=qG S.ns s.bs r}
   have:=w.sl s (aaL es);show (led 60 _).sy.length<=_;simp only at *;lia
  .have:=w.sl s' m
   lia
 .show (dh S.ns s.bs r).length=S.m
  rw[JB,w.nl]
 .simp[w.hn]
theorem VG{aB aC aX bZ:Addr}{f:Addr}{fd:FuncData}(F:fZ K "turn" "Works.turn" lZ f fd)(jm:jw P w K mg base 3 aB "hand_of" ["self","hand"] (qM aB aC aX K))(uG:MethAt P w K mg base 4 aB "touch_by" ["self","one"] (sY aB aC K))(jT:MethAt P w K mg base 6 aC "lead_on" ["self"] (Bp aC K))(aN:d9 K aB)(aM:gj K aC)(Dq:Xr K mg bZ "Over"):bL P w K mg base (oW P w) 7 f fd ["self","hand"] (jA aB aC aX bZ K):=by
 refine F.Ux j8 (λvs H Q E h=>?_) (λcdv A outer s H vs Q E hr h hR=>?_)
 .obtain⟨i,τ,W,S,h,rfl,_⟩:=h
  rfl
 .obtain⟨i,τ,W,S,h,rfl,w,tl,k1,k2,k3⟩:=h
  refine⟨_,(ao (aQ (i:=2) j8.nd rfl (Or.inl rfl) (nP jm aN.cls rfl hR (hr.mono (by decide)) (pv 0) (aj (pv 1) aq)))
   (ao (cj (aR iD (bR (K:=K) rfl (pv 2) rfl) bD (aW _)) (aG (nJ PySem.F.excBase_ValueError Dq.ex Dq.bd (by rfl) rfl rfl hR (aj bD aq))) bw)
   (ao (aQ (i:=3) j8.nd rfl (Or.inl rfl) (dg uG aN.cls (hr.mono (by decide)) (pv 0) (aj (pv 2) aq)))
   (ao (xM (K:=K) rfl (pv 2) aA Jl)
   (ao (cF (lA jT aM.cls (hr.mono (by decide)) (pv 2)))
   (ao (cF (cX (K:=K) rfl (bR (K:=K) rfl (pv 0) rfl) (aj (pv 1) aq)))
   (aG (aU (pv 3))))))))), ?_⟩
  refine⟨_,Z,W.o,W.dx,_,Z,w.o,Z,_,Z,i,τ,W,S,h,Z,w,λk A s e eA es=>?_,k2⟩;have a:=w.hd k A s eA es;refine⟨_,Z,A.h,aC,A.hx,_,_,Z,a.c.h,aM.cls,aM.jY,Z,Z,_,Z, ?_⟩
  by_cases wt:s.st = "waits"
  rotate_left
  .refine bK (λ_=>?_) (λz=>abZ (by simp[wt]) z)
   exact⟨(by show 1<=sizeLine;decide),k3 k s e es wt⟩
  refine nY (by rw[wt]) ?_;obtain⟨r,er,tr⟩:=w.ok s (aaL es) wt;have XR:W.nb≠A.b:=dU w.tb a.tb (by simp);have nny:W.nb≠A.sy:=dU w.tb a.ty (by simp);refine⟨_,Z,W.o,W.dx,_,Z,w.o,Z,_,Z,W.o,W.dx,W.pg,W.nb,W.hl,W.tn,A,s,S.m,S.ns,r,Z,w.o,w.nb,w.nl,a.c,a.r,er,tr,XR,nny,λt H1 tf t1 c1 nb1 p1=>?_⟩;refine⟨_,Z,A.h,aC,A.hx,_,_,Z,c1.h,aM.cls,aM.ud,Z,_,_,Z,Z,A.hx,_,c1.h,(by show 5<1000;decide), ?_⟩;rw[xH];have c2:=c1.pY (s.pos+1) s.st;have p2:KH A H1 (upd H1 A.h (.ins aC A.hx (hF A.r ((s.pos+1:Nat):Int) A.b A.sy s.st))):=KH.pY;have t2:=c1.tup p2 _ _ t1;dsimp only;rw[show ((s.pos:Nat):Int)+1=((s.pos+1:Nat):Int) by lia];generalize (upd H1 A.h (.ins aC A.hx (hF A.r ((s.pos+1:Nat):Int) A.b A.sy s.st)))=H2 at c2 p2 t2 ⊢;have V4:A.r≠A.b:=dU a.tr a.tb (by intro z;cases z);have nry:A.r≠A.sy:=dU a.tr a.ty (by intro z;cases z);have nrh:A.r≠A.h:=dU a.tr a.th (by intro z;cases z);have nrn:A.r≠W.nb:=dU a.tr w.tb (by intro z;cases z);have aeo:∀x xs,H x=some (.tup xs)->H2 x=some (.tup xs):=λx xs q=>c1.tup p2 _ _ (p1 _ _ q (cH q w.nb (by intro z;cases z)) (cH q a.c.b (by intro z;cases z)));have R2:dO H2 A.r S.m s.rws:=a.r.keep (λo q=>p2 _ _ (p1 _ _ q nrn V4) nrh V4 nry) aeo;have sl:=w.sl s (aaL es);refine⟨_,Z,A.h,A.hx,_,Z,c2.h,Z,A,_,S.m,Z,c2,R2,V4,nry,by show s.sy.length<_;lia,λH3 c3 p3=>?_⟩;have k13:∀x u,H x=some u->x≠W.nb->x≠A.b->x≠A.h->x≠A.sy->H3 x=some u:=λx u q n1 n2 n3 n4=>p3 _ _ (p2 _ _ (p1 _ _ q n1 n2) n3 n2 n4) n3 n2 n4;have o3:=k13 _ _ w.o (dU w.to w.tb (by simp)) (dU w.to a.tb (by simp)) (dU w.to a.th (by simp)) (dU w.to a.ty (by simp));have tn3:=k13 _ _ w.tn (dU w.tt w.tb (by simp)) (dU w.tt a.tb (by simp)) (dU w.tt a.th (by simp)) (dU w.tt a.ty (by simp));have nb3:=p3 _ _ (p2 _ _ nb1 (dU w.tb a.th (by simp)) XR nny) (dU w.tb a.th (by simp)) XR nny;have t3:=c2.tup p3 _ _ t2;refine⟨_,Z,W.o,aB,W.dx,_,_,Z,o3,aN.cls,aN.vQ,Z,.inl ⟨Z,_,bB.of tn3⟩,_,Z,_,_,_,Z,Z,tn3,(by rw[aad,sizeLine_eq];lia), ?_⟩;have k14:∀x u,H x=some u->x≠W.nb->x≠A.b->x≠A.h->x≠A.sy->x≠W.tn->(upd H3 W.tn (.lst (S.ts.map V.int++[V.int h]))) x=some u:=λx u q n1 n2 n3 n4 n5=>by rw[aF n5];exact k13 x u q n1 n2 n3 n4
  have nbt:W.nb≠W.tn:=dU w.tb w.tt (by simp);have c4:mW aC (upd H3 W.tn (.lst (S.ts.map V.int++[V.int h]))) A (jO S.ns s r):=⟨by rw[aF (dU a.th w.tt (by simp))];exact c3.h,by rw[aF (dU a.tb w.tt (by simp))];exact c3.b,by rw[aF (dU a.ty w.tt (by simp))];exact c3.y,c3.Ot,c3.bl⟩;obtain⟨w4,st⟩:=w.turned (H':=upd H3 W.tn (.lst (S.ts.map V.int++[V.int h]))) eA es er k14 c4 (by rw[aF nbt];exact nb3) (by rw[ak,aaX,e];rfl);refine⟨_,Z,k1 k s r t _ e es wt er tr tf ?_ w4 st⟩;rw[aF (cH t3 tn3 (by intro z;cases z))];exact t3
structure Bs(H0:Hp)(τ0:Tg)(o:Addr)(τ:Tg)(H:Hp):Prop where
 un:vp τ H
 kp:Kp o H0 H
 tg:∀x u,H0 x=some u->x≠o->τ x=τ0 x
theorem Bs.same{H0 H H':Hp}{τ0 τ:Tg}{o:Addr}(b:Bs H0 τ0 o τ H)(k:Same H H'):Bs H0 τ0 o τ H':=⟨b.un.same k,b.kp.trans (Kp.of_same k),b.tg⟩
theorem Bs.claim{H0 H H':Hp}{τ0 τ:Tg}{o p:Addr}{t:List Nat}(b:Bs H0 τ0 o τ H)(k:Same H H')(hp:H p=none)(hp':∃u,H' p=some u):Bs H0 τ0 o (bF τ p t) H':=
 ⟨b.un.claim k hp',b.kp.trans (Kp.of_same k),λx u e n=>by rw[bC (au (b.kp _ _ e n) hp)];exact b.tg x u e n⟩
theorem Bs.set{H0 H:Hp}{τ0 τ:Tg}{o x:Addr}{v:HO}(b:Bs H0 τ0 o τ H)(hx:x=o\/H0 x=none):Bs H0 τ0 o τ (upd H x v):=
 ⟨b.un.dom (λy e=>by
   by_cases z:y=x
   .rw[z,ak] at e;cases e
   .rw[aF z] at e;exact e),λy u e n=>by
   have z:y≠x:=by
    rcases hx with rfl|hx
    .exact n
    .exact au e hx
   rw[aF z];exact b.kp _ _ e n,b.tg⟩
theorem Bs.fresh{H0 H:Hp}{τ0 τ:Tg}{o p:Addr}(b:Bs H0 τ0 o τ H)(hp:H p=none)(n:p≠o):H0 p=none:=vR b.kp n hp
noncomputable def gF(CW CH CN:Addr)(K:PySem.W.Frag):Sp:=λvs H Q E=>∃(i:Nat) (τ:Tg) (o dx p L0:Addr) (PX:List Addr) (m:Nat) (cv:V) (ns:List Int) (rws:List (List Rw)),vs=[.ref o,.ref p,cv]/\H o=some (.ins CW dx [])/\H p=some (.tup [.int m,.ref L0])/\H L0=some (.lst (PX.map V.ref))/\PX.length=rws.length /\
 (∀(k:Nat)(r:Addr)(x:List Rw),PX[k]? = some r->rws[k]? = some x->dO H r m x)/\rws.length<=100/\m<=100/\vp τ H/\i≠0/\ns.length<=100/\((cv = .non/\ns=List.replicate m 0) \/ ∃cl,cv = .ref cl/\H cl=some (.lst (ns.map V.int))) /\
 (gK m ns -> ∀(τ':Tg)(W:Ht)(H':Hp),W.o=o->kY CW CH i τ' H' W (iu m ns rws)->(∀x u,H x=some u->x≠o->τ' x=τ x)->Kp o H H'->Q .non H')/\(¬gK m ns -> ∀H',Kp o H H'->E (.ref CN) none H')
theorem lB{α:Type}{l:List α}{x y:α}{k:Nat}(h:(l++[x])[k]? = some y):l[k]? = some y\/(k=l.length/\y=x):=by
 by_cases e:k<l.length
 .rw[aaU e] at h
  exact .inl h
 .rw[aaT (by lia)] at h
  have lt:=(aaf.mp h).1;simp at lt;have:k=l.length:=by lia
  subst this;simp at h;exact .inr ⟨Z,h.symm⟩
theorem Rx{aB aC:Addr}{f:Addr}{fd:FuncData}(F:zM K "__init__" "Works.__init__" bU [.none] f fd)(aN:d9 K aB)(aM:gj K aC){aP:Addr}(vB:pU P w K mg base 3 "check_numbers" ["cells","count"] (pW aP K))(J5:oN P w K mg base 1 aC "Hand" ["self","rows"] [] (vK aC K))(jT:MethAt P w K mg base 6 aC "lead_on" ["self"] (Bp aC K))(Bt:rQ mg):bL P w K mg base (oW P w) 7 f fd ["self","program","cells"] (gF aB aC aP K):=by
 refine F.Ux j9 (λvs H Q E h=>?_) (λcdv A outer s H vs Q E hr h hR=>?_)
 .obtain⟨i,τ,o,dx,p,L0,PX,m,cv,ns,rws,rfl,_⟩:=h
  rfl
 .obtain⟨i,τ,o,dx,p,L0,PX,m,cv,ns,rws,rfl,ho,hp,hL,lr,acy,rl,ml,un,i0,nl,hcv,k1,k2⟩:=h
  refine⟨_,(ao (cj (aR Cr (pv 2) jh (aW _)) (aG (mz (i:=2) rfl j9.nd rfl (Or.inl rfl) (N:=["cell"]) (own:=["cell"]) (caps:=[]) (bA.of (by kernel_rfl)) (fV (by rfl) Bt.gJ (aj (aH (aK (K:=K) rfl) (pv 1) aA (λ_ _=>rfl)) aq)) (λ_ _ _ _=>(aZ (i:=0) (show List.Nodup (["cell"]:List Str) by decide +kernel) rfl (Or.inl rfl))) (λ_ _ _ _=>d_) (λ_ _ _ _=>aA))) bw)
   (ao (cF (Io vB rfl hR (hr.mono (by decide)) (by rfl) (aj (pv 2) (aj (aH (aK (K:=K) rfl) (pv 1) aA (λ_ _=>rfl)) aq))))
   (ao (dR (K:=K) rfl (pv 0) (cN (aj (aH (aK (K:=K) rfl) (pv 1) aA (λ_ _=>rfl)) (aj (fH rfl (N:=["rows"]) (own:=["rows"]) (caps:=[]) (bA.of (by kernel_rfl)) (cV (K:=K) rfl (aH (aK (K:=K) rfl) (pv 1) aA (λ_ _=>rfl))) (λ_ _ _ _=>(aZ (i:=0) (show List.Nodup (["rows"]:List Str) by decide +kernel) rfl (Or.inl rfl))) (λ_ _ _ _=>d_) (λ_ _ _ _=>(eG (cO (K:=K) rfl) (by rfl) Bt.iy fJ (aj (pv 0) aq)))) aq))) rfl)
   (ao (dR (K:=K) rfl (pv 0) (eG (cO (K:=K) rfl) (by rfl) Bt.iy fJ (aj (pv 2) aq)) rfl)
   (ao (dR (K:=K) rfl (pv 0) (fH rfl (N:=["rows"]) (own:=["rows"]) (caps:=[]) (bA.of (by kernel_rfl)) (cV (K:=K) rfl (aH (aK (K:=K) rfl) (bR (K:=K) rfl (pv 0) rfl) aA (λ_ _=>rfl))) (λ_ _ _ _=>(aZ (i:=0) (show List.Nodup (["rows"]:List Str) by decide +kernel) rfl (Or.inl rfl))) (λ_ _ _ _=>d_) (λ_ _ _ _=>(nQ J5 (hr.mono (by decide)) (by rfl) (aj (pv 0) aq)))) rfl)
   (ao (dR (K:=K) rfl (pv 0) (bW aq) rfl)
   (aG (eY PassesOwn.leaving rfl (cV (K:=K) rfl (bR (K:=K) rfl (pv 0) rfl)) (aZ (i:=3) j9.nd rfl (Or.inl rfl))
   (aG (cF (lA jT aM.cls (hr.mono (by decide)) (pv 3)))))))))))), ?_⟩
  refine qP (λσ H1=>∃cl:Addr,σ=[some (.ref o),some (.ref p),some (.ref cl),none]/\H1 cl=some (.lst (ns.map V.int))/\Same H H1) (λD' hD' rt'=>?_) ?_
  .refine⟨_,Z,Z,_,Z, ?_⟩
   rcases hcv with ⟨rfl,rfl⟩|⟨cl,rfl,hcl⟩
   .refine eO ?_
    refine⟨_,Z,_,_,_,_,Z,Z,bO.of hp,Z,_,Z,by lia,by lia,λD hD=>?_⟩;rw[aaY];refine lD (λ_=>some (.int 0)) hD (by lia) (λi H1 G F hi s1 kG kF=>kF _ H1 (Same.refl _) rfl) (λH1 s1 e1=>?_);rw[L_] at e1;exact hD' _ _ ⟨D,Z,e1,s1⟩
   .refine dG ?_
    exact hD' _ _ ⟨cl,Z,hcl,Same.refl _⟩
  rintro σ H1 ⟨cl,rfl,hcl,s1⟩;have hp1:=s1 _ _ hp;refine qO (λR g=>?_);refine⟨_,Z,_,Z,_,_,_,_,Z,Z,bO.of hp1,Z,cl,m,ns,Z,hcl,nl,λgood H2 s2=>?_,λbad H2 s2=>k2 bad H2 (Kp.of_same (s1.trans s2))⟩;refine g _ _ ?_;have Nr:=s1.trans s2;have ho2:=Nr _ _ ho;have hp2:=Nr _ _ hp;have hL2:=Nr _ _ hL;have yt:=s2 _ _ hcl;have Z2:∀(k:Nat)(r:Addr)(x:List Rw),PX[k]? = some r->rws[k]? = some x->dO H2 r m x:=λk r x a b=>(acy k r x a b).same Nr;have B2:Bs H τ o (bF τ o [i,0]) H2:=⟨λx e=>by rw[bC (au ho2 e).symm];exact un.same Nr x e,Kp.of_same Nr,λx u e n=>bC n⟩;have to2:bF τ o [i,0] o=[i,0]:=cP;generalize bF τ o [i,0]=τ2 at B2 to2;refine qO (λR g=>?_);refine⟨_,Z,_,_,_,_,Z,Z,bO.of hp2,Z,_,Z,_,_,_,_,Z,Z,bO.of hp2,Z,L0,Z,⟨_,bB.of hL2⟩,λL hLn=>?_⟩;have sL:=aD (o:=HO.lst []) hLn;have nLo:L≠o:=(au ho2 hLn).symm;refine iQ (K:=K) (xs:=PX.map V.ref) (λj σ Hc=>∃(v:Option V) (τc:Tg) (rs:List Addr),σ=[v]/\rs.length=j/\Same H2 Hc/\Hc L=some (.lst (rs.map V.ref))/\Bs H τ o τc Hc/\τc o=[i,0]/\τc L=[0] /\ ∀(k:Nat)(r:Addr)(x:List Rw),rs[k]? = some r->rws[k]? = some x->r≠L/\τc r=[0]/\dO Hc r m x) ?_ ?_ ?_ ?_
  .exact⟨none,bF τ2 L [0],[],Z,Z,sL,ak,B2.claim sL hLn ⟨_,ak⟩,by rw[bC nLo.symm];exact to2,cP,λk r x h=>by simp at h⟩
  .rintro j σ Hc hj ⟨v,τc,rs,rfl,_,sc,_⟩
   exact bB.of (sc _ _ hL2)
  .rintro j x σ Hc hj ⟨v,τc,rs,rfl,lj,sc,hLc,Bc,toc,tLc,hc⟩
   rw[aag] at hj
   obtain⟨r0,er0,rfl⟩:∃r0,PX[j]? = some r0/\x = .ref r0:=by
    cases e:PX[j]? with
    | none=>rw[e] at hj;cases hj
    | some r0=>rw[e] at hj;exact⟨r0,Z,(aaR hj).symm⟩
   have jl:j<rws.length:=by rw[←lr];exact(aaf.mp er0).1
   have ex:rws[j]? = some rws[j]:=by simp[jl]
   have rr:=Z2 j r0 _ er0 ex;obtain⟨ts,hts,DW,rq,rl'⟩:=rr;dsimp only[gR,Bk];rw[abW rfl];refine⟨_,Z,r0,_,Z,.inl (bB.of (sc _ _ hts)),λr hrn=>?_⟩;have sr:=aD (o:=HO.lst ts) hrn;have nrL:r≠L:=(au hLc hrn).symm;have nro:r≠o:=(au (sc _ _ ho2) hrn).symm;have hLf:H L=none:=Nr.free hLn;refine⟨rs.map V.ref,sr _ _ hLc,(by rw[aad,sizeLine_eq];lia),some (.ref r0),bF τc r [0],rs++[r],Z,by simp[lj],λy u e=>?_,by rw[ak];simp,(Bc.claim sr hrn ⟨_,ak⟩).set (.inr hLf), ?_, ?_, ?_⟩
   .rw[aF (au e hLn)]
    exact sr _ _ (sc _ _ e)
   .rw[bC nro.symm];exact toc
   .rw[bC nrL.symm];exact tLc
   .intro k r' x' h1 h2
    have tups:∀y ys,Hc y=some (.tup ys)->(upd (upd Hc r (.lst ts)) L (.lst (rs.map V.ref++[V.ref r]))) y=some (.tup ys):=λy ys e=>by
     rw[aF (cH e hLc (by intro z;cases z))];exact sr _ _ e
    rcases lB h1 with h1|⟨e1,rfl⟩
    .obtain⟨n1,t1,R1⟩:=hc k r' x' h1 h2
     have rr:=R1;obtain⟨ts',hr',_⟩:=rr;have n2:r'≠r:=au hr' hrn;refine⟨n1,by rw[bC n2];exact t1,R1.keep (λu e=>?_) tups⟩;rw[aF n1];exact sr _ _ e
    .rw[e1,lj,ex] at h2
     cases h2;refine⟨nrL,cP,ts,by rw[aF nrL,ak], ?_,rq,rl'⟩;exact DW.keep (λy ys e=>tups _ _ (sc _ _ e)) _ (Gn _)
  rintro σ H3 ⟨v,τ3,rs,rfl,lrs,s23,hL3,B3,to3,tL3,hr3⟩;rw[aad] at lrs;have ho3:=s23 _ _ ho2;refine⟨(by show 2<=sizeLine;decide),λpg hpg=>?_⟩;have spg:=aD (o:=HO.tup [V.int m,V.ref L]) hpg;refine⟨_,Z,o,aB,dx,_,Z,spg _ _ ho3,aN.cls,aN.t_,(by show 0<1000;decide), ?_⟩;refine g _ _ ?_;have af2:pg≠o:=(au ho3 hpg).symm;have ho4:(upd (upd H3 pg (.tup [V.int m,V.ref L])) o (.ins aB dx (dz "program" (.ref pg) []))) o=some (.ins aB dx [("program",.ref pg)]):=ak;have acC:(upd (upd H3 pg (.tup [V.int m,V.ref L])) o (.ins aB dx (dz "program" (.ref pg) []))) pg=some (.tup [V.int m,V.ref L]):=by rw[aF af2,ak]
  have q4:pH [[i,0]] τ3 H3 τ3 (upd (upd H3 pg (.tup [V.int m,V.ref L])) o (.ins aB dx (dz "program" (.ref pg) []))):=(pH.of_same spg).trans (pH.set (by rw[to3];simp) (spg _ _ ho3) (by intro xs z;cases z));have B4:Bs H τ o τ3 (upd (upd H3 pg (.tup [V.int m,V.ref L])) o (.ins aB dx (dz "program" (.ref pg) []))):=(B3.same spg).set (.inl rfl);have kp4:Kp o H3 (upd (upd H3 pg (.tup [V.int m,V.ref L])) o (.ins aB dx (dz "program" (.ref pg) []))):=(Kp.of_same spg).trans Kp.set;generalize (upd (upd H3 pg (.tup [V.int m,V.ref L])) o (.ins aB dx (dz "program" (.ref pg) [])))=H4 at ho4 acC q4 B4 kp4 ⊢;have hL4:=(q4.keep _ _ hL3 (by rw[tL3];simp)).1;have hr4:∀(k:Nat)(r:Addr)(x:List Rw),rs[k]? = some r->rws[k]? = some x->τ3 r=[0]/\dO H4 r m x:=λk r x h1 h2=>gB ⟨(hr3 k r x h1 h2).2.1,(hr3 k r x h1 h2).2.2⟩ q4 (by simp);have af_:cl≠o:=cH yt ho2 (by intro z;cases z);have Jq:=kp4 _ _ (s23 _ _ yt) af_;refine qO (λR g=>?_);refine⟨_,Z,cl,_,Z,.inl (bB.of Jq),λnb hnb=>?_⟩;have snb:=aD (o:=HO.lst (ns.map V.int)) hnb;refine⟨_,Z,o,aB,dx,_,Z,snb _ _ ho4,aN.cls,aN.iK,(by show 1<1000;decide), ?_⟩;refine g _ _ ?_;have Zz:nb≠o:=(au ho4 hnb).symm;have ho5:(upd (upd H4 nb (.lst (ns.map V.int))) o (.ins aB dx (dz "numbers" (.ref nb) [("program",.ref pg)]))) o=some (.ins aB dx [("program",.ref pg),("numbers",.ref nb)]):=ak;have acG:(upd (upd H4 nb (.lst (ns.map V.int))) o (.ins aB dx (dz "numbers" (.ref nb) [("program",.ref pg)]))) nb=some (.lst (ns.map V.int)):=by rw[aF Zz,ak]
  have q5:pH [[i,0]] τ3 H4 (bF τ3 nb [i,1]) (upd (upd H4 nb (.lst (ns.map V.int))) o (.ins aB dx (dz "numbers" (.ref nb) [("program",.ref pg)]))):=(pH.claim snb hnb).trans (pH.set (by rw[bC Zz.symm,to3];simp) (snb _ _ ho4) (by intro xs z;cases z));have B5:Bs H τ o (bF τ3 nb [i,1]) (upd (upd H4 nb (.lst (ns.map V.int))) o (.ins aB dx (dz "numbers" (.ref nb) [("program",.ref pg)]))):=(B4.claim snb hnb ⟨_,ak⟩).set (.inl rfl);have to5:bF τ3 nb [i,1] o=[i,0]:=by rw[bC Zz.symm];exact to3
  have tn5:bF τ3 nb [i,1] nb=[i,1]:=cP;generalize (upd (upd H4 nb (.lst (ns.map V.int))) o (.ins aB dx (dz "numbers" (.ref nb) [("program",.ref pg)])))=H5 at ho5 acG q5 B5 ⊢;generalize bF τ3 nb [i,1]=τ5 at q5 B5 to5 tn5;have hL5:=q5.keep _ _ hL4 (by rw[tL3];simp);have hr5:∀(k:Nat)(r:Addr)(x:List Rw),rs[k]? = some r->rws[k]? = some x->τ5 r=[0]/\dO H5 r m x:=λk r x h1 h2=>gB (hr4 k r x h1 h2) q5 (by simp);have acB:=q5.tup _ _ acC;have tL5:τ5 L=[0]:=hL5.2.trans tL3;have hL5:=hL5.1;refine qO (λR g=>?_);refine⟨_,Z,o,aB,dx,_,_,Z,ho5,aN.cls,aN.t_,Z,_,_,_,_,Z,Z,bO.of acB,Z,L,Z,⟨_,bB.of hL5⟩,λhl hhl=>?_⟩;have shl:=aD (o:=HO.lst []) hhl;have af6:hl≠o:=(au ho5 hhl).symm;refine iQ (K:=K) (xs:=rs.map V.ref) (λj σ Hc=>∃(v:Option V) (τc:Tg) (hd:List oR),σ=[v]/\hd.length=j/\Same H5 Hc/\Hc hl=some (.lst (hd.map λa=> .ref a.h))/\Bs H τ o τc Hc/\(∀x u,H5 x=some u->τc x=τ5 x)/\τc hl=[i,2] /\ ∀(k:Nat)(A:oR)(x:List Rw),hd[k]? = some A->rws[k]? = some x->vA aC i k m τc Hc A (new x)/\H A.h=none/\H A.b=none/\H A.sy=none) ?_ ?_ ?_ ?_
  .exact⟨none,bF τ5 hl [i,2],[],Z,Z,shl,ak,B5.claim shl hhl ⟨_,ak⟩,λx u e=>bC (au e hhl),cP,λk A x h=>by simp at h⟩
  .rintro j σ Hc hj ⟨v,τc,hd,rfl,_,sc,_⟩
   exact bB.of (sc _ _ hL5)
  .rintro j x σ Hc hj ⟨v,τc,hd,rfl,lj,sc,Wj,Bc,tgc,tlc,hc⟩
   rw[aag] at hj
   obtain⟨r,er,rfl⟩:∃r,rs[j]? = some r/\x = .ref r:=by
    cases e:rs[j]? with
    | none=>rw[e] at hj;cases hj
    | some r0=>rw[e] at hj;exact⟨r0,Z,(aaR hj).symm⟩
   have jl:j<rws.length:=by rw[←lr,←lrs];exact(aaf.mp er).1
   have ex:rws[j]? = some rws[j]:=by simp[jl]
   obtain⟨tr,R⟩:=hr5 j r _ er ex;have rr:=R;obtain⟨ts,hts,_⟩:=rr;dsimp only[gR,Bk];rw[abW rfl];refine⟨_,Z,λh hx hn hxn nhx=>?_⟩;have hn':(upd Hc hx (.own h)) h=none:=by rw[aF nhx.symm];exact hn
   have sm:Same Hc (upd (upd Hc hx (.own h)) h (.ins aC hx [])):=(aD hxn).trans (aD hn');refine⟨h,r,hx,Z,ak,λb sy H7 hb hsy ab6 h7 b7 sy7 k7=>⟨Z, ?_⟩⟩;have S7:Same Hc H7:=λy u e=>k7 _ _ (sm _ _ e) (au e hn);have fb:Hc b=none:=sm.free hb;have fy:Hc sy=none:=sm.free hsy;have nhl:hl≠h:=au Wj hn;have nbl:hl≠b:=au Wj fb;have nyl:hl≠sy:=au Wj fy;have V6:h≠b:=au ak hb;have X3:h≠sy:=au ak hsy;have hlf:H hl=none:=B5.fresh hhl af6;have sH:Same Hc Hc:=Same.refl _;have T:∀x u,Hc x=some u->bF (bF (bF τc h [i,4,j]) b [i,5,j]) sy [i,6,j] x=τc x:=λy u e=>by rw[bC (au e fy),bC (au e fb),bC (au e hn)]
   have B7:Bs H τ o (bF (bF (bF τc h [i,4,j]) b [i,5,j]) sy [i,6,j]) H7:=by
    refine⟨λy e=>?_,Bc.kp.trans (Kp.of_same S7),λy u e n=>?_⟩
    .have n1:y≠h:=λz=>by rw[z,h7] at e;cases e
     have n2:y≠b:=λz=>by rw[z,b7] at e;cases e
     have n3:y≠sy:=λz=>by rw[z,sy7] at e;cases e
     rw[bC n3,bC n2,bC n1];exact Bc.un y (S7.free e)
    .rw[T y u (Bc.kp _ _ e n)]
     exact Bc.tg y u e n
   have q7:pH [[i,2]] τc Hc (bF (bF (bF τc h [i,4,j]) b [i,5,j]) sy [i,6,j]) (upd H7 hl (.lst ((hd.map λa=>V.ref a.h)++[V.ref h]))):=by
    refine⟨λy u e n=>⟨?_,T y u e⟩,λy ys e=>?_⟩
    .rw[aF (λz:y=hl=>n (by rw[z,tlc];simp))]
     exact S7 _ _ e
    .rw[aF (cH e Wj (by intro z;cases z))]
     exact S7 _ _ e
   have Th:bF (bF (bF τc h [i,4,j]) b [i,5,j]) sy [i,6,j] h=[i,4,j]:=by rw[bC X3,bC V6,cP]
   have Tb:bF (bF (bF τc h [i,4,j]) b [i,5,j]) sy [i,6,j] b=[i,5,j]:=by rw[bC ab6,cP]
   have Ty:bF (bF (bF τc h [i,4,j]) b [i,5,j]) sy [i,6,j] sy=[i,6,j]:=cP;generalize bF (bF (bF τc h [i,4,j]) b [i,5,j]) sy [i,6,j]=τ7 at T B7 q7 Th Tb Ty;refine⟨_,S7 _ _ Wj,(by rw[aad,sizeLine_eq];lia),some (.ref r),τ7,hd++[⟨h,hx,r,b,sy⟩],Z,by simp[lj],λy u e=>?_,by rw[ak];simp,B7.set (.inr hlf),λy u e=>?_, ?_, ?_⟩
   .rw[aF (au e hhl)]
    exact S7 _ _ (sc _ _ e)
   .rw[T y u (sc _ _ e)]
    exact tgc y u e
   .rw[T _ _ Wj];exact tlc
   .intro k A x' h1 h2
    rcases lB h1 with h1|⟨e1,rfl⟩
    .exact⟨(hc k A x' h1 h2).1.mvT q7 (by simp) (by simp) (by simp) (by simp),(hc k A x' h1 h2).2⟩
    .rw[e1,lj,ex] at h2
     cases h2;rw[e1,lj];have tr':τc r=[0]:=by rw[tgc _ _ hts];exact tr
     obtain⟨t9,R9⟩:=gB ⟨tr',R.same sc⟩ q7 (by simp);have hoc:=sc _ _ ho5;exact⟨⟨⟨by rw[aF nhl.symm];exact h7,by rw[aF nbl.symm];exact b7,by rw[aF nyl.symm];exact sy7,ab6,Z⟩,R9,t9,Th,Tb,Ty⟩,Bc.fresh hn (au hoc hn).symm,Bc.fresh fb (au hoc fb).symm,Bc.fresh fy (au hoc fy).symm⟩
  rintro σ H8 ⟨v,τ8,hd,rfl,lhd,s58,agO,B8,U_,tl8,hd8⟩;rw[aad] at lhd;have ho8:=s58 _ _ ho5;have Yu:τ8 o=[i,0]:=by rw[U_ _ _ ho5];exact to5
  refine⟨_,Z,o,aB,dx,_,Z,ho8,aN.cls,aN.o9,(by show 2<1000;decide), ?_⟩;refine g _ _ ?_;have ho9:(upd H8 o (.ins aB dx (dz "hands" (.ref hl) [("program",.ref pg),("numbers",.ref nb)]))) o=some (.ins aB dx [("program",.ref pg),("numbers",.ref nb),("hands",.ref hl)]):=ak;have q9:pH [[i,0]] τ8 H8 τ8 (upd H8 o (.ins aB dx (dz "hands" (.ref hl) [("program",.ref pg),("numbers",.ref nb)]))):=pH.set (by rw[Yu];simp) ho8 (by intro xs z;cases z);have B9:Bs H τ o τ8 (upd H8 o (.ins aB dx (dz "hands" (.ref hl) [("program",.ref pg),("numbers",.ref nb)]))):=B8.set (.inl rfl);generalize (upd H8 o (.ins aB dx (dz "hands" (.ref hl) [("program",.ref pg),("numbers",.ref nb)])))=H9 at ho9 q9 B9 ⊢;refine qO (λR g=>?_);refine⟨(by show 0<=sizeLine;decide),λtn htn=>?_⟩;have stn:=aD (o:=HO.lst []) htn;refine⟨_,Z,o,aB,dx,_,Z,stn _ _ ho9,aN.cls,aN.vQ,(by show 3<1000;decide), ?_⟩;refine g _ _ ?_;have Zx:tn≠o:=(au ho9 htn).symm;have OJ:(upd (upd H9 tn (.lst [])) o (.ins aB dx (dz "turns" (.ref tn) [("program",.ref pg),("numbers",.ref nb),("hands",.ref hl)]))) o=some (.ins aB dx (wF pg nb hl tn)):=ak;have X5:(upd (upd H9 tn (.lst [])) o (.ins aB dx (dz "turns" (.ref tn) [("program",.ref pg),("numbers",.ref nb),("hands",.ref hl)]))) tn=some (.lst []):=by rw[aF Zx,ak]
  have Q0:pH [[i,0]] τ8 H9 (bF τ8 tn [i,3]) (upd (upd H9 tn (.lst [])) o (.ins aB dx (dz "turns" (.ref tn) [("program",.ref pg),("numbers",.ref nb),("hands",.ref hl)]))):=(pH.claim stn htn).trans (pH.set (by rw[bC Zx.symm,Yu];simp) (stn _ _ ho9) (by intro xs z;cases z));have B10:Bs H τ o (bF τ8 tn [i,3]) (upd (upd H9 tn (.lst [])) o (.ins aB dx (dz "turns" (.ref tn) [("program",.ref pg),("numbers",.ref nb),("hands",.ref hl)]))):=(B9.claim stn htn ⟨_,ak⟩).set (.inl rfl);have Ni:bF τ8 tn [i,3] o=[i,0]:=by rw[bC Zx.symm];exact Yu
  have Nh:bF τ8 tn [i,3] tn=[i,3]:=cP;have Il:=q9.trans Q0;generalize (upd (upd H9 tn (.lst [])) o (.ins aB dx (dz "turns" (.ref tn) [("program",.ref pg),("numbers",.ref nb),("hands",.ref hl)])))=J6 at OJ X5 Q0 B10 Il ⊢;generalize bF τ8 tn [i,3]=DY at Q0 B10 Ni Nh Il;have Af:=Il.keep _ _ agO (by rw[tl8];simp);have Qt:DY hl=[i,2]:=Af.2.trans tl8;have Af:=Af.1
  have n5:∀x u,H5 x=some u->τ5 x≠[i,0]->J6 x=some u/\DY x=τ5 x:=λx u e n=>by
   have:=Il.keep _ _ (s58 _ _ e) (by rw[U_ _ _ e];simp[n]);exact⟨this.1,by rw[this.2,U_ _ _ e]⟩
  have acM:=n5 _ _ hL5 (by rw[tL5];simp);have X6:=n5 _ _ acG (by rw[tn5];simp);have acD:=Il.tup _ _ (s58 _ _ acB);have agP:∀(k:Nat)(A:oR)(x:List Rw),hd[k]? = some A->rws[k]? = some x->vA aC i k m DY J6 A (new x):=λk A x h1 h2=>(hd8 k A x h1 h2).1.mvT Il (by simp) (by simp) (by simp) (by simp)
  have agE:∀(k:Nat)(r:Addr)(x:List Rw),rs[k]? = some r->rws[k]? = some x->DY r=[0]/\dO J6 r m x:=λk r x h1 h2=>by
   obtain⟨t5,R5⟩:=hr5 k r x h1 h2;have rr:=R5;obtain⟨ts,hts,_⟩:=rr;exact gB ⟨by rw[U_ _ _ hts];exact t5,R5.same s58⟩ Il (by simp)
  have lh:hd.length=rws.length:=by rw[lhd,lrs,lr]
  refine⟨_,Z,o,aB,dx,_,_,Z,OJ,aN.cls,aN.o9,Z,hl,Z,⟨_,bB.of Af⟩, ?_⟩
  refine gC (K:=K) (a:=hl) (xs:=hd.map λa=>V.ref a.h) (λj σ Hc=>∃x1:Option V,σ=[some (.ref o),some (.ref p),some (.ref cl),x1]/\(∀x u,J6 x=some u->(∀k,DY x≠[i,4,k])->(∀k,DY x≠[i,5,k])->(∀k,DY x≠[i,6,k])->Hc x=some u)/\(∀x ys,J6 x=some (.tup ys)->Hc x=some (.tup ys))/\Bs H τ o DY Hc /\
   ∀(k:Nat)(A:oR)(x:List Rw),hd[k]? = some A->rws[k]? = some x->vA aC i k m DY Hc A (if k<j then lead (new x) else new x))
   ⟨none,Z,λx u e _ _ _=>e,λx ys e=>e,B10,λk A x h1 h2=>by rw[abN (by lia)];exact agP k A x h1 h2⟩ (λj σ Hc _ ⟨_,_,kc,_⟩=>bB.of (kc _ _ Af (by rw[Qt];simp) (by rw[Qt];simp) (by rw[Qt];simp))) ?_ ?_
  .rintro j v σ Hc hj ⟨x1,rfl,kc,tc,Bc,hc⟩
   rw[aag] at hj
   obtain⟨A,eA,rfl⟩:∃A,hd[j]? = some A/\v = .ref A.h:=by
    cases e:hd[j]? with
    | none=>rw[e] at hj;cases hj
    | some A=>rw[e] at hj;exact⟨A,Z,(aaR hj).symm⟩
   have jl:j<rws.length:=by rw[←lh];exact(aaf.mp eA).1
   have ex:rws[j]? = some rws[j]:=by simp[jl]
   have a:=hc j A _ eA ex;rw[abN (by lia)] at a;refine⟨_,Z,A.h,A.hx,_,Z,a.c.h,Z,A,_,m,Z,a.c,a.r,dU a.tr a.tb (by intro z;cases z),dU a.tr a.ty (by intro z;cases z),(by show 0<900000;decide),λu6 c12 k12=>?_⟩;have XF:pH [[i,4,j],[i,5,j],[i,6,j]] DY Hc DY u6:=⟨λx u e n=>⟨k12 _ _ e (λz=>n (by rw[z,a.th];simp)) (λz=>n (by rw[z,a.tb];simp)) (λz=>n (by rw[z,a.ty];simp)),Z⟩,a.c.tup k12⟩;refine⟨_,Z,λx u e n4 n5 n6=>(XF.keep _ _ (kc x u e n4 n5 n6) (by simp[n4,n5,n6])).1,λx ys e=>XF.tup _ _ (tc _ _ e), ?_, ?_⟩
   .obtain⟨f1,f2,f3⟩:=(hd8 j A _ eA ex).2
    refine⟨Bc.un.dom λx e=>?_,λx u e n=>k12 _ _ (Bc.kp _ _ e n) (au e f1) (au e f2) (au e f3),Bc.tg⟩;cases q:Hc x with
    | none=>rfl
    | some u=>
      have no:∀y o,u6 y=some o->x≠y:=λy o h z=>by rw[z,h] at e;cases e
      rw[k12 _ _ q (no _ _ c12.h) (no _ _ c12.b) (no _ _ c12.y)] at e;cases e
   .intro k A' x h1 h2
    by_cases z:k=j
    .subst z
     rw[eA] at h1;cases h1;rw[ex] at h2;cases h2;rw[abW (by lia)];have lr':(lead (new rws[k])).rws=rws[k]:=mG _ _;refine⟨c12, ?_,a.tr,a.th,a.tb,a.ty⟩;rw[lr'];exact(gB ⟨a.tr,a.r⟩ XF (by simp)).2
    .have b:=(hc k A' x h1 h2).mvT XF (by simp) (by simp[z]) (by simp[z]) (by simp[z])
     by_cases lt:k<j
     .rw[abW lt] at b
      rw[abW (by lia)];exact b
     .rw[abN lt] at b
      rw[abN (by lia)];exact b
  .rintro σ H11 ⟨x1,rfl,kc,tc,Bc,hc⟩
   rw[aad] at hc;have kt:∀x u t,J6 x=some u->DY x=t->(∀k,t≠[i,4,k])->(∀k,t≠[i,5,k])->(∀k,t≠[i,6,k])->H11 x=some u:=λx u t e et n4 n5 n6=>kc x u e (by rw[et];exact n4) (by rw[et];exact n5) (by rw[et];exact n6);have abv:DY L=[0]:=acM.2.trans tL5;have abm:DY nb=[i,1]:=X6.2.trans tn5
   have get:∀(k:Nat)(s:bJ),(rws.map λr=>lead (new r))[k]? = some s -> ∃x,rws[k]? = some x/\s=lead (new x):=λk s e=>by
    rw[aag] at e;cases q:rws[k]? with
    | none=>rw[q] at e;cases e
    | some x=>rw[q] at e;exact⟨x,Z,(aaR e).symm⟩
   refine k1 good DY ⟨o,dx,pg,L,nb,hl,tn,rs,hd⟩ H11 rfl ⟨Bc.un,i0,kt _ _ _ OJ Ni (by simp) (by simp) (by simp),tc _ _ acD,kt _ _ _ acM.1 abv (by simp) (by simp) (by simp),kt _ _ _ X6.1 abm (by simp) (by simp) (by simp),kt _ _ _ Af Qt (by simp) (by simp) (by simp),kt _ _ _ X5 Nh (by simp) (by simp) (by simp),Ni,abm,Qt,Nh,abv, ?_, ?_, ?_, ?_, ?_, ?_, ?_, ?_⟩ Bc.tg Bc.kp
   .show rs.length=(rws.map _).length
    rw[aad,lrs,lr]
   .intro k r s h1 h2
    obtain⟨x,ex,rfl⟩:=get k s h2;obtain⟨t1,R1⟩:=agE k r x h1 ex;have lr':(lead (new x)).rws=x:=mG _ _;rw[lr'];exact⟨t1,R1.keep (λu e=>kt _ _ _ e t1 (by simp) (by simp) (by simp)) tc⟩
   .show hd.length=(rws.map _).length
    rw[aad,lh]
   .intro k A s h1 h2
    obtain⟨x,ex,rfl⟩:=get k s h2;have:=hc k A x h1 ex;rw[abW (aaf.mp h1).1] at this;exact this
   .intro s ms
    obtain⟨x,_,rfl⟩:=aa2.mp ms;exact yc _ _
   .intro s ms
    obtain⟨x,_,rfl⟩:=aa2.mp ms;exact Ji 60 (new x)
   .have:=good.1
    show ns.length=m;lia
   .show (rws.map _).length<=100
    rw[aad];exact rl
theorem TQ{H:Hp}(x:Option Int):Dat H (oV x) (oD x):=by cases x<;>simp only[oV,oD,Dat]
theorem aas:∀b:Fin 8,pF (Str.ofString "abcdefgh").cps.toList ((b.val:Nat):Int)=some (97+b.val):=by decide +kernel
theorem Ms{i:Int}(h0:0<=i)(h1:i<8):pF (Str.ofString "abcdefgh").cps.toList i=some (97+i.toNat):=by
 have:=aas ⟨i.toNat,by lia⟩;simp only[Int.toNat_of_nonneg h0] at this;exact this
theorem Mz:(Str.ofString "abcdefgh").length<=sizeLine:=by rw[sizeLine_eq];decide
theorem TF{H:Hp}{p:Addr}{x:Qe}(h:H p=some (.tup (match x with | .num n=>[.str "number",.int n] | .box b=>[.str "box",.str (rW b)]))):Dat H (.ref p) (zN x):=by
 cases x<;>simp only[zN,Dat]<;>refine⟨p,_,Z,h, ?_⟩<;>simp only[aO,Dat,and_true]
theorem WR{H:Hp}{p:Addr}{a b:V}{q:Bool}{x y:Qe}(h:H p=some (.tup [.str (if q then "plus" else "minus"),a,b]))(da:Dat H a (zN x))(db:Dat H b (zN y)):Dat H (.ref p) (lJ (.two q x y)):=by
 simp only[lJ,Dat];refine⟨p,_,Z,h, ?_⟩;simp only[aO,Dat,and_true];exact⟨trivial,da,db⟩
section
variable{H:Hp}{p:Addr}{x y:V}{b c n:Nat}{e f:Hq}
theorem TV(h:H p=some (.tup [.str "load",.str (rW b),.int c])):Dat H (.ref p) (kZ (.load b c)):=by
 simp only[kZ,Dat];exact⟨p,_,Z,h,by simp only[aO,Dat,and_true]⟩
theorem O9(h:H p=some (.tup [.str "store",.int c,x]))(d:Dat H x (lJ e)):Dat H (.ref p) (kZ (.store c e)):=by
 simp only[kZ,Dat];exact⟨p,_,Z,h,by simp only[aO,Dat,and_true,true_and];exact d⟩
theorem TJ(h:H p=some (.tup [.str "swap",.str (rW b),.int c,x]))(d:Dat H x (lJ e)):Dat H (.ref p) (kZ (.swap b c e)):=by
 simp only[kZ,Dat];exact⟨p,_,Z,h,by simp only[aO,Dat,and_true,true_and];exact d⟩
theorem WY(h:H p=some (.tup [.str "let",.str (rW b),x]))(d:Dat H x (lJ e)):Dat H (.ref p) (kZ (.vf b e)):=by
 simp only[kZ,Dat];exact⟨p,_,Z,h,by simp only[aO,Dat,and_true,true_and];exact d⟩
theorem WW(h:H p=some (.tup [.str "say",x]))(d:Dat H x (lJ e)):Dat H (.ref p) (kZ (.say e)):=by
 simp only[kZ,Dat];exact⟨p,_,Z,h,by simp only[aO,Dat,and_true,true_and];exact d⟩
theorem aam(h:H p=some (.tup [.str "go",.int n])):Dat H (.ref p) (kZ (.go n)):=by
 simp only[kZ,Dat];exact⟨p,_,Z,h,by simp only[aO,Dat,and_true]⟩
theorem WQ{q:Bool}(h:H p=some (.tup [.str "unless",.str (if q then "=" else "<"),x,y,.int n]))(d:Dat H x (lJ e))(d':Dat H y (lJ f)):Dat H (.ref p) (kZ (.zx q e f n)):=by
 simp only[kZ,Dat];exact⟨p,_,Z,h,by simp only[aO,Dat,and_true,true_and];exact⟨d,d'⟩⟩
end
noncomputable def sZ(CH:Addr)(K:PySem.W.Frag):Sp:=λvs H Q _=>∃(A:oR) (s:bJ),vs=[.ref A.h]/\mW CH H A s /\ ∀(B:oR)(H':Hp),H B.h=none->H B.b=none->H B.sy=none->B.r=A.r->mW CH H' B s->Same H H'->Q (.ref B.h) H'
theorem Y8(r b b' sy:Addr)(n:Int)(st:Str):dz "in_boxes" (.ref b') (hF r n b sy st)=hF r n b' sy st:=by rfl
theorem Y7(r b sy sy':Addr)(n:Int)(st:Str):dz "sayings" (.ref sy') (hF r n b sy st)=hF r n b sy' st:=by rfl
theorem IK{aC:Addr}{f:Addr}{fd:FuncData}(F:fZ K "another" "Hand.another" jG f fd)(aM:gj K aC)(J5:oN P w K mg base 1 aC "Hand" ["self","rows"] [] (vK aC K))(Bt:rQ mg):bL P w K mg base iC 3 f fd ["self"] (sZ aC K):=by
 refine F.ok mQ (λvs H Q E h=>?_) (λcdv A outer s H vs Q E hr h=>?_)
 .obtain⟨A,s,rfl,_⟩:=h
  rfl
 .obtain⟨B,s,rfl,c,k⟩:=h
  refine⟨_,(ao (aQ (i:=1) mQ.nd rfl (Or.inl rfl) (nQ J5 (hr.mono (by decide)) (by rfl) (aj (bR (K:=K) rfl (pv 0) rfl) aq)))
   (ao (dR (K:=K) rfl (pv 1) (bR (K:=K) rfl (pv 0) rfl) rfl)
   (ao (dR (K:=K) rfl (pv 1) (eG (cO (K:=K) rfl) (by rfl) Bt.iy fJ (aj (bR (K:=K) rfl (pv 0) rfl) aq)) rfl)
   (ao (dR (K:=K) rfl (pv 1) (eG (cO (K:=K) rfl) (by rfl) Bt.iy fJ (aj (bR (K:=K) rfl (pv 0) rfl) aq)) rfl)
   (ao (dR (K:=K) rfl (pv 1) (bR (K:=K) rfl (pv 0) rfl) rfl)
   (aG (aU (pv 1)))))))), ?_⟩
  refine⟨_,Z,B.h,aC,B.hx,_,_,Z,c.h,aM.cls,aM.nU,Z,λh hx hh hhx nx=>?_⟩;have hh':(upd H hx (.own h)) h=none:=by rw[aF nx.symm];exact hh
  have sm:Same H (upd (upd H hx (.own h)) h (.ins aC hx [])):=(aD hhx).trans (aD hh');refine⟨h,B.r,hx,Z,ak,λb0 Ve H1 hb0 ak1 akB e1 eb1 alA k1=>⟨Z, ?_⟩⟩;have S1:Same H H1:=λx u e=>k1 _ _ (sm _ _ e) (au e hh);clear k1 sm hh';have c1:=c.same S1;refine⟨_,Z,B.h,aC,B.hx,_,_,Z,c1.h,aM.cls,aM.ud,Z,_,Z,h,aC,hx,_,Z,e1,aM.cls,aM.ud,(by show 5<1000;decide), ?_⟩;rw[xH];have S2:Same H (upd H1 h (.ins aC hx (hF B.r s.pos b0 Ve "waits"))):=λx u e=>by rw[aF (au e hh)];exact S1 _ _ e
  have e2:(upd H1 h (.ins aC hx (hF B.r s.pos b0 Ve "waits"))) h=some (.ins aC hx (hF B.r s.pos b0 Ve "waits")):=ak;generalize (upd H1 h (.ins aC hx (hF B.r s.pos b0 Ve "waits")))=H2 at S2 e2 ⊢;have c2:=c.same S2;refine⟨_,Z,B.h,aC,B.hx,_,_,Z,c2.h,aM.cls,aM.jM,Z,B.b,_,Z,.inl (bB.of c2.b),λb hb=>?_⟩;have sb:=aD (o:=HO.lst (s.bs.map V.int)) hb;have V6:b≠h:=(au e2 hb).symm;refine⟨_,Z,h,aC,hx,_,Z,sb _ _ e2,aM.cls,aM.jM,(by show 5<1000;decide), ?_⟩;rw[Y8];have fb:H b=none:=S2.free hb;have S3:Same H (upd (upd H2 b (.lst (s.bs.map V.int))) h (.ins aC hx (hF B.r s.pos b Ve "waits"))):=λx u e=>by rw[aF (au e hh)];exact sb _ _ (S2 _ _ e)
  have e3:(upd (upd H2 b (.lst (s.bs.map V.int))) h (.ins aC hx (hF B.r s.pos b Ve "waits"))) h=some (.ins aC hx (hF B.r s.pos b Ve "waits")):=ak;have eb3:(upd (upd H2 b (.lst (s.bs.map V.int))) h (.ins aC hx (hF B.r s.pos b Ve "waits"))) b=some (.lst (s.bs.map V.int)):=by rw[aF V6,ak]
  generalize (upd (upd H2 b (.lst (s.bs.map V.int))) h (.ins aC hx (hF B.r s.pos b Ve "waits")))=H3 at S3 e3 eb3 ⊢;have c3:=c.same S3;refine⟨_,Z,B.h,aC,B.hx,_,_,Z,c3.h,aM.cls,aM.o8,Z,B.sy,_,Z,.inl (bB.of c3.y),λy hy=>?_⟩;have sy:=aD (o:=HO.lst (s.sy.map V.int)) hy;have X3:y≠h:=(au e3 hy).symm;have Ot:b≠y:=au eb3 hy;refine⟨_,Z,h,aC,hx,_,Z,sy _ _ e3,aM.cls,aM.o8,(by show 5<1000;decide), ?_⟩;rw[Y7];have fy:H y=none:=S3.free hy;have S4:Same H (upd (upd H3 y (.lst (s.sy.map V.int))) h (.ins aC hx (hF B.r s.pos b y "waits"))):=λx u e=>by rw[aF (au e hh)];exact sy _ _ (S3 _ _ e)
  have e4:(upd (upd H3 y (.lst (s.sy.map V.int))) h (.ins aC hx (hF B.r s.pos b y "waits"))) h=some (.ins aC hx (hF B.r s.pos b y "waits")):=ak;have eb4:(upd (upd H3 y (.lst (s.sy.map V.int))) h (.ins aC hx (hF B.r s.pos b y "waits"))) b=some (.lst (s.bs.map V.int)):=by rw[aF V6];exact sy _ _ eb3
  have ey4:(upd (upd H3 y (.lst (s.sy.map V.int))) h (.ins aC hx (hF B.r s.pos b y "waits"))) y=some (.lst (s.sy.map V.int)):=by rw[aF X3,ak]
  generalize (upd (upd H3 y (.lst (s.sy.map V.int))) h (.ins aC hx (hF B.r s.pos b y "waits")))=H4 at S4 e4 eb4 ey4 ⊢;have c4:=c.same S4;refine⟨_,Z,B.h,aC,B.hx,_,_,Z,c4.h,aM.cls,aM.jY,Z,_,Z,h,aC,hx,_,Z,e4,aM.cls,aM.jY,(by show 5<1000;decide), ?_⟩;rw[Ci];exact⟨_,Z,k ⟨h,hx,B.r,b,y⟩ _ hh fb fy rfl ⟨ak,by rw[aF V6];exact eb4,by rw[aF X3];exact ey4,Ot,c.bl⟩ (λx u e=>by rw[aF (au e hh)];exact S4 _ _ e)⟩
noncomputable def HS(CW CH:Addr)(K:PySem.W.Frag):Sp:=λvs H Q _=>∃(i i':Nat) (τ:Tg) (W:Ht) (S:gU),vs=[.ref W.o]/\kY CW CH i τ H W S/\rP S/\S.m<=100/\i'≠0 /\ ∀(τ':Tg)(W':Ht)(H':Hp),kY CW CH i' τ' H' W' S->(∀x u,H x=some u->τ' x=τ x)->Same H H'->Q (.ref W'.o) H'
theorem VF{aB aC aP:Addr}{f:Addr}{fd:FuncData}(F:fZ K "twin" "Works.twin" lY f fd)(aN:d9 K aB)(aM:gj K aC)(iz:oN P w K mg base 7 aB "Works" ["self","program","cells"] [] (λvs H Q _=>gF aB aC aP K vs H Q λ_ _ _=>False))(yW:MethAt P w K mg base 3 aC "another" ["self"] (sZ aC K))(Bt:rQ mg):bL P w K mg base iC 9 f fd ["self"] (HS aB aC K):=by
 refine F.ok pJ (λvs H Q E h=>?_) (λcdv A outer s H vs Q E hr h=>?_)
 .obtain⟨i,i',τ,W,S,rfl,_⟩:=h
  rfl
 .obtain⟨i,i',τ,W,S,rfl,w,g,ml,i0,k⟩:=h
  refine⟨_,(ao (aQ (i:=1) pJ.nd rfl (Or.inl rfl) (nQ iz (hr.mono (by decide)) (by rfl) (aj (bR (K:=K) rfl (pv 0) rfl) (aj (bR (K:=K) rfl (pv 0) rfl) aq))))
   (ao (dR (K:=K) rfl (pv 1) (fH rfl (N:=["one"]) (own:=["one"]) (caps:=[]) (bA.of (by kernel_rfl)) (cV (K:=K) rfl (bR (K:=K) rfl (pv 0) rfl)) (λ_ _ _ _=>(aZ (i:=0) (show List.Nodup (["one"]:List Str) by decide +kernel) rfl (Or.inl rfl))) (λ_ _ _ _=>d_) (λ_ _ _ _=>(lA yW aM.cls (hr.mono (by decide)) (pv 0)))) rfl)
   (ao (dR (K:=K) rfl (pv 1) (eG (cO (K:=K) rfl) (by rfl) Bt.iy fJ (aj (bR (K:=K) rfl (pv 0) rfl) aq)) rfl)
   (aG (aU (pv 1)))))), ?_⟩
  have good:gK S.m S.ns:=⟨by rw[w.nl],g.n⟩;refine⟨_,Z,W.o,aB,W.dx,_,_,Z,w.o,aN.cls,aN.t_,Z,_,Z,W.o,aB,W.dx,_,_,Z,w.o,aN.cls,aN.iK,Z,λo dx ho hdx ndx=>?_⟩;have ho':(upd H dx (.own o)) o=none:=by rw[aF ndx.symm];exact ho
  have sm:Same H (upd (upd H dx (.own o)) o (.ins aB dx [])):=(aD hdx).trans (aD ho');refine⟨i',τ,o,dx,W.pg,W.L,W.rs,S.m,.ref W.nb,S.ns,S.hs.map bJ.rws,Z,ak,sm _ _ w.pg,sm _ _ w.L,by rw[aad];exact w.rl,λkk r x h1 h2=>?_,by rw[aad];exact w.hn,ml,w.un.same sm,i0,by rw[w.nl];exact ml,.inr ⟨W.nb,Z,sm _ _ w.nb⟩,λ_ τ1 W1 H1 eo w1 tg kp=>⟨Z, ?_⟩,λbad=>abZ good bad⟩
  .rw[aag] at h2
   cases e:S.hs[kk]? with
   | none=>rw[e] at h2;cases h2
   | some s=>rw[e] at h2;cases h2;exact(w.rs kk r s h1 e).2.same sm
  have S1:Same H H1:=λx u e=>kp _ _ (sm _ _ e) (au e ho);have Hs:∀x u,H x=some u->τ1 x=τ x:=λx u e=>tg x u (sm _ _ e) (au e ho);have fo:H W1.o=none:=by rw[eo];exact ho
  have eo':V.ref o=V.ref W1.o:=by rw[eo]
  rw[eo'];clear kp tg sm ho' eo';have wA:kY aB aC i τ1 H1 W S:=w.mv (Mv.tags S1 Hs) w1.un;refine⟨_,Z,W.o,aB,W.dx,_,_,Z,wA.o,aN.cls,aN.o9,Z,W.hl,Z,⟨_,bB.of wA.hl⟩,λD hD=>?_⟩;have sD:=aD (o:=HO.lst []) hD;refine iQ (K:=K) (xs:=W.hd.map λa=>V.ref a.h) (λj σ Hc=>∃(v:Option V) (τc:Tg) (hd:List oR),σ=[v]/\hd.length=j/\Same H1 Hc/\Hc D=some (.lst (hd.map λa=> .ref a.h))/\vp τc Hc/\(∀x u,H1 x=some u->τc x=τ1 x)/\τc D=[i',2] /\ ∀(k:Nat)(A:oR)(s:bJ),hd[k]? = some A->S.hs[k]? = some s->vA aC i' k S.m τc Hc A s) ?_ ?_ ?_ ?_
  .exact⟨none,bF τ1 D [i',2],[],Z,Z,sD,ak,w1.un.claim sD ⟨_,ak⟩,λx u e=>bC (au e hD),cP,λk A s e=>by simp at e⟩
  .rintro j σ Hc _ ⟨v,τc,hd,rfl,_,sc,_⟩
   exact bB.of (sc _ _ wA.hl)
  .rintro j x σ Hc hj ⟨v,τc,hd,rfl,lj,sc,hDc,unc,tgc,tDc,hc⟩
   rw[aag] at hj
   obtain⟨A,eA,rfl⟩:∃A,W.hd[j]? = some A/\x = .ref A.h:=by
    cases e:W.hd[j]? with
    | none=>rw[e] at hj;cases hj
    | some A=>rw[e] at hj;exact⟨A,Z,(aaR hj).symm⟩
   have wc:kY aB aC i τc Hc W S:=wA.mv (Mv.tags sc tgc) unc;have jl:j<S.hs.length:=by rw[←w.len];exact(aaf.mp eA).1
   have es:S.hs[j]? = some S.hs[j]:=by simp[jl]
   have a:=wc.hd j A _ eA es;dsimp only[gR,Bk];rw[abW rfl];refine⟨_,Z,A.h,A.hx,_,Z,a.c.h,Z,A,_,Z,a.c,λB H7 fh fb fy er c7 s7=>?_⟩;have nDh:D≠B.h:=au hDc fh;have ZF:D≠B.b:=au hDc fb;have nDy:D≠B.sy:=au hDc fy;have T:∀x u,Hc x=some u->bF (bF (bF τc B.h [i',4,j]) B.b [i',5,j]) B.sy [i',6,j] x=τc x:=λy u e=>by rw[bC (au e fy),bC (au e fb),bC (au e fh)]
   have U7:vp (bF (bF (bF τc B.h [i',4,j]) B.b [i',5,j]) B.sy [i',6,j]) H7:=λy e=>by
    have n1:y≠B.h:=λz=>by rw[z,c7.h] at e;cases e
    have n2:y≠B.b:=λz=>by rw[z,c7.b] at e;cases e
    have n3:y≠B.sy:=λz=>by rw[z,c7.y] at e;cases e
    rw[bC n3,bC n2,bC n1];exact unc y (s7.free e)
   have Th:bF (bF (bF τc B.h [i',4,j]) B.b [i',5,j]) B.sy [i',6,j] B.h=[i',4,j]:=by rw[bC c7.X3,bC c7.V6,cP]
   have Tb:bF (bF (bF τc B.h [i',4,j]) B.b [i',5,j]) B.sy [i',6,j] B.b=[i',5,j]:=by rw[bC c7.Ot,cP]
   have Ty:bF (bF (bF τc B.h [i',4,j]) B.b [i',5,j]) B.sy [i',6,j] B.sy=[i',6,j]:=cP;generalize bF (bF (bF τc B.h [i',4,j]) B.b [i',5,j]) B.sy [i',6,j]=τ7 at T U7 Th Tb Ty
   have q7:pH [[i',2]] τc Hc τ7 (upd H7 D (.lst ((hd.map λa=>V.ref a.h)++[V.ref B.h]))):=by
    refine⟨λy u e n=>⟨?_,T y u e⟩,λy ys e=>?_⟩
    .rw[aF (λz:y=D=>n (by rw[z,tDc];simp))]
     exact s7 _ _ e
    .rw[aF (cH e hDc (by intro z;cases z))]
     exact s7 _ _ e
   have hjl:hd.length<=100:=by rw[lj];have:=w.hn;lia
   refine⟨_,s7 _ _ hDc,(by rw[aad,sizeLine_eq];lia),some (.ref A.h),τ7,hd++[B],Z,by simp[lj],λy u e=>?_,by rw[ak];simp, ?_,λy u e=>?_, ?_, ?_⟩
   .rw[aF (au e hD)]
    exact s7 _ _ (sc _ _ e)
   .exact U7.dom λy e=>by
     by_cases z:y=D
     .rw[z,ak] at e;cases e
     .rw[aF z] at e;exact e
   .rw[T y u (sc _ _ e)]
    exact tgc y u e
   .rw[T _ _ hDc];exact tDc
   .intro k A' s' h1 h2
    rcases lB h1 with h1|⟨e1,rfl⟩
    .exact(hc k A' s' h1 h2).mvT q7 (by simp) (by simp) (by simp) (by simp)
    .rw[e1,lj,es] at h2
     cases h2;rw[e1,lj];obtain⟨t9,R9⟩:=gB ⟨a.tr,a.r⟩ q7 (by simp);exact⟨⟨by rw[aF nDh.symm];exact c7.h,by rw[aF ZF.symm];exact c7.b,by rw[aF nDy.symm];exact c7.y,c7.Ot,c7.bl⟩,by rw[er];exact R9,by rw[er];exact t9,Th,Tb,Ty⟩
  rintro σ H8 ⟨v,τ8,hd,rfl,lhd,s18,hD8,un8,U_,tD8,hd8⟩;rw[aad] at lhd;have ho8:=s18 _ _ w1.o;have Yu:τ8 W1.o=[i',0]:=by rw[U_ _ _ w1.o];exact w1.to
  refine⟨_,Z,W1.o,aB,W1.dx,_,Z,ho8,aN.cls,aN.o9,(by show 4<1000;decide), ?_⟩;have ho9:(upd H8 W1.o (.ins aB W1.dx (dz "hands" (.ref D) (wF W1.pg W1.nb W1.hl W1.tn)))) W1.o=some (.ins aB W1.dx (wF W1.pg W1.nb D W1.tn)):=ak;have q9:pH [[i',0]] τ8 H8 τ8 (upd H8 W1.o (.ins aB W1.dx (dz "hands" (.ref D) (wF W1.pg W1.nb W1.hl W1.tn)))):=pH.set (by rw[Yu];simp) ho8 (by intro xs z;cases z)
  have un9:vp τ8 (upd H8 W1.o (.ins aB W1.dx (dz "hands" (.ref D) (wF W1.pg W1.nb W1.hl W1.tn)))):=un8.dom λy e=>by
   by_cases z:y=W1.o
   .rw[z,ak] at e;cases e
   .rw[aF z] at e;exact e
  have S9:Same H (upd H8 W1.o (.ins aB W1.dx (dz "hands" (.ref D) (wF W1.pg W1.nb W1.hl W1.tn)))):=λx u e=>by rw[aF (au e fo)];exact s18 _ _ (S1 _ _ e)
  generalize (upd H8 W1.o (.ins aB W1.dx (dz "hands" (.ref D) (wF W1.pg W1.nb W1.hl W1.tn))))=H9 at ho9 q9 un9 S9 ⊢;have w9:kY aB aC i τ8 H9 W S:=w.mv (Mv.tags S9 λx u e=>(U_ x u (S1 _ _ e)).trans (Hs x u e)) un9;refine⟨_,Z,W.o,aB,W.dx,_,_,Z,w9.o,aN.cls,aN.vQ,Z,W.tn,_,Z,.inl (bB.of w9.tn),λt ht=>?_⟩;have st:=aD (o:=HO.lst (S.ts.map V.int)) ht;have nto:t≠W1.o:=(au ho9 ht).symm;refine⟨_,Z,W1.o,aB,W1.dx,_,Z,st _ _ ho9,aN.cls,aN.vQ,(by show 4<1000;decide), ?_⟩;have OJ:(upd (upd H9 t (.lst (S.ts.map V.int))) W1.o (.ins aB W1.dx (dz "turns" (.ref t) (wF W1.pg W1.nb D W1.tn)))) W1.o=some (.ins aB W1.dx (wF W1.pg W1.nb D t)):=ak;have acv:(upd (upd H9 t (.lst (S.ts.map V.int))) W1.o (.ins aB W1.dx (dz "turns" (.ref t) (wF W1.pg W1.nb D W1.tn)))) t=some (.lst (S.ts.map V.int)):=by rw[aF nto,ak]
  have Q0:pH [[i',0]] τ8 H9 (bF τ8 t [i',3]) (upd (upd H9 t (.lst (S.ts.map V.int))) W1.o (.ins aB W1.dx (dz "turns" (.ref t) (wF W1.pg W1.nb D W1.tn)))):=(pH.claim st ht).trans (pH.set (by rw[bC nto.symm,Yu];simp) (st _ _ ho9) (by intro xs z;cases z))
  have Yq:vp (bF τ8 t [i',3]) (upd (upd H9 t (.lst (S.ts.map V.int))) W1.o (.ins aB W1.dx (dz "turns" (.ref t) (wF W1.pg W1.nb D W1.tn)))):=(un9.claim st ⟨_,ak⟩).dom λy e=>by
   by_cases z:y=W1.o
   .rw[z,ak] at e;cases e
   .rw[aF z] at e;exact e
  have S10:Same H (upd (upd H9 t (.lst (S.ts.map V.int))) W1.o (.ins aB W1.dx (dz "turns" (.ref t) (wF W1.pg W1.nb D W1.tn)))):=λx u e=>by rw[aF (au e fo)];exact st _ _ (S9 _ _ e)
  have Ni:bF τ8 t [i',3] W1.o=[i',0]:=by rw[bC nto.symm];exact Yu
  have Nh:bF τ8 t [i',3] t=[i',3]:=cP;have tgt:∀x u,H x=some u->bF τ8 t [i',3] x=τ x:=λx u e=>by rw[bC (au (S9 _ _ e) ht)];exact(U_ x u (S1 _ _ e)).trans (Hs x u e)
  have Q18:pH [[i',0]] τ1 H1 τ8 H8:=⟨λx u e _=>⟨s18 _ _ e,U_ x u e⟩,s18.tups⟩;have Q8:=q9.trans Q0;generalize (upd (upd H9 t (.lst (S.ts.map V.int))) W1.o (.ins aB W1.dx (dz "turns" (.ref t) (wF W1.pg W1.nb D W1.tn))))=J6 at OJ acv Q0 Yq S10 Q8 ⊢;generalize bF τ8 t [i',3]=DY at Q0 Yq Ni Nh tgt Q8;have Q1:=Q18.trans Q8;have hL:=Q1.keep _ _ w1.L (by rw[w1.tL];simp);have hnb:=Q1.keep _ _ w1.nb (by rw[w1.tb];simp);have DR:=Q8.keep _ _ hD8 (by rw[tD8];simp);refine⟨_,Z,k DY ⟨W1.o,W1.dx,W1.pg,W1.L,W1.nb,D,t,W1.rs,hd⟩ J6 ⟨Yq,i0,OJ,Q1.tup _ _ w1.pg,hL.1,hnb.1,DR.1,acv,Ni,hnb.2.trans w1.tb,DR.2.trans tD8,Nh,hL.2.trans w1.tL, ?_, ?_,by rw[lhd,w.len],λkk A s h1 h2=>(hd8 kk A s h1 h2).mvT Q8 (by simp) (by simp) (by simp) (by simp),w.ok,w.sl,w.nl,w.hn⟩ tgt S10⟩
  .have:=w1.rl
   unfold iu at this;simpa using this
  .intro kk r s h1 h2
   have e1:(iu S.m S.ns (S.hs.map bJ.rws)).hs[kk]? = some (lead (new s.rws)):=by
    show ((S.hs.map bJ.rws).map λr=>lead (new r))[kk]? = _;rw[aag,aag,h2];rfl
   have:=w1.rs kk r _ h1 e1;rw[show (lead (new s.rws)).rws=s.rws from mG _ _] at this;exact gB this Q1 (by simp)
structure Ay(H:Hp)(p L:Addr)(rs:List Addr)(rws:List (List Rw))(m:Nat):Prop where
 ep:H p=some (.tup [.int m,.ref L])
 eL:H L=some (.lst (rs.map V.ref))
 len:rs.length=rws.length
 row:∀(k:Nat)(r:Addr)(x:List Rw),rs[k]? = some r->rws[k]? = some x->dO H r m x
noncomputable def Ds(H:Hp)(v:V)(ns:List Int)(m:Nat):Prop:=gK m ns/\((v = .non/\ns=List.replicate m 0) \/ ∃l,v = .ref l/\H l=some (.lst (ns.map V.int)))
theorem Lq{CW CH CN:Addr}{i:Nat}{τ:Tg}{H:Hp}{p L:Addr}{rs:List Addr}{rws:List (List Rw)}{m:Nat}{nv:V}{ns:List Int}{Q:Addr->Hp->Prop}(g:Ay H p L rs rws m)(n8:rws.length<=100)(Cw:m<=100)(un:vp τ H)(i0:i≠0)(nh:Ds H nv ns m)(go:∀(τ':Tg)(W:Ht)(H':Hp),kY CW CH i τ' H' W (iu m ns rws)->(∀x u,H x=some u->τ' x=τ x)->Same H H'->Q W.o H')(o dx:Addr)(ho:H o=none)(hdx:H dx=none)(ndx:dx≠o):
 gF CW CH CN K (.ref o::([.ref p,nv]++[])) (upd (upd H dx (.own o)) o (.ins CW dx [])) (λv H'=>v = .non/\Q o H') (λ_ _ _=>False):=by
 obtain⟨good,hv⟩:=nh;have ho':(upd H dx (.own o)) o=none:=by rw[aF ndx.symm];exact ho
 have sm:Same H (upd (upd H dx (.own o)) o (.ins CW dx [])):=(aD hdx).trans (aD ho');refine⟨i,τ,o,dx,p,L,rs,m,nv,ns,rws,Z,ak,sm _ _ g.ep,sm _ _ g.eL,g.len,λkk q' x h1 h2=>(g.row kk q' x h1 h2).same sm,n8,Cw,un.same sm,i0,by have:=good.1;lia, ?_,λ_ τ5 W H5 eo w5 tg kp=>⟨Z, ?_⟩,λbad=>abZ good bad⟩
 .rcases hv with h|⟨cl,e,h⟩
  .exact .inl h
  .exact .inr ⟨cl,e,sm _ _ h⟩
 .rw[←eo]
  exact go τ5 W H5 w5 (λx u e=>tg x u (sm _ _ e) (au e ho)) (λx u e=>kp _ _ (sm _ _ e) (au e ho))
noncomputable def rR(t:Tc):List V:=[.str (dX t.r),.int (cJ t.r),oV t.rd,oV t.wr]
noncomputable def vJ(t:Tc):PyData:= .tuple [.str (dX t.r),.int (cJ t.r),oD t.rd,oD t.wr]
noncomputable def bG(t:Tc):cZ:=((t.k:Int),dX t.r,(cJ t.r:Int))
theorem ZX(x:Option Int):zq (oD x)=true:=by cases x<;>rfl
theorem ZW(t:Tc):zq (vJ t)=true:=by simp only[vJ,zq,oh,ZX,Bool.and_self]
theorem Jw{H:Hp}{p:Addr}{t:Tc}(h:H p=some (.tup (rR t))):Dat H (.ref p) (vJ t):=by
 unfold vJ rR at *;simp only[Dat];exact⟨p,_,Z,h,by simp only[aO,Dat,and_true,true_and];exact⟨TQ _,TQ _⟩⟩
theorem qL{CW CH CN CO:Addr}{i:Nat}{τ:Tg}{H:Hp}{W:Ht}{S:gU}{t:Tc}{Q:VK}(w:kY CW CH i τ H W S)(tl:S.ts.length<=10000)(a:vD S t)(go:∀(p:Addr)(H':Hp),H p=none->H' p=some (.tup (rR t))->kY CW CH i τ H' W (cB S t.k)->Yi i τ H H'->Q (.ref p) H'):jA CW CH CN CO K [.ref W.o,.int t.k] H Q (λ_ _ _=>False):=by
 obtain⟨s,es,ws,er,e1,e2⟩:=a;have kl:=(aaf.mp es).1;have inn:Ae (t.k:Int) S.hs.length:=⟨by lia,by lia⟩
 have one:∀(k':Nat)(t':bJ),(t.k:Int)=k'->S.hs[k']? = some t'->t'=s/\k'=t.k:=λk' t' e1 e2=>by
  have:k'=t.k:=by lia
  subst this;rw[es] at e2;exact⟨(aaR e2).symm,Z⟩
 refine⟨i,τ,W,S,_,Z,w,tl,λk' t' r' tt Hk q1 q2 wt' Tn tr' tf tk wk stk=>?_,λz=>abZ inn z,λk' t' e1 e2 z=>abZ (by rw[(one k' t' e1 e2).1];exact ws) z⟩;obtain⟨rfl,rfl⟩:=one k' t' q1 q2;rw[er] at Tn;cases Tn;refine go tt Hk tf ?_ wk stk;rw[tk];unfold rR Bj;rw[e1,e2]
theorem Ce{S S' S1:gU}{l:List Tc}{j:Nat}{t:Tc}(R:Run S l S')(R1:Run S (l.take j) S1)(e:l[j]? = some t):vD S1 t/\Run S (l.take (j+1)) (cB S1 t.k):=by
 have jl:=(aaf.mp e).1
 have el:l=l.take j++t::l.drop (j+1):=by
  have q:=(List.take_append_drop j l).symm;rw[List.drop_eq_getElem_cons jl] at q;rw[aae jl] at e;cases e;exact q
 rw[el] at R;obtain⟨T,r1,r2,r3⟩:=Run.app.mp R;have:=R1.det r1;subst this;refine⟨r2, ?_⟩;rw[aa5,e];exact Run.app.mpr ⟨S1,R1,r2,Z⟩
theorem qj:∀{l:List Tc}{S S':gU},Run S l S'->S'.ts=S.ts++l.map λt=>(t.k:Int)
 | [],S,S',h=>by have h:S'=S:=h;rw[h];simp
 | t::l,S,S',⟨a,h⟩=>by
   rw[qj h];obtain⟨s,_,_,e⟩:=a.turn;rw[e];simp
theorem xu:∀{l:List Tc}{S S':gU},Run S l S'->S'.hs.length=S.hs.length/\S'.m=S.m
 | [],S,S',h=>by have h:S'=S:=h;rw[h];exact⟨Z,Z⟩
 | t::l,S,S',⟨a,h⟩=>by
   rw[(xu h).1,(xu h).2];obtain⟨s,_,_,e⟩:=a.turn;rw[e];simp
theorem Fo:∀{l:List Tc}{S S':gU},Run S l S'->rP S->rP S'
 | [],S,S',h,g=>by have h:S'=S:=h;rw[h];exact g
 | t::l,S,S',⟨a,h⟩,g=>Fo h (g.turn _)
theorem K6:∀{l:List Tc}{S S':gU},Run S l S' -> ∀t∈l,t.k<S.hs.length
 | [],S,S',h,t,ht=>by cases ht
 | x::l,S,S',⟨a,h⟩,t,ht=>by
   obtain⟨s,es,_⟩:=id a;rcases List.mem_cons.mp ht with rfl|ht
   .exact(aaf.mp es).1
   .have:=K6 h t ht
    obtain⟨s,_,_,e⟩:=a.turn;rw[e] at this;simpa using this
noncomputable def aside(c:Nat)(H:Hp):Tg:=λx=>if (H x).isSome then [c] else []
theorem oK(c:Nat)(H:Hp):vp (aside c H) H:=λx e=>by unfold aside;rw[e];rfl
theorem oM{c:Nat}{H:Hp}{x:Addr}{o:HO}(e:H x=some o):aside c H x=[c]:=by unfold aside;rw[e];rfl
noncomputable def zO(hs:List bJ)(k:Nat):Bool:=match hs[k]? with
 | some s=>decide (s.st = "waits")
 | none=>false
noncomputable def qJ(hs:List bJ):List Nat:=(List.range hs.length).filter (zO hs)
theorem aac{α:Type}(p:Nat->Bool)(f:Nat->α)(n:Nat):(List.range n).filterMap (λi=>if p i then some (f i) else none)=((List.range n).filter p).map f:=by
 induction n with
 | zero=>rfl
 | succ n ih=>
   rw[dB,ih,List.range_succ,abL,aaX];congr 1;cases h:p n<;>simp[h]
theorem M6{hs:List bJ}{z k:Nat}(h:(qJ hs)[z]? = some k):∃s,hs[k]? = some s/\s.st = "waits" :=by
 have m:=aaL h;have:=(aa8.mp m).2;unfold zO at this;cases e:hs[k]? with
 | none=>rw[e] at this;cases this
 | some s=>rw[e] at this;exact⟨s,Z,aaO this⟩
theorem Ay.same{H H':Hp}{p L:Addr}{rs:List Addr}{rws:List (List Rw)}{m:Nat}(g:Ay H p L rs rws m)(k:Same H H'):Ay H' p L rs rws m:=⟨k _ _ g.ep,k _ _ g.eL,g.len,λi r x h1 h2=>(g.row i r x h1 h2).same k⟩
noncomputable def Br(CW CH:Addr)(K:PySem.W.Frag):Sp:=λvs H Q _=>∃(i:Nat) (τ:Tg) (W:Ht) (S:gU),vs=[.ref W.o]/\kY CW CH i τ H W S /\ ∀l H',H l=none->H' l=some (.lst (S.ns.map V.int))->Same H H'->Q (.ref l) H'
theorem RP{aB aC:Addr}{f:Addr}{fd:FuncData}(F:fZ K "cells" "Works.cells" kh f fd)(aN:d9 K aB)(Bt:rQ mg):bL P w K mg base iC 1 f fd ["self"] (Br aB aC K):=by
 refine F.ok wO (λvs H Q E h=>?_) (λcdv A outer s H vs Q E hr h=>?_)
 .obtain⟨i,τ,W,S,rfl,_⟩:=h
  rfl
 .obtain⟨i,τ,W,S,rfl,w,k⟩:=h
  refine⟨_,(aG (aU (eG (cO (K:=K) rfl) (by rfl) Bt.iy fJ (aj (bR (K:=K) rfl (pv 0) rfl) aq)))), ?_⟩;exact⟨_,Z,W.o,aB,W.dx,_,_,Z,w.o,aN.cls,aN.iK,Z,W.nb,_,Z,.inl (bB.of w.nb),λl hl=>k l _ hl ak (aD hl)⟩
noncomputable def IV(l:List Tc)(h:Nat):List Tc:=l.filter λt=>t.k==h
structure RwT(H:Hp)(D:Addr)(as:List Addr)(l:List Tc):Prop where
 d:H D=some (.lst (as.map V.ref))
 r:∀(h:Nat)(q:Addr),as[h]? = some q -> ∃refs,H q=some (.lst refs)/\aO H refs ((IV l h).map vJ)
theorem CJ(l:List Tc):oh (l.map vJ)=true:=cu vJ ZW l
theorem RwT.keep{H H':Hp}{D:Addr}{as:List Addr}{l:List Tc}(h:RwT H D as l)(k:∀x o,H x=some o->(x=D\/x∈as)->H' x=some o)(t:∀x xs,H x=some (.tup xs)->H' x=some (.tup xs)):RwT H' D as l:=
 ⟨k _ _ h.d (.inl rfl),λn q e=>by
   obtain⟨refs,e1,d1⟩:=h.r n q e;exact⟨refs,k _ _ e1 (.inr (aaL e)),d1.keep t _ (CJ _)⟩⟩
theorem FT(l:List Tc)(t:Tc)(h:Nat):IV (l++[t]) h=IV l h++(if t.k=h then [t] else []):=by
 unfold IV;rw[abL];congr 1
 by_cases e:t.k=h<;>simp[e]
noncomputable def kI(l:List Tc):List Int:=l.map λt=>(t.k:Int)
theorem g_(l:List Tc):(kI l).length=l.length:=aad _
noncomputable def JZ(S1:gU):Option Bool->List Int->Prop
 | none,[]=>True
 | some true,h::_=>¬Ae h S1.hs.length
 | some false,h::_=>∃(k:Nat) (s:bJ),h=(k:Int)/\S1.hs[k]? = some s/\s.st ≠ "waits"
 | _,_=>False
noncomputable def Wk(S:gU)(os:List Int)(l:List Tc)(st:Option Bool):Prop:=∃S1 rest,Run S l S1/\os=kI l++rest/\JZ S1 st rest
theorem Qo{S:gU}(k:Nat)(ok:∀s∈S.hs,lK s):∀s∈(cB S k).hs,lK s:=by
 unfold cB;cases e:S.hs[k]? with
 | none=>exact ok
 | some s=>
   dsimp only;cases e2:s.rws[s.pos]? with
   | none=>exact ok
   | some r=>
     intro t ht;rcases List.mem_or_eq_of_mem_set ht with h|rfl
     .exact ok t h
     .exact yc _ _
theorem Mu(m:Nat)(ns:List Int)(rws:List (List Rw)):∀s∈(iu m ns rws).hs,lK s:=λs hs=>by
 obtain⟨x,_,rfl⟩:=aa2.mp hs;exact yc _ _
theorem sW{CW CH CN CO:Addr}{i:Nat}{τ:Tg}{H:Hp}{W:Ht}{S:gU}{t:Tc}{Q:VK}{E:XK}(w:kY CW CH i τ H W S)(tl:S.ts.length<=10000)(a:vD S t)(go:∀(p:Addr)(H':Hp),H p=none->H' p=some (.tup (rR t))->kY CW CH i τ H' W (cB S t.k)->Yi i τ H H'->Q (.ref p) H'):jA CW CH CN CO K [.ref W.o,.int t.k] H Q E:=by
 obtain⟨s,es,ws,er,e1,e2⟩:=a;have kl:=(aaf.mp es).1;have inn:Ae (t.k:Int) S.hs.length:=⟨by lia,by lia⟩
 have one:∀(k':Nat)(t':bJ),(t.k:Int)=k'->S.hs[k']? = some t'->t'=s/\k'=t.k:=λk' t' e1 e2=>by
  have:k'=t.k:=by lia
  subst this;rw[es] at e2;exact⟨(aaR e2).symm,Z⟩
 refine⟨i,τ,W,S,_,Z,w,tl,λk' t' r' tt Hk q1 q2 wt' Tn tr' tf tk wk stk=>?_,λz=>abZ inn z,λk' t' e1 e2 z=>abZ (by rw[(one k' t' e1 e2).1];exact ws) z⟩;obtain⟨rfl,rfl⟩:=one k' t' q1 q2;rw[er] at Tn;cases Tn;refine go tt Hk tf ?_ wk stk;rw[tk];unfold rR Bj;rw[e1,e2]
theorem zQ{CW CH CN CO:Addr}{i:Nat}{τ:Tg}{H:Hp}{W:Ht}{S:gU}{h:Int}{Q:VK}{E:XK}{b:Bool}{rest:List Int}(w:kY CW CH i τ H W S)(tl:S.ts.length<=10000)(q:JZ S (some b) (h::rest))(no:b=true->E (.ref CN) none H)(ov:b=false->E (.ref CO) none H):jA CW CH CN CO K [.ref W.o,.int h] H Q E:=by
 refine⟨i,τ,W,S,_,Z,w,tl,λk' t' r' tt Hk q1 q2 wt' _ _ _ _ _ _=>?_,λz=>?_,λk' t' e1 e2 z=>?_⟩
 .cases b with
  | true=>exact abZ ⟨by lia,by have:=(aaf.mp q2).1;lia⟩ (show ¬Ae h S.hs.length from q)
  | false=>
    obtain⟨k,s,e,es,nw⟩:=q;have:k=k':=by lia
    subst this;rw[es] at q2;cases q2;exact abZ wt' nw
 .cases b with
  | true=>exact no rfl
  | false=>
    obtain⟨k,s,e,es,nw⟩:=q;exact abZ ⟨by lia,by have:=(aaf.mp es).1;lia⟩ z
 .cases b with
  | true=>exact abZ ⟨by lia,by have:=(aaf.mp e2).1;lia⟩ (show ¬Ae h S.hs.length from q)
  | false=>exact ov rfl
theorem xX{CW CH CN:Addr}{i:Nat}{τ:Tg}{H:Hp}{p L:Addr}{rs:List Addr}{rws:List (List Rw)}{m:Nat}{nv:V}{ns:List Int}{Q:Addr->Hp->Prop}{E:XK}(g:Ay H p L rs rws m)(n8:rws.length<=100)(Cw:m<=100)(un:vp τ H)(i0:i≠0)(nl:ns.length<=100)(hv:(nv = .non/\ns=List.replicate m 0) \/ ∃cl,nv = .ref cl/\H cl=some (.lst (ns.map V.int)))(go:gK m ns -> ∀(τ':Tg)(W:Ht)(H':Hp),kY CW CH i τ' H' W (iu m ns rws)->(∀x u,H x=some u->τ' x=τ x)->Same H H'->Q W.o H')(bad:¬gK m ns -> ∀H',Same H H'->E (.ref CN) none H')(o dx:Addr)(ho:H o=none)(hdx:H dx=none)(ndx:dx≠o):
 gF CW CH CN K (.ref o::([.ref p,nv]++[])) (upd (upd H dx (.own o)) o (.ins CW dx [])) (λv H'=>v = .non/\Q o H') E:=by
 have ho':(upd H dx (.own o)) o=none:=by rw[aF ndx.symm];exact ho
 have sm:Same H (upd (upd H dx (.own o)) o (.ins CW dx [])):=(aD hdx).trans (aD ho');refine⟨i,τ,o,dx,p,L,rs,m,nv,ns,rws,Z,ak,sm _ _ g.ep,sm _ _ g.eL,g.len,λkk q' x h1 h2=>(g.row kk q' x h1 h2).same sm,n8,Cw,un.same sm,i0,nl, ?_,λgood τ5 W H5 eo w5 tg kp=>⟨Z, ?_⟩,λz H' kp=>bad z H' λx u e=>kp _ _ (sm _ _ e) (au e ho)⟩
 .rcases hv with h|⟨cl,e,h⟩
  .exact .inl h
  .exact .inr ⟨cl,e,sm _ _ h⟩
 .rw[←eo]
  exact go good τ5 W H5 w5 (λx u e=>tg x u (sm _ _ e) (au e ho)) (λx u e=>kp _ _ (sm _ _ e) (au e ho))
noncomputable def Px(H:Hp)(m:Nat)(nv:V)(ns:List Int):Prop:=ns.length<=100/\((nv = .non/\ns=List.replicate m 0) \/ ∃cl,nv = .ref cl/\H cl=some (.lst (ns.map V.int)))
theorem XJ{os:List Int}{l:List Tc}{rest:List Int}{j:Nat}{h:Int}(e:os=kI l++rest)(jl:j<=l.length)(hj:os[j]? = some h):(∃t,l[j]? = some t/\h=(t.k:Int))\/(j=l.length /\ ∃r',rest=h::r'):=by
 subst e;rcases Nat.lt_or_eq_of_le jl with q|q
 .rw[aaU (by rw[g_];exact q)] at hj
  unfold kI at hj;rw[aag,aae q] at hj;exact .inl ⟨_,aae q,(aaR hj).symm⟩
 .subst q
  rw[aaT (by rw[g_];lia),g_,Nat.sub_self] at hj;cases rest with
  | nil=>cases hj
  | cons x r=>cases hj;exact .inr ⟨Z,r,Z⟩
theorem ints_get{os:List Int}{j:Nat}{v:V}(h:(os.map V.int)[j]? = some v):∃x,os[j]? = some x/\v = .int x:=by
 rw[aag] at h;cases e:os[j]? with
 | none=>rw[e] at h;cases h
 | some x=>rw[e] at h;exact⟨x,Z,(aaR h).symm⟩
noncomputable def sX(CW CH CN CNo CO:Addr)(K:PySem.W.Frag):Sp:=λvs H Q E=>∃(p L:Addr) (rs:List Addr) (rws:List (List Rw)) (m:Nat) (nv:V) (ns:List Int) (o:Addr) (os:List Int),vs=[.ref p,.ref o,nv]/\Ay H p L rs rws m/\rws.length<=8/\m<=20/\Px H m nv ns/\H o=some (.lst (os.map V.int))/\os.length<=400 /\
 (¬gK m ns -> ∀H',Same H H'->E (.ref CN) none H')/\(gK m ns -> ∃l st,Wk (iu m ns rws) os l st/\(st=none -> ∀(a:Addr)(H':Hp),H a=none->i_ H' a (l.map bG)->Same H H'->Q (.ref a) H')/\(st=some true -> ∀H',Same H H'->E (.ref CNo) none H')/\(st=some false -> ∀H',Same H H'->E (.ref CO) none H'))
theorem VB{aB aC aP aX bZ:Addr}{f:Addr}{fd:FuncData}(F:zM K "web_of" "web_of" dM [.none] f fd)(iz:j6 P w K mg base 7 aB "Works" ["self","program","cells"] [] (gF aB aC aP K))(cM:jw P w K mg base 7 aB "turn" ["self","hand"] (jA aB aC aX bZ K))(aN:d9 K aB):bL P w K mg base (oW P w) 9 f fd ["program","order","cells"] (sX aB aC aP aX bZ K):=by
 refine F.Ux lg (λvs H Q E h=>?_) (λcdv A outer s H vs Q E hr h hR=>?_)
 .obtain⟨p,L,rs,rws,m,nv,ns,o,os,rfl,_⟩:=h
  rfl
 .obtain⟨p,L,rs,rws,m,nv,ns,o,os,rfl,g,r8,Cw,⟨nl,hv⟩,ho,ol,kb,kg⟩:=h
  refine⟨_,(ao (aQ (i:=3) lg.nd rfl (Or.inl rfl) (xP iz rfl hR (hr.mono (by decide)) (by rfl) (aj (pv 0) (aj (pv 2) aq))))
   (ao (aQ (i:=4) lg.nd rfl (Or.inl rfl) (bW aq))
   (ao (eY PassesOwn.leaving rfl (cV (K:=K) rfl (pv 1)) (aZ (i:=5) lg.nd rfl (Or.inl rfl))
   (ao (aQ (i:=6) lg.nd rfl (Or.inl rfl) (nP cM aN.cls rfl hR (hr.mono (by decide)) (pv 3) (aj (pv 5) aq)))
   (aG (cF (cX (K:=K) rfl (pv 4) (aj (cN (aj (pv 5) (aj (aH (aK (K:=K) rfl) (pv 6) aA (λ_ _=>rfl)) (aj (aH (aK (K:=K) rfl) (pv 6) aA (λ_ _=>rfl)) aq)))) aq))))))
   (aG (aU (pv 4)))))), ?_⟩
  refine⟨_,Z,_,Z, ?_⟩;dsimp only[lQ];refine(xX (i:=2) (τ:=aside 1 H) g (by lia) (by lia) (oK _ _) (by decide) nl hv (λgood τ1 W H1 w1 Hs s1=>?_) kb);have Hs:∀x u,H x=some u->τ1 x=[1]:=λx u e=>by rw[Hs x u e];exact oM e
  obtain⟨l,st,⟨Se,rest,R,eos,stp⟩,k1,k2,k3⟩:=kg good;have ll:l.length<=os.length:=by rw[eos,aaS,g_];lia
  refine⟨(by show 0<=sizeLine;decide),λa ha=>?_⟩;have sa:=aD (o:=HO.lst []) ha;have ta:τ1 a=[]:=w1.un a ha;have ha0:H a=none:=s1.free ha;refine⟨_,Z,o,Z,⟨_,bB.of (sa _ _ (s1 _ _ ho))⟩, ?_⟩
  refine gC (K:=K) (a:=o) (xs:=os.map V.int) (λj σ Hc=>∃(x1 x2:Option V) (S1:gU) (refs:List V),σ=[some (.ref p),some (.ref o),some nv,some (.ref W.o),some (.ref a),x1,x2]/\j<=l.length/\kY aB aC 2 τ1 Hc W S1/\Run (iu m ns rws) (l.take j) S1/\Hc a=some (.lst refs)/\aO Hc refs (((l.take j).map bG).map tD)/\Same H Hc)
   ⟨none,none,_,[],Z,Nat.zero_le _,w1.same sa,by rw[List.take_zero];rfl,ak,by simp[aO],s1.trans sa⟩ (λj σ Hc _ ⟨_,_,_,_,_,_,_,_,_,_,sc⟩=>bB.of (sc _ _ ho)) ?_ ?_
  .rintro j v σ Hc hj ⟨x1,x2,S1,refs,rfl,jl,wc,R1,eac,dc,sc⟩
   obtain⟨h,eh,rfl⟩:=ints_get hj;have tl:S1.ts.length<=10000:=by rw[qj R1];show ([]++_).length<=_;simp;lia
   refine⟨_,Z,W.o,W.dx,_,Z,wc.o,Z,_,Z, ?_⟩;dsimp only[lQ];rcases XJ eos jl eh with ⟨t,et,rfl⟩|⟨rfl,r',er⟩
   .have jl:=(aaf.mp et).1
    obtain⟨at1,R2⟩:=Ce R R1 et;refine sW wc tl at1 λq Hd hq eq wd st=>?_;have ead:=st.keep _ _ eac (by rw[ta];simp);refine⟨_,Z,.inl ⟨Z,_,bB.of ead⟩,_,Z,_,Z,_,_,_,_,Z,Z,bO.of eq,Z,_,Z,_,_,_,_,Z,Z,bO.of eq,Z,(by show 3<=sizeLine;decide),λu hu=>?_⟩;have su:=aD (o:=HO.tup [V.int (t.k:Int),V.str (dX t.r),V.int (cJ t.r)]) hu;have eau:=su _ _ ead;have eu:(upd Hd u (.tup [V.int (t.k:Int),V.str (dX t.r),V.int (cJ t.r)])) u=some (.tup [V.int (t.k:Int),V.str (dX t.r),V.int (cJ t.r)]):=ak;have wu:=wd.same su;have du:=(dc.keep (λx xs e=>su _ _ (st.tup _ _ e)) _ (cu tD yq _));have scu:Same H (upd Hd u (.tup [V.int (t.k:Int),V.str (dX t.r),V.int (cJ t.r)])):=λx o' e=>su _ _ (st.keep _ _ (sc _ _ e) (by rw[Hs x o' e];simp));generalize (upd Hd u (.tup [V.int (t.k:Int),V.str (dX t.r),V.int (cJ t.r)]))=He at eau eu wu du scu ⊢;have rl:refs.length=j:=by rw[dc.length,aad,aad,aa7];lia
    refine⟨_,_,_,Z,Z,eau,(by rw[rl,sizeLine_eq];lia), ?_⟩;have kk:Kp a He (upd He a (.lst (refs++[V.ref u]))):=Kp.set;have tu:∀x ys,He x=some (.tup ys)->(upd He a (.lst (refs++[V.ref u]))) x=some (.tup ys):=kk.tups eau;refine⟨_,_,_,refs++[.ref u],Z,jl,wu.kp kk eau (by intro xs z;cases z) ta ⟨_,ak⟩,R2,ak, ?_,λx o' e=>kk _ _ (scu _ _ e) (au e ha0)⟩;rw[aa5,et];show aO _ _ ((((l.take j)++[t]).map bG).map tD);rw[aaX,aaX];exact pA (du.keep tu _ (cu tD yq _)) (WT (x:=bG t) (tu _ _ eu))
   .rw[aa3] at R1
    have:=R1.det R;subst this;subst er;cases st with
    | none=>exact stp.elim
    | some b=>exact zQ wc tl stp (λe=>k2 (by rw[e]) _ sc) (λe=>k3 (by rw[e]) _ sc)
  .rintro σ Hc ⟨x1,x2,S1,refs,rfl,jl,wc,R1,eac,dc,sc⟩
   rw[aad] at jl dc;have el:os.length=l.length:=by lia
   have er:rest=[]:=by
    rw[eos,aaS,g_] at el;exact List.eq_nil_of_length_eq_zero (by lia)
   subst er
   have es:st=none:=by
    cases st with
    | none=>rfl
    | some b=>cases b<;>exact stp.elim
   rw[el,aa3] at dc;exact⟨_,Z,k1 es a Hc ha0 ⟨refs,eac,dc⟩ sc⟩
noncomputable def jB(CW CH CN CNo CO:Addr)(K:PySem.W.Frag):Sp:=λvs H Q E=>∃(p L:Addr) (rs:List Addr) (rws:List (List Rw)) (m:Nat) (nv:V) (ns:List Int) (o:Addr) (os:List Int),vs=[.ref p,.ref o,nv]/\Ay H p L rs rws m/\rws.length<=8/\m<=20/\Px H m nv ns/\H o=some (.lst (os.map V.int))/\os.length<=400 /\
 (¬gK m ns -> ∀H',Same H H'->E (.ref CN) none H')/\(gK m ns -> ∃l st,Wk (iu m ns rws) os l st/\(st=none -> ∀(D:Addr)(as:List Addr)(H':Hp),H D=none->(∀q∈as,H q=none/\q≠D)->as.Nodup->as.length=rws.length->RwT H' D as l->Same H H'->Q (.ref D) H')/\(st=some true -> ∀H',Same H H'->E (.ref CNo) none H')/\(st=some false -> ∀H',Same H H'->E (.ref CO) none H'))
theorem FJ{aB aC aP aX bZ:Addr}{f:Addr}{fd:FuncData}(F:zM K "touches_of" "touches_of" bT [.none] f fd)(iz:j6 P w K mg base 7 aB "Works" ["self","program","cells"] [] (gF aB aC aP K))(cM:jw P w K mg base 7 aB "turn" ["self","hand"] (jA aB aC aX bZ K))(aN:d9 K aB):bL P w K mg base (oW P w) 9 f fd ["program","order","cells"] (jB aB aC aP aX bZ K):=by
 refine F.Ux gA (λvs H Q E h=>?_) (λcdv A outer s H vs Q E hr h hR=>?_)
 .obtain⟨p,L,rs,rws,m,nv,ns,o,os,rfl,_⟩:=h
  rfl
 .obtain⟨p,L,rs,rws,m,nv,ns,o,os,rfl,g,r8,Cw,⟨nl,hv⟩,ho,ol,kb,kg⟩:=h
  refine⟨_,(ao (aQ (i:=3) gA.nd rfl (Or.inl rfl) (xP iz rfl hR (hr.mono (by decide)) (by rfl) (aj (pv 0) (aj (pv 2) aq))))
   (ao (mz (i:=4) rfl gA.nd rfl (Or.inl rfl) (N:=["rows"]) (own:=["rows"]) (caps:=[]) (bA.of (by kernel_rfl)) (cV (K:=K) rfl (aH (aK (K:=K) rfl) (pv 0) aA (λ_ _=>rfl))) (λ_ _ _ _=>(aZ (i:=0) (show List.Nodup (["rows"]:List Str) by decide +kernel) rfl (Or.inl rfl))) (λ_ _ _ _=>d_) (λ_ _ _ _=>(bW aq)))
   (ao (eY PassesOwn.leaving rfl (cV (K:=K) rfl (pv 1)) (aZ (i:=5) gA.nd rfl (Or.inl rfl))
   (ao (aQ (i:=6) gA.nd rfl (Or.inl rfl) (nP cM aN.cls rfl hR (hr.mono (by decide)) (pv 3) (aj (pv 5) aq)))
   (aG (cF (cX (K:=K) rfl (aH (aL (K:=K) rfl) (pv 4) (pv 5) (λ_ _=>rfl)) (aj (pv 6) aq))))))
   (aG (aU (pv 4)))))), ?_⟩
  refine⟨_,Z,_,Z, ?_⟩;dsimp only[lQ];refine(xX (i:=2) (τ:=aside 1 H) g (by lia) (by lia) (oK _ _) (by decide) nl hv (λgood τ1 W H1 w1 Hs s1=>?_) kb);have Hs:∀x u,H x=some u->τ1 x=[1]:=λx u e=>by rw[Hs x u e];exact oM e
  obtain⟨l,st,⟨Se,rest,R,eos,stp⟩,k1,k2,k3⟩:=kg good;have ll:l.length<=os.length:=by rw[eos,aaS,g_];lia
  refine⟨_,Z,_,_,_,_,Z,Z,bO.of (s1 _ _ g.ep),Z,L,Z,⟨_,bB.of (s1 _ _ g.eL)⟩,λD hD=>?_⟩;have tD:τ1 D=[]:=w1.un D hD
  refine iQ (K:=K) (a:=L) (xs:=rs.map V.ref) (λi σ Hd=>∃(v:Option V) (as:List Addr),σ=[v]/\Hd D=some (.lst (as.map V.ref))/\as.length=i/\as.Nodup/\(∀a∈as,H1 a=none/\a≠D/\Hd a=some (.lst []))/\Same H1 Hd)
   ⟨none,[],Z,ak,Z,List.nodup_nil,by simp,aD hD⟩ (λi σ Hd _ ⟨_,_,_,_,_,_,_,sm⟩=>bB.of (sm _ _ (s1 _ _ g.eL))) ?_ ?_
  .rintro i x σ Hd hi ⟨v,as,rfl,DR,la,nd,al,sm⟩
   dsimp only[gR,Bk];rw[abW rfl];have il:i<rs.length:=by have:=(aaf.mp hi).1;rwa [aad] at this
   refine⟨(by show 0<=sizeLine;decide),λq hq=>⟨as.map V.ref, ?_, ?_,_,as++[q],Z, ?_,by simp[la], ?_, ?_, ?_⟩⟩
   .exact aD hq _ _ DR
   .rw[aad,la,sizeLine_eq];have:=g.len;lia
   .rw[ak,aaX];rfl
   .refine List.nodup_append.mpr ⟨nd,by simp,λa ha b hb e=>?_⟩
    rw[List.mem_singleton.mp hb] at e;have:=(al a ha).2.2;rw[e,hq] at this;cases this
   .intro a ha
    rcases aa1.mp ha with ha|ha
    .obtain⟨h1,h2,h3⟩:=al a ha
     exact⟨h1,h2,by rw[aF h2];exact aD hq _ _ h3⟩
    .rw[List.mem_singleton.mp ha]
     have nq:q≠D:=λe=>by rw[e,DR] at hq;cases hq
     exact⟨sm.free hq,nq,by rw[aF nq,ak]⟩
   .intro x u e
    rw[aF (au e hD)];exact aD hq _ _ (sm _ _ e)
  rintro σ H2 ⟨v,as,rfl,hD2,la,nd,al,sm⟩;rw[aad,g.len] at la;have s2:=s1.trans sm;have w2:=w1.same sm;have S5:H D=none:=s1.free hD;refine⟨_,Z,o,Z,⟨_,bB.of (s2 _ _ ho)⟩, ?_⟩
  refine gC (K:=K) (a:=o) (xs:=os.map V.int) (λj σ Hc=>∃(x1 x2:Option V) (S1:gU),σ=[some (.ref p),some (.ref o),some nv,some (.ref W.o),some (.ref D),x1,x2]/\j<=l.length/\kY aB aC 2 τ1 Hc W S1/\Run (iu m ns rws) (l.take j) S1/\RwT Hc D as (l.take j)/\Same H Hc)
   ⟨none,none,_,Z,Nat.zero_le _,w2,by rw[List.take_zero];rfl,⟨hD2,λh q e=>⟨[],(al q (aaL e)).2.2,by rw[List.take_zero];simp[IV,aO]⟩⟩,s2⟩ (λj σ Hc _ ⟨_,_,_,_,_,_,_,_,sc⟩=>bB.of (sc _ _ ho)) ?_ ?_
  .rintro j v σ Hc hj ⟨x1,x2,S1,rfl,jl,wc,R1,rc,sc⟩
   obtain⟨h,eh,rfl⟩:=ints_get hj;have tl:S1.ts.length<=10000:=by rw[qj R1];show ([]++_).length<=_;simp;lia
   refine⟨_,Z,W.o,W.dx,_,Z,wc.o,Z,_,Z, ?_⟩;dsimp only[lQ];rcases XJ eos jl eh with ⟨t,et,rfl⟩|⟨rfl,r',er⟩
   .have jl:=(aaf.mp et).1
    obtain⟨at1,R2⟩:=Ce R R1 et;refine sW wc tl at1 λu Hd hu eu wd st=>?_
    have rd:RwT Hd D as (l.take j):=rc.keep (λx o' e h=>st.keep _ _ e (by
     rcases h with rfl|h
     .rw[tD];simp
     .rw[w1.un x (al x h).1];simp)) st.tup
    have sd:Same H Hd:=λx o' e=>st.keep _ _ (sc _ _ e) (by rw[Hs x o' e];simp)
    have kl:t.k<as.length:=by
     have:=K6 R t (aaL et);rw[la];have e:(iu m ns rws).hs.length=rws.length:=by show (rws.map _).length=_;rw[aad]
     rwa [e] at this
    obtain⟨q,eq⟩:∃q,as[t.k]? = some q:=⟨_,aae kl⟩;obtain⟨refs,e1,d1⟩:=rd.r t.k q eq;have mq:=aaL eq;obtain⟨hq1,hqD,_⟩:=al q mq;refine⟨_,Z,_,Z,_,_,_,_,Z,Z,bB.of rd.d,bI (j:=t.k) (v:=V.ref q) (by rw[aag,eq];rfl),.inl ⟨Z,_,bB.of e1⟩,_,Z,q,_,_,Z,Z,e1, ?_, ?_⟩
    .rw[d1.length,aad,sizeLine_eq]
     have:=List.length_filter_le (λt':Tc=>t'.k==t.k) (l.take j);rw[aa7] at this;unfold IV;lia
    have kk:Kp q Hd (upd Hd q (.lst (refs++[V.ref u]))):=Kp.set;have tu:∀x ys,Hd x=some (.tup ys)->(upd Hd q (.lst (refs++[V.ref u]))) x=some (.tup ys):=kk.tups e1;have tq:τ1 q=[]:=w1.un q hq1;refine⟨_,_,_,Z,jl,wd.kp kk e1 (by intro xs z;cases z) tq ⟨_,ak⟩,R2,⟨?_,λh q' e'=>?_⟩,λx o' e=>kk _ _ (sd _ _ e) (au e (s1.free hq1))⟩
    .rw[aF hqD.symm];exact rd.d
    .rw[aa5,et]
     show ∃refs',_/\aO _ refs' ((IV (l.take j++[t]) h).map vJ);rw[FT]
     by_cases z:t.k=h
     .subst z
      rw[eq] at e';cases e';rw[abW rfl,aaX];exact⟨_,ak,pA (d1.keep tu _ (CJ _)) (Jw (tu _ _ eu))⟩
     .rw[abN z,List.append_nil]
      obtain⟨refs',e2,d2⟩:=rd.r h q' e'
      have nq:q'≠q:=λx=>by
       subst x;exact z ((List.getElem?_inj kl nd).mp (eq.trans e'.symm))
      exact⟨refs',by rw[aF nq];exact e2,d2.keep tu _ (CJ _)⟩
   .rw[aa3] at R1
    have:=R1.det R;subst this;subst er;cases st with
    | none=>exact stp.elim
    | some b=>exact zQ wc tl stp (λe=>k2 (by rw[e]) _ sc) (λe=>k3 (by rw[e]) _ sc)
  .rintro σ Hc ⟨x1,x2,S1,rfl,jl,wc,R1,rc,sc⟩
   rw[aad] at jl rc;have el:os.length=l.length:=by lia
   have er:rest=[]:=by
    rw[eos,aaS,g_] at el;exact List.eq_nil_of_length_eq_zero (by lia)
   subst er
   have es:st=none:=by
    cases st with
    | none=>rfl
    | some b=>cases b<;>exact stp.elim
   rw[el,aa3] at rc;exact⟨_,Z,k1 es D as Hc S5 (λq hq=>⟨s1.free (al q hq).1,(al q hq).2.1⟩) nd la rc sc⟩
noncomputable def PlN:Nat->PyData->Prop
 | 0,_=>False
 | _+1,.int _=>True
 | n+1,.list ds=>ds.length<=100000 /\ ∀d∈ds,PlN n d
 | n+1,.tuple ds=>ds.length<=100000 /\ ∀d∈ds,PlN n d
 | _+1,_=>False
theorem Ai(n:Nat)(v:V):(List.range n).filterMap (λ_=>some v)=List.replicate n v:=by
 induction n with
 | zero=>rfl
 | succ n ih=>rw[dB,ih,List.replicate_succ'];rfl
noncomputable def qN(n:Nat)(K:PySem.W.Frag):Sp:=λvs H Q _=>∃(x y:V) (d:PyData),vs=[x,y]/\Dat H x d/\Dat H y d/\PlN n d /\ ∀H',Same H H'->Q (.bl true) H'
theorem Oj{f:Addr}{fd:FuncData}(F:fZ K "_law_alike" "_law_alike" qR f fd):bL P w K mg base iC 1 f fd ["found","due"] (qN 0 K):=by
 refine F.ok zV (λvs H Q E h=>?_) (λcdv A outer s H vs Q E hr h=>?_)
 .obtain⟨x,y,d,_,_,_,z,_⟩:=h
  exact z.elim
 .obtain⟨x,y,d,_,_,_,z,_⟩:=h
  exact z.elim
theorem zX{n:Nat}{f:Addr}{fd:FuncData}(F:fZ K "_law_alike" "_law_alike" qR f fd)(zj:FnAt P w K mg base (n+1) "_law_alike" ["found","due"] (qN n K))(Bt:rQ mg):bL P w K mg base iC (n+1+1) f fd ["found","due"] (qN (n+1) K):=by
 refine F.ok zV (λvs H Q E h=>?_) (λcdv A outer s H vs Q E hr h=>?_)
 .obtain⟨x,y,d,rfl,_⟩:=h
  rfl
 .obtain⟨x,y,d,rfl,dx,dy,pl,k⟩:=h
  refine⟨_,(ao (cj (eX (bf (JH (K:=K) rfl) (by rfl) Bt.bV bM (aj (pv 1) (aj (cN (aj (eE (v:= .ty "list") (by rfl) Bt.iy fJ rfl) (aj (eE (v:= .ty "tuple") (by rfl) Bt.mL jQ rfl) aq))) aq)))) (ao (cj (PW.pt (lu (aR iD (bf (dD (K:=K) (cv:= .ty "list") (c:= .type "list") rfl rfl) (by rfl) Bt.bV bM (aj (pv 0) (aj (eE (v:= .ty "list") (by rfl) Bt.iy fJ rfl) aq))) (bf (dD (K:=K) (cv:= .ty "list") (c:= .type "list") rfl rfl) (by rfl) Bt.bV bM (aj (pv 1) (aj (eE (v:= .ty "list") (by rfl) Bt.iy fJ rfl) aq))) (aW _)) (jJ (aR iD (bf (dD (K:=K) (cv:= .ty "tuple") (c:= .type "tuple") rfl rfl) (by rfl) Bt.bV bM (aj (pv 0) (aj (eE (v:= .ty "tuple") (by rfl) Bt.mL jQ rfl) aq))) (bf (dD (K:=K) (cv:= .ty "tuple") (c:= .type "tuple") rfl rfl) (by rfl) Bt.bV bM (aj (pv 1) (aj (eE (v:= .ty "tuple") (by rfl) Bt.mL jQ rfl) aq))) (aW _))))) (aG (aU mR)) bw)
   (ao (cj (aR iD (bf (bH (K:=K) rfl) (by rfl) Bt.iZ fP (aj (pv 0) aq)) (bf (bH (K:=K) rfl) (by rfl) Bt.iZ fP (aj (pv 1) aq)) (aW _)) (aG (aU mR)) bw)
   (aG (aU (bf (jk (K:=K) rfl rfl) (by rfl) Bt.Uj JN (aj (fH rfl (N:=["k","found","due"]) (own:=["k"]) (caps:=[0,1]) (bA.of (by kernel_rfl)) (fV (by rfl) Bt.gJ (aj (bf (bH (K:=K) rfl) (by rfl) Bt.iZ fP (aj (pv 1) aq)) aq)) (λ_ _ _ _=>(aZ (i:=0) (show List.Nodup (["k","found","due"]:List Str) by decide +kernel) rfl (Or.inl rfl))) (λ_ _ _ _=>d_) (λ_ _ _ _=>(bh zj (hr.mono (aap _)) (by rfl) (aj (aH (Lw (K:=K) rfl) (pv 1) (pv 0) (λ_ _=>rfl)) (aj (aH (Lw (K:=K) rfl) (pv 2) (pv 0) (λ_ _=>rfl)) aq))))) aq)))))) bw)
   (aG (aU (ql (bf (dD (K:=K) (cv:= .ty "int") (c:= .type "int") rfl rfl) (by rfl) Bt.bV bM (aj (pv 0) (aj (eE (v:= .ty "int") (by rfl) Bt.Ui JM rfl) aq))) (ql (Rh (bf (dD (K:=K) (cv:= .ty "bool") (c:= .type "bool") rfl rfl) (by rfl) Bt.bV bM (aj (pv 0) (aj (eE (v:= .ty "bool") (by rfl) Bt.JV Dl rfl) aq)))) (nO (fW dN (pv 0) (pv 1) (aW _)))))))), ?_⟩
  match d,pl,dx,dy with
  | .int i,pl,dx,dy=>
    simp only[Dat] at dx dy;subst dx dy;refine⟨_,Z,(by show 2<=sizeLine;decide),λp hp=>?_⟩;have s1:=aD (o:=HO.tup [V.ty "list",V.ty "tuple"]) hp;refine⟨_,_,p,["list","tuple"],false,Z,.int i,ak,JW K,_,Z, ?_⟩;refine dG ?_;refine⟨_,Z,_,_,true,Z,.int i,uT K,_,Z, ?_⟩;refine eO ?_;refine⟨_,Z,_,_,false,Z,.int i,rA K,_,Z,_,Z, ?_⟩;refine eO ?_;refine⟨_,Z,_,Z,Z, ?_⟩;rw[aaM rfl];exact k _ s1
  | .list ds,pl,dx,dy=>
    simp only[Dat] at dx dy;obtain⟨a,vs,rfl,ha,da⟩:=dx;obtain⟨b,ws,rfl,hb,db⟩:=dy;have la:vs.length=ds.length:=da.length;have lb:ws.length=ds.length:=db.length;have pl1:ds.length<=100000:=pl.1;refine⟨_,Z,(by show 2<=sizeLine;decide),λp hp=>?_⟩;have s1:=aD (o:=HO.tup [V.ty "list",V.ty "tuple"]) hp;have ha1:=s1 _ _ ha;have hb1:=s1 _ _ hb;refine⟨_,_,p,["list","tuple"],true,Z,.lst hb1,ak,G9 K,_,Z, ?_⟩;refine eO ?_;refine⟨_,Z,_,_,true,Z,.lst ha1,kE K,_,Z,_,_,true,Z,.lst hb1,kE K,Z,_,Z, ?_⟩;refine nY rfl ?_;refine⟨_,Z,_,_,false,Z,.lst ha1,n_ K,_,Z,_,_,false,Z,.lst hb1,n_ K,Z,_,Z, ?_⟩;refine nY rfl ?_;refine⟨_,Z,a,_,Z,.inl (bB.of ha1),_,Z,b,_,Z,.inl (bB.of hb1),Z,_,Z, ?_⟩;refine nY (by rw[la,lb]) ?_;refine⟨_,Z,b,_,Z,.inl (bB.of hb1),_,Z,by lia,by lia,λD hD=>?_⟩;rw[show ((ws.length:Int)).toNat=ds.length by lia];refine lD (λi=>some (.bl true)) hD (by lia) (λi H2 G F hi s2 kG kF=>?_) (λH2 s2 e2=>?_)
    .obtain⟨d,ed⟩:∃d,ds[i]? = some d:=⟨ds[i],by simp[hi]⟩
     obtain⟨x,ex,dx⟩:=da.getD ed;obtain⟨y,ey,dy⟩:=db.getD ed;have Nr:=s1.trans s2;have a1:pF vs (0+(i:Int))=some x:=by rw[Int.zero_add];exact bI ex
     have a2:pF ws (0+(i:Int))=some y:=by rw[Int.zero_add];exact bI ey
     exact⟨_,Z,_,Z,.inl ⟨_,_,_,_,Z,Z,bB.of (s2 _ _ ha1),a1,_,Z,_,Z,.inl ⟨_,_,_,_,Z,Z,bB.of (s2 _ _ hb1),a2,x,y,d,Z,dx.same Nr d,dy.same Nr d,pl.2 d (aaL ed),λH3 s3=>kF _ H3 s3 rfl⟩⟩⟩
    .rw[Ai] at e2
     refine⟨D,List.replicate ds.length true,Z,bB.of (by rw[e2,List.map_replicate]), ?_⟩;rw[show (List.replicate ds.length true).all id=true by simp];exact k H2 (s1.trans s2)
  | .tuple ds,pl,dx,dy=>
    simp only[Dat] at dx dy;obtain⟨a,vs,rfl,ha,da⟩:=dx;obtain⟨b,ws,rfl,hb,db⟩:=dy;have la:vs.length=ds.length:=da.length;have lb:ws.length=ds.length:=db.length;have pl1:ds.length<=100000:=pl.1;refine⟨_,Z,(by show 2<=sizeLine;decide),λp hp=>?_⟩;have s1:=aD (o:=HO.tup [V.ty "list",V.ty "tuple"]) hp;have ha1:=s1 _ _ ha;have hb1:=s1 _ _ hb;refine⟨_,_,p,["list","tuple"],true,Z,.tup hb1,ak,Dn K,_,Z, ?_⟩;refine eO ?_;refine⟨_,Z,_,_,false,Z,.tup ha1,nZ K,_,Z,_,_,false,Z,.tup hb1,nZ K,Z,_,Z, ?_⟩;refine nY rfl ?_;refine⟨_,Z,_,_,true,Z,.tup ha1,dW K,_,Z,_,_,true,Z,.tup hb1,dW K,Z,_,Z, ?_⟩;refine nY rfl ?_;refine⟨_,Z,a,_,Z,.inr (bO.of ha1),_,Z,b,_,Z,.inr (bO.of hb1),Z,_,Z, ?_⟩;refine nY (by rw[la,lb]) ?_;refine⟨_,Z,b,_,Z,.inr (bO.of hb1),_,Z,by lia,by lia,λD hD=>?_⟩;rw[show ((ws.length:Int)).toNat=ds.length by lia];refine lD (λi=>some (.bl true)) hD (by lia) (λi H2 G F hi s2 kG kF=>?_) (λH2 s2 e2=>?_)
    .obtain⟨d,ed⟩:∃d,ds[i]? = some d:=⟨ds[i],by simp[hi]⟩
     obtain⟨x,ex,dx⟩:=da.getD ed;obtain⟨y,ey,dy⟩:=db.getD ed;have Nr:=s1.trans s2;have a1:pF vs (0+(i:Int))=some x:=by rw[Int.zero_add];exact bI ex
     have a2:pF ws (0+(i:Int))=some y:=by rw[Int.zero_add];exact bI ey
     exact⟨_,Z,_,Z,.inr (.inl ⟨_,_,_,_,Z,Z,bO.of (s2 _ _ ha1),a1,_,Z,_,Z,.inr (.inl ⟨_,_,_,_,Z,Z,bO.of (s2 _ _ hb1),a2,x,y,d,Z,dx.same Nr d,dy.same Nr d,pl.2 d (aaL ed),λH3 s3=>kF _ H3 s3 rfl⟩)⟩)⟩
    .rw[Ai] at e2
     refine⟨D,List.replicate ds.length true,Z,bB.of (by rw[e2,List.map_replicate]), ?_⟩;rw[show (List.replicate ds.length true).all id=true by simp];exact k H2 (s1.trans s2)
theorem Eh(a b:Int){z:Int}(h0:0<=z)(h1:z<2):∃v,pF [V.int a,V.int b] z=some (V.int v)/\(v=a\/v=b):=by
 have:z=0\/z=1:=by lia
 rcases this with rfl|rfl
 .exact⟨a,Z,.inl rfl⟩
 .exact⟨b,Z,.inr rfl⟩
noncomputable def Eo(K:PySem.W.Frag):Sp:=λvs H Q _=>∃(r b:Addr) (n:Nat),vs=[.ref r]/\cL H r b n/\n<500000000000 /\ ∀(v:V)(x:Qe)(H':Hp),Dat H' v (zN x)->Qh x->cL H' r b (n+3)->Kp r H H'->Q v H'
theorem Oa{f:Addr}{fd:FuncData}(F:fZ K "_law_plain" "_law_plain" wZ f fd)(bN:FnAt P w K mg base 2 "_law_draw" ["bag","many"] (lV K)):bL P w K mg base iC 3 f fd ["bag"] (Eo K):=by
 refine F.ok Np (λvs H Q E h=>?_) (λcdv A outer s H vs Q E hr h=>?_)
 .obtain⟨r,b,n,rfl,_⟩:=h
  rfl
 .obtain⟨r,b,n,rfl,B0,hn,k⟩:=h
  refine⟨_,(ao (cj (aR dN (bh bN (hr.mono (by decide)) (by rfl) (aj (pv 0) (aj aA aq))) aA (aW _)) (aG (aU (cN (aj bD (aj (aH (aL (K:=K) rfl) (bW (aj aA (aj aA (aj aA (aj (bh bN (hr.mono (by decide)) (by rfl) (aj (pv 0) (aj aA aq))) aq))))) (bh bN (hr.mono (by decide)) (by rfl) (aj (pv 0) (aj aA aq))) (λ_ _=>rfl)) aq))))) bw)
   (aG (aU (cN (aj bD (aj (aH Jj bD (bh bN (hr.mono (by decide)) (by rfl) (aj (pv 0) (aj (aH (aL (K:=K) rfl) (bW (aj aA (aj aA aq))) (bh bN (hr.mono (by decide)) (by rfl) (aj (pv 0) (aj aA aq))) (λ_ _=>rfl)) aq))) (λ_ _=>rfl)) aq)))))), ?_⟩
  refine⟨_,Z,r,b,2,n,Z,B0,by lia,by decide,by decide,λz H1 z0 z1 B1 k1=>⟨Z,_,Z, ?_⟩⟩;refine bK (λ_=>?_) (λ_=>?_)
  .refine⟨_,Z,r,b,1000,_,Z,B1,by lia,by decide,by decide,λq H2 q0 q1 B2 k2=>?_⟩
   refine⟨(by show 4<=sizeLine;decide),λl hl=>?_⟩;have sl:=aD (o:=HO.lst [V.int 0,V.int 1,V.int 999,V.int q]) hl;obtain⟨Oq,_⟩:=B2.ne hl;refine⟨_,Z,r,b,4,_,Z,B2.keep sl,by lia,by decide,by decide,λy H3 y0 y1 B3 k3=>?_⟩
   obtain⟨m,em,m1⟩:∃m:Int,pF [V.int 0,V.int 1,V.int 999,V.int q] y=some (.int m)/\(0<=m/\m<1000):=by
    have:y=0\/y=1\/y=2\/y=3:=by lia
    rcases this with rfl|rfl|rfl|rfl
    .exact⟨0,Z,by decide,by decide⟩
    .exact⟨1,Z,by decide,by decide⟩
    .exact⟨999,Z,by decide,by decide⟩
    .exact⟨q,Z,q0,q1⟩
   refine⟨_,_,_,_,Z,Z,bB.of (k3 _ _ ak Oq),em, ?_⟩;refine⟨(by show 2<=sizeLine;decide),λp hp=>?_⟩;have sp:=aD (o:=HO.tup [V.str (Str.ofString "number"),V.int m]) hp;exact k _ (.num m) _ (TF (x:= .num m) ak) m1 ((B3.keep sp)) ((((k1.trans k2).trans (.of_same sl)).trans k3).trans (.of_same sp))
  .refine⟨_,Z,(by show 2<=sizeLine;decide),λl hl=>?_⟩
   have sl:=aD (o:=HO.lst [V.int 2,V.int 8]) hl;obtain⟨Oq,_⟩:=B1.ne hl;refine⟨_,Z,r,b,2,_,Z,B1.keep sl,by lia,by decide,by decide,λy H2 y0 y1 B2 k2=>?_⟩;obtain⟨m,em,hm⟩:=Eh 2 8 y0 y1;refine⟨_,_,_,_,Z,Z,bB.of (k2 _ _ ak Oq),em,r,b,m,_,Z,B2,by lia,by lia,by lia,λi H3 i0 i1 B3 k3=>?_⟩;refine⟨_,_,_,Z,Z,Mz,Ms i0 (by lia),(by show 2<=sizeLine;decide),λp hp=>?_⟩;have sp:=aD (o:=HO.tup [V.str (Str.ofString "box"),V.str (rW i.toNat)]) hp;exact k _ (.box i.toNat) _ (TF (x:= .box i.toNat) ak) (by show i.toNat<8;lia) ((B3.keep sp).mono (by lia)) ((((k1.trans (.of_same sl)).trans k2).trans k3).trans (.of_same sp))
noncomputable def Ek(K:PySem.W.Frag):Sp:=λvs H Q _=>∃(r b:Addr) (n:Nat),vs=[.ref r]/\cL H r b n/\n<400000000000 /\ ∀(v:V)(e:Hq)(H':Hp),Dat H' v (lJ e)->ux e->cL H' r b (n+7)->Kp r H H'->Q v H'
theorem N5{f:Addr}{fd:FuncData}(F:fZ K "_law_worth" "_law_worth" wX f fd)(bN:FnAt P w K mg base 2 "_law_draw" ["bag","many"] (lV K))(Ho:FnAt P w K mg base 3 "_law_plain" ["bag"] (Eo K)):bL P w K mg base iC 4 f fd ["bag"] (Ek K):=by
 refine F.ok tO (λvs H Q E h=>?_) (λcdv A outer s H vs Q E hr h=>?_)
 .obtain⟨r,b,n,rfl,_⟩:=h
  rfl
 .obtain⟨r,b,n,rfl,B0,hn,k⟩:=h
  refine⟨_,(ao (aQ (i:=1) tO.nd rfl (Or.inl rfl) (bh bN (hr.mono (by decide)) (by rfl) (aj (pv 0) (aj aA aq))))
   (ao (aQ (i:=2) tO.nd rfl (Or.inl rfl) (bh Ho (hr.mono (by decide)) (by rfl) (aj (pv 0) aq)))
   (ao (cj (aR pL (pv 1) aA (aW _)) (aG (aU (pv 2))) bw)
   (aG (aU (cN (aj (aH (aL (K:=K) rfl) (bW (aj bD (aj bD aq))) (bQ qm (pv 1) aA) (λ_ _=>rfl)) (aj (pv 2) (aj (bh Ho (hr.mono (by decide)) (by rfl) (aj (pv 0) aq)) aq))))))))), ?_⟩
  refine⟨_,Z,r,b,4,n,Z,B0,by lia,by decide,by decide,λz H1 z0 z1 B1 k1=>?_⟩;refine⟨_,Z,r,b,_,Z,B1,by lia,λv x H2 dx xo B2 k2=>?_⟩;refine⟨_,Z,_,_,Z,Z,_,Z, ?_⟩;have k12:=k1.trans k2;refine bK (λ_=>?_) (λzz=>?_)
  .exact⟨_,Z,k v (.one x) H2 dx xo (B2.mono (by lia)) k12⟩
  have z2:2<=z:=by simp at zz;lia
  refine⟨(by show 2<=sizeLine;decide),λl hl=>?_⟩;have sl:=aD (o:=HO.lst [V.str (Str.ofString "plus"),V.str (Str.ofString "minus")]) hl
  obtain⟨q,eq⟩:∃q:Bool,pF [V.str (Str.ofString "plus"),V.str (Str.ofString "minus")] (z - 2)=some (.str (if q then "plus" else "minus")):=by
   have:z=2\/z=3:=by lia
   rcases this with rfl|rfl
   .exact⟨true,Z⟩
   .exact⟨false,Z⟩
  refine⟨_,Z,_,_,Z,Z,_,_,_,_,Z,Z,bB.of ak,eq, ?_⟩;have B3:=B2.keep sl;refine⟨_,Z,_,Z,r,b,_,Z,B3,by lia,λu y H4 dy yo B4 k4=>?_⟩;refine⟨(by show 3<=sizeLine;decide),λp hp=>?_⟩;have sp:=aD (o:=HO.tup [V.str (if q then "plus" else "minus"),v,u]) hp;have dx4:=dx.keep (λa xs e=>sp _ _ (B3.tups k4 _ _ (sl _ _ e))) _ (Jm x);exact k _ (.two q x y) _ (WR ak dx4 (dy.same sp _)) ⟨xo,yo⟩ (B4.keep sp) (((k12.trans (.of_same sl)).trans k4).trans (.of_same sp))
noncomputable def Bh:List V:=[.str "load",.str "store",.str "swap",.str "load",.str "store",.str "swap",.str "let",.str "say",.str "go",.str "unless"]
theorem M5{z:Int}(h0:0<=z)(h1:z<10):∃wd:Str,pF Bh z=some (.str wd)/\(wd = "load" \/ wd = "store" \/ wd = "swap" \/ wd = "let" \/ wd = "say" \/ wd = "go" \/ wd = "unless"):=by
 have:z=0\/z=1\/z=2\/z=3\/z=4\/z=5\/z=6\/z=7\/z=8\/z=9:=by lia
 rcases this with rfl|rfl|rfl|rfl|rfl|rfl|rfl|rfl|rfl|rfl
 .exact⟨_,Z,.inl rfl⟩
 .exact⟨_,Z,.inr (.inl rfl)⟩
 .exact⟨_,Z,.inr (.inr (.inl rfl))⟩
 .exact⟨_,Z,.inl rfl⟩
 .exact⟨_,Z,.inr (.inl rfl)⟩
 .exact⟨_,Z,.inr (.inr (.inl rfl))⟩
 .exact⟨_,Z,.inr (.inr (.inr (.inl rfl)))⟩
 .exact⟨_,Z,.inr (.inr (.inr (.inr (.inl rfl))))⟩
 .exact⟨_,Z,.inr (.inr (.inr (.inr (.inr (.inl rfl)))))⟩
 .exact⟨_,Z,.inr (.inr (.inr (.inr (.inr (.inr rfl)))))⟩
noncomputable def QB(K:PySem.W.Frag):Sp:=λvs H Q _=>∃(r b:Addr) (m sz n:Nat),vs=[.ref r,.int m,.int sz]/\cL H r b n/\n<300000000000/\sz<=100/\0<m/\m<=20 /\ ∀(v:V)(x:Rw)(H':Hp),Dat H' v (kZ x)->tY m x->cL H' r b (n+40)->Kp r H H'->Q v H'
theorem VN{f:Addr}{fd:FuncData}(F:fZ K "_law_row" "_law_row" Ih f fd)(bN:FnAt P w K mg base 2 "_law_draw" ["bag","many"] (lV K))(lG:FnAt P w K mg base 4 "_law_worth" ["bag"] (Ek K)):bL P w K mg base iC 5 f fd ["bag","size","rows"] (QB K):=by
 refine F.ok qQ (λvs H Q E h=>?_) (λcdv A outer s H vs Q E hr h=>?_)
 .obtain⟨r,b,m,sz,n,rfl,_⟩:=h
  rfl
 .obtain⟨r,b,m,sz,n,rfl,B0,hn,z1,m0,m1,k⟩:=h
  refine⟨_,(ao (aQ (i:=3) qQ.nd rfl (Or.inl rfl) (aH (aL (K:=K) rfl) (@Vv _ _ _ ["load","store","swap","load","store","swap","let","say","go","unless"] (by decide +kernel)) (bh bN (hr.mono (by decide)) (by rfl) (aj (pv 0) (aj aA aq))) (λ_ _=>rfl)))
   (ao (aQ (i:=4) qQ.nd rfl (Or.inl rfl) (aH Jj bD (bh bN (hr.mono (by decide)) (by rfl) (aj (pv 0) (aj (aH (aL (K:=K) rfl) (bW (aj aA (aj aA aq))) (bh bN (hr.mono (by decide)) (by rfl) (aj (pv 0) (aj aA aq))) (λ_ _=>rfl)) aq))) (λ_ _=>rfl)))
   (ao (aQ (i:=5) qQ.nd rfl (Or.inl rfl) (bh bN (hr.mono (by decide)) (by rfl) (aj (pv 0) (aj (pv 1) aq))))
   (ao (aQ (i:=6) qQ.nd rfl (Or.inl rfl) (bh bN (hr.mono (by decide)) (by rfl) (aj (pv 0) (aj (bQ eZ (pv 2) aA) aq))))
   (ao (cj (aR dN (pv 3) bD (aW _)) (aG (aU (cN (aj bD (aj (pv 4) (aj (pv 5) aq)))))) bw)
   (ao (cj (aR dN (pv 3) bD (aW _)) (aG (aU (cN (aj bD (aj (pv 5) (aj (bh lG (hr.mono (by decide)) (by rfl) (aj (pv 0) aq)) aq)))))) bw)
   (ao (cj (aR dN (pv 3) bD (aW _)) (aG (aU (cN (aj bD (aj (pv 4) (aj (pv 5) (aj (bh lG (hr.mono (by decide)) (by rfl) (aj (pv 0) aq)) aq))))))) bw)
   (ao (cj (aR dN (pv 3) bD (aW _)) (aG (aU (cN (aj bD (aj (pv 4) (aj (bh lG (hr.mono (by decide)) (by rfl) (aj (pv 0) aq)) aq)))))) bw)
   (ao (cj (aR dN (pv 3) bD (aW _)) (aG (aU (cN (aj bD (aj (bh lG (hr.mono (by decide)) (by rfl) (aj (pv 0) aq)) aq))))) bw)
   (ao (cj (aR dN (pv 3) bD (aW _)) (aG (aU (cN (aj bD (aj (pv 6) aq))))) bw)
   (aG (aU (cN (aj bD (aj (aH (aL (K:=K) rfl) (bW (aj bD (aj bD aq))) (bh bN (hr.mono (by decide)) (by rfl) (aj (pv 0) (aj aA aq))) (λ_ _=>rfl)) (aj (bh lG (hr.mono (by decide)) (by rfl) (aj (pv 0) aq)) (aj (bh lG (hr.mono (by decide)) (by rfl) (aj (pv 0) aq)) (aj (pv 6) aq)))))))))))))))))), ?_⟩
  refine⟨(by show 10<=sizeLine;decide),λl hl=>?_⟩;have sl:=aD (o:=HO.lst Bh) hl;obtain⟨Oq,_⟩:=B0.ne hl;refine⟨_,Z,r,b,10,n,Z,B0.keep sl,by lia,by decide,by decide,λkd H1 kd0 kd1 B1 k1=>?_⟩;obtain⟨wd,ew,hw⟩:=M5 kd0 kd1;refine⟨_,_,_,_,Z,Z,bB.of (k1 _ _ (show upd H l (.lst Bh) l=some (.lst Bh) from ak) Oq),ew, ?_⟩;refine⟨_,Z,(by show 2<=sizeLine;decide),λl' hl'=>?_⟩;have sl':=aD (o:=HO.lst [V.int 2,V.int 8]) hl';obtain⟨R7,_⟩:=B1.ne hl';refine⟨_,Z,r,b,2,_,Z,B1.keep sl',by lia,by decide,by decide,λy H2 y0 y1 B2 k2=>?_⟩;obtain⟨bx,eb,hbx⟩:=Eh 2 8 y0 y1;refine⟨_,_,_,_,Z,Z,bB.of (k2 _ _ ak R7),eb,r,b,bx,_,Z,B2,by lia,by lia,by lia,λi H3 i0 i1 B3 k3=>?_⟩;refine⟨_,_,_,Z,Z,Mz,Ms i0 (by lia), ?_⟩;refine⟨_,Z,_,Z,r,b,m,_,Z,B3,by lia,by lia,by lia,λc H4 c0 c1 B4 k4=>?_⟩;obtain⟨c,rfl⟩:=abD c0;refine⟨_,Z,_,Z,_,_,Z,Z,r,b,_,_,Z,B4,by lia,by lia,by lia,λto H5 t0 t1 B5 k5=>?_⟩;obtain⟨to,rfl⟩:=abD t0;have K5:Kp r H H5:=((((((Kp.of_same sl).trans k1).trans (Kp.of_same sl')).trans k2).trans k3).trans k4).trans k5;have ib:i.toNat<8:=by lia
  have cm:c<m:=by lia
  clear k1 k2 k3 k4 k5 B1 B2 B3 B4 sl sl' Oq R7 eb ew hl hl';rcases hw with rfl|rfl|rfl|rfl|rfl|rfl|rfl
  .refine⟨_,Z,Z,_,Z,bK (λ_=>?_) (λz=>abZ (aaM rfl) z)⟩
   refine⟨_,Z,_,Z,(by show 3<=sizeLine;decide),λp hp=>?_⟩;have sp:=aD (o:=HO.tup [V.str (Str.ofString "load"),V.str (rW i.toNat),V.int c]) hp;exact k _ (.load i.toNat c) _ (TV ak) ⟨ib,cm⟩ ((B5.keep sp).mono (by lia)) (K5.trans (.of_same sp))
  .refine⟨_,Z,Z,_,Z,bK (λz=>abZ (aaO z) (by decide)) (λ_=>?_)⟩
   refine⟨_,Z,Z,_,Z,bK (λ_=>?_) (λz=>abZ (aaM rfl) z)⟩;refine⟨_,Z,_,Z,r,b,_,Z,B5,by lia,λv e H6 d eo B6 k6=>?_⟩;refine⟨(by show 3<=sizeLine;decide),λp hp=>?_⟩;have sp:=aD (o:=HO.tup [V.str (Str.ofString "store"),V.int c,v]) hp;exact k _ (.store c e) _ (O9 ak (d.same sp _)) ⟨cm,eo⟩ ((B6.keep sp).mono (by lia)) ((K5.trans k6).trans (.of_same sp))
  .refine⟨_,Z,Z,_,Z,bK (λz=>abZ (aaO z) (by decide)) (λ_=>?_)⟩
   refine⟨_,Z,Z,_,Z,bK (λz=>abZ (aaO z) (by decide)) (λ_=>?_)⟩;refine⟨_,Z,Z,_,Z,bK (λ_=>?_) (λz=>abZ (aaM rfl) z)⟩;refine⟨_,Z,_,Z,_,Z,r,b,_,Z,B5,by lia,λv e H6 d eo B6 k6=>?_⟩;refine⟨(by show 4<=sizeLine;decide),λp hp=>?_⟩;have sp:=aD (o:=HO.tup [V.str (Str.ofString "swap"),V.str (rW i.toNat),V.int c,v]) hp;exact k _ (.swap i.toNat c e) _ (TJ ak (d.same sp _)) ⟨ib,cm,eo⟩ ((B6.keep sp).mono (by lia)) ((K5.trans k6).trans (.of_same sp))
  .refine⟨_,Z,Z,_,Z,bK (λz=>abZ (aaO z) (by decide)) (λ_=>?_)⟩
   refine⟨_,Z,Z,_,Z,bK (λz=>abZ (aaO z) (by decide)) (λ_=>?_)⟩;refine⟨_,Z,Z,_,Z,bK (λz=>abZ (aaO z) (by decide)) (λ_=>?_)⟩;refine⟨_,Z,Z,_,Z,bK (λ_=>?_) (λz=>abZ (aaM rfl) z)⟩;refine⟨_,Z,_,Z,r,b,_,Z,B5,by lia,λv e H6 d eo B6 k6=>?_⟩;refine⟨(by show 3<=sizeLine;decide),λp hp=>?_⟩;have sp:=aD (o:=HO.tup [V.str (Str.ofString "let"),V.str (rW i.toNat),v]) hp;exact k _ (.vf i.toNat e) _ (WY ak (d.same sp _)) ⟨ib,eo⟩ ((B6.keep sp).mono (by lia)) ((K5.trans k6).trans (.of_same sp))
  .refine⟨_,Z,Z,_,Z,bK (λz=>abZ (aaO z) (by decide)) (λ_=>?_)⟩
   refine⟨_,Z,Z,_,Z,bK (λz=>abZ (aaO z) (by decide)) (λ_=>?_)⟩;refine⟨_,Z,Z,_,Z,bK (λz=>abZ (aaO z) (by decide)) (λ_=>?_)⟩;refine⟨_,Z,Z,_,Z,bK (λz=>abZ (aaO z) (by decide)) (λ_=>?_)⟩;refine⟨_,Z,Z,_,Z,bK (λ_=>?_) (λz=>abZ (aaM rfl) z)⟩;refine⟨_,Z,r,b,_,Z,B5,by lia,λv e H6 d eo B6 k6=>?_⟩;refine⟨(by show 2<=sizeLine;decide),λp hp=>?_⟩;have sp:=aD (o:=HO.tup [V.str (Str.ofString "say"),v]) hp;exact k _ (.say e) _ (WW ak (d.same sp _)) eo ((B6.keep sp).mono (by lia)) ((K5.trans k6).trans (.of_same sp))
  .refine⟨_,Z,Z,_,Z,bK (λz=>abZ (aaO z) (by decide)) (λ_=>?_)⟩
   refine⟨_,Z,Z,_,Z,bK (λz=>abZ (aaO z) (by decide)) (λ_=>?_)⟩;refine⟨_,Z,Z,_,Z,bK (λz=>abZ (aaO z) (by decide)) (λ_=>?_)⟩;refine⟨_,Z,Z,_,Z,bK (λz=>abZ (aaO z) (by decide)) (λ_=>?_)⟩;refine⟨_,Z,Z,_,Z,bK (λz=>abZ (aaO z) (by decide)) (λ_=>?_)⟩;refine⟨_,Z,Z,_,Z,bK (λ_=>?_) (λz=>abZ (aaM rfl) z)⟩;refine⟨_,Z,(by show 2<=sizeLine;decide),λp hp=>?_⟩;have sp:=aD (o:=HO.tup [V.str (Str.ofString "go"),V.int to]) hp;exact k _ (.go to) _ (aam ak) trivial ((B5.keep sp).mono (by lia)) (K5.trans (.of_same sp))
  .refine⟨_,Z,Z,_,Z,bK (λz=>abZ (aaO z) (by decide)) (λ_=>?_)⟩
   refine⟨_,Z,Z,_,Z,bK (λz=>abZ (aaO z) (by decide)) (λ_=>?_)⟩;refine⟨_,Z,Z,_,Z,bK (λz=>abZ (aaO z) (by decide)) (λ_=>?_)⟩;refine⟨_,Z,Z,_,Z,bK (λz=>abZ (aaO z) (by decide)) (λ_=>?_)⟩;refine⟨_,Z,Z,_,Z,bK (λz=>abZ (aaO z) (by decide)) (λ_=>?_)⟩;refine⟨_,Z,Z,_,Z,bK (λz=>abZ (aaO z) (by decide)) (λ_=>?_)⟩;refine⟨(by show 2<=sizeLine;decide),λl2 hl2=>?_⟩;have sl2:=aD (o:=HO.lst [V.str (Str.ofString "="),V.str (Str.ofString "<")]) hl2;obtain⟨nl2,_⟩:=B5.ne hl2;refine⟨_,Z,r,b,2,_,Z,B5.keep sl2,by lia,by decide,by decide,λq H6 q0 q1 B6 k6=>?_⟩
   obtain⟨sg,esg⟩:∃sg:Bool,pF [V.str (Str.ofString "="),V.str (Str.ofString "<")] q=some (.str (if sg then "=" else "<")):=by
    have:q=0\/q=1:=by lia
    rcases this with rfl|rfl
    .exact⟨true,Z⟩
    .exact⟨false,Z⟩
   refine⟨_,_,_,_,Z,Z,bB.of (k6 _ _ ak nl2),esg, ?_⟩;refine⟨_,Z,r,b,_,Z,B6,by lia,λv e H7 d eo B7 k7=>?_⟩;refine⟨_,Z,r,b,_,Z,B7,by lia,λu f H8 d' fo B8 k8=>?_⟩;refine⟨_,Z,(by show 5<=sizeLine;decide),λp hp=>?_⟩;have sp:=aD (o:=HO.tup [V.str (Str.ofString "unless"),V.str (if sg then "=" else "<"),v,u,V.int to]) hp;have d8:=d.keep (λa xs e=>sp _ _ (B7.tups k8 _ _ e)) _ (uo e);exact k _ (.zx sg e f to) _ (WQ ak d8 (d'.same sp _)) ⟨eo,fo⟩ ((B8.keep sp).mono (by lia)) ((((K5.trans (.of_same sl2)).trans k6).trans (k7.trans k8)).trans (.of_same sp))
noncomputable def dr(r:Addr)(H:Hp):Hp:=λx=>if x=r then none else H x
theorem jq{r:Addr}{H:Hp}:Same (dr r H) H:=λx o e=>by
 unfold dr at e
 by_cases z:x=r
 .rw[abW z] at e;cases e
 .rw[abN z] at e;exact e
theorem pQ{r x:Addr}{H:Hp}{o:HO}(e:H x=some o)(n:x≠r):dr r H x=some o:=by unfold dr;rw[abN n];exact e
theorem GC{r x:Addr}{H:Hp}{o:HO}(e:dr r H x=some o):x≠r:=λz=>by
 unfold dr at e;rw[abW z] at e;cases e
theorem Kp.dr{r:Addr}{H H':Hp}(k:Kp r H H'):Same (dr r H) (dr r H'):=λx o e=>pQ (k _ _ (jq _ _ e) (GC e)) (GC e)
theorem Same.dr{r:Addr}{H H':Hp}(k:Same H H'):Same (dr r H) (dr r H'):=Kp.dr (Kp.of_same k)
theorem aak{r:Addr}{H:Hp}{ys:List V}(hr:H r=some (.lst ys)):∀x xs,H x=some (.tup xs)->dr r H x=some (.tup xs):=λx xs e=>pQ e (cH e hr (by intro z;cases z))
theorem dO.dr{r q:Addr}{H:Hp}{m:Nat}{x:List Rw}{ys:List V}(h:dO H q m x)(hr:H r=some (.lst ys))(n:q≠r):dO (dr r H) q m x:=h.keep (λo e=>pQ e n) (aak hr)
noncomputable def KY(K:PySem.W.Frag):Sp:=λvs H Q _=>∃(r b:Addr) (m n:Nat),vs=[.ref r,.int m]/\cL H r b n/\n<200000000000/\0<m/\m<=20 /\ ∀(D:Addr)(x:List Rw)(H':Hp),H D=none->dO H' D m x->x.length<=60->cL H' r b (n+2500)->Kp r H H'->Q (.ref D) H'
theorem QH{z:Int}(h0:0<=z)(h1:z<7):∃v:Int,pF [V.int 5,V.int 9,V.int 3,V.int 9,V.int 0,V.int 21,V.int 60] z=some (.int v)/\0<=v/\v<=60:=by
 have:z=0\/z=1\/z=2\/z=3\/z=4\/z=5\/z=6:=by lia
 rcases this with rfl|rfl|rfl|rfl|rfl|rfl|rfl
 .exact⟨5,Z,by decide,by decide⟩
 .exact⟨9,Z,by decide,by decide⟩
 .exact⟨3,Z,by decide,by decide⟩
 .exact⟨9,Z,by decide,by decide⟩
 .exact⟨0,Z,by decide,by decide⟩
 .exact⟨21,Z,by decide,by decide⟩
 .exact⟨60,Z,by decide,by decide⟩
theorem RN{f:Addr}{fd:FuncData}(F:fZ K "_law_hand" "_law_hand" B_ f fd)(bN:FnAt P w K mg base 2 "_law_draw" ["bag","many"] (lV K))(aaE:FnAt P w K mg base 5 "_law_row" ["bag","size","rows"] (QB K))(Bt:rQ mg):bL P w K mg base iC 6 f fd ["bag","size"] (KY K):=by
 refine F.ok wV (λvs H Q E h=>?_) (λcdv A outer s H vs Q E hr h=>?_)
 .obtain⟨r,b,m,n,rfl,_⟩:=h
  rfl
 .obtain⟨r,b,m,n,rfl,B0,hn,m0,m1,k⟩:=h
  refine⟨_,(ao (aQ (i:=2) wV.nd rfl (Or.inr rfl) (aH (aL (K:=K) rfl) (bW (aj aA (aj aA (aj aA (aj aA (aj aA (aj aA (aj aA aq)))))))) (bh bN (hr.mono (by decide)) (by rfl) (aj (pv 0) (aj aA aq))) (λ_ _=>rfl)))
   (ao (aQ (i:=2) wV.nd rfl (Or.inr rfl) (bh bN (hr.mono (by decide)) (by rfl) (aj (pv 0) (aj (bQ eZ (pv 2) aA) aq))))
   (aG (aU (fH rfl (N:=["at","bag","size","rows"]) (own:=["at"]) (caps:=[0,1,2]) (bA.of (by kernel_rfl)) (fV (by rfl) Bt.gJ (aj (pv 2) aq)) (λ_ _ _ _=>(aZ (i:=0) (show List.Nodup (["at","bag","size","rows"]:List Str) by decide +kernel) rfl (Or.inl rfl))) (λ_ _ _ _=>d_) (λ_ _ _ _=>(bh aaE (hr.mono (by decide)) (by rfl) (aj (pv 1) (aj (pv 2) (aj (pv 3) aq)))))))))), ?_⟩
  refine⟨(by show 7<=sizeLine;decide),λl hl=>?_⟩;have sl:=aD (o:=HO.lst [V.int 5,V.int 9,V.int 3,V.int 9,V.int 0,V.int 21,V.int 60]) hl;obtain⟨Oq,_⟩:=B0.ne hl;refine⟨_,Z,r,b,7,n,Z,B0.keep sl,by lia,by decide,by decide,λy H1 y0 y1 B1 k1=>?_⟩;obtain⟨z,ez,z0,z1⟩:=QH y0 y1;refine⟨_,_,_,_,Z,Z,bB.of (k1 _ _ ak Oq),ez, ?_⟩;refine⟨_,Z,_,Z,_,_,Z,Z,r,b,_,_,Z,B1,by lia,by lia,by lia,λsz H2 s0 s1 B2 k2=>?_⟩;obtain⟨sz,rfl⟩:=abD s0;have K2:Kp r H H2:=((Kp.of_same sl).trans k1).trans k2;refine⟨_,Z,_,Z,by lia,by lia,λD hD=>?_⟩;have sD:=aD (o:=HO.lst []) hD;obtain⟨Ge,ZF⟩:=B2.ne hD
  have S5:H D=none:=by
   cases e:H D with
   | none=>rfl
   | some o=>rw[K2 _ _ e Ge] at hD;cases hD
  refine mK (lo:=0) (n:=sz) (λi σ Hd=>∃(v:Option V) (refs:List V) (x:List Rw),σ=[v,some (.ref r),some (.int m),some (.int sz)]/\cL Hd r b (n+2+40*i)/\Hd D=some (.lst refs)/\aO Hd refs (x.map kZ)/\(∀y∈x,tY m y)/\x.length=i/\Kp r H Hd) ?_ ?_ ?_
  .exact⟨none,[],[],Z,B2.keep sD,ak,by simp[aO],by simp,Z,K2.trans (.of_same sD)⟩
  .rintro i σ Hd hi ⟨v,refs,x,rfl,Bd,DR,dd,od,ld,kd⟩
   dsimp only[gR,Bk];rw[abW rfl];refine⟨_,Z,_,Z,_,Z,r,b,m,sz,_,Z,Bd,by lia,by lia,m0,m1,λu w' H5 du wo B5 k5=>?_⟩;have hD5:=k5 _ _ DR Ge;have t5:=Bd.tups k5;have tu:∀a ys,H5 a=some (.tup ys)->(upd H5 D (.lst (refs++[u]))) a=some (.tup ys):=λa ys e=>by rw[aF (cH e hD5 (by intro z;cases z))];exact e
   have ll:refs.length=x.length:=by rw[dd.length,aad]
   refine⟨refs,hD5,(by rw[ll,sizeLine_eq];lia),_,refs++[u],x++[w'],Z,(B5.kp Kp.set Ge.symm ZF.symm).mono (by lia),ak, ?_, ?_,by simp[ld], ?_⟩
   .rw[aaX]
    exact pA ((dd.kp t5).kp tu) (du.keep tu _ (yr w'))
   .intro q hq
    rcases aa1.mp hq with hq|hq
    .exact od q hq
    .rw[List.mem_singleton.mp hq];exact wo
   .intro x' o e n'
    rw[aF (au e S5)];exact k5 _ _ (kd _ _ e n') n'
  .rintro σ Hd ⟨v,refs,x,rfl,Bd,DR,dd,od,ld,kd⟩
   exact k D x Hd S5 ⟨refs,DR,dd,od,by lia⟩ (by lia) (Bd.mono (by lia)) kd
theorem cL.stp{τ:Tg}{i:Nat}{H H':Hp}{r b:Addr}{n:Nat}(h:cL H r b n)(k:Yi i τ H H')(t1:(τ r).head?≠some i)(t2:(τ b).head?≠some i):cL H' r b n:=by
 obtain⟨ns,i,f,c,t,e1,e2,q⟩:=h;exact⟨ns,i,f,c,t,k.keep _ _ e1 t1,k.keep _ _ e2 t2,q⟩
noncomputable def KD(K:PySem.W.Frag):Sp:=λvs H Q _=>∃(r b:Addr) (n:Nat),vs=[.ref r]/\cL H r b n/\n<100000000000 /\ ∀(p L:Addr)(rs:List Addr)(rws:List (List Rw))(m:Nat)(H':Hp),Ay (dr r H') p L rs rws m->1<=rws.length->rws.length<=8->0<m->m<=20->cL H' r b (n+25000)->Kp r H H'->Q (.ref p) H'
theorem Tq{e z:Int}(h0:0<=z)(h1:z<8)(e0:0<=e)(e1:e<4):∃v:Int,pF [V.int 2,V.int 3,V.int 2,V.int 4,V.int 3,V.int 2,V.int 1,V.int (5+e)] z=some (.int v)/\1<=v/\v<=8:=by
 have:z=0\/z=1\/z=2\/z=3\/z=4\/z=5\/z=6\/z=7:=by lia
 rcases this with rfl|rfl|rfl|rfl|rfl|rfl|rfl|rfl
 .exact⟨2,Z,by decide,by decide⟩
 .exact⟨3,Z,by decide,by decide⟩
 .exact⟨2,Z,by decide,by decide⟩
 .exact⟨4,Z,by decide,by decide⟩
 .exact⟨3,Z,by decide,by decide⟩
 .exact⟨2,Z,by decide,by decide⟩
 .exact⟨1,Z,by decide,by decide⟩
 .exact⟨5+e,Z,by lia,by lia⟩
theorem Ws{e z:Int}(h0:0<=z)(h1:z<4)(e0:0<=e)(e1:e<20):∃v:Int,pF [V.int 1,V.int 2,V.int 3,V.int (1+e)] z=some (.int v)/\1<=v/\v<=20:=by
 have:z=0\/z=1\/z=2\/z=3:=by lia
 rcases this with rfl|rfl|rfl|rfl
 .exact⟨1,Z,by decide,by decide⟩
 .exact⟨2,Z,by decide,by decide⟩
 .exact⟨3,Z,by decide,by decide⟩
 .exact⟨1+e,Z,by lia,by lia⟩
theorem Ry{f:Addr}{fd:FuncData}(F:fZ K "_law_program" "_law_program" qg f fd)(bN:FnAt P w K mg base 2 "_law_draw" ["bag","many"] (lV K))(Xj:FnAt P w K mg base 6 "_law_hand" ["bag","size"] (KY K))(Bt:rQ mg):bL P w K mg base iC 7 f fd ["bag"] (KD K):=by
 refine F.ok nu (λvs H Q E h=>?_) (λcdv A outer s H vs Q E hr h=>?_)
 .obtain⟨r,b,n,rfl,_⟩:=h
  rfl
 .obtain⟨r,b,n,rfl,B0,hn,k⟩:=h
  refine⟨_,(ao (aQ (i:=1) nu.nd rfl (Or.inl rfl) (aH (aL (K:=K) rfl) (bW (aj aA (aj aA (aj aA (aj aA (aj aA (aj aA (aj aA (aj (bQ eZ aA (bh bN (hr.mono (by decide)) (by rfl) (aj (pv 0) (aj aA aq)))) aq))))))))) (bh bN (hr.mono (by decide)) (by rfl) (aj (pv 0) (aj aA aq))) (λ_ _=>rfl)))
   (ao (aQ (i:=2) nu.nd rfl (Or.inr rfl) (aH (aL (K:=K) rfl) (bW (aj aA (aj aA (aj aA (aj (bQ eZ aA (bh bN (hr.mono (by decide)) (by rfl) (aj (pv 0) (aj aA aq)))) aq))))) (bh bN (hr.mono (by decide)) (by rfl) (aj (pv 0) (aj aA aq))) (λ_ _=>rfl)))
   (aG (aU (cN (aj (pv 2) (aj (fH rfl (N:=["hand","bag","size"]) (own:=["hand"]) (caps:=[0,2]) (bA.of (by kernel_rfl)) (fV (by rfl) Bt.gJ (aj (pv 1) aq)) (λ_ _ _ _=>(aZ (i:=0) (show List.Nodup (["hand","bag","size"]:List Str) by decide +kernel) rfl (Or.inl rfl))) (λ_ _ _ _=>d_) (λ_ _ _ _=>(bh Xj (hr.mono (by decide)) (by rfl) (aj (pv 1) (aj (pv 2) aq))))) aq))))))), ?_⟩
  refine⟨_,Z,r,b,4,n,Z,B0,by lia,by decide,by decide,λe1 H1 e10 e11 B1 k1=>⟨_,_,Z,Z, ?_⟩⟩;refine⟨(by show 8<=sizeLine;decide),λl hl=>?_⟩;have sl:=aD (o:=HO.lst [V.int 2,V.int 3,V.int 2,V.int 4,V.int 3,V.int 2,V.int 1,V.int (5+e1)]) hl;obtain⟨Oq,_⟩:=B1.ne hl;refine⟨_,Z,r,b,8,_,Z,B1.keep sl,by lia,by decide,by decide,λy H2 y0 y1 B2 k2=>?_⟩;obtain⟨mn,en,m1,m8⟩:=Tq y0 y1 e10 e11;refine⟨_,_,_,_,Z,Z,bB.of (k2 _ _ ak Oq),en, ?_⟩;have K2:Kp r H H2:=(k1.trans (.of_same sl)).trans k2;refine⟨_,Z,r,b,20,_,Z,B2,by lia,by decide,by decide,λe2 H3 e20 e21 B3 k3=>⟨_,_,Z,Z, ?_⟩⟩;refine⟨(by show 4<=sizeLine;decide),λl' hl'=>?_⟩;have sl':=aD (o:=HO.lst [V.int 1,V.int 2,V.int 3,V.int (1+e2)]) hl';obtain⟨R7,_⟩:=B3.ne hl';refine⟨_,Z,r,b,4,_,Z,B3.keep sl',by lia,by decide,by decide,λy' H4 y0' PN B4 k4=>?_⟩;obtain⟨sz,es,s1,s20⟩:=Ws y0' PN e20 e21;obtain⟨m,rfl⟩:=abD (show 0<=sz by lia);refine⟨_,_,_,_,Z,Z,bB.of (k4 _ _ ak R7),es, ?_⟩;have K4:Kp r H H4:=((K2.trans k3).trans (.of_same sl')).trans k4;clear k1 k2 k3 k4 sl sl' B1 B2 B3 K2 en es hl hl' Oq R7;refine⟨_,Z,_,Z,_,Z,by lia,by lia,λD hD=>?_⟩;have sD:=aD (o:=HO.lst []) hD;obtain⟨Ge,ZF⟩:=B4.ne hD;have S5:H D=none:=vR K4 Ge hD;refine mK (lo:=0) (n:=mn.toNat) (λi σ Hd=>∃(v:Option V) (rs:List Addr) (rws:List (List Rw)),σ=[v,some (.ref r),some (.int m)]/\cL Hd r b (n+4+2500*i)/\Hd D=some (.lst (rs.map V.ref))/\rs.length=rws.length/\rws.length=i/\(∀(k:Nat)(q:Addr)(x:List Rw),rs[k]? = some q->rws[k]? = some x->dO (dr D (dr r Hd)) q m x)/\Kp r H Hd) ?_ ?_ ?_
  .exact⟨none,[],[],Z,B4.keep sD,ak,Z,Z,λk q x e=>by simp at e,K4.trans (.of_same sD)⟩
  .rintro i σ Hd hi ⟨v,rs,rws,rfl,Bd,DR,lr,li,hrs,kd⟩
   dsimp only[gR,Bk];rw[abW rfl];refine⟨_,Z,_,Z,r,b,m,_,Z,Bd,by lia,by lia,by lia,λq x H5 hq Rq _ B5 k5=>?_⟩;have hD5:=k5 _ _ DR Ge;have nqD:q≠D:=(au DR hq).symm;obtain⟨nqr,_⟩:=Bd.ne hq;obtain⟨ys,hr5⟩:=B5.lst
   have ku:Same (dr D (dr r H5)) (dr D (dr r (upd H5 D (.lst (rs.map V.ref++[V.ref q]))))):=λx o e=>by
    have n1:=GC e;have e1:=jq _ _ e;exact pQ (pQ (by rw[aF n1];exact jq _ _ e1) (GC e1)) n1
   refine⟨_,hD5,(by rw[aad,lr,li,sizeLine_eq];lia),_,rs++[q],rws++[x],Z,(B5.kp Kp.set Ge.symm ZF.symm).mono (by lia),by rw[ak,aaX];rfl,by simp[lr],by simp[li],λk' q' x' h1 h2=>?_,λx' o e n'=>by rw[aF (au e S5)];exact k5 _ _ (kd _ _ e n') n'⟩;refine dO.same ?_ ku;rcases lB h2 with h2|⟨ek,rfl⟩
   .have kl:=(aaf.mp h2).1
    rw[aaU (by rw[lr];exact kl)] at h1;exact(hrs k' q' x' h1 h2).same (Same.dr (Kp.dr k5))
   .have e1:q'=q:=by
     rcases lB h1 with h1|⟨_,h1⟩
     .have:=(aaf.mp h1).1;rw[lr] at this;lia
     .exact h1
    subst e1;exact(Rq.dr hr5 nqr).dr (pQ hD5 Ge) nqD
  .rintro σ Hd ⟨v,rs,rws,rfl,Bd,DR,lr,li,hrs,kd⟩
   refine⟨(by show 2<=sizeLine;decide),λp hp=>?_⟩;have sp:=aD (o:=HO.tup [V.int m,V.ref D]) hp;obtain⟨npr,_⟩:=Bd.ne hp;exact k p D rs rws m _ ⟨pQ ak npr,pQ (sp _ _ DR) Ge,lr,λk' q' x' h1 h2=>((hrs k' q' x' h1 h2).same jq).same (Same.dr sp)⟩ (by lia) (by lia) (by lia) (by lia) ((Bd.keep sp).mono (by lia)) (kd.trans (.of_same sp))
noncomputable def Ew(K:PySem.W.Frag):Sp:=λvs H Q _=>∃(r b:Addr) (m n:Nat),vs=[.ref r,.int m]/\cL H r b n/\n<100000000000/\m<=20 /\ ∀(nv:V)(ns:List Int)(H':Hp),Ds (dr r H') nv ns m->cL H' r b (n+100)->Kp r H H'->Q nv H'
theorem V3(m:Nat):gK m (List.replicate m 0):=⟨by rw[List.length_replicate],λx hx=>by rw[(List.mem_replicate.mp hx).2];exact⟨by decide,by decide⟩⟩
theorem Og{f:Addr}{fd:FuncData}(F:fZ K "_law_first" "_law_first" xg f fd)(bN:FnAt P w K mg base 2 "_law_draw" ["bag","many"] (lV K))(Bt:rQ mg):bL P w K mg base iC 3 f fd ["bag","size"] (Ew K):=by
 refine F.ok Nq (λvs H Q E h=>?_) (λcdv A outer s H vs Q E hr h=>?_)
 .obtain⟨r,b,m,n,rfl,_⟩:=h
  rfl
 .obtain⟨r,b,m,n,rfl,B0,hn,Cw,k⟩:=h
  refine⟨_,(ao (cj (aR dN (bh bN (hr.mono (by decide)) (by rfl) (aj (pv 0) (aj aA aq))) aA (aW _)) (aG (aU jh)) bw)
   (aG (aU (fH rfl (N:=["cell","bag"]) (own:=["cell"]) (caps:=[0]) (bA.of (by kernel_rfl)) (fV (by rfl) Bt.gJ (aj (pv 1) aq)) (λ_ _ _ _=>(aZ (i:=0) (show List.Nodup (["cell","bag"]:List Str) by decide +kernel) rfl (Or.inl rfl))) (λ_ _ _ _=>d_) (λ_ _ _ _=>(aH (aL (K:=K) rfl) (bW (aj aA (aj aA (aj (bh bN (hr.mono (by decide)) (by rfl) (aj (pv 1) (aj aA aq))) aq)))) (bh bN (hr.mono (by decide)) (by rfl) (aj (pv 1) (aj aA aq))) (λ_ _=>rfl))))))), ?_⟩
  refine⟨_,Z,r,b,3,n,Z,B0,by lia,by decide,by decide,λy H1 y0 y1 B1 k1=>⟨Z,_,Z, ?_⟩⟩;refine bK (λ_=>k .non _ H1 ⟨V3 m,.inl ⟨Z,Z⟩⟩ (B1.mono (by lia)) k1) (λ_=>?_);refine⟨_,Z,_,Z,by lia,by lia,λD hD=>?_⟩;have sD:=aD (o:=HO.lst []) hD;obtain⟨Ge,ZF⟩:=B1.ne hD;have S5:H D=none:=vR k1 Ge hD;rw[aaY];refine mK (lo:=0) (n:=m) (λi σ Hd=>∃(v:Option V) (ns:List Int),σ=[v,some (.ref r)]/\cL Hd r b (n+1+2*i)/\Hd D=some (.lst (ns.map V.int))/\ns.length=i/\(∀x∈ns,0<=x/\x<1000)/\Kp r H Hd) ?_ ?_ ?_
  .exact⟨none,[],Z,B1.keep sD,ak,Z,by simp,k1.trans (.of_same sD)⟩
  .rintro i σ Hd hi ⟨v,ns,rfl,Bd,DR,li,ok,kd⟩
   dsimp only[gR,Bk];rw[abW rfl];refine⟨_,Z,r,b,1000,_,Z,Bd,by lia,by decide,by decide,λq H2 q0 q1 B2 k2=>?_⟩;refine⟨(by show 3<=sizeLine;decide),λl hl=>?_⟩;have sl:=aD (o:=HO.lst [V.int 0,V.int 999,V.int q]) hl;obtain⟨Oq,_⟩:=B2.ne hl;refine⟨_,Z,r,b,3,_,Z,B2.keep sl,by lia,by decide,by decide,λz H3 z0 z1 B3 k3=>?_⟩
   obtain⟨c,ec,c0,c1⟩:∃m:Int,pF [V.int 0,V.int 999,V.int q] z=some (.int m)/\0<=m/\m<1000:=by
    have:z=0\/z=1\/z=2:=by lia
    rcases this with rfl|rfl|rfl
    .exact⟨0,Z,by decide,by decide⟩
    .exact⟨999,Z,by decide,by decide⟩
    .exact⟨q,Z,q0,q1⟩
   refine⟨_,_,_,_,Z,Z,bB.of (k3 _ _ ak Oq),ec, ?_⟩;have hD3:=k3 _ _ (sl _ _ (k2 _ _ DR Ge)) Ge;refine⟨_,hD3,(by rw[aad,li,sizeLine_eq];lia),_,ns++[c],Z,(B3.kp Kp.set Ge.symm ZF.symm).mono (by lia),by rw[ak,aaX];rfl,by simp[li],λx hx=>?_,λx' o e n'=>by rw[aF (au e S5)];exact k3 _ _ (sl _ _ (k2 _ _ (kd _ _ e n') n')) n'⟩;rcases aa1.mp hx with hx|hx
   .exact ok x hx
   .rw[List.mem_singleton.mp hx];exact⟨c0,c1⟩
  .rintro σ Hd ⟨v,ns,rfl,Bd,DR,li,ok,kd⟩
   exact k _ ns Hd ⟨⟨by rw[li],ok⟩,.inr ⟨D,Z,pQ DR Ge⟩⟩ (Bd.mono (by lia)) kd
theorem Ls(l:List Tc)(t:Tc):(kI l).map V.int++[V.int (t.k:Int)]=(kI (l++[t])).map V.int:=by unfold kI;simp
theorem Ds.same{H H':Hp}{v:V}{ns:List Int}{m:Nat}(h:Ds H v ns m)(k:Same H H'):Ds H' v ns m:=⟨h.1,h.2.elim .inl λ⟨l,e,q⟩=> .inr ⟨l,e,k _ _ q⟩⟩
noncomputable def Qz(K:PySem.W.Frag):Sp:=λvs H Q _=>∃(r b p L:Addr) (rs:List Addr) (rws:List (List Rw)) (m n:Nat) (nv:V) (ns:List Int),vs=[.ref r,.ref p,nv]/\cL H r b n/\n<100000000000/\Ay (dr r H) p L rs rws m/\rws.length<=8/\m<=20/\Ds (dr r H) nv ns m /\
 ∀(o:Addr)(l:List Tc)(S1:gU)(H':Hp),H o=none->Run (iu m ns rws) l S1->l.length<=300->H' o=some (.lst ((kI l).map V.int))->cL H' r b (n+400)->Kp r H H'->Q (.ref o) H'
theorem Y6{z:Int}(h0:0<=z)(h1:z<4):∃v:Int,pF [V.int 13,V.int 31,V.int 31,V.int 61] z=some (.int v)/\0<v/\v<=61:=by
 have:z=0\/z=1\/z=2\/z=3:=by lia
 rcases this with rfl|rfl|rfl|rfl
 .exact⟨13,Z,by decide,by decide⟩
 .exact⟨31,Z,by decide,by decide⟩
 .exact⟨31,Z,by decide,by decide⟩
 .exact⟨61,Z,by decide,by decide⟩
theorem VL{aB aC aP aX bZ:Addr}{f:Addr}{fd:FuncData}(F:fZ K "_law_run" "_law_run" Ig f fd)(bN:FnAt P w K mg base 2 "_law_draw" ["bag","many"] (lV K))(iz:oN P w K mg base 7 aB "Works" ["self","program","cells"] [] (λvs H Q _=>gF aB aC aP K vs H Q λ_ _ _=>False))(Hf:MethAt P w K mg base 4 aB "how" ["self","hand"] (λvs H Q _=>QD aB aC aX K vs H Q λ_ _ _=>False))(cM:MethAt P w K mg base 7 aB "turn" ["self","hand"] (λvs H Q _=>jA aB aC aX bZ K vs H Q λ_ _ _=>False))(aN:d9 K aB)(Bt:rQ mg):bL P w K mg base iC 9 f fd ["bag","program","first"] (Qz K):=by
 refine F.ok oY (λvs H Q E h=>?_) (λcdv A outer s H vs Q E hr h=>?_)
 .obtain⟨r,b,p,L,rs,rws,m,n,nv,ns,rfl,_⟩:=h
  rfl
 .obtain⟨r,b,p,L,rs,rws,m,n,nv,ns,rfl,B0,hn,g,r8,Cw,nh,k⟩:=h
  have iM:=hr.units;obtain⟨ob,hob⟩:∃o,H b=some o:=by obtain⟨_,_,_,_,_,_,e2,_⟩:=B0;exact⟨_,e2⟩
  have nbr:b≠r:=by obtain⟨_,_,_,_,_,_,_,q,_⟩:=B0;exact q
  refine⟨_,(ao (aQ (i:=3) oY.nd rfl (Or.inr rfl) (nQ iz (hr.mono (by decide)) (by rfl) (aj (pv 1) (aj (pv 2) aq))))
   (ao (aQ (i:=4) oY.nd rfl (Or.inl rfl) (bW aq))
   (ao (aQ (i:=5) oY.nd rfl (Or.inl rfl) (eG Pq (by rfl) Bt.Ui JM (aj (fW dN (bh bN (hr.mono (by decide)) (by rfl) (aj (pv 0) (aj aA aq))) aA (aW _)) aq)))
   (ao (eY PassesOwn.never rfl (fV (by rfl) Bt.gJ (aj (bh bN (hr.mono (by decide)) (by rfl) (aj (pv 0) (aj (aH (aL (K:=K) rfl) (bW (aj (aH (aL (K:=K) rfl) (bW (aj aA (aj aA (aj aA (aj aA aq))))) (bh bN (hr.mono (by decide)) (by rfl) (aj (pv 0) (aj aA aq))) (λ_ _=>rfl)) (aj aA aq))) (pv 5) (λ_ _=>rfl)) aq))) aq)) (aZ (i:=6) oY.nd rfl (Or.inl rfl))
   (ao (mz (i:=7) rfl oY.nd rfl (Or.inl rfl) (N:=["hand","works"]) (own:=["hand"]) (caps:=[3]) (bA.of (by kernel_rfl)) (fV (by rfl) Bt.gJ (aj (bf (bH (K:=K) rfl) (by rfl) Bt.iZ fP (aj (aH (aK (K:=K) rfl) (pv 1) aA (λ_ _=>rfl)) aq)) aq)) (λ_ _ _ _=>(aZ (i:=0) (show List.Nodup (["hand","works"]:List Str) by decide +kernel) rfl (Or.inl rfl))) (λ_ _ _ _=>(qX (aR dN (dg Hf aN.cls (hr.mono (by decide)) (pv 1) (aj (pv 0) aq)) bD (aW _)))) (λ_ _ _ _=>(pv 0)))
   (aG (cj (aR (vP (K:=K) rfl iM) (pv 7) (bW aq) (aW _)) (ao (cF (cX (K:=K) rfl (pv 4) (aj (aH (aL (K:=K) rfl) (pv 7) (bh bN (hr.mono (by decide)) (by rfl) (aj (pv 0) (aj (bf (bH (K:=K) rfl) (by rfl) Bt.iZ fP (aj (pv 7) aq)) aq))) (λ_ _=>rfl)) aq)))
   (aG (cF (dg cM aN.cls (hr.mono (by decide)) (pv 3) (aj (aH (aL (K:=K) rfl) (pv 4) (uN m_ aA) (λ_ _=>rfl)) aq))))) bw))))
   (aG (aU (pv 4))))))), ?_⟩
  refine⟨_,Z,_,Z, ?_⟩;dsimp only[lQ]
  have un0:vp (aside 1 (dr r H)) H:=λx e=>oK 1 (dr r H) x (by
   cases q:dr r H x with
   | none=>rfl
   | some o=>rw[jq _ _ q] at e;cases e)
  refine(Lq (i:=2) (τ:=aside 1 (dr r H)) (g.same jq) (by lia) (by lia) un0 (by decide) (nh.same jq) (λτ W H1 w1 Hs s1=>?_))
  have tr:τ r=[]:=by
   obtain⟨ys,hy⟩:=B0.lst;rw[Hs _ _ hy];unfold aside dr;simp
  have tH:∀x u,H x=some u->x≠r->τ x=[1]:=λx u e nx=>by
   rw[Hs _ _ e];exact oM (pQ e nx)
  have tb:=tH _ _ hob nbr;have ts0:(iu m ns rws).ts=[]:=Z;have B1:=B0.keep s1;refine⟨(by show 0<=sizeLine;decide),λo ho=>?_⟩;have so:=aD (o:=HO.lst []) ho;obtain⟨nor,nob⟩:=B1.ne ho;have to:τ o=[]:=w1.un o ho;have ho0:H o=none:=s1.free ho;have B2:=B1.keep so;have w2:=w1.same so;have k2:Kp r H (upd H1 o (.lst [])):=(Kp.of_same s1).trans (.of_same so);have eo2:(upd H1 o (.lst [])) o=some (.lst []):=ak;generalize (upd H1 o (.lst []))=H2 at B2 w2 k2 eo2 ⊢;refine⟨_,Z,r,b,16,_,Z,B2,by lia,by decide,by decide,λgr Hg g0 g1 Bg kg=>⟨Z,.inr ⟨_,Z, ?_⟩⟩⟩
  have wg:kY aB aC 2 τ Hg W (iu m ns rws):=by
   obtain⟨ys,hy⟩:=B2.lst;exact w2.kp kg hy (by intro xs z;cases z) tr Bg.at
  have eg:=kg _ _ eo2 nor;have kpg:=k2.trans kg;refine⟨_,Z,(by show 4<=sizeLine;decide),λl3 hl3=>?_⟩;have sl3:=aD (o:=HO.lst [V.int 13,V.int 31,V.int 31,V.int 61]) hl3;obtain⟨nl3,_⟩:=Bg.ne hl3;refine⟨_,Z,r,b,4,_,Z,Bg.keep sl3,by lia,by decide,by decide,λy H3 y0 y1 B3 k3=>?_⟩;obtain⟨m3,en,m0,m61⟩:=Y6 y0 y1
  have w3:kY aB aC 2 τ H3 W (iu m ns rws):=by
   obtain⟨ys,hy⟩:=(Bg.keep sl3).lst;exact(wg.same sl3).kp k3 hy (by intro xs z;cases z) tr B3.at
  have e3:=k3 _ _ (sl3 _ _ eg) nor;have kp3:=(kpg.trans (.of_same sl3)).trans k3;refine⟨_,_,_,_,Z,Z,bB.of (k3 _ _ ak nl3),en,(by show 2<=sizeLine;decide),λl4 hl4=>?_⟩;have sl4:=aD (o:=HO.lst [V.int m3,V.int 301]) hl4
  obtain⟨mn,en4,mn0,mn1⟩:∃mn:Int,pF [V.int m3,V.int 301] (if decide (V.int gr=V.int 15)=true then 1 else 0)=some (.int mn)/\0<mn/\mn<=301:=by
   cases decide (V.int gr=V.int 15)
   .exact⟨m3,Z,by lia,by lia⟩
   .exact⟨301,Z,by decide,by decide⟩
  refine⟨_,Z,_,_,_,_,Z,Z,bB.of ak,en4,r,b,mn,_,Z,B3.keep sl4,by lia,by lia,by lia,λcn H4 c0 c1 B4 k4=>⟨_,Z,by lia,by lia, ?_⟩⟩
  have w4:kY aB aC 2 τ H4 W (iu m ns rws):=by
   obtain⟨ys,hy⟩:=(B3.keep sl4).lst;exact(w3.same sl4).kp k4 hy (by intro xs z;cases z) tr B4.at
  have eo4:=k4 _ _ (sl4 _ _ e3) nor;have kp4:=(kp3.trans (.of_same sl4)).trans k4
  refine Ah (lo:=0) (n:=cn.toNat) (λj σ Hc=>∃(x1 x2:Option V) (l:List Tc) (S1:gU),σ=[some (.ref r),some (.ref p),some nv,some (.ref W.o),some (.ref o),some (.int (if decide (V.int gr=V.int 15)=true then 1 else 0)),x1,x2]/\cL Hc r b (n+3+j)/\kY aB aC 2 τ Hc W S1/\Run (iu m ns rws) l S1/\l.length<=j/\Hc o=some (.lst ((kI l).map V.int))/\Kp r H Hc)
   ⟨none,none,[],_,Z,B4,w4,Z,aap _,eo4,kp4⟩ ?_ ?_
  .rintro j σ Hc hj ⟨x1,x2,l,S1,rfl,Bc,wc,R,lj,eoc,kc⟩
   clear B4 w4 kp4 eo4 B3 w3 kp3 e3 B2 w2 k2 eo2 k3 k4 en Bg wg eg kpg kg en4
   have hl1:S1.hs.length=rws.length:=by
    rw[(xu R).1];show (rws.map _).length=_;rw[aad]
   have tl:S1.ts.length<=10000:=by rw[qj R,ts0];simp;lia
   have gc:Ay Hc p L rs rws m:=g.same λx u e=>kc _ _ (jq _ _ e) (GC e);refine⟨_,Z,_,_,_,_,Z,Z,bO.of gc.ep,Z,L,_,Z,.inl (bB.of gc.eL),_,Z,by rw[aad,gc.len];lia,by rw[aad,gc.len];lia,λD hD=>?_⟩;rw[show (((rs.map V.ref).length:Nat):Int).toNat=S1.hs.length by rw[aaY,aad,gc.len,hl1]];refine lD (λz=>if zO S1.hs z then some (.int (z:Nat)) else none) hD (by lia) (λz H7 G F hz s7 kG kF=>?_) (λH7 s7 e7=>?_)
   .have w7:=wc.same s7
    have es:S1.hs[z]? = some S1.hs[z]:=by simp[hz]
    have inn:Ae ((0:Int)+z) S1.hs.length:=⟨by lia,by lia⟩;refine⟨_,Z,W.o,W.dx,_,Z,w7.o,Z,_,Z,2,τ,W,S1,_,Z,w7,λk3 t3 e3 e3'=>?_,λz=>abZ inn z⟩
    obtain rfl:t3=S1.hs[z]:=by
     have:k3=z:=by lia
     subst this;rw[es] at e3';exact(aaR e3').symm
    refine⟨Z,_,Z, ?_⟩;have eb:zO S1.hs z=decide (S1.hs[z].st = "waits"):=by unfold zO;rw[es]
    rw[eb] at kG kF;refine bK (λq=>?_) (λq=>?_)
    .have hq:S1.hs[z].st=Str.ofString "waits" :=V.str.inj (aaO q)
     refine⟨_,Z,kF _ H7 (Same.refl _) ?_⟩;rw[aaM hq,Int.zero_add];rfl
    .refine kG H7 (Same.refl _) ?_
     have hq:¬S1.hs[z].st=Str.ofString "waits" :=λz=>q (aaM (by rw[z]));rw[aaN hq];rfl
   have e7':H7 D=some (.lst (((qJ S1.hs).map λk:Nat=>(k:Int)).map V.int)):=by
    rw[e7,aac,List.map_map];rfl
   have w7:=wc.same s7;have B7:=Bc.keep s7;obtain⟨Ge,_⟩:=Bc.ne hD;have eo7:=s7 _ _ eoc;have k7:=kc.trans (.of_same s7)
   have wm:(qJ S1.hs).length<=100:=by
    have:=List.length_filter_le (zO S1.hs) (List.range S1.hs.length);unfold qJ;rw[List.length_range] at this;lia
   refine⟨_,Z,(by show 0<=sizeLine;decide),λz hz=>?_⟩;have sz:=aD (o:=HO.lst []) hz;refine⟨_,_,iV (sz _ _ e7'),iV (ns:=[]) ak,shaped_ints _,shaped_ints _,_,Z, ?_⟩;rw[Gz PyData.int Wy]
   by_cases nw:qJ S1.hs=[]
   .rw[nw]
    refine dG ?_;exact⟨_,_,l,S1,Z,(B7.keep sz).mono (by lia),w7.same sz,R,by lia,sz _ _ eo7,k7.trans (.of_same sz)⟩
   have ne:decide (((qJ S1.hs).map λk:Nat=>(k:Int))=[])=false:=aaN λe=>nw (List.map_eq_nil_iff.mp e);rw[ne];refine eO ?_;have w8:=w7.same sz;have B8:=B7.keep sz;have e8:=sz _ _ e7';have eo8:=sz _ _ eo7;have k8:=k7.trans (.of_same sz);generalize (upd H7 z (.lst []))=H8 at w8 B8 e8 eo8 k8 ⊢;have wn:0<(qJ S1.hs).length:=List.length_pos_iff.mpr nw;refine⟨_,Z,.inl ⟨Z,_,bB.of eo8⟩,_,Z,_,Z,_,Z,D,_,Z,.inl (bB.of e8),r,b,_,_,Z,B8,by lia, ?_, ?_,λy H9 y0 y1 B9 k9=>?_⟩
   .simp;lia
   .simp;lia
   have y1:y<(qJ S1.hs).length:=by simpa using y1
   obtain⟨y,rfl⟩:=abD y0;obtain⟨f,ef⟩:∃f,(qJ S1.hs)[y]? = some f:=⟨_,aae (by lia)⟩;obtain⟨sf,esf,wsf⟩:=M6 ef
   have w9:kY aB aC 2 τ H9 W S1:=by
    obtain⟨ys,hy⟩:=B8.lst;exact w8.kp k9 hy (by intro xs z;cases z) tr B9.at
   have eo9:=k9 _ _ eo8 nor;have kp9:=k8.trans k9;refine⟨_,_,_,_,Z,Z,bB.of (k9 _ _ e8 Ge),bI (by rw[aag,aag,ef];rfl),o,_,_,Z,Z,eo9,(by rw[aad,g_,sizeLine_eq];lia), ?_⟩;obtain⟨rw',erw,_⟩:=w9.ok sf (aaL esf) wsf;have at9:vD S1 ⟨f,rw',pK S1.ns rw',Ka sf.bs rw'⟩:=⟨sf,esf,wsf,erw,Z,Z⟩;generalize htt:(⟨f,rw',pK S1.ns rw',Ka sf.bs rw'⟩:Tc)=t at at9;have ft:f=t.k:=by rw[←htt]
   rw[ft,Ls];have kk:Kp o H9 (upd H9 o (.lst ((kI (l++[t])).map V.int))):=Kp.set;have Ba:=B9.kp kk nor.symm nob.symm;have wa:=w9.kp kk eo9 (by intro xs z;cases z) to ⟨_,ak⟩;have ka:Kp r H (upd H9 o (.lst ((kI (l++[t])).map V.int))):=λx u e nx=>by rw[aF (au e ho0)];exact kp9 _ _ e nx
   have eoa:(upd H9 o (.lst ((kI (l++[t])).map V.int))) o=some (.lst ((kI (l++[t])).map V.int)):=ak;generalize (upd H9 o (.lst ((kI (l++[t])).map V.int)))=Ha at Ba wa ka eoa ⊢;refine⟨_,Z,W.o,W.dx,_,Z,wa.o,Z,_,Z,_,Z,_,_,_,_,Z,Z,bB.of eoa,(by rw[←Ls];exact Ul _ _), ?_⟩;dsimp only[lQ];refine qL wa tl at9 λq Hd hq eq wd st=>?_;refine⟨_,_,l++[t],cB S1 t.k,Z,(Ba.stp st (by rw[tr];simp) (by rw[tb];simp)).mono (by lia),wd,Run.app.mpr ⟨S1,R,at9,Z⟩,by simp;lia,st.keep _ _ eoa (by rw[to];simp),λx u e nx=>st.keep _ _ (ka _ _ e nx) (by rw[tH _ _ e nx];simp)⟩
  .rintro σ Hc ⟨x1,x2,l,S1,rfl,Bc,wc,R,lj,eoc,kc⟩
   exact⟨_,Z,k o l S1 Hc ho0 R (by lia) eoc (Bc.mono (by lia)) kc⟩
theorem zR{r:Rw}(t:touch r=true):isLoad r=true↔dX r = "load" :=by
 cases r<;>first |(exact⟨λ_=>rfl,λ_=>rfl⟩)|(refine⟨λz=>?_,λz=>?_⟩<;>first |(cases z;done)|(exact abZ z (by decide))|(cases t;done))
theorem Vg{x y:Tc}(tx:touch x.r=true)(ty:touch y.r=true)(s:stepT x y):(bG x).1=(bG y).1\/mt (bG x) (bG y)=true:=by
 unfold stepT apart at s;rw[zR tx,zR ty] at s
 by_cases z:(bG x).1=(bG y).1
 .exact .inl z
 refine .inr ?_;have nk:x.k≠y.k:=λe=>z (by show ((x.k:Nat):Int)=(y.k:Int);rw[e]);have s':=s.resolve_left nk;have ec:cJ x.r=cJ y.r:=Classical.byContradiction λq=>s' (.inl q);unfold mt;rw[abN z,abW (show (bG x).2.2=(bG y).2.2 by show ((cJ x.r:Nat):Int)=(cJ y.r:Int);rw[ec])]
 by_cases l:(bG x).2.1 = "load"
 .rw[abW l]
  have:¬(bG y).2.1 = "load" :=λl'=>s' (.inr ⟨l,l'⟩);rw[aaN this];rfl
 .rw[abN l]
theorem Cd:∀{l:List Tc}{S S':gU},Run S l S'->(∀s∈S.hs,lK s) -> ∀x∈l,touch x.r=true
 | [],S,S',h,ok,x,hx=>by cases hx
 | t::l,S,S',⟨a,h⟩,ok,x,hx=>by
   rcases List.mem_cons.mp hx with rfl|hx
   .obtain⟨s,es,ws,er,_⟩:=a
    obtain⟨r,Tn,tr⟩:=ok s (aaL es) ws;rw[er] at Tn;cases Tn;exact tr
   .exact Cd h (Qo _ ok) x hx
theorem fL{l:List Tc}{m:Nat}{x:Tc}(e:l[m]? = some x):(l.map bG)[m]? = some (bG x):=by rw[aag,e];rfl
theorem wB{l:List Tc}(tl:∀x∈l,touch x.r=true){m a:Nat}{x y:Tc}(lt:m<a)(ey:l[m]? = some y)(ex:l[a]? = some x)(s:stepT y x):lU (l.map bG) m a=true:=by
 unfold lU Uu;rw[fL ey,fL ex,aaM lt,Bool.true_and,Bool.or_eq_true,decide_eq_true_iff];exact Vg (tl _ (aaL ey)) (tl _ (aaL ex)) s
theorem J1.part{l:List Tc}{P:Nat->Bool}(cl:∀m a y x,m<a->l[m]? = some y->l[a]? = some x->stepT y x->P a=true->P m=true):∀n,n<=l.length->J1 l ((List.range n).filter P)
 | 0,_=> .nil
 | n+1,h=>by
   rw[List.range_succ,abL];cases e:P n with
   | false=>
     rw[show List.filter P [n]=[] by simp[e],List.append_nil];exact J1.part cl n (by lia)
   | true=>
     rw[show List.filter P [n]=[n] by simp[e]];refine .snoc (J1.part cl n (by lia)) (aae (show n<l.length by lia)) (λz=>?_) λm y lt ey s=>?_
     .have:=aa9.mp (aa8.mp z).1
      lia
     .exact aa8.mpr ⟨aa9.mpr lt,cl m n y _ lt ey (aae (show n<l.length by lia)) s e⟩
theorem Pr{l:List Tc}(tl:∀x∈l,touch x.r=true){i j:Nat}(np:J3 (l.map bG) i j):J1 l (bY (l.map bG) i j)/\J1 l (bY (l.map bG) i j++[i])/\J1 l (bY (l.map bG) i j++[i]++[j]):=by
 have jl:j<l.length:=by have:=np.jl;rwa [aad] at this
 have ij:=np.lt
 have o1:J1 l (bY (l.map bG) i j):=by
  refine J1.part (λm a y x lt ey ex s pa=>?_) j (by lia);obtain⟨ra,na⟩:=aaO pa;have st:=wB tl lt ey ex s;refine aaM ⟨jx (.one st) ra,λz=>?_⟩;subst z;exact np.no ra (.one st)
 have at':∀{k:Nat},k<l.length->l[k]? = some (l[k]?.getD ⟨0,.go 0,none,none⟩):=fun {k} h=>by rw[aae h];rfl
 have o2:J1 l (bY (l.map bG) i j++[i]):=by
  refine .snoc o1 (at' (show i<l.length by lia)) (λz=>(gO.mp z).2 rfl) λm y lt ey s=>?_;have st:=wB tl lt ey (at' (show i<l.length by lia)) s;exact gO.mpr ⟨jx (.one st) (.one np.st),by lia⟩
 refine⟨o1,o2,.snoc o2 (at' jl) (λz=>?_) λm y lt ey s=>?_⟩
 .rcases aa1.mp z with z|z
  .have:=(gO.mp z).1.lt;lia
  .have:j=i:=by simpa using z
   lia
 .have st:=wB tl lt ey (at' jl) s
  by_cases e:m=i
  .subst e;exact aa1.mpr (.inr (.head _))
  .exact aa1.mpr (.inl (gO.mpr ⟨.one st,e⟩))
structure Pair(T:gU)(x y x' y':Tc):Prop where
 x1:vD T x
 y1:vD (cB T x.k) y
 y2:vD T y'
 x2:vD (cB T y.k) x'
 ex:x'.k=x.k
 ey:y'.k=y.k
 rx:x'.r=x.r
 ry:y'.r=y.r
 wx:x'.wr=x.wr
 wy:y'.wr=y.wr
theorem Pair.of{T:gU}{x y:Tc}(a:vD T x)(b:vD (cB T x.k) y)(n:x.k≠y.k):∃x' y',Pair T x y x' y':=by
 obtain⟨s,es,ws,er,rd,wr⟩:=id a;obtain⟨t,et,wt,Tn,rd',wr'⟩:=id b;have e1:=gw es er
 have et':T.hs[y.k]? = some t:=by
  rw[e1] at et;have et:(T.hs.set x.k _)[y.k]? = some t:=et;rwa [List.getElem?_set_ne n] at et
 have e2:=gw et' Tn;refine⟨⟨x.k,x.r,pK (cB T y.k).ns x.r,x.wr⟩,⟨y.k,y.r,pK T.ns y.r,y.wr⟩,a,b,⟨t,et',wt,Tn,Z,wr'⟩,⟨s, ?_,ws,er,Z,wr⟩,Z,Z,Z,Z,Z,Z⟩;show (cB T y.k).hs[x.k]? = some s;rw[e2];show (T.hs.set y.k _)[x.k]? = some s;rw[List.getElem?_set_ne n.symm];exact es
theorem Om{S0 S1:gU}{l:List Tc}(R:Run S0 l S1)(ok:∀s∈S0.hs,lK s){i j:Nat}(np:J3 (l.map bG) i j):∃T x y x' y',Run S0 (pick l (bY (l.map bG) i j)) T/\l[i]? = some x/\l[j]? = some y/\Pair T x y x' y':=by
 have tl:=Cd R ok;obtain⟨o1,o2,o3⟩:=Pr tl np;have jl:j<l.length:=by have:=np.jl;rwa [aad] at this
 have ij:=np.lt;have ei:l[i]? = some (l[i]'(by lia)):=aae _;have ej:l[j]? = some l[j]:=aae _;obtain⟨T,_,r1,_,_⟩:=R.other o1;have a1:=R.next o2 ei r1
 have r2:Run S0 (pick l (bY (l.map bG) i j++[i])) (cB T (l[i]'(by lia)).k):=by
  rw[nM,jy ei];exact Run.app.mpr ⟨T,r1,a1,Z⟩
 have a2:=R.next o3 ej r2
 have n:(l[i]'(by lia)).k≠l[j].k:=λe=>np.ne (by
  rw[dH (fL ei),dH (fL ej)];show (((l[i]'(by lia)).k:Nat):Int)=(l[j].k:Int);rw[e])
 obtain⟨x',y',p⟩:=Pair.of a1 a2 n;exact⟨T,_,_,x',y',r1,ei,ej,p⟩
noncomputable def Qa(n:Nat)(τ:Tg):Tg:=λx=>match τ x with
 | []=>[]
 | h::t=>if h<=n then h::t else []
theorem Ua{n:Nat}{τ:Tg}{x:Addr}{h:Nat}{t:List Nat}(e:τ x=h::t)(l:h<=n):Qa n τ x=τ x:=by
 unfold Qa;rw[e];exact abW l
theorem T_{n i:Nat}{τ:Tg}{x:Addr}(l:n<i):(Qa n τ x).head?≠some i:=by
 unfold Qa;cases e:τ x with
 | nil=>simp
 | cons h t=>
   dsimp only;split
   .intro z
    have:=aaR z;lia
   .simp
theorem W0{n:Nat}{τ:Tg}{x:Addr}(h:τ x=[]):Qa n τ x=[]:=by
 unfold Qa;rw[h]
theorem Mv.Qa{n i:Nat}{τ:Tg}{H:Hp}(l:i<=n):Mv i τ H (Qa n τ) H:=⟨λx o e q=>⟨e,by
 rcases q with q|q
 .exact Ua q (Nat.zero_le _)
 .cases e':τ x with
  | nil=>rw[e'] at q;cases q
  | cons h t=>
    rw[e'] at q;have:=aaR q;rw[←e'];exact Ua e' (by lia)⟩,λx xs e=>e⟩
theorem Yp{n:Nat}{τ:Tg}{H:Hp}(u:vp τ H):vp (Qa n τ) H:=λx e=>W0 (u x e)
noncomputable def wD(CW CH:Addr)(K:PySem.W.Frag):Sp:=λvs H Q _=>∃(τ:Tg) (W:Ht) (S:gU) (a b:Int) (t1 t2:Tc),vs=[.ref W.o,.int a,.int b]/\a=t1.k/\b=t2.k/\kY CW CH 2 τ H W S/\rP S/\S.m<=100/\S.ts.length<=9000/\vD S t1/\vD (cB S t1.k) t2 /\
 ∀(q p1 p2:Addr)(H':Hp),H' q=some (.tup [.ref p1,.ref p2])->H' p1=some (.tup (rR t1))->H' p2=some (.tup (rR t2))->Same H H'->Q (.ref q) H'
theorem N6{aB aC aX bZ:Addr}{f:Addr}{fd:FuncData}(F:fZ K "told_by" "told_by" tQ f fd)(Dt:MethAt P w K mg base 9 aB "twin" ["self"] (HS aB aC K))(cM:MethAt P w K mg base 7 aB "turn" ["self","hand"] (λvs H Q _=>jA aB aC aX bZ K vs H Q λ_ _ _=>False))(aN:d9 K aB):bL P w K mg base iC 10 f fd ["works","one","other"] (wD aB aC K):=by
 refine F.ok pZ (λvs H Q E h=>?_) (λcdv A outer s H vs Q E hr h=>?_)
 .obtain⟨τ,W,S,a,b,t1,t2,rfl,_⟩:=h
  rfl
 .obtain⟨τ,W,S,a,b,t1,t2,rfl,rfl,rfl,w,gs,ml,tl,a1,a2,k⟩:=h
  refine⟨_,(ao (aQ (i:=3) pZ.nd rfl (Or.inl rfl) (lA Dt aN.cls (hr.mono (by decide)) (pv 0)))
   (ao (aQ (i:=4) pZ.nd rfl (Or.inl rfl) (dg cM aN.cls (hr.mono (by decide)) (pv 3) (aj (pv 1) aq)))
   (aG (aU (cN (aj (pv 4) (aj (dg cM aN.cls (hr.mono (by decide)) (pv 3) (aj (pv 2) aq)) aq))))))), ?_⟩
  have w0:kY aB aC 2 (Qa 2 τ) H W S:=w.mv (Mv.Qa (by decide)) (Yp w.un);refine⟨_,Z,W.o,W.dx,_,Z,w.o,Z,2,3,Qa 2 τ,W,S,Z,w0,gs,ml,by decide,λτ' W' H1 w1 Hs s1=>?_⟩;have low:∀x u,H x=some u->(τ' x).head?≠some 3:=λx u e=>by rw[Hs x u e];exact T_ (by decide)
  have ts:(cB S t1.k).ts.length<=9001:=by
   obtain⟨_,_,_,e⟩:=a1.turn;rw[e];show (S.ts++[_]).length<=_;simp;lia
  refine⟨_,Z,W'.o,W'.dx,_,Z,w1.o,Z,_,Z, ?_⟩;dsimp only[lQ];refine qL w1 (by lia) a1 λp1 H2 hp1 ep1 w2 st2=>?_;refine⟨_,Z,_,Z,W'.o,W'.dx,_,Z,w2.o,Z,_,Z, ?_⟩;dsimp only[lQ];refine qL w2 (by lia) a2 λp2 H3 hp2 ep2 w3 st3=>?_;refine⟨(by show 2<=sizeLine;decide),λq hq=>?_⟩;have sq:=aD (o:=HO.tup [V.ref p1,V.ref p2]) hq;exact k q p1 p2 _ ak (sq _ _ (st3.tup _ _ ep1)) (sq _ _ ep2) λx u e=>sq _ _ (st3.keep _ _ (st2.keep _ _ (s1 _ _ e) (low x u e)) (low x u e))
theorem Gq{l:List Tc}:∀(o:List Nat),(∀p∈o,p<l.length)->(o.filterMap λp=>some (V.int (hnd (l.map bG) p)))=(kI (pick l o)).map V.int
 | [],_=>rfl
 | p::o,h=>by
   have e:l[p]? = some (l[p]'(h p (.head _))):=aae _;rw[List.filterMap_cons,jy e,Gq o λq hq=>h q (.tail _ hq),dH (fL e)];rfl
noncomputable def Yl(S0:gU)(l:List Tc)(i j:Nat)(v:V)(H':Hp):Prop:=∃(q A f1 f2 p1 p2 p3 p4:Addr) (T:gU) (x y x' y':Tc),v = .ref q/\H' q=some (.tup [.ref A,.ref f1,.ref f2])/\H' A=some (.lst ((kI (pick l (bY (l.map bG) i j))).map V.int))/\H' f1=some (.tup [.ref p1,.ref p2])/\H' p1=some (.tup (rR x))/\H' p2=some (.tup (rR y))/\H' f2=some (.tup [.ref p3,.ref p4])/\H' p3=some (.tup (rR y'))/\H' p4=some (.tup (rR x'))/\Run S0 (pick l (bY (l.map bG) i j)) T/\l[i]? = some x/\l[j]? = some y/\Pair T x y x' y'
noncomputable def jV(CN CNo CO CNt:Addr)(K:PySem.W.Frag):Sp:=λvs H Q E=>∃(p L:Addr) (rs:List Addr) (rws:List (List Rw)) (m:Nat) (nv:V) (ns:List Int) (o:Addr) (os:List Int) (t:Addr) (x:Nt),vs=[.ref p,.ref o,.ref t,nv]/\Ay H p L rs rws m/\rws.length<=8/\m<=20/\Px H m nv ns/\H o=some (.lst (os.map V.int))/\os.length<=300/\H t=some (.tup (nV x)) /\
 (¬gK m ns -> ∀H',Same H H'->E (.ref CN) none H')/\(gK m ns -> ∃l st,Wk (iu m ns rws) os l st/\(st=some true -> ∀H',Same H H'->E (.ref CNo) none H')/\(st=some false -> ∀H',Same H H'->E (.ref CO) none H') /\
   (st=none->(∀i j,x=fD (l.map bG) i j->J3 (l.map bG) i j -> ∀v H',Yl (iu m ns rws) l i j v H'->Same H H'->Q v H')/\(x∉lE (l.map bG) l.length -> ∀H',Same H H'->E (.ref CNt) none H')))
theorem Ym{S:gU}{os:List Int}{l:List Tc}(h:Wk S os l none):∃S1,Run S l S1/\os=kI l:=by
 obtain⟨S1,rest,R,e,q⟩:=h;cases rest with
 | nil=>exact⟨S1,R,by rw[e,List.append_nil]⟩
 | cons a b=>exact abZ q (by simp[JZ])
theorem Yn{l:List Tc}{n:Nat}(h:∀t∈l,t.k<n)(n8:n<=8):∀x∈l.map bG,0<=x.1/\x.1<8:=λx hx=>by
 obtain⟨t,ht,rfl⟩:=aa2.mp hx;have:=h t ht;exact⟨by show (0:Int)<=(t.k:Int);lia,by show (t.k:Int)<8;lia⟩
theorem Mt(m:Nat)(ns:List Int)(rws:List (List Rw)):(iu m ns rws).hs.length=rws.length:=by show (rws.map _).length=_;rw[aad]
theorem RQ{aB aC aP aX bZ dj:Addr}{f:Addr}{fd:FuncData}(F:zM K "both_ways" "both_ways" cC [.none] f fd)(yX:pU P w K mg base 9 "web_of" ["program","order","cells"] (sX aB aC aP aX bZ K))(za:pU P w K mg base 5 "check_fewest" ["web","note"] (QF dj K))(Hj:FnAt P w K mg base 2 "places_of" ["web"] (Ep K))(vC:FnAt P w K mg base 4 "ahead_of_both" ["web","one","other"] (KZ K))(Az:FnAt P w K mg base 10 "told_by" ["works","one","other"] (wD aB aC K))(iz:j6 P w K mg base 7 aB "Works" ["self","program","cells"] [] (gF aB aC aP K))(cM:jw P w K mg base 7 aB "turn" ["self","hand"] (jA aB aC aX bZ K))(aN:d9 K aB)(Bt:rQ mg):bL P w K mg base (oW P w) 11 f fd ["program","order","note","cells"] (jV aP aX bZ dj K):=by
 refine F.Ux fQ (λvs H Q E h=>?_) (λcdv A outer s H vs Q E hr h hR=>?_)
 .obtain⟨p,L,rs,rws,m,nv,ns,o,os,t,x,rfl,_⟩:=h
  rfl
 .obtain⟨p,L,rs,rws,m,nv,ns,o,os,t,x,rfl,g,r8,Cw,na,ho,ol,ht,kb,kg⟩:=h
  have hu:=rB hr
  refine⟨_,(ao (aQ (i:=4) fQ.nd rfl (Or.inr rfl) (Io yX rfl hR (hr.mono (by decide)) (by rfl) (aj (pv 0) (aj (pv 1) (aj (pv 3) aq)))))
   (ao (cF (Io za rfl hR (hr.mono (by decide)) (by rfl) (aj (pv 4) (aj (pv 2) aq))))
   (ao (aQ (i:=5) fQ.nd rfl (Or.inl rfl) (bh Hj (hr.mono (by decide)) (by rfl) (aj (pv 4) aq)))
   (ao (mz (i:=6) rfl fQ.nd rfl (Or.inl rfl) (N:=["place","web"]) (own:=["place"]) (caps:=[4]) (bA.of (by kernel_rfl)) (cV (K:=K) rfl (bh vC (hr.mono (by decide)) (by rfl) (aj (pv 4) (aj (oZ hu (pv 5) (qZ (vL (K:=K) rfl) (pv 2) vO (vN aA)) (λ_ _=>rfl)) (aj (oZ hu (pv 5) (qZ (vL (K:=K) rfl) (pv 2) (vN aA) vO) (λ_ _=>rfl)) aq))))) (λ_ _ _ _=>(aZ (i:=0) (show List.Nodup (["place","web"]:List Str) by decide +kernel) rfl (Or.inl rfl))) (λ_ _ _ _=>d_) (λ_ _ _ _=>(aH (aK (K:=K) rfl) (aH (aL (K:=K) rfl) (pv 1) (pv 0) (λ_ _=>rfl)) aA (λ_ _=>rfl))))
   (ao (aQ (i:=7) fQ.nd rfl (Or.inl rfl) (xP iz rfl hR (hr.mono (by decide)) (by rfl) (aj (pv 0) (aj (pv 3) aq))))
   (ao (eY PassesOwn.leaving rfl (cV (K:=K) rfl (pv 6)) (aZ (i:=8) fQ.nd rfl (Or.inl rfl))
   (aG (cF (nP cM aN.cls rfl hR (hr.mono (by decide)) (pv 7) (aj (pv 8) aq)))))
   (aG (aU (cN (aj (pv 6) (aj (bh Az (hr.mono (by decide)) (by rfl) (aj (pv 7) (aj (aH (aK (K:=K) rfl) (pv 2) aA (λ_ _=>rfl)) (aj (aH (aK (K:=K) rfl) (pv 2) aA (λ_ _=>rfl)) aq)))) (aj (bh Az (hr.mono (by decide)) (by rfl) (aj (pv 7) (aj (aH (aK (K:=K) rfl) (pv 2) aA (λ_ _=>rfl)) (aj (aH (aK (K:=K) rfl) (pv 2) aA (λ_ _=>rfl)) aq)))) aq)))))))))))), ?_⟩
  refine⟨_,Z,_,Z,_,Z, ?_⟩;dsimp only[lQ];refine⟨p,L,rs,rws,m,nv,ns,o,os,Z,g,r8,Cw,na,ho,by lia,kb,λgood=>?_⟩;obtain⟨l,st,wk,ka,kc,kn⟩:=kg good;refine⟨l,st,wk,λes a H1 ha W s1=>?_,ka,kc⟩;subst es;obtain⟨k1,k2⟩:=kn rfl;obtain⟨S1,R,eo⟩:=Ym wk;have ll:l.length<=300:=by rw[eo,g_] at ol;exact ol
  have wl:(l.map bG).length<=300:=by rw[aad];exact ll
  have Uw:∀x∈l.map bG,0<=x.1/\x.1<8:=Yn (K6 R) (by rw[Mt];exact r8);refine⟨_,Z,_,Z,a,t,l.map bG,x,Z,W,wl,Uw,s1 _ _ ht,λhx H2 s2=>?_,λnx H2 s2=>k2 (by rw[aad] at nx;exact nx) H2 (s1.trans s2)⟩;obtain⟨i,j,rfl,np⟩:=uf hx;obtain⟨T,x,y,x',y',RT,ex,ey,pr⟩:=Om R (Mu _ _ _) np;have hil:i<(l.map bG).length:=Nat.lt_trans np.lt np.jl;have s12:=s1.trans s2;refine⟨_,Z,a,_,Z,W.same s2,wl,λd kvs H3 hd h3 pl _ s3=>?_⟩;have s13:=s12.trans s3;refine⟨_,Z,_,Z,_,Z,_,Z,t,_,Z,bO.of (s13 _ _ ht),Rr _ rfl,λp1 hp1=>?_⟩;rw[show rF (nV (fD (l.map bG) i j)) none (some 2)=[V.int (hnd (l.map bG) i),V.int (cnt ((l.map bG).take i) (hnd (l.map bG) i))] from Yb _ _ _ _];have t1:=aD (o:=HO.tup [V.int (hnd (l.map bG) i),V.int (cnt ((l.map bG).take i) (hnd (l.map bG) i))]) hp1;refine⟨d,V.int (i:Int),Z,by rw[←pl.1 i _ (uP hil)];exact mO.t (t1 _ _ h3) ak, ?_⟩;refine⟨_,Z,_,Z,_,Z,t,_,Z,bO.of (t1 _ _ (s13 _ _ ht)),Rp _ rfl,λp2 hp2=>?_⟩;rw[show rF (nV (fD (l.map bG) i j)) (some 2) none=[V.int (hnd (l.map bG) j),V.int (cnt ((l.map bG).take j) (hnd (l.map bG) j))] from X_ _ _ _ _];have t2:=aD (o:=HO.tup [V.int (hnd (l.map bG) j),V.int (cnt ((l.map bG).take j) (hnd (l.map bG) j))]) hp2;refine⟨d,V.int (j:Int),Z,by rw[←pl.1 j _ (uP np.jl)];exact mO.t (t2 _ _ (t1 _ _ h3)) ak, ?_⟩;have s24:=((s2.trans s3).trans t1).trans t2;refine⟨a,l.map bG,i,j,Z,W.same s24,wl,np.jl,λD0 H5 S5 A5 s5=>?_⟩;have s25:=s24.trans s5;obtain⟨vs,ha5,dv⟩:=W.same s25
  have al:∀p∈bY (l.map bG) i j,p<l.length:=λp hp=>by
   have:=(gO.mp hp).1.lt;have:=np.jl;rw[aad] at this;lia
  have Ss:(bY (l.map bG) i j).length<=300:=by
   have:=List.length_filter_le (λp=>decide (lF (l.map bG) j p/\p≠i)) (List.range j);rw[List.length_range] at this;have:=np.jl;unfold bY;lia
  generalize haa:bY (l.map bG) i j=ah at A5 al Ss RT;refine⟨D0,Z,⟨_,bB.of A5⟩,λD hD=>?_⟩;refine GR (K:=K) (xs:=(nI ah).map V.int) (λi=>(ah[i]?).bind λp=>some (V.int (hnd (l.map bG) p))) hD (bB.of A5) (by rw[aad,R_];lia) (λi v H6 G F hi s6 kG kF=>?_) (λH6 s6 e6=>?_)
  .rw[aag] at hi
   cases ep:ah[i]? with
   | none=>
     unfold nI at hi;rw[aag,ep] at hi;cases hi
   | some p=>
     rw[ZD ep] at hi;cases hi;have pl:=al p (aaL ep);obtain⟨vs',tp,ha',ev,htp⟩:=lN (W.same (s25.trans s6)) (fL (aae pl));refine⟨_,Z,_,Z,_,_,_,_,Z,Z,bB.of ha',bI ev,_,_,_,_,Z,Z,bO.of htp,Z,kF _ _ (Same.refl _) ?_⟩;rw[ep];show some (V.int (hnd (l.map bG) p))=_;rw[dH (fL (aae pl))]
  have s16:=(s1.trans s25).trans s6;rw[aad,R_,Tj,Gq ah al] at e6;refine⟨_,Z,_,Z, ?_⟩;dsimp only[lQ];refine(xX (i:=2) (τ:=aside 1 H6) (g.same s16) (by lia) (by lia) (oK _ _) (by decide) na.1 (na.2.elim .inl λ⟨cl,e,q⟩=> .inr ⟨cl,e,s16 _ _ q⟩) (λ_ τ Wo H7 w7 tg7 s7=>?_) λbad=>abZ good bad);have tg7:∀x u,H6 x=some u->τ x=[1]:=λx u e=>by rw[tg7 x u e];exact oM e
  refine⟨_,Z,D,Z,⟨_,bB.of (s7 _ _ e6)⟩, ?_⟩;have gb:rP (iu m ns rws):=O5 λx hx=>good.2 x hx
  refine gC (K:=K) (a:=D) (xs:=(kI (pick l ah)).map V.int) (λn σ Hc=>∃(x1:Option V) (S2:gU),σ=[some (.ref p),some (.ref o),some (.ref t),some nv,some (.ref a),some (.ref d),some (.ref D),some (.ref Wo.o),x1]/\kY aB aC 2 τ Hc Wo S2/\Run (iu m ns rws) ((pick l ah).take n) S2/\Same H6 Hc)
   ⟨none,_,Z,w7,by rw[List.take_zero];rfl,s7⟩ (λn σ Hc _ ⟨_,_,_,_,_,sc⟩=>bB.of (sc _ _ e6)) ?_ ?_
  .rintro n v σ Hc hn ⟨x1,S2,rfl,wc,R2,sc⟩
   obtain⟨h,eh,rfl⟩:=ints_get hn;unfold kI at eh;rw[aag] at eh;cases et:(pick l ah)[n]? with
   | none=>rw[et] at eh;cases eh
   | some tt=>
     rw[et] at eh;cases eh;obtain⟨at1,R3⟩:=Ce RT R2 et;have pl:(pick l ah).length<=300:=abG (List.length_filterMap_le _ _) Ss;have tl:S2.ts.length<=10000:=by rw[qj R2];show ([]++_).length<=_;simp;lia
     refine⟨_,Z,Wo.o,Wo.dx,_,Z,wc.o,Z,_,Z, ?_⟩;dsimp only[lQ];exact sW wc tl at1 λq Hd hq eq wd st=>⟨_,_,Z,wd,R3,λx u e=>st.keep _ _ (sc _ _ e) (by rw[tg7 x u e];simp)⟩
  .rintro σ Hc ⟨x1,S2,rfl,wc,R2,sc⟩
   rw[aad,g_,aa3] at R2;have eT:=R2.det RT;subst eT;have pl:(pick l ah).length<=300:=abG (List.length_filterMap_le _ _) Ss;have tl:S2.ts.length<=9000:=by rw[qj R2];show ([]++_).length<=_;simp;lia
   have g2:=Fo R2 gb;have m2:S2.m<=100:=by rw[(xu R2).2];show m<=100;lia
   have s1c:=s16.trans sc;have hi:hnd (l.map bG) i=(x.k:Int):=dH (fL ex);have hj:hnd (l.map bG) j=(y.k:Int):=dH (fL ey);refine⟨_,Z,_,Z,_,Z,_,_,_,_,Z,Z,bO.of (s1c _ _ ht),Z,_,Z,_,_,_,_,Z,Z,bO.of (s1c _ _ ht),Z, ?_⟩;refine⟨τ,Wo,S2,_,_,x,y,Z,hi,hj,wc,g2,m2,tl,pr.x1,pr.y1,λf1 p1 p2 H8 ef1 ep1 ep2 s8=>?_⟩;refine⟨_,Z,_,Z,_,_,_,_,Z,Z,bO.of (s8 _ _ (s1c _ _ ht)),Z,_,Z,_,_,_,_,Z,Z,bO.of (s8 _ _ (s1c _ _ ht)),Z, ?_⟩;refine⟨τ,Wo,S2,_,_,y',x',Z,hj.trans (by rw[pr.ey]),hi.trans (by rw[pr.ex]),wc.same s8,g2,m2,tl,pr.y2,by rw[pr.ey];exact pr.x2,λf2 p3 p4 H9 ef2 ep3 ep4 s9=>?_⟩;refine⟨(by show 3<=sizeLine;decide),λq hq=>?_⟩;have sq:=aD (o:=HO.tup [V.ref D,V.ref f1,V.ref f2]) hq;have s9q:=s9.trans sq;have s8q:=s8.trans s9q;subst haa;exact k1 i j rfl np _ _ ⟨q,D,f1,f2,p1,p2,p3,p4,S2,x,y,x',y',Z,ak,s8q _ _ (sc _ _ e6),s9q _ _ ef1,s9q _ _ ep1,s9q _ _ ep2,sq _ _ ef2,sq _ _ ep3,sq _ _ ep4,RT,ex,ey,pr⟩ (s1c.trans s8q)
theorem CG(K:PySem.W.Frag):PySem.W.kitOne K (.type "str") (.type "bool")=some false:=by kernel_rfl
theorem kJ(K:PySem.W.Frag):PySem.W.kitOne K (.type "int") (.type "bool")=some false:=by kernel_rfl
noncomputable def P0(w:Str)(n:V):V:=if w = "store" then .non else n
noncomputable def Y0(w:Str)(n v:V):V:=if w = "load" then n else v
theorem abH{i:Nat}{v:V}{u:TS}{D:Ends}{σ:St}{H:Hp}(h:u D (σ.set i (some v)) H):Qu (Vd (tC v) (gR i)) u D σ H:=h
noncomputable def En(K:PySem.W.Frag):Sp:=λvs H Q _=>∃(t:Addr) (n c r v:V) (w:Str),vs=[.ref t,n]/\H t=some (.tup [.str w,c,r,v])/\Pz w /\ ∀(q:Addr)(H':Hp),H' q=some (.tup [P0 w n,Y0 w n v])->Same H H'->Q (.ref q) H'
theorem N_{f:Addr}{fd:FuncData}(F:fZ K "_law_read" "_law_read" BX f fd):bL P w K mg base iC 1 f fd ["told","number"] (En K):=by
 refine F.ok wR (λvs H Q E h=>?_) (λcdv A outer s H vs Q E hr h=>?_)
 .obtain⟨t,n,c,r,v,w,rfl,_⟩:=h
  rfl
 .obtain⟨t,n,c,r,v,w,rfl,ht,hw,k⟩:=h
  refine⟨_,(ao (aQ (i:=2) wR.nd rfl (Or.inl rfl) jh)
   (ao (cj (aR iD (aH (aK (K:=K) rfl) (pv 0) aA (λ_ _=>rfl)) bD (aW _)) (aG (aQ (i:=2) wR.nd rfl (Or.inl rfl) (pv 1))) bw)
   (ao (cj (aR dN (aH (aK (K:=K) rfl) (pv 0) aA (λ_ _=>rfl)) bD (aW _)) (aG (aU (cN (aj (pv 2) (aj (pv 1) aq))))) bw)
   (aG (aU (cN (aj (pv 2) (aj (aH (aK (K:=K) rfl) (pv 0) aA (λ_ _=>rfl)) aq)))))))), ?_⟩
  refine abH ?_;rcases hw with rfl|rfl|rfl
  .refine⟨_,Z,_,_,_,_,Z,Z,bO.of ht,Z,Z,_,Z,bK (λ_=>?_) (λz=>abZ (by decide) z)⟩
   refine⟨_,Z,_,Z,_,_,_,_,Z,Z,bO.of ht,Z,Z,_,Z,bK (λ_=>?_) (λz=>abZ (by decide) z)⟩;refine⟨_,Z,_,Z,(by show 2<=sizeLine;decide),λq hq=>k q _ ?_ (aD hq)⟩;exact ak
  .refine⟨_,Z,_,_,_,_,Z,Z,bO.of ht,Z,Z,_,Z,bK (λz=>abZ z (by decide)) (λ_=>?_)⟩
   refine⟨_,Z,_,_,_,_,Z,Z,bO.of ht,Z,Z,_,Z,bK (λz=>abZ z (by decide)) (λ_=>?_)⟩;refine⟨_,Z,_,Z,_,_,_,_,Z,Z,bO.of ht,Z,(by show 2<=sizeLine;decide),λq hq=>k q _ ?_ (aD hq)⟩;exact ak
  .refine⟨_,Z,_,_,_,_,Z,Z,bO.of ht,Z,Z,_,Z,bK (λ_=>?_) (λz=>abZ (by decide) z)⟩
   refine⟨_,Z,_,Z,_,_,_,_,Z,Z,bO.of ht,Z,Z,_,Z,bK (λz=>abZ z (by decide)) (λ_=>?_)⟩;refine⟨_,Z,_,Z,_,_,_,_,Z,Z,bO.of ht,Z,(by show 2<=sizeLine;decide),λq hq=>k q _ ?_ (aD hq)⟩;exact ak
noncomputable def Es(K:PySem.W.Frag):Sp:=λvs H Q _=>∃(t u:Addr) (n c r v c' r' v':V) (w w':Str),vs=[.ref t,.ref u,n]/\H t=some (.tup [.str w,c,r,v])/\H u=some (.tup [.str w',c',r',v'])/\Pz w/\Pz w' /\
 ∀(q p1 p2:Addr)(H':Hp),H' q=some (.tup [.ref p1,.ref p2])->H' p1=some (.tup [.str w,c,P0 w n,v])->H' p2=some (.tup [.str w',c',P0 w' (Y0 w n v),v'])->Same H H'->Q (.ref q) H'
theorem Oc{f:Addr}{fd:FuncData}(F:fZ K "_law_pair" "_law_pair" BZ f fd)(MP:FnAt P w K mg base 1 "_law_read" ["told","number"] (En K)):bL P w K mg base iC 2 f fd ["one","other","number"] (Es K):=by
 refine F.ok wU (λvs H Q E h=>?_) (λcdv A outer s H vs Q E hr h=>?_)
 .obtain⟨t,u,n,c,r,v,c',r',v',w,w',rfl,_⟩:=h
  rfl
 .obtain⟨t,u,n,c,r,v,c',r',v',w,w',rfl,ht,hu',hw,hw',k⟩:=h
  refine⟨_,(ao (g8 (bh MP (hr.mono (by decide)) (by rfl) (aj (pv 0) (aj (pv 2) aq))) (jX (K:=K) (n:=2) rfl rfl (cQ (aZ (i:=3) wU.nd rfl (Or.inl rfl)) (cQ (aZ (i:=4) wU.nd rfl (Or.inl rfl)) jW))))
   (aG (aU (cN (aj (cN (aj (aH (aK (K:=K) rfl) (pv 0) aA (λ_ _=>rfl)) (aj (aH (aK (K:=K) rfl) (pv 0) aA (λ_ _=>rfl)) (aj (pv 3) (aj (aH (aK (K:=K) rfl) (pv 0) aA (λ_ _=>rfl)) aq))))) (aj (cN (aj (aH (aK (K:=K) rfl) (pv 1) aA (λ_ _=>rfl)) (aj (aH (aK (K:=K) rfl) (pv 1) aA (λ_ _=>rfl)) (aj (aH (aK (K:=K) rfl) (bh MP (hr.mono (by decide)) (by rfl) (aj (pv 1) (aj (pv 4) aq))) aA (λ_ _=>rfl)) (aj (aH (aK (K:=K) rfl) (pv 1) aA (λ_ _=>rfl)) aq))))) aq)))))), ?_⟩
  refine⟨_,Z,_,Z,t,n,c,r,v,w,Z,ht,hw,λq0 H1 hq0 s1=>?_⟩;refine⟨q0,_,Z,bO.of hq0,Z,_,_,Z,_,_,Z,Z, ?_⟩;have ht1:=s1 _ _ ht;have hu1:=s1 _ _ hu';refine⟨_,Z,_,_,_,_,Z,Z,bO.of ht1,Z,_,Z,_,_,_,_,Z,Z,bO.of ht1,Z,_,Z,_,Z,_,_,_,_,Z,Z,bO.of ht1,Z,(by show 4<=sizeLine;decide),λp1 hp1=>?_⟩;have s2:=aD (o:=HO.tup [.str w,c,P0 w n,v]) hp1;have hu2:=s2 _ _ hu1;refine⟨_,Z,_,_,_,_,Z,Z,bO.of hu2,Z,_,Z,_,_,_,_,Z,Z,bO.of hu2,Z, ?_⟩;refine⟨_,Z,_,Z,u,_,c',r',v',w',Z,hu2,hw',λq3 H3 hq3 s3=>?_⟩;refine⟨_,_,_,_,Z,Z,bO.of hq3,Z, ?_⟩;have hu3:=s3 _ _ hu2;refine⟨_,Z,_,_,_,_,Z,Z,bO.of hu3,Z,(by show 4<=sizeLine;decide),λp2 hp2=>?_⟩;have s4:=aD (o:=HO.tup [.str w',c',P0 w' (Y0 w n v),v']) hp2;refine⟨(by show 2<=sizeLine;decide),λq hq=>?_⟩;have s5:=aD (o:=HO.tup [V.ref p1,V.ref p2]) hq;exact k q p1 p2 _ ak (s5 _ _ (s4 _ _ (s3 _ _ ak))) (s5 _ _ ak) ((((s1.trans s2).trans s3).trans s4).trans s5)
theorem Dg(x:Option Int):(oD x).canLay0=true/\(oD x).depth=0:=by cases x<;>exact⟨Z,Z⟩
theorem Uc(r:Rw):PyData.canLay0 (.str (dX r))=true:=by cases r<;>kernel_rfl
theorem pX(x y:Tc):SeqAt.shaped (.tuple [vJ x,vJ y])=true:=by
 have c:∀x:Tc,(vJ x).canLay0=true/\(vJ x).depth=1:=λx=>by
  constructor
  .show (PyData.canLay0 (.str (dX x.r))&&(true&&((oD x.rd).canLay0&&((oD x.wr).canLay0&&true))))=true
   rw[Uc,(Dg _).1,(Dg _).1];rfl
  .show max 0 (max 0 (max (oD x.rd).depth (max (oD x.wr).depth 0)))+1=1
   rw[(Dg _).2,(Dg _).2];rfl
 have e1:PyData.canLay0 (.tuple [vJ x,vJ y])=true:=by
  show ((vJ x).canLay0&&((vJ y).canLay0&&true))=true;rw[(c x).1,(c y).1];rfl
 have e2:PyData.depth (.tuple [vJ x,vJ y])<=64:=by
  show max (vJ x).depth (max (vJ y).depth 0)+1<=64;rw[(c x).2,(c y).2];decide
 unfold SeqAt.shaped;rw[e1,aaM e2];rfl
noncomputable def rM(H:Hp)(f:Addr)(x y:Tc):Prop:=∃a1 a2,H f=some (.tup [.ref a1,.ref a2])/\H a1=some (.tup (rR x))/\H a2=some (.tup (rR y))
theorem rM.same{H H':Hp}{f:Addr}{x y:Tc}(h:rM H f x y)(k:Same H H'):rM H' f x y:=by
 obtain⟨a1,a2,h1,h2,h3⟩:=h;exact⟨a1,a2,k _ _ h1,k _ _ h2,k _ _ h3⟩
theorem rM.dat{H:Hp}{f:Addr}{x y:Tc}(h:rM H f x y):Dat H (.ref f) (.tuple [vJ x,vJ y]):=by
 obtain⟨a1,a2,h1,h2,h3⟩:=h;simp only[Dat];refine⟨f,_,Z,h1, ?_⟩;simp only[aO,and_true];exact⟨Jw h2,Jw h3⟩
noncomputable def Em(K:PySem.W.Frag):Sp:=λvs H Q _=>∃(f d:Addr) (x y:Tc),vs=[.ref f,.ref d]/\rM H f x y/\rM H d x y /\ ∀H',Same H H'->Q (.bl true) H'
theorem N8{f:Addr}{fd:FuncData}(F:fZ K "_law_same" "_law_same" BW f fd)(Bt:rQ mg):bL P w K mg base iC 1 f fd ["found","due"] (Em K):=by
 refine F.ok Fe (λvs H Q E h=>?_) (λcdv A outer s H vs Q E hr h=>?_)
 .obtain⟨f,d,x,y,rfl,_⟩:=h
  rfl
 .obtain⟨f,d,x,y,rfl,hf,hd,k⟩:=h
  have iM:=hr.units;obtain⟨a1,a2,h1,h2,h3⟩:=id hf
  refine⟨_,(ao (cj (PW.pt (lu (iI (eX (bf (dD (K:=K) (cv:= .ty "tuple") (c:= .type "tuple") rfl rfl) (by rfl) Bt.bV bM (aj (pv 0) (aj (eE (v:= .ty "tuple") (by rfl) Bt.mL jQ rfl) aq))))) (jJ (aR (vP (K:=K) rfl iM) (pv 0) (pv 1) (aW _))))) (aG (aU mR)) bw)
   (ao (eY PassesOwn.never rfl (Ck (K:=K) rfl (pv 0)) (aZ (i:=2) Fe.nd rfl (Or.inl rfl))
   (aG (cj (PW.pt (lu (iI (eX (bf (dD (K:=K) (cv:= .ty "tuple") (c:= .type "tuple") rfl rfl) (by rfl) Bt.bV bM (aj (pv 2) (aj (eE (v:= .ty "tuple") (by rfl) Bt.mL jQ rfl) aq))))) (lu (aR iD (bf (bH (K:=K) rfl) (by rfl) Bt.iZ fP (aj (pv 2) aq)) aA (aW _)) (jJ (aR (vP (K:=K) rfl iM) (fH rfl (N:=["part"]) (own:=["part"]) (caps:=[]) (bA.of (by kernel_rfl)) (Ck (K:=K) rfl (pv 2)) (λ_ _ _ _=>(aZ (i:=0) (show List.Nodup (["part"]:List Str) by decide +kernel) rfl (Or.inl rfl))) (λ_ _ _ _=>(qX (eX (bf (dD (K:=K) (cv:= .ty "bool") (c:= .type "bool") rfl rfl) (by rfl) Bt.bV bM (aj (pv 0) (aj (eE (v:= .ty "bool") (by rfl) Bt.JV Dl rfl) aq)))))) (λ_ _ _ _=>(pv 0))) (bW aq) (aW _)))))) (aG (aU mR)) bw)))
   (aG (aU mR)))), ?_⟩
  refine⟨_,Z,_,_,true,Z,.tup h1,dW K,true,Z, ?_⟩;refine(show if false=true then _ else _ from dG ?_);refine⟨_,Z,_,Z,_,_,hf.dat,hd.dat,pX x y,pX x y,_,Z, ?_⟩;rw[Js (pX x y)];refine(show if false=true then _ else _ from dG ?_);refine⟨_,Z,f,Z,⟨_,bO.of h1⟩, ?_⟩
  refine Wt (K:=K) (a:=f) (xs:=[.ref a1,.ref a2]) (λi σ Hc=>∃x1,σ=[some (.ref f),some (.ref d),x1]/\Same H Hc)
   ⟨none,Z,Same.refl _⟩ (λi σ Hc _ ⟨_,_,sm⟩=>bO.of (sm _ _ h1)) ?_ ?_
  .rintro i v σ Hc hi ⟨x1,rfl,sm⟩
   obtain⟨a,t,rfl,ha⟩:∃(a:Addr) (t:Tc),v = .ref a/\Hc a=some (.tup (rR t)):=by
    match i,hi with
    | 0,hi=>cases hi;exact⟨a1,x,Z,sm _ _ h2⟩
    | 1,hi=>cases hi;exact⟨a2,y,Z,sm _ _ h3⟩
    | n+2,hi=>simp at hi
   refine⟨_,Z,_,_,true,Z,.tup ha,dW K,true,Z, ?_⟩;refine(show if false=true then _ else _ from dG ?_);refine⟨_,Z,a,_,Z,.inr (bO.of ha),Z,_,Z, ?_⟩;refine bK (λz=>abZ z (show ¬(!decide (V.int (4:Int)=V.int 4))=true by decide)) (λ_=>?_);refine⟨_,Z,a,Z,⟨_,bO.of ha⟩,λD hD=>?_⟩;refine Ao (K:=K) (λ_=>none) hD ha (show 4<=100000 by decide) (λi w' H2 G F hi s2 kG kF=>?_) (λH2 s2 e2=>?_)
   .unfold rR at hi
    match i,hi with
    | 0,hi=>
      cases hi;exact⟨_,Z,_,_,false,Z,.str _,CG K,false,Z,dG (kG _ (Same.refl _) rfl)⟩
    | 1,hi=>
      cases hi;exact⟨_,Z,_,_,false,Z,.int _,kJ K,false,Z,dG (kG _ (Same.refl _) rfl)⟩
    | 2,hi=>
      cases hi;cases t.rd with
      | none=>exact⟨_,Z,_,_,false,Z,.non,pO K,false,Z,dG (kG _ (Same.refl _) rfl)⟩
      | some z=>exact⟨_,Z,_,_,false,Z,.int _,kJ K,false,Z,dG (kG _ (Same.refl _) rfl)⟩
    | 3,hi=>
      cases hi;cases t.wr with
      | none=>exact⟨_,Z,_,_,false,Z,.non,pO K,false,Z,dG (kG _ (Same.refl _) rfl)⟩
      | some z=>exact⟨_,Z,_,_,false,Z,.int _,kJ K,false,Z,dG (kG _ (Same.refl _) rfl)⟩
    | n+4,hi=>simp at hi
   .have e3:H2 D=some (.lst (([]:List Int).map V.int)):=by
     rw[e2]
     have:∀n:Nat,(List.range n).filterMap (λ_=>(none:Option V))=[]:=λn=>by induction n with
      | zero=>rfl
      | succ n ih=>rw[List.range_succ,List.filterMap_append,ih];rfl
     rw[this];rfl
    refine⟨(by show 0<=sizeLine;decide),λe0 he0=>?_⟩;have se:=aD (o:=HO.lst []) he0;refine⟨_,_,iV (se _ _ e3),iV (ns:=[]) ak,shaped_ints _,shaped_ints _,_,Z, ?_⟩;rw[Js (shaped_ints [])];refine(show if false=true then _ else _ from dG ?_);exact⟨_,Z,(sm.trans s2).trans se⟩
  .rintro σ Hc ⟨x1,rfl,sm⟩
   exact k Hc sm
theorem NQ{ws:List cZ}{kvs:List (List Key×V)}{i:Nat}{x:yV}(pl:Uo kvs ((nm ws).take i))(ex:(nm ws)[i]? = some x):Uo (putK kvs (kx x) (V.int i)) ((nm ws).take (i+1)):=by
 have il:=(aaf.mp ex).1;have tk:(nm ws).take (i+1)=(nm ws).take i++[x]:=by rw[aa5,ex];rfl
 have tl:((nm ws).take i).length=i:=by rw[aa7];lia
 refine⟨λm y e=>?_,λy hy=>?_⟩
 .rw[m7]
  rw[tk] at e
  by_cases hm:m<i
  .rw[aaU (by lia)] at e
   have ne:¬kx y=kx x:=λz=>by
    have z:=Cy z;subst z;have e':(nm ws)[m]? = some y:=by rw[List.getElem?_take_of_lt hm] at e;exact e
    have:=xT e' ex;lia
   rw[abN ne];exact pl.1 m y e
  .rw[aaT (by lia),tl] at e
   have ml:m - i<1:=(aaf.mp e).1;have:m=i:=by lia
   subst this;rw[Nat.sub_self] at e;cases e;rw[abW rfl]
 .rw[tk] at hy
  have n1:y∉(nm ws).take i:=λz=>hy (aa1.mpr (.inl z));have n2:y≠x:=λz=>hy (aa1.mpr (.inr (by rw[z];simp)));rw[m7,abN (λz=>n2 (Cy z))];exact pl.2 y n1
theorem R8{ws:List cZ}{hn i j:Nat}{D:List Int}(Uv:∀x∈ws,0<=x.1/\x.1<(hn:Int))(np:J3 ws i j)(R:vq ws hn D λm=>(m=i\/lF ws i m)\/(m=j\/lF ws j m)):
 ∀m x,ws[m]? = some x->(cnt (ws.take m) x.1<gI ((D.set (hnd ws i).toNat (cnt (ws.take i) (hnd ws i))).set (hnd ws j).toNat (cnt (ws.take j) (hnd ws j))) x.1↔m∈bY ws i j):=by
 intro m x ex;have ij:=np.lt;have jl:=np.jl;obtain⟨xi,Wv⟩:∃y,ws[i]? = some y:=⟨_,aae (show i<ws.length by lia)⟩;obtain⟨xj,exj⟩:∃y,ws[j]? = some y:=⟨_,aae jl⟩;have hi:=dH Wv;have hj:=dH exj;have hx:=dH ex;obtain⟨x0,x1⟩:=Uv x (aaL ex);obtain⟨i0,i1⟩:=Uv xi (aaL Wv);obtain⟨j0,j1⟩:=Uv xj (aaL exj);have dl:=R.1;have ne:xi.1≠xj.1:=λe=>np.ne (by rw[hi,hj,e])
 have own:∀{a b:Nat}{y:cZ},a<b->ws[a]? = some x->ws[b]? = some y->x.1=y.1->lU ws a b=true:=fun {a b y} lt ea eb e=>by
  unfold lU Uu;rw[ea,eb,aaM lt];simp[e]
 have lt_iff:∀{k:Nat}{y:cZ},ws[k]? = some y->x.1=y.1->(cnt (ws.take m) x.1<cnt (ws.take k) y.1↔m<k):=fun {k y} ek e=>by
  rw[←e];constructor
  .intro lt
   refine Nat.lt_of_not_le λle=>?_;have:=uz (ws:=ws) le x.1;lia
  .intro lt
   have t:ws.take (m+1)=ws.take m++[x]:=by rw[aa5,ex];rfl
   have c:=uz (ws:=ws) (show m+1<=k from lt) x.1;rw[t,fO,abW rfl] at c;lia
 rw[gO,hi,hj,qz j0 (by rw[aa6];lia) x0]
 by_cases ej:x.1=xj.1
 .rw[abW ej,lt_iff exj ej]
  constructor
  .intro lt
   exact⟨.one (own lt ex exj ej),λz=>by subst z;rw[Wv] at ex;cases ex;exact ne ej⟩
  .intro r
   exact r.1.lt.1
 rw[abN ej,qz i0 (by lia) x0]
 by_cases ei:x.1=xi.1
 .rw[abW ei,lt_iff Wv ei]
  constructor
  .intro lt
   exact⟨jx (.one (own lt ex Wv ei)) (.one np.st),by lia⟩
  .rintro⟨r,n⟩
   refine Nat.lt_of_not_le λle=>?_;have lt:i<m:=by lia
   refine np.no r (.one ?_);unfold lU Uu;rw[Wv,ex,aaM lt];simp[ei]
 rw[abN ei,R.2 m x ex];constructor
 .rintro((rfl|r)|(rfl|r))
  .rw[Wv] at ex;cases ex;exact abZ rfl ei
  .exact⟨jx r (.one np.st),λz=>by subst z;rw[Wv] at ex;cases ex;exact ei rfl⟩
  .rw[exj] at ex;cases ex;exact abZ rfl ej
  .exact⟨r,λz=>by subst z;rw[Wv] at ex;cases ex;exact ei rfl⟩
 .rintro⟨r,_⟩
  exact .inr (.inr r)
theorem Pu(ws:List cZ)(i j:Nat)(jl:j<=ws.length):(List.range ws.length).filter (λm=>decide (m∈bY ws i j))=bY ws i j:=by
 have e:∀m,decide (m∈bY ws i j)=decide (lF ws j m/\m≠i):=λm=>by
  rw[Bool.eq_iff_iff,decide_eq_true_iff,decide_eq_true_iff,gO]
 have gen:∀d,(List.range (j+d)).filter (λm=>decide (lF ws j m/\m≠i))=bY ws i j:=λd=>by
  induction d with
  | zero=>rfl
  | succ d ih=>
    rw[←Nat.add_assoc,List.range_succ,abL,ih];have:decide (lF ws j (j+d)/\j+d≠i)=false:=aaN λz=>by have:=z.1.lt;lia
    rw[abn,this];simp
 have:=gen (ws.length - j);rw[show j+(ws.length - j)=ws.length by lia] at this;rw[show (λm=>decide (m∈bY ws i j))=λm=>decide (lF ws j m/\m≠i) from funext e];exact this
noncomputable def Et(K:PySem.W.Frag):Sp:=λvs H Q _=>∃(a t:Addr) (ws:List cZ) (hn i j:Nat),vs=[.ref a,.ref t,.int hn]/\i_ H a ws/\(∀x∈ws,MF (hn:Int) x)/\1<=hn/\hn<=8/\ws.length<=300/\H t=some (.tup (nV (fD ws i j)))/\J3 ws i j /\ ∀(D:Addr)(H':Hp),H D=none->LI H' D ((bY ws i j).map (hnd ws))->Same H H'->Q (.ref D) H'
theorem Od{f:Addr}{fd:FuncData}(F:fZ K "_law_needed" "_law_needed" tW f fd)(zf:FnAt P w K mg base 1 "_law_table" ["touches","hands"] (wK K))(Bt:rQ mg):bL P w K mg base iC 2 f fd ["web","tie","hands"] (Et K):=by
 refine F.ok dF (λvs H Q E h=>?_) (λcdv A outer s H vs Q E hr h=>?_)
 .obtain⟨a,t,ws,hn,i,j,rfl,_⟩:=h
  rfl
 .obtain⟨a,t,ws,hn,i,j,rfl,W,tin,n1,n8,wl,ht,np,k⟩:=h
  have hu:=rB hr;have Uv:∀x∈ws,0<=x.1/\x.1<(hn:Int):=λx hx=>(tin x hx).1;have il:i<ws.length:=Nat.lt_trans np.lt np.jl;have jl:=np.jl
  refine⟨_,(ao (aQ (i:=3) dF.nd rfl (Or.inl rfl) (aH (aK (K:=K) rfl) (bh zf (hr.mono (by decide)) (by rfl) (aj (pv 0) (aj (pv 2) aq))) aA (λ_ _=>rfl)))
   (ao (aQ (i:=4) dF.nd rfl (Or.inl rfl) (bQ Cq (bW (aj aA aq)) (pv 2)))
   (ao (aQ (i:=5) dF.nd rfl (Or.inl rfl) Fw)
   (ao (eY PassesOwn.never rfl (fV (by rfl) Bt.gJ (aj (bf (bH (K:=K) rfl) (by rfl) Bt.iZ fP (aj (pv 0) aq)) aq)) (aZ (i:=6) dF.nd rfl (Or.inl rfl))
   (ao (qY hu (pv 5) (cN (aj (aH (aK (K:=K) rfl) (aH (aL (K:=K) rfl) (pv 0) (pv 6) (λ_ _=>rfl)) aA (λ_ _=>rfl)) (aj (aH (aL (K:=K) rfl) (pv 4) (aH (aK (K:=K) rfl) (aH (aL (K:=K) rfl) (pv 0) (pv 6) (λ_ _=>rfl)) aA (λ_ _=>rfl)) (λ_ _=>rfl)) aq))) (pv 6) rfl)
   (aG (g8 (bQ eZ (aH (aL (K:=K) rfl) (pv 4) (aH (aK (K:=K) rfl) (aH (aL (K:=K) rfl) (pv 0) (pv 6) (λ_ _=>rfl)) aA (λ_ _=>rfl)) (λ_ _=>rfl)) aA) (jg (pv 4) (aH (aK (K:=K) rfl) (aH (aL (K:=K) rfl) (pv 0) (pv 6) (λ_ _=>rfl)) aA (λ_ _=>rfl)) set_list)))))
   (ao (aQ (i:=7) dF.nd rfl (Or.inl rfl) (bW (aj (aH (aL (K:=K) rfl) (pv 3) (oZ hu (pv 5) (qZ (vL (K:=K) rfl) (pv 1) vO (vN aA)) (λ_ _=>rfl)) (λ_ _=>rfl)) (aj (aH (aL (K:=K) rfl) (pv 3) (oZ hu (pv 5) (qZ (vL (K:=K) rfl) (pv 1) (vN aA) vO) (λ_ _=>rfl)) (λ_ _=>rfl)) aq))))
   (ao (mz (i:=8) rfl dF.nd rfl (Or.inl rfl) (N:=["a","b"]) (own:=["a","b"]) (caps:=[]) (bA.of (by kernel_rfl)) (Ld (K:=K) rfl (by rfl) Bt.Yd (aj (aH (aL (K:=K) rfl) (pv 7) aA (λ_ _=>rfl)) (aj (aH (aL (K:=K) rfl) (pv 7) aA (λ_ _=>rfl)) aq))) (λ_ _ _ _=>(jX (K:=K) (n:=2) rfl rfl (cQ (aZ (i:=0) (show List.Nodup (["a","b"]:List Str) by decide +kernel) rfl (Or.inl rfl)) (cQ (aZ (i:=1) (show List.Nodup (["a","b"]:List Str) by decide +kernel) rfl (Or.inl rfl)) jW)))) (λ_ _ _ _=>d_) (λ_ _ _ _=>(bf (uE rfl) (by rfl) Bt.Uh JL (aj (pv 0) (aj (pv 1) aq)))))
   (ao (g8 (aH (aK (K:=K) rfl) (pv 1) aA (λ_ _=>rfl)) (jg (pv 8) (aH (aK (K:=K) rfl) (pv 1) aA (λ_ _=>rfl)) set_list))
   (ao (g8 (aH (aK (K:=K) rfl) (pv 1) aA (λ_ _=>rfl)) (jg (pv 8) (aH (aK (K:=K) rfl) (pv 1) aA (λ_ _=>rfl)) set_list))
   (ao (aQ (i:=9) dF.nd rfl (Or.inl rfl) (bW aq))
   (ao (aQ (i:=4) dF.nd rfl (Or.inl rfl) (bQ Cq (bW (aj aA aq)) (pv 2)))
   (ao (eY PassesOwn.never rfl (cV (K:=K) rfl (pv 0)) (jX (K:=K) (n:=3) rfl rfl (cQ (aZ (i:=10) dF.nd rfl (Or.inl rfl)) (cQ (aZ (i:=11) dF.nd rfl (Or.inl rfl)) (cQ (aZ (i:=12) dF.nd rfl (Or.inl rfl)) jW))))
   (ao (cj (aR pL (aH (aL (K:=K) rfl) (pv 4) (pv 10) (λ_ _=>rfl)) (aH (aL (K:=K) rfl) (pv 8) (pv 10) (λ_ _=>rfl)) (aW _)) (aG (cF (cX (K:=K) rfl (pv 9) (aj (pv 10) aq)))) bw)
   (aG (g8 (bQ eZ (aH (aL (K:=K) rfl) (pv 4) (pv 10) (λ_ _=>rfl)) aA) (jg (pv 4) (pv 10) set_list)))))
   (aG (aU (pv 9)))))))))))))), ?_⟩
  refine⟨_,Z,_,Z,a,hn,ws,Z,W,tin,by lia,by lia,wl,λp t1 t2 H1 hp L1 _ f1 _ s1=>?_⟩;refine⟨_,_,_,_,Z,Z,bO.of hp,Z, ?_⟩;rw[aaY] at L1;refine⟨(by show 1<=sizeLine;decide),λl hl=>?_⟩;have s2:=aD (o:=HO.lst [V.int 0]) hl;refine⟨_,Z,l,_,_,Z,Z,ak,by lia,by lia,by rw[sizeLine_eq];simp;lia,λmn hmn=>?_⟩;rw[Vl,aaY];have s3:=aD (o:=HO.lst ((List.replicate hn (0:Int)).map V.int)) hmn;refine λd hd=>?_;have s4:=aD (o:=HO.dT []) hd;have L1:=(L1.same (gQ _ _) s2).same (gQ _ _) (Same.refl _);generalize hHb:(upd H1 l (.lst [V.int 0]))=Hb at s2 hmn s3 hd s4 L1 ⊢;have sb:=s1.trans s2;obtain⟨vs,ha,dv⟩:=W.same sb;have dY:vs.length=ws.length:=by rw[dv.length,aad]
  have nmd:mn≠d:=au ak hd;have hdb:Hb d=none:=s3.free hd;refine⟨_,Z,a,_,Z,.inl (bB.of (s4 _ _ (s3 _ _ ha))),_,Z,by lia,by lia, ?_⟩;rw[dY,aaY]
  refine Ah (lo:=0) (n:=ws.length) (λn σ Hc=>∃(x1:Option V) (ms:List Int) (kvs:List (List Key×V)),σ=[some (.ref a),some (.ref t),some (.int hn),some (.ref t1),some (.ref mn),some (.ref d),x1,none,none,none,none,none,none]/\Same Hb Hc/\Hc mn=some (.lst (ms.map V.int))/\ms.length=hn/\(∀h:Int,0<=h->h<hn->gI ms h=cnt (ws.take n) h)/\Hc d=some (.dT kvs)/\kvs.length<=n/\Uo kvs ((nm ws).take n))
   ⟨none,_,[],Z,s3.trans s4,s4 _ _ ak,by simp,λh _ _=>by rw[C_];rfl,ak,aap _,⟨λm x e=>by simp at e,λx _=>rfl⟩⟩ ?_ ?_
  .rintro n σ Hc hnl ⟨x1,ms,kvs,rfl,sc,hm,ml,mg,hdc,kl,pl⟩
   obtain⟨y,ey⟩:∃y,ws[n]? = some y:=⟨_,aae hnl⟩;obtain⟨y0,y1⟩:=Uv y (aaL ey);have hyn:=dH ey;obtain⟨vs',ty,ha',ev,hty⟩:=lN (W.same (sb.trans sc)) ey;have e0:pF vs' (0+(n:Int))=some (.ref ty):=by rw[Int.zero_add];exact bI ev
   refine⟨_,Z,_,Z,_,Z,_,Z,_,_,_,_,Z,Z,bB.of ha',e0,_,_,_,_,Z,Z,bO.of hty,Z,_,Z,_,Z,_,Z,_,_,_,_,Z,Z,bB.of ha',e0,_,_,_,_,Z,Z,bO.of hty,Z,_,_,_,_,Z,Z,bB.of hm,kW y0 (by lia),(by show 2<=sizeLine;decide),λq hq=>?_⟩;rw[mg _ y0 y1];have sq:=aD (o:=HO.tup [V.int y.1,V.int (cnt (ws.take n) y.1)]) hq;have exn:(nm ws)[n]? = some (y.1,cnt (ws.take n) y.1):=qt ey;refine⟨d,_,Z,zm.t (k:=kx (y.1,cnt (ws.take n) y.1)) (sq _ _ hdc) ak (by rw[sizeLine_eq];lia), ?_⟩;have kd:Kp d (upd Hc q (.tup [V.int y.1,V.int (cnt (ws.take n) y.1)])) (upd (upd Hc q (.tup [V.int y.1,V.int (cnt (ws.take n) y.1)])) d (.dT (putK kvs (kx (y.1,cnt (ws.take n) y.1)) (V.int n)))):=Kp.set;have sd:Same Hb (upd (upd Hc q (.tup [V.int y.1,V.int (cnt (ws.take n) y.1)])) d (.dT (putK kvs (kx (y.1,cnt (ws.take n) y.1)) (V.int n)))):=λx o e=>kd _ _ (sq _ _ (sc _ _ e)) (au e hdb);have hm2:=kd _ _ (sq _ _ hm) nmd;have hd2:(upd (upd Hc q (.tup [V.int y.1,V.int (cnt (ws.take n) y.1)])) d (.dT (putK kvs (kx (y.1,cnt (ws.take n) y.1)) (V.int n)))) d=some (.dT (putK kvs (kx (y.1,cnt (ws.take n) y.1)) (V.int n))):=ak;rw[show V.int (0+(n:Int))=V.int (n:Int) by rw[Int.zero_add]];generalize (upd (upd Hc q (.tup [V.int y.1,V.int (cnt (ws.take n) y.1)])) d (.dT (putK kvs (kx (y.1,cnt (ws.take n) y.1)) (V.int n))))=He at sd hm2 hd2 ⊢;obtain⟨vs2,ty2,ha2,ev2,acp⟩:=lN (W.same (sb.trans sd)) ey;have e2:pF vs2 (n:Int)=some (.ref ty2):=bI ev2;refine⟨_,Z,_,Z,_,Z,_,_,_,_,Z,Z,bB.of ha2,e2,_,_,_,_,Z,Z,bO.of acp,Z,_,_,_,_,Z,Z,bB.of hm2,kW y0 (by lia),_,_,Z,Z,_,Z,_,Z,_,Z,_,_,_,_,Z,Z,bB.of ha2,e2,_,_,_,_,Z,Z,bO.of acp,Z,_,_,_,_,Z,Z,hm2,o_ y0 (by rw[aad];lia), ?_⟩;rw[mg _ y0 y1,←List.map_set];have km:Kp mn He (upd He mn (.lst ((ms.set y.1.toNat (cnt (ws.take n) y.1+1)).map V.int))):=Kp.set;have tk:ws.take (n+1)=ws.take n++[y]:=by rw[aa5,ey];rfl
   refine⟨_,ms.set y.1.toNat (cnt (ws.take n) y.1+1),putK kvs (kx (y.1,cnt (ws.take n) y.1)) (V.int n),Z,λx o e=>km _ _ (sd _ _ e) (au e hmn),ak,by simp[ml],λh h0 h1=>?_,km _ _ hd2 nmd.symm,abG (gP ..) (by lia),NQ pl exn⟩;rw[qz y0 (by lia) h0,tk,fO]
   by_cases e:h=y.1
   .rw[abW e,abW e,e]
   .rw[abN e,abN e,mg h h0 h1]
  .rintro σ Hc ⟨x1,ms,kvs,rfl,sc,hm,ml,mg,hdc,kl,pl⟩
   have e:(nm ws).take ws.length=nm ws:=by rw[←iJ ws,aa3]
   rw[e] at pl;obtain⟨rs,hrs,rl,rq⟩:=L1
   have hL:∀m,m<ws.length -> ∃(r:Addr) (row:List Int),rs[m]? = some r/\Hb r=some (.lst (row.map V.int))/\vq ws hn row λm'=>m'=m\/lF ws m m':=λm ml=>by
    have er:rs[m]? = some (rs[m]'(by lia)):=aae _;obtain⟨_,row,h1,h2⟩:=rq m _ er;exact⟨_,row,er,h1,h2⟩
   obtain⟨ri,QT,eri,hri,Ri⟩:=hL i il;obtain⟨rj,QS,erj,hrj,Rj⟩:=hL j jl;have htc:=sc _ _ (sb _ _ ht);have acw:=sc _ _ hrs;refine⟨_,Z,_,Z,_,Z,_,Z,t,_,Z,bO.of htc,Rr _ rfl,λp1 hp1=>?_⟩;rw[show rF (nV (fD ws i j)) none (some 2)=[V.int (hnd ws i),V.int (cnt (ws.take i) (hnd ws i))] from Yb _ _ _ _];have u1:=aD (o:=HO.tup [V.int (hnd ws i),V.int (cnt (ws.take i) (hnd ws i))]) hp1;refine⟨d,V.int (i:Int),Z,by rw[←pl.1 i _ (uP il)];exact mO.t (u1 _ _ hdc) ak,_,_,_,_,Z,Z,bB.of (u1 _ _ acw),bI (by rw[aag,eri];rfl), ?_⟩;refine⟨_,Z,_,Z,_,Z,_,Z,t,_,Z,bO.of (u1 _ _ htc),Rp _ rfl,λp2 hp2=>?_⟩;rw[show rF (nV (fD ws i j)) (some 2) none=[V.int (hnd ws j),V.int (cnt (ws.take j) (hnd ws j))] from X_ _ _ _ _];have u2:=aD (o:=HO.tup [V.int (hnd ws j),V.int (cnt (ws.take j) (hnd ws j))]) hp2;refine⟨d,V.int (j:Int),Z,by rw[←pl.1 j _ (uP jl)];exact mO.t (u2 _ _ (u1 _ _ hdc)) ak,_,_,_,_,Z,Z,bB.of (u2 _ _ (u1 _ _ acw)),bI (by rw[aag,erj];rfl),(by show 2<=sizeLine;decide),λpr hpr=>?_⟩;have u3:=aD (o:=HO.lst [V.ref ri,V.ref rj]) hpr;have uc:=(sc.trans u1).trans (u2.trans u3);have epr:(upd (upd (upd Hc p1 (.tup [V.int (hnd ws i),V.int (cnt (ws.take i) (hnd ws i))])) p2 (.tup [V.int (hnd ws j),V.int (cnt (ws.take j) (hnd ws j))])) pr (.lst [V.ref ri,V.ref rj])) pr=some (.lst [V.ref ri,V.ref rj]):=ak;generalize (upd (upd (upd Hc p1 (.tup [V.int (hnd ws i),V.int (cnt (ws.take i) (hnd ws i))])) p2 (.tup [V.int (hnd ws j),V.int (cnt (ws.take j) (hnd ws j))])) pr (.lst [V.ref ri,V.ref rj]))=Hd at u3 uc epr ⊢;have acA:=uc _ _ hri;have acz:=uc _ _ hrj;refine⟨_,Z,_,_,_,_,Z,Z,bB.of epr,Z,_,Z,_,_,_,_,Z,Z,bB.of epr,Z,ri,rj,_,_,Z,bB.of acA,bB.of acz,λD hD=>?_⟩;refine Am (K:=K) (n:=hn) (by rw[aad,Ri.1]) (by rw[aad,Rj.1]) (λh=>some (.int (mx (gI QT (h:Int)) (gI QS (h:Int))))) hD (bB.of acA) (bB.of acz) (by lia) (λh u v u6 G F hu' hv s12 kG kF=>?_) (λu6 s12 e12=>?_)
   .rw[aag] at hu' hv
    cases eu:QT[h]? with
    | none=>rw[eu] at hu';cases hu'
    | some uu=>
      cases ev:QS[h]? with
      | none=>rw[ev] at hv;cases hv
      | some vv=>
        rw[eu] at hu';rw[ev] at hv;cases hu';cases hv;exact⟨_,Z,_,Z,_,_,Z,kF _ u6 (Same.refl _) (by rw[yD eu,yD ev];rfl)⟩
   have WL:u6 D=some (.lst ((Sd hn QT QS).map V.int)):=by
    rw[e12];unfold Sd;rw[List.map_map,←List.filterMap_eq_map];rfl
   have Rm:=Fp Uv Ri Rj;have ml2:(Sd hn QT QS).length=hn:=Rm.1;have sH:Same H u6:=(sb.trans uc).trans s12;have hDH:H D=none:=(sb.trans uc).free hD;have acu:u6 t=some (.tup [V.int (hnd ws i),V.int (cnt (ws.take i) (hnd ws i)),V.int (hnd ws j),V.int (cnt (ws.take j) (hnd ws j))]):=sH _ _ ht;have need:=R8 Uv np Rm;clear e12 u1 u2 u3;generalize Sd hn QT QS=due at WL ml2 need
   obtain⟨i0,i1⟩:0<=hnd ws i/\hnd ws i<(hn:Int):=by
    obtain⟨y,ey⟩:∃y,ws[i]? = some y:=⟨_,aae il⟩;rw[dH ey];exact Uv y (aaL ey)
   obtain⟨j0,j1⟩:0<=hnd ws j/\hnd ws j<(hn:Int):=by
    obtain⟨y,ey⟩:∃y,ws[j]? = some y:=⟨_,aae jl⟩;rw[dH ey];exact Uv y (aaL ey)
   refine⟨_,Z,_,_,_,_,Z,Z,bO.of acu,Z,_,Z,_,Z,_,_,_,_,Z,Z,bO.of acu,Z,_,_,_,_,Z,Z,WL,o_ i0 (by rw[aad];lia), ?_⟩;rw[←List.map_set];have k1:Kp D u6 (upd u6 D (.lst ((due.set (hnd ws i).toNat (cnt (ws.take i) (hnd ws i))).map V.int))):=Kp.set;have S1:Same H (upd u6 D (.lst ((due.set (hnd ws i).toNat (cnt (ws.take i) (hnd ws i))).map V.int))):=λx o e=>k1 _ _ (sH _ _ e) (au e hDH);have eD1:(upd u6 D (.lst ((due.set (hnd ws i).toNat (cnt (ws.take i) (hnd ws i))).map V.int))) D=some (.lst ((due.set (hnd ws i).toNat (cnt (ws.take i) (hnd ws i))).map V.int)):=ak;generalize (upd u6 D (.lst ((due.set (hnd ws i).toNat (cnt (ws.take i) (hnd ws i))).map V.int)))=MJ at k1 S1 eD1 ⊢;have acs:MJ t=some (.tup [V.int (hnd ws i),V.int (cnt (ws.take i) (hnd ws i)),V.int (hnd ws j),V.int (cnt (ws.take j) (hnd ws j))]):=S1 _ _ ht;refine⟨_,Z,_,_,_,_,Z,Z,bO.of acs,Z,_,Z,_,Z,_,_,_,_,Z,Z,bO.of acs,Z,_,_,_,_,Z,Z,eD1,o_ j0 (by rw[aad,aa6];lia), ?_⟩;rw[←List.map_set];generalize hdu:(due.set (hnd ws i).toNat (cnt (ws.take i) (hnd ws i))).set (hnd ws j).toNat (cnt (ws.take j) (hnd ws j))=du at need ⊢;have dul:du.length=hn:=by rw[←hdu];simp[ml2]
   have k2:Kp D MJ (upd MJ D (.lst (du.map V.int))):=Kp.set;have S2:Same H (upd MJ D (.lst (du.map V.int))):=λx o e=>k2 _ _ (S1 _ _ e) (au e hDH);have eD2:(upd MJ D (.lst (du.map V.int))) D=some (.lst (du.map V.int)):=ak;generalize (upd MJ D (.lst (du.map V.int)))=H14 at S2 eD2 ⊢;refine⟨(by show 0<=sizeLine;decide),λf hf=>?_⟩;have v1:=aD (o:=HO.lst []) hf;refine⟨(by show 1<=sizeLine;decide),λl2 hl2=>?_⟩;have v2:=aD (o:=HO.lst [V.int 0]) hl2;refine⟨_,Z,l2,_,_,Z,Z,ak,by lia,by lia,by rw[sizeLine_eq];simp;lia,λm2 hm2=>?_⟩;rw[Vl,aaY];have v3:=aD (o:=HO.lst ((List.replicate hn (0:Int)).map V.int)) hm2;have ef:=v3 _ _ (v2 _ _ (ak (H:=H14) (a:=f) (o:= .lst [])));have nfm:f≠m2:=au (v2 _ _ ak) hm2;have hfH:H f=none:=S2.free hf;have agK:H m2=none:=((S2.trans v1).trans v2).free hm2;have nDf:D≠f:=au eD2 hf;have nDm:D≠m2:=au (v2 _ _ (v1 _ _ eD2)) hm2;have eD3:=v3 _ _ (v2 _ _ (v1 _ _ eD2));have S3:=((S2.trans v1).trans v2).trans v3;have em2:(upd (upd (upd H14 f (.lst [])) l2 (.lst [V.int 0])) m2 (.lst ((List.replicate hn (0:Int)).map V.int))) m2=some (.lst ((List.replicate hn (0:Int)).map V.int)):=ak;generalize (upd (upd (upd H14 f (.lst [])) l2 (.lst [V.int 0])) m2 (.lst ((List.replicate hn (0:Int)).map V.int)))=H15 at ef eD3 S3 em2 ⊢;obtain⟨vs5,ha5,dv5⟩:=W.same S3;have vl5:vs5.length=ws.length:=by rw[dv5.length,aad]
   refine⟨_,Z,a,Z,⟨_,bB.of ha5⟩, ?_⟩
   have nfa:∀{Hc:Hp},Same H Hc->Hc a=some (.lst vs5):=fun {Hc} s=>by
    obtain⟨vs6,ha6,_⟩:=W;have q:=S3 _ _ ha6;rw[ha5] at q;rw[s _ _ ha6,q]
   refine gC (K:=K) (a:=a) (xs:=vs5) (λn σ Hc=>∃(x1 x2 x3:Option V) (x4:Option V) (ms:List Int),σ=[some (.ref a),some (.ref t),some (.int hn),some (.ref t1),some (.ref m2),some (.ref d),x4,some (.ref pr),some (.ref D),some (.ref f),x1,x2,x3]/\Same H Hc/\Hc D=some (.lst (du.map V.int))/\Hc m2=some (.lst (ms.map V.int))/\ms.length=hn/\(∀h:Int,0<=h->h<hn->gI ms h=cnt (ws.take n) h)/\LI Hc f (((List.range n).filter λm=>decide (m∈bY ws i j)).map (hnd ws)))
    ⟨none,none,none,_,_,Z,S3,eD3,em2,by simp,λh _ _=>by rw[C_];rfl,ef⟩ (λn σ Hc _ ⟨_,_,_,_,_,_,s,_⟩=>bB.of (nfa s)) ?_ ?_
   .rintro n v σ Hc hnv ⟨x1,x2,x3,x4,ms,rfl,sc',eDc,emc,ml',mg',ec⟩
    have hnl:n<ws.length:=by have:=(aaf.mp hnv).1;lia
    obtain⟨y,ey⟩:∃y,ws[n]? = some y:=⟨_,aae hnl⟩;obtain⟨y0,y1⟩:=Uv y (aaL ey);obtain⟨vs7,ty,ha7,ev7,hty⟩:=lN (W.same sc') ey;have evs:vs7=vs5:=by have:=nfa sc';rw[ha7] at this;injection this with q;injection q
    rw[evs,hnv] at ev7;cases ev7;refine⟨ty,_,Z,bO.of hty,Z,_,_,Z,_,_,Z,_,_,Z,Z, ?_⟩;refine qP (λσ Hd=>σ=[some (.ref a),some (.ref t),some (.int hn),some (.ref t1),some (.ref m2),some (.ref d),x4,some (.ref pr),some (.ref D),some (.ref f),some (.int y.1),some (.str y.2.1),some (.int y.2.2)]/\Same H Hd/\Hd D=some (.lst (du.map V.int))/\Hd m2=some (.lst (ms.map V.int))/\LI Hd f (((List.range (n+1)).filter λm=>decide (m∈bY ws i j)).map (hnd ws))) (λD' hD' _=>?_) ?_
    .refine⟨_,Z,_,Z,_,_,_,_,Z,Z,bB.of emc,kW y0 (by lia),_,Z,_,Z,_,_,_,_,Z,Z,bB.of eDc,kW y0 (by lia),_,_,Z,Z,_,Z, ?_⟩
     rw[mg' _ y0 y1];have nd:=need n y ey
     have fr:((List.range (n+1)).filter λm=>decide (m∈bY ws i j)).map (hnd ws)=((List.range n).filter λm=>decide (m∈bY ws i j)).map (hnd ws)++(if n∈bY ws i j then [y.1] else []):=by
      rw[List.range_succ,abL,aaX];congr 1
      by_cases z:n∈bY ws i j
      .simp[z,dH ey]
      .simp[z]
     by_cases z:n∈bY ws i j
     .rw[aaM (nd.mpr z)]
      refine eO ?_
      have fl:(((List.range n).filter λm=>decide (m∈bY ws i j)).map (hnd ws)).length<=300:=by
       rw[aad];have:=List.length_filter_le (λm=>decide (m∈bY ws i j)) (List.range n);rw[List.length_range] at this;lia
      refine⟨_,Z,.inl ⟨Z,_,bB.of ec⟩,_,Z,f,_,_,Z,Z,ec,by rw[aad,sizeLine_eq];lia, ?_⟩;have kf:Kp f Hc (upd Hc f (.lst ((((List.range n).filter λm=>decide (m∈bY ws i j)).map (hnd ws)).map V.int++[V.int y.1]))):=Kp.set;refine hD' _ _ ⟨Z,λx o e=>kf _ _ (sc' _ _ e) (au e hfH),kf _ _ eDc nDf,kf _ _ emc nfm.symm, ?_⟩;rw[fr,abW z];show upd _ _ _ _=_;rw[ak,aaX];rfl
     .rw[aaN λq=>z (nd.mp q)]
      refine dG ?_;refine hD' _ _ ⟨Z,sc',eDc,emc, ?_⟩;rw[fr,abN z,List.append_nil];exact ec
    .rintro σ Hd ⟨rfl,sd,eDd,emd,ed⟩
     refine⟨_,Z,_,Z,_,_,_,_,Z,Z,bB.of emd,kW y0 (by lia),_,_,Z,Z,_,Z,_,Z,_,_,_,_,Z,Z,emd,o_ y0 (by rw[aad];lia), ?_⟩;rw[mg' _ y0 y1,←List.map_set];have km:Kp m2 Hd (upd Hd m2 (.lst ((ms.set y.1.toNat (cnt (ws.take n) y.1+1)).map V.int))):=Kp.set;have tk:ws.take (n+1)=ws.take n++[y]:=by rw[aa5,ey];rfl
     refine⟨_,_,_,_,ms.set y.1.toNat (cnt (ws.take n) y.1+1),Z,λx o e=>km _ _ (sd _ _ e) (au e agK),km _ _ eDd nDm,ak,by simp[ml'],λh h0 h1=>?_,km _ _ ed nfm⟩;rw[qz y0 (by lia) h0,tk,fO]
     by_cases e:h=y.1
     .rw[abW e,abW e,e]
     .rw[abN e,abN e,mg' h h0 h1]
   .rintro σ Hc ⟨x1,x2,x3,x4,ms,rfl,sc',eDc,emc,ml',mg',ec⟩
    rw[vl5,Pu ws i j (by lia)] at ec;exact⟨_,Z,k f Hc hfH ec sc'⟩
theorem XC{ns:List Int}{r:Rw}{n:Int}(tt:touch r=true)(h:ns[cJ r]? = some n):oV (pK ns r)=P0 (dX r) (.int n):=by
 cases r with
 | load b c=>show oV (ns[c]?)=_;rw[show ns[c]? = some n from h];rfl
 | store c e=>rfl
 | swap b c e=>show oV (ns[c]?)=_;rw[show ns[c]? = some n from h];rfl
 | _=>cases tt
theorem JC{T:gU}{t:Tc}(a:vD T t)(tt:touch t.r=true){n:Int}(h:T.ns[cJ t.r]? = some n):∃n',(cB T t.k).ns[cJ t.r]? = some n'/\Y0 (dX t.r) (.int n) (oV t.wr) = .int n':=by
 obtain⟨s,es,_,er,_,ew⟩:=a;have e:=gw es er;rw[e,ew];show ∃n',(dh T.ns s.bs t.r)[cJ t.r]? = some n'/\_;have hl:=(aaf.mp h).1;revert tt h hl;cases t.r with
 | load b c=>exact λ_ h _=>⟨n,h,Z⟩
 | store c e=>exact λ_ _ hl=>⟨vx s.bs e,by show (T.ns.set c _)[c]? = _;exact List.getElem?_set_self (show c<T.ns.length from hl),Z⟩
 | swap b c e=>exact λ_ _ hl=>⟨vx s.bs e,by show (T.ns.set c _)[c]? = _;exact List.getElem?_set_self (show c<T.ns.length from hl),Z⟩
 | _=>exact λz=>by cases z
theorem vH{r:Rw}(tt:touch r=true):Pz (dX r):=by
 cases r with
 | load b c=>exact .inl rfl
 | store c e=>exact .inr (.inl rfl)
 | swap b c e=>exact .inr (.inr rfl)
 | _=>cases tt
theorem aao(l:List Tc)(k i:Nat):cnt ((l.map bG).take i) (k:Int)=((IV (l.take i) k).length:Int):=by
 induction i with
 | zero=>simp[IV,cnt]
 | succ i ih=>
   cases e:l[i]? with
   | none=>
     have hl:l.length<=i:=by simpa using e
     rw[List.take_of_length_le (by rw[aad];lia),List.take_of_length_le (by lia)];rw[List.take_of_length_le (by rw[aad];lia),List.take_of_length_le (by lia)] at ih;exact ih
   | some t=>
     rw[aa5,aa5,fL e,e];show cnt (_++[bG t]) _=((IV (_++[t]) k).length:Int);rw[fO,FT,aaS,ih];show (if (k:Int)=(t.k:Int) then _ else _)=_
     by_cases q:t.k=k
     .rw[abW (by rw[q]),abW q];simp
     .rw[abN (by lia),abN q];simp
theorem Zv{l:List Tc}{i:Nat}{x:Tc}(e:l[i]? = some x):(IV l x.k)[(cnt ((l.map bG).take i) (x.k:Int)).toNat]? = some x:=by
 rw[aao,aaY];have il:=(aaf.mp e).1
 have el:l=l.take i++x::l.drop (i+1):=by
  have q:=(List.take_append_drop i l).symm;rw[List.drop_eq_getElem_cons il] at q;rw[aae il] at e;cases e;exact q
 have:IV l x.k=IV (l.take i) x.k++x::IV (l.drop (i+1)) x.k:=by
  conv=>lhs;rw[el]
  unfold IV;rw[abL,abn,abW (by simp)]
 rw[this,aaT (aap _),Nat.sub_self];rfl
theorem RX{ws:List cZ}{i j i' j':Nat}(n:J3 ws i j)(n':J3 ws i' j')(e:fD ws i j=fD ws i' j'):i=i'/\j=j':=by
 have h1:=uP (Nat.lt_trans n.lt n.jl);have h2:=uP (Nat.lt_trans n'.lt n'.jl);have h3:=uP n.jl;have h4:=uP n'.jl;unfold fD at e;simp only[Prod.mk.injEq] at e;obtain⟨e1,e2,e3,e4⟩:=e;rw[show (hnd ws i,cnt (ws.take i) (hnd ws i))=(hnd ws i',cnt (ws.take i') (hnd ws i')) by rw[e2,e1]] at h1;rw[show (hnd ws j,cnt (ws.take j) (hnd ws j))=(hnd ws j',cnt (ws.take j') (hnd ws j')) by rw[e4,e3]] at h3;exact⟨xT h1 h2,xT h3 h4⟩
theorem Oo{l:List Tc}{i j:Nat}{x y:Tc}(np:J3 (l.map bG) i j)(ex:l[i]? = some x)(ey:l[j]? = some y):cJ x.r=cJ y.r:=by
 have s:=np.st;unfold lU Uu at s;rw[fL ex,fL ey,aaM np.lt,Bool.true_and,Bool.or_eq_true,decide_eq_true_iff] at s;rcases s with s|s
 .exact abZ (by rw[dH (fL ex),dH (fL ey)];exact s) np.ne
 .unfold mt at s
  split at s
  .cases s
  .split at s
   .rename_i q
    exact Int.ofNat.inj (show ((cJ x.r:Nat):Int)=(cJ y.r:Int) from q)
   .cases s
theorem Fz{T:gU}{x y:Tc}{n:Int}(a:vD T x)(b:vD (cB T x.k) y)(tx:touch x.r=true)(ty:touch y.r=true)(ec:cJ x.r=cJ y.r)(h:T.ns[cJ x.r]? = some n):
 oV x.rd=P0 (dX x.r) (.int n)/\oV y.rd=P0 (dX y.r) (Y0 (dX x.r) (.int n) (oV x.wr)):=by
 obtain⟨n',h1,h2⟩:=JC a tx h;obtain⟨_,_,_,_,e1,_⟩:=a;obtain⟨_,_,_,_,e2,_⟩:=b;refine⟨by rw[e1];exact XC tx h, ?_⟩;rw[e2,h2];exact XC ty (by rw[←ec];exact h1)
noncomputable def El(K:PySem.W.Frag):Sp:=λvs H Q _=>∃(p L:Addr) (rs:List Addr) (rws:List (List Rw)) (m:Nat) (nv:V) (ns:List Int) (o t:Addr) (l:List Tc) (S1:gU) (i j:Nat) (kd:Int),vs=[.int kd,.ref p,.ref o,.ref t,nv]/\Ay H p L rs rws m/\rws.length<=8/\m<=20/\Ds H nv ns m/\LI H o (kI l)/\l.length<=300/\H t=some (.tup (nV (fD (l.map bG) i j)))/\J3 (l.map bG) i j/\Run (iu m ns rws) l S1 /\ ∀v H',Yl (iu m ns rws) l i j v H'->Same H H'->Q v H'
theorem N7{aP aX bZ dj:Addr}{f:Addr}{fd:FuncData}(F:fZ K "_law_told" "_law_told" BP f fd)(Hl:FnAt P w K mg base 11 "both_ways" ["program","order","note","cells"] (λvs H Q _=>jV aP aX bZ dj K vs H Q λ_ _ _=>False))(DK:Hi P w K mg base 11 "both_ways" ["program","order","note","cells"] [.non] (jV aP aX bZ dj K))(DG:Hh P w K mg base 11 "both_ways" ["program","order","note","cells"] "cells" (jV aP aX bZ dj K)):bL P w K mg base iC 12 f fd ["kind","program","order","tie","first"] (El K):=by
 refine F.ok QK (λvs H Q E h=>?_) (λcdv A outer s H vs Q E hr h=>?_)
 .obtain⟨p,L,rs,rws,m,nv,ns,o,t,l,S1,i,j,kd,rfl,_⟩:=h
  rfl
 .obtain⟨p,L,rs,rws,m,nv,ns,o,t,l,S1,i,j,kd,rfl,g,r8,Cw,nh,ho,ll,ht,np,R,k⟩:=h
  refine⟨_,(ao (cj (aR Cr (pv 4) jh (aW _)) (aG (aU (Zh DK rfl rzF (hr.mono (by decide)) (by rfl) (aj (pv 1) (aj (pv 2) (aj (pv 3) aq)))))) bw)
   (ao (cj (aR dN (pv 0) aA (aW _)) (aG (aU (bh Hl (hr.mono (by decide)) (by rfl) (aj (pv 1) (aj (pv 2) (aj (pv 3) (aj (pv 4) aq))))))) bw)
   (aG (aU (Vw DG rfl rzF (hr.mono (by decide)) (by rfl) (aj (pv 1) (aj (pv 2) (aj (pv 3) aq))) (pv 4)))))), ?_⟩
  have wk:Wk (iu m ns rws) (kI l) l none:=⟨S1,[],R,by rw[List.append_nil],trivial⟩;have nl:ns.length<=100:=by have:=nh.1.1;lia
  have G:∀(nv':V),nv'=nv->jV aP aX bZ dj K [.ref p,.ref o,.ref t,nv'] H Q (λ_ _ _=>False):=λnv' e=>by
   subst e;refine⟨p,L,rs,rws,m,nv',ns,o,kI l,t,_,Z,g,r8,Cw,⟨nl,nh.2⟩,ho,by rw[g_];exact ll,ht,λbad=>abZ nh.1 bad,λ_=>⟨l,none,wk,λz=>(by cases z),λz=>(by cases z),λ_=>⟨λi' j' e np' v H' B s=>?_,λnx=>abZ (by have:=Wg np;rwa [aad] at this) nx⟩⟩⟩;obtain⟨rfl,rfl⟩:=RX np np' e;exact k v H' B s
  refine⟨_,Z,Z,_,Z,bK (λz=>?_) (λ_=>?_)⟩
  .exact⟨_,Z,_,Z,_,Z,G .non (aaO z).symm⟩
  refine⟨_,Z,Z,_,Z,bK (λ_=>?_) (λ_=>?_)⟩
  .exact⟨_,Z,_,Z,_,Z,_,Z,G nv rfl⟩
  .exact⟨_,Z,_,Z,_,Z,_,Z,_,Z,G nv rfl⟩
noncomputable def Zb(m:Nat)(rws:List (List Rw)):PyData:= .tuple [.int m,.list (rws.map qU)]
theorem Ay.dat{H:Hp}{p L:Addr}{rs:List Addr}{rws:List (List Rw)}{m:Nat}(g:Ay H p L rs rws m):Dat H (.ref p) (Zb m rws):=by
 have go:∀(rs:List Addr)(rws:List (List Rw)),rs.length=rws.length->(∀(k:Nat)(r:Addr)(x:List Rw),rs[k]? = some r->rws[k]? = some x->dO H r m x)->aO H (rs.map V.ref) (rws.map qU):=by
  intro rs
  induction rs with
  | nil=>
    intro rws hl _;cases rws with
    | nil=>simp[aO]
    | cons x l=>cases hl
  | cons r rs ih=>
    intro rws hl h;cases rws with
    | nil=>cases hl
    | cons x l=>
      simp only[List.map_cons,aO];refine⟨?_,ih l (Nat.succ.inj hl) λk r' x' h1 h2=>h (k+1) r' x' h1 h2⟩;obtain⟨ts,e,d,_⟩:=h 0 r x rfl rfl;exact oE e d
 unfold Zb;simp only[Dat];refine⟨p,_,Z,g.ep, ?_⟩;simp only[aO,Dat,and_true,true_and];exact⟨L,_,Z,g.eL,go rs rws g.len g.row⟩
noncomputable def rN(H:Hp)(nv:V)(ns:List Int)(nd:PyData):Prop:=(nv = .non/\nd = .none) \/ ∃cl,nv = .ref cl/\H cl=some (.lst (ns.map V.int))/\nd=yp ns
theorem rN.same{H H':Hp}{nv:V}{ns:List Int}{nd:PyData}(h:rN H nv ns nd)(k:Same H H'):rN H' nv ns nd:=h.elim .inl λ⟨cl,e,q,d⟩=> .inr ⟨cl,e,k _ _ q,d⟩
theorem rN.dat{H:Hp}{nv:V}{ns:List Int}{nd:PyData}(h:rN H nv ns nd):Dat H nv nd:=by
 rcases h with ⟨rfl,rfl⟩|⟨cl,rfl,e,rfl⟩
 .simp only[Dat]
 .exact iV e
theorem rN.can{H:Hp}{nv:V}{ns:List Int}{nd:PyData}(h:rN H nv ns nd):nd.canLay0=true/\nd.depth<=1:=by
 rcases h with ⟨rfl,rfl⟩|⟨cl,rfl,e,rfl⟩
 .exact⟨Z,by decide⟩
 .exact G5 ns
structure Cpy(H:Hp)(D:Addr)(as:List Addr)(rws:List (List Rw))(m:Nat):Prop where
 d:H D=some (.lst (as.map V.ref))
 r:∀(k:Nat)(q:Addr)(x:List Rw),as[k]? = some q->rws[k]? = some x->q≠D/\dO H q m x
theorem ab2{H:Hp}{m:Nat}{nv:V}{ns:List Int}(h:Px H m nv ns):∃nd,rN H nv ns nd:=by
 rcases h.2 with ⟨e,_⟩|⟨cl,e,q⟩
 .exact⟨.none,.inl ⟨e,Z⟩⟩
 .exact⟨yp ns,.inr ⟨cl,e,q,Z⟩⟩
theorem RW{σ:St}{H:Hp}{Q:VK}{nv:V}{ns:List Int}{nd:PyData}(h:σ[4]? = some (some nv))(b:rN H nv ns nd)(k:∀v2 H5,rN H5 v2 ns nd->Same H H5->Q v2 H5):tIf (Kz (Hz (λx y H Q=>y=V.non/\Q (V.bl (decide (x=V.non))) H) (zy 4) (tC V.non))) (tC V.non) (tCB (K7 K) (Qw (zy 4) lQ)) σ H Q:=by
 refine⟨nv,h,Z,_,Z, ?_⟩;rcases b with ⟨rfl,rfl⟩|⟨cl,rfl,e,rfl⟩
 .refine bK (λ_=>?_) (λz=>abZ (aaM rfl) z)
  exact k _ _ (.inl ⟨Z,Z⟩) (Same.refl _)
 .refine bK (λz=>abZ (aaO z) (by intro w;cases w)) (λ_=>?_)
  exact⟨_,h,cl,_,Z,.inl (bB.of e),λc hc=>k _ _ (.inr ⟨c,Z,ak,Z⟩) (aD hc)⟩
theorem Zw{H H':Hp}{m:Nat}{nv v2:V}{ns:List Int}{nd:PyData}(a:Px H m nv ns)(b:rN H nv ns nd)(b2:rN H' v2 ns nd):Px H' m v2 ns:=by
 refine⟨a.1, ?_⟩;rcases b2 with ⟨rfl,rfl⟩|⟨cl,rfl,e,rfl⟩
 .rcases b with ⟨e1,_⟩|⟨_,_,_,e⟩
  .rcases a.2 with ⟨_,q⟩|⟨cl,e,_⟩
   .exact .inl ⟨Z,q⟩
   .rw[e1] at e;cases e
  .cases e
 .exact .inr ⟨cl,Z,e⟩
structure F61(r b p L:Addr)(rs:List Addr)(rws:List (List Rw))(m:Nat)(nv:V)(ns:List Int)(n:Nat)(H:Hp):Prop where
 B:cL H r b n
 g:Ay (dr r H) p L rs rws m
 nh:Ds (dr r H) nv ns m
theorem F61.draw{r b p L:Addr}{rs:List Addr}{rws:List (List Rw)}{m:Nat}{nv:V}{ns:List Int}{n n':Nat}{H H':Hp}(h:F61 r b p L rs rws m nv ns n H)(k:Kp r H H')(B:cL H' r b n'):F61 r b p L rs rws m nv ns n' H':=⟨B,h.g.same (Kp.dr k),h.nh.same (Kp.dr k)⟩
theorem F61.same{r b p L:Addr}{rs:List Addr}{rws:List (List Rw)}{m:Nat}{nv:V}{ns:List Int}{n:Nat}{H H':Hp}(h:F61 r b p L rs rws m nv ns n H)(k:Same H H'):F61 r b p L rs rws m nv ns n H':=h.draw (.of_same k) (h.B.keep k)
theorem Fj{m:Nat}:∀{l:List Tc}{S S':gU},Run S l S'->(∀s∈S.hs,∀r∈s.rws,tY m r) -> ∀x∈l,tY m x.r
 | [],S,S',h,ok,x,hx=>by cases hx
 | t::l,S,S',⟨a,h⟩,ok,x,hx=>by
   obtain⟨s,es,_,er,_⟩:=a;have ot:=ok s (aaL es);rcases List.mem_cons.mp hx with rfl|hx
   .exact ot _ (aaL er)
   .refine Fj h (λs' hs'=>?_) x hx
    rw[gw es er] at hs';rcases List.mem_or_eq_of_mem_set hs' with q|rfl
    .exact ok s' q
    .rw[show (jO S.ns s t.r).rws=s.rws from mG _ _]
     exact ot
theorem Yv{m n:Nat}{t:Tc}(tt:touch t.r=true)(ok:tY m t.r)(Cw:m<=20)(kn:t.k<n):MF (n:Int) (bG t):=by
 have c:cJ t.r<m/\Pz (dX t.r):=by
  revert tt ok;cases t.r with
  | load b c=>exact λ_ ok=>⟨ok.2,.inl rfl⟩
  | store c e=>exact λ_ ok=>⟨ok.1,.inr (.inl rfl)⟩
  | swap b c e=>exact λ_ ok=>⟨ok.2.1,.inr (.inr rfl)⟩
  | _=>exact λz=>by cases z
 exact⟨⟨by show (0:Int)<=(t.k:Int);lia,by show (t.k:Int)<n;lia⟩,c.2,by show (0:Int)<=(cJ t.r:Int);lia,by show (cJ t.r:Int)<20;lia⟩
theorem Xb{m' m:Nat}{ns:List Int}{rws:List (List Rw)}(h:∀x∈rws,∀r∈x,tY m r):∀s∈(iu m' ns rws).hs,∀r∈s.rws,tY m r:=λs hs=>by
 obtain⟨x,hx,rfl⟩:=aa2.mp hs;rw[show (lead (new x)).rws=x from mG _ _];exact h x hx
theorem Ay.ok{H:Hp}{p L:Addr}{rs:List Addr}{rws:List (List Rw)}{m:Nat}(g:Ay H p L rs rws m):∀x∈rws,∀r∈x,tY m r:=λx hx r hr=>by
 obtain⟨k,kl,rfl⟩:=List.mem_iff_getElem.mp hx;have kl':k<rs.length:=by rw[g.len];exact kl
 obtain⟨_,_,_,h,_⟩:=g.row k rs[k] rws[k] (by simp[kl']) (by simp[kl]);exact h r hr
theorem Gw{α:Type}(f:Nat->List α)(n:Nat):(List.range (n+1)).flatMap f=(List.range n).flatMap f++f n:=by
 rw[List.range_succ,List.flatMap_append];simp
theorem Z_{α:Type}(f:Nat->List α):∀(n m:Nat),n<=m->((List.range n).flatMap f).length<=((List.range m).flatMap f).length
 | n,m,h=>by
   obtain⟨d,rfl⟩:=Nat.exists_eq_add_of_le h
   induction d with
   | zero=>exact aap _
   | succ d ih=>
     rw[←Nat.add_assoc,Gw,aaS];have:=ih (by lia);lia
noncomputable def Sh(m:Nat)(rws:List (List Rw))(os:List Int)(nd:PyData):PyData:= .list [Zb m rws,yp os,nd]
theorem HY{m:Nat}{rws:List (List Rw)}{os:List Int}{nd:PyData}(h:∀x∈rws,∀r∈x,tY m r)(hn:nd.canLay0=true/\nd.depth<=1):SeqAt.shaped (Sh m rws os nd)=true:=by
 obtain⟨a1,b1⟩:=G5 os;obtain⟨a2,b2⟩:=hn;have a4:PyData.canLay0 (.list (rws.map qU))=true:=jP qU rws λx hx=>(G4 (h x hx)).1;have b4:=ig qU 4 rws λx hx=>(G4 (h x hx)).2
 have e1:PyData.canLay0 (Sh m rws os nd)=true:=by
  show ((true&&(PyData.canLay0 (.list (rws.map qU))&&true))&&(PyData.canLay0 (yp os)&&(nd.canLay0&&true)))=true;rw[a1,a2,a4];rfl
 have e2:PyData.depth (Sh m rws os nd)<=64:=by
  show max (max 0 (max (PyData.depthAll (rws.map qU)+1) 0)+1) (max (yp os).depth (max nd.depth 0))+1<=64;lia
 unfold SeqAt.shaped;rw[e1,aaM e2];rfl
theorem Mj{H:Hp}{t p L o:Addr}{rs:List Addr}{rws:List (List Rw)}{m:Nat}{nv:V}{ns os:List Int}{nd:PyData}(e:H t=some (.lst [.ref p,.ref o,nv]))(g:Ay H p L rs rws m)(eo:LI H o os)(b:rN H nv ns nd):Dat H (.ref t) (Sh m rws os nd):=by
 unfold Sh;refine oE e ?_;simp only[aO,and_true];exact⟨g.dat,iV eo,b.dat⟩
theorem yG{H:Hp}{v:V}{x:Option Int}(h:Dat H v (oD x)):v=oV x:=by
 cases x with
 | none=>simpa [oD,Dat,oV] using h
 | some i=>simpa [oD,Dat,oV] using h
theorem Jv{H:Hp}{v:V}{t:Tc}(h:Dat H v (vJ t)):∃u,v = .ref u/\H u=some (.tup (rR t)):=by
 simp only[vJ,Dat] at h;obtain⟨u,xs,rfl,hu,d⟩:=h;refine⟨u,Z, ?_⟩
 match xs,d with
 | [a,b,c,e],d=>
   simp only[aO,Dat,and_true] at d;obtain⟨rfl,rfl,d1,d2⟩:=d;rw[yG d1,yG d2] at hu;exact hu
 | [],d=>simp[aO] at d
 | [_],d=>simp[aO] at d
 | [_,_],d=>simp[aO] at d
 | [_,_,_],d=>simp[aO] at d
 | _::_::_::_::_::_,d=>simp[aO] at d
theorem Ag{l:List Tc}:∀(o:List Nat),(∀p∈o,p<l.length)->o.map (hnd (l.map bG))=kI (pick l o)
 | [],_=>rfl
 | p::o,h=>by
   have e:l[p]? = some (l[p]'(h p (.head _))):=aae _;rw[List.map_cons,jy e,Ag o λq hq=>h q (.tail _ hq),dH (fL e)];rfl
theorem qT{D:Addr}{as:List Addr}{l:List Tc}{H:Hp}{i:Nat}{x:Tc}(h:RwT H D as l)(e:l[i]? = some x)(kl:x.k<as.length):∃q refs u,as[x.k]? = some q/\H q=some (.lst refs)/\refs[(cnt ((l.map bG).take i) (x.k:Int)).toNat]? = some (.ref u)/\H u=some (.tup (rR x)):=by
 obtain⟨refs,hq,d⟩:=h.r x.k as[x.k] (aae kl);have hx:=Zv e
 have il:(cnt ((l.map bG).take i) (x.k:Int)).toNat<refs.length:=by
  rw[d.length,aad];exact(aaf.mp hx).1
 obtain⟨dd,ed,dv⟩:=d.get (i:=(cnt ((l.map bG).take i) (x.k:Int)).toNat) (aae il);rw[aag,hx] at ed;cases ed;obtain⟨u,eu,hu⟩:=Jv dv;exact⟨_,refs,u,aae kl,hq,by rw[aae il,eu],hu⟩
theorem Mq(ws:List cZ)(h:Int):((cnt ws h).toNat:Int)=cnt ws h:=Int.toNat_of_nonneg (qF ws h)
noncomputable def KQ(K:PySem.W.Frag):Sp:=λvs H Q _=>∃(a:Addr) (xs:List Int),vs=[.ref a]/\bB K H a (xs.map V.int)/\xs.length<=63 /\ ∀H',Q (.bl true) H'
theorem Zq{aB aC aP aX bZ:Addr}{f:Addr}{fd:FuncData}(F:fZ K "law" "law" QL f fd)(aaF:FnAt P w K mg base 1 "_law_bag" ["script"] (Xw K))(bN:FnAt P w K mg base 2 "_law_draw" ["bag","many"] (lV K))(J9:FnAt P w K mg base 7 "_law_program" ["bag"] (KD K))(Us:FnAt P w K mg base 3 "_law_first" ["bag","size"] (Ew K))(aaD:FnAt P w K mg base 9 "_law_run" ["bag","program","first"] (Qz K))(yX:FnAt P w K mg base 9 "web_of" ["program","order","cells"] (λvs H Q _=>sX aB aC aP aX bZ K vs H Q λ_ _ _=>False))(Dw:FnAt P w K mg base 9 "touches_of" ["program","order","cells"] (λvs H Q _=>jB aB aC aP aX bZ K vs H Q λ_ _ _=>False))(zf:FnAt P w K mg base 1 "_law_table" ["touches","hands"] (wK K))(Xi:FnAt P w K mg base 12 "_law_told" ["kind","program","order","tie","first"] (El K))(PJ:FnAt P w K mg base 2 "_law_needed" ["web","tie","hands"] (Et K))(zj:FnAt P w K mg base 3 "_law_alike" ["found","due"] (qN 2 K))(DP:FnAt P w K mg base 1 "_law_same" ["found","due"] (Em K))(M4:FnAt P w K mg base 2 "_law_pair" ["one","other","number"] (Es K))(iz:oN P w K mg base 7 aB "Works" ["self","program","cells"] [] (λvs H Q _=>gF aB aC aP K vs H Q λ_ _ _=>False))(cM:MethAt P w K mg base 7 aB "turn" ["self","hand"] (λvs H Q _=>jA aB aC aX bZ K vs H Q λ_ _ _=>False))(zL:MethAt P w K mg base 1 aB "cells" ["self"] (Br aB aC K))(aN:d9 K aB)(Bt:rQ mg):bL P w K mg base iC 13 f fd ["script"] (KQ K):=by
 refine F.ok eV (λvs H Q E h=>?_) (λcdv A outer s H vs Q E hr h=>?_)
 .obtain⟨a,xs,rfl,_⟩:=h
  rfl
 .obtain⟨a,xs,rfl,hs,hl,k⟩:=h
  have iM:=hr.units
  refine⟨_,(ao (aQ (i:=1) eV.nd rfl (Or.inl rfl) (bh aaF (hr.mono (by decide)) (by rfl) (aj (pv 0) aq)))
   (ao (aQ (i:=2) eV.nd rfl (Or.inl rfl) (bh bN (hr.mono (by decide)) (by rfl) (aj (pv 1) (aj aA aq))))
   (ao (aQ (i:=3) eV.nd rfl (Or.inl rfl) (bh J9 (hr.mono (by decide)) (by rfl) (aj (pv 1) aq)))
   (ao (aQ (i:=4) eV.nd rfl (Or.inl rfl) (bh Us (hr.mono (by decide)) (by rfl) (aj (pv 1) (aj (aH (aK (K:=K) rfl) (pv 3) aA (λ_ _=>rfl)) aq))))
   (ao (aQ (i:=5) eV.nd rfl (Or.inl rfl) (bh aaD (hr.mono (by decide)) (by rfl) (aj (pv 1) (aj (pv 3) (aj (pv 4) aq)))))
   (ao (aQ (i:=6) eV.nd rfl (Or.inl rfl) (bf (bH (K:=K) rfl) (by rfl) Bt.iZ fP (aj (aH (aK (K:=K) rfl) (pv 3) aA (λ_ _=>rfl)) aq)))
   (ao (aQ (i:=7) eV.nd rfl (Or.inl rfl) (bh yX (hr.mono (by decide)) (by rfl) (aj (pv 3) (aj (pv 5) (aj (pv 4) aq)))))
   (ao (aQ (i:=8) eV.nd rfl (Or.inl rfl) (bW aq))
   (ao (eY PassesOwn.never rfl (cV (K:=K) rfl (aH (aK (K:=K) rfl) (bh zf (hr.mono (by decide)) (by rfl) (aj (pv 7) (aj (pv 6) aq))) aA (λ_ _=>rfl))) (aZ (i:=9) eV.nd rfl (Or.inl rfl))
   (aG (cF (Cm (K:=K) rfl PySem.F.plainAttrs_list PySem.F.slot_list_extend PySem.F.type_list_extend z_ (pv 8) (aj (pv 9) aq)))))
   (ao (cj (aR (Vy (K:=K) rfl iM) (pv 8) (bW aq) (aW _)) (aG (aU mR)) bw)
   (ao (aQ (i:=10) eV.nd rfl (Or.inl rfl) (aH (aL (K:=K) rfl) (pv 8) (bh bN (hr.mono (by decide)) (by rfl) (aj (pv 1) (aj (bf (bH (K:=K) rfl) (by rfl) Bt.iZ fP (aj (pv 8) aq)) aq))) (λ_ _=>rfl)))
   (ao (aQ (i:=11) eV.nd rfl (Or.inl rfl) (bW (aj (cN (aj (aH (aK (K:=K) rfl) (pv 3) aA (λ_ _=>rfl)) (aj (fH rfl (N:=["rows"]) (own:=["rows"]) (caps:=[]) (bA.of (by kernel_rfl)) (cV (K:=K) rfl (aH (aK (K:=K) rfl) (pv 3) aA (λ_ _=>rfl))) (λ_ _ _ _=>(aZ (i:=0) (show List.Nodup (["rows"]:List Str) by decide +kernel) rfl (Or.inl rfl))) (λ_ _ _ _=>d_) (λ_ _ _ _=>(eG (cO (K:=K) rfl) (by rfl) Bt.iy fJ (aj (pv 0) aq)))) aq))) (aj (eG (cO (K:=K) rfl) (by rfl) Bt.iy fJ (aj (pv 5) aq)) (aj (jK (aR Cr (pv 4) jh (aW _)) jh (eG (cO (K:=K) rfl) (by rfl) Bt.iy fJ (aj (pv 4) aq))) aq)))))
   (ao (aQ (i:=12) eV.nd rfl (Or.inl rfl) (bh Xi (hr.mono (by decide)) (by rfl) (aj (pv 2) (aj (aH (aL (K:=K) rfl) (pv 11) aA (λ_ _=>rfl)) (aj (aH (aL (K:=K) rfl) (pv 11) aA (λ_ _=>rfl)) (aj (pv 10) (aj (aH (aL (K:=K) rfl) (pv 11) aA (λ_ _=>rfl)) aq)))))))
   (ao (cj (PW.pt (lu (iI (eX (bf (dD (K:=K) (cv:= .ty "tuple") (c:= .type "tuple") rfl rfl) (by rfl) Bt.bV bM (aj (pv 12) (aj (eE (v:= .ty "tuple") (by rfl) Bt.mL jQ rfl) aq))))) (lu (aR iD (bf (bH (K:=K) rfl) (by rfl) Bt.iZ fP (aj (pv 12) aq)) aA (aW _)) (jJ (aR (vP (K:=K) rfl iM) (pv 11) (bW (aj (pv 3) (aj (pv 5) (aj (pv 4) aq)))) (aW _)))))) (aG (aU mR)) bw)
   (ao (cj (iI (eX (bh zj (hr.mono (by decide)) (by rfl) (aj (aH (aK (K:=K) rfl) (pv 12) aA (λ_ _=>rfl)) (aj (bh PJ (hr.mono (by decide)) (by rfl) (aj (pv 7) (aj (pv 10) (aj (pv 6) aq)))) aq))))) (aG (aU mR)) bw)
   (ao (aQ (i:=13) eV.nd rfl (Or.inl rfl) (nQ iz (hr.mono (by decide)) (by rfl) (aj (pv 3) (aj (pv 4) aq))))
   (ao (eY PassesOwn.never rfl (cV (K:=K) rfl (aH (aK (K:=K) rfl) (pv 12) aA (λ_ _=>rfl))) (aZ (i:=14) eV.nd rfl (Or.inl rfl))
   (aG (cF (dg cM aN.cls (hr.mono (by decide)) (pv 13) (aj (pv 14) aq)))))
   (ao (aQ (i:=15) eV.nd rfl (Or.inl rfl) (bh Dw (hr.mono (by decide)) (by rfl) (aj (pv 3) (aj (pv 5) (aj (pv 4) aq)))))
   (ao (aQ (i:=16) eV.nd rfl (Or.inl rfl) (aH (aL (K:=K) rfl) (aH (aL (K:=K) rfl) (pv 15) (aH (aK (K:=K) rfl) (pv 10) aA (λ_ _=>rfl)) (λ_ _=>rfl)) (aH (aK (K:=K) rfl) (pv 10) aA (λ_ _=>rfl)) (λ_ _=>rfl)))
   (ao (aQ (i:=17) eV.nd rfl (Or.inl rfl) (aH (aL (K:=K) rfl) (aH (aL (K:=K) rfl) (pv 15) (aH (aK (K:=K) rfl) (pv 10) aA (λ_ _=>rfl)) (λ_ _=>rfl)) (aH (aK (K:=K) rfl) (pv 10) aA (λ_ _=>rfl)) (λ_ _=>rfl)))
   (ao (aQ (i:=18) eV.nd rfl (Or.inl rfl) (aH (aL (K:=K) rfl) (lA zL aN.cls (hr.mono (by decide)) (pv 13)) (aH (aK (K:=K) rfl) (pv 16) aA (λ_ _=>rfl)) (λ_ _=>rfl)))
   (ao (cj (PW.pt (lu (iI (eX (bh DP (hr.mono (by decide)) (by rfl) (aj (aH (aK (K:=K) rfl) (pv 12) aA (λ_ _=>rfl)) (aj (cN (aj (pv 16) (aj (pv 17) aq))) aq))))) (jJ (iI (eX (bh DP (hr.mono (by decide)) (by rfl) (aj (aH (aK (K:=K) rfl) (pv 12) aA (λ_ _=>rfl)) (aj (bh M4 (hr.mono (by decide)) (by rfl) (aj (pv 16) (aj (pv 17) (aj (pv 18) aq)))) aq)))))))) (aG (aU mR)) bw)
   (aG (aU (bh DP (hr.mono (by decide)) (by rfl) (aj (aH (aK (K:=K) rfl) (pv 12) aA (λ_ _=>rfl)) (aj (bh M4 (hr.mono (by decide)) (by rfl) (aj (pv 17) (aj (pv 16) (aj (pv 18) aq)))) aq))))))))))))))))))))))))))), ?_⟩
  refine⟨_,Z,a,xs,Z,hs,hl,λr b H1 _ _ B1 _=>?_⟩;refine⟨_,Z,r,b,2,0,Z,B1,by decide,by decide,by decide,λkd H1' _ _ B1' _=>?_⟩;refine⟨_,Z,r,b,_,Z,B1',by decide,λp L rs rws m H2 g2 r1 r8 m0 Cw B2 _=>?_⟩;refine⟨_,Z,_,Z,_,_,_,_,Z,Z,bO.of (jq _ _ g2.ep),Z,r,b,m,_,Z,B2,by lia,Cw,λnv ns H3 nh3 B3 k3=>?_⟩;have f3:F61 r b p L rs rws m nv ns _ H3:=⟨B3,g2.same (Kp.dr k3),nh3⟩;clear B1 B1' B2 g2 nh3 B3 k3;refine⟨_,Z,_,Z,_,Z,r,b,p,L,rs,rws,m,_,nv,ns,Z,f3.B,by lia,f3.g,r8,Cw,f3.nh,λo l S1 H5 ho R Sx eo5 B5 k5=>?_⟩;have f5:=f3.draw k5 B5;have nor:o≠r:=(f3.B.ne ho).1;clear f3 k5 B5;have wk0:Wk (iu m ns rws) (kI l) l none:=⟨S1,[],R,by rw[List.append_nil],trivial⟩;have kr:∀t∈l,t.k<rws.length:=by have:=K6 R;rw[Mt] at this;exact this
  have tch:=Cd R (Mu _ _ _);have Nv:=Fj R (Xb (f5.g.same jq).ok)
  have tin:∀x∈l.map bG,MF (rws.length:Int) x:=λx hx=>by
   obtain⟨t,ht,rfl⟩:=aa2.mp hx;exact Yv (tch t ht) (Nv t ht) Cw (kr t ht)
  have wl:(l.map bG).length<=300:=by rw[aad];exact Sx
  have lo:(kI l).length<=300:=by rw[g_];exact Sx
  have nl:ns.length<=100:=by have:=f5.nh.1.1;lia
  refine⟨_,Z,_,_,_,_,Z,Z,bO.of (jq _ _ f5.g.ep),Z,L,_,Z,.inl (bB.of (jq _ _ f5.g.eL)), ?_⟩;rw[show (((rs.map V.ref).length:Nat):Int)=(rws.length:Int) by rw[aad,f5.g.len]];refine⟨_,Z,_,Z,_,Z,p,L,rs,rws,m,nv,ns,o,kI l,Z,f5.g.same jq,r8,Cw,⟨nl,(f5.nh.same jq).2⟩,eo5,by lia,λbad=>abZ f5.nh.1 bad,λ_=>⟨l,none,wk0,λ_ w6 H6 hw6 W6 s6=>?_,λz=>(by cases z),λz=>(by cases z)⟩⟩;have f6:=f5.same s6;have eo6:LI H6 o (kI l):=s6 _ _ eo5;have nwr:w6≠r:=(f5.B.ne hw6).1;clear f5 s6 eo5;refine⟨(by show 0<=sizeLine;decide),λT hT=>?_⟩;have s7:=aD (o:=HO.lst []) hT;have nTr:T≠r:=(f6.B.ne hT).1;have hT7:(upd H6 T (.lst [])) T=some (.lst []):=ak;generalize (upd H6 T (.lst []))=H7 at s7 hT7 ⊢;refine⟨_,Z,_,Z,w6,_,l.map bG,Z,W6.same s7,tin,by lia,by lia,wl,λq t1 t2 H8 hq L1 L2 f1 f2 s8=>?_⟩;have hT8:H8 T=some (.lst []):=s8 _ _ hT7;have s68:=s7.trans s8;obtain⟨xs2,hx2,xl,xq⟩:=L2;rw[aad] at xl;have al:=yU (l.map bG) l.length;have sq:l.length*l.length<=300*300:=Nat.mul_le_mul Sx Sx;have nT2:t2≠T:=(au hT7 f2).symm;refine⟨_,_,_,_,Z,Z,bO.of hq,Z,t2,Z,⟨_,bB.of hx2⟩, ?_⟩
  refine gC (K:=K) (a:=t2) (xs:=xs2.map V.ref) (λi σ Hc=>∃(x9:Option V) (ms:List Nt),σ=[some (.ref a),some (.ref r),some (.int kd),some (.ref p),some nv,some (.ref o),some (.int rws.length),some (.ref w6),some (.ref T),x9,none,none,none,none,none,none,none,none,none]/\Kp T H8 Hc/\jR Hc T ms/\ms.Perm (lE (l.map bG) i))
   ⟨none,[],Z,Kp.refl _ _,⟨[],hT8,by simp[aO]⟩,.refl _⟩ (λi σ Hc _ ⟨_,_,_,kc,_⟩=>bB.of (kc _ _ hx2 nT2)) ?_ ?_
  .rintro i v σ Hc hi ⟨x1,ms,rfl,kc,N,pp⟩
   rw[aag] at hi;cases ei:xs2[i]? with
   | none=>rw[ei] at hi;cases hi
   | some q=>
     rw[ei] at hi;cases hi;have il:=(aaf.mp ei).1;obtain⟨_,ks,⟨us,hu,du⟩,kp,fq⟩:=xq i q ei;have nqT:q≠T:=(au hT7 fq).symm;have tc:∀a xs,H8 a=some (HO.tup xs)->Hc a=some (HO.tup xs):=kc.tups hT8;obtain⟨vs,hts,DW⟩:=id N;have l1:vs.length=ms.length:=by rw[DW.length,aad]
     have l2:us.length=ks.length:=by rw[du.length,aad]
     have l3:=pp.length_eq;have l4:=kp.length_eq;have l5:=Z_ (λj=>cR (l.map bG) j (eN (l.map bG) j j)) (i+1) l.length (by lia);rw[Gw,aaS] at l5;have l5:(lE (l.map bG) i).length+(cR (l.map bG) i (eN (l.map bG) i i)).length<=(lE (l.map bG) l.length).length:=l5;refine⟨_,Z,.inl ⟨Z,_,bB.of hts⟩,_,Z,T,q,_,_,Z,Z,hts,kc _ _ hu nqT,by rw[sizeLine_eq];lia, ?_⟩;have k3:Kp T Hc (upd Hc T (.lst (vs++us))):=Kp.set;have t3:=k3.tups hts;refine⟨_,ms++ks,Z,kc.trans k3,⟨vs++us,ak, ?_⟩, ?_⟩
     .rw[aaX]
      exact aO.append (aO.keep t3 _ (cu _ jN _) DW) (aO.keep (λa xs h=>t3 _ _ (tc _ _ h)) _ (cu _ jN _) du)
     .rw[uF]
      exact pp.append kp
  rintro σ H9 ⟨x9,ms,rfl,kc,N9,pp⟩;rw[aad,xl] at pp;have s9:Same H6 H9:=λx u e=>kc _ _ (s68 _ _ e) (au e hT);have f9:=f6.same s9;have eo9:=eo6.same s9;have W9:=W6.same s9;have ml:ms.length<=100000:=by have:=pp.length_eq;lia
  clear f6 eo6 W6 s9 kc s68 s7 s8 hT8 hT7 xq hx2 hq L1 f1 f2 nT2 xl al sq;obtain⟨vs9,hT9,dv9⟩:=id N9;refine⟨_,Z,(by show 0<=sizeLine;decide),λe0 he0=>?_⟩;have se:=aD (o:=HO.lst []) he0;refine⟨_,_,oE (se _ _ hT9) (aO.keep se.tups _ (cu _ jN ms) dv9),oE (ds:=[]) ak (by simp[aO]),wM ms,wM [],_,Z, ?_⟩;rw[show PyData.eqv (.list (ms.map nD)) (.list [])=decide (ms=[]) by rw[show ([]:List PyData)=([]:List Nt).map nD from rfl,Gz nD Jt]];have fA:=f9.same se;have eoA:=eo9.same se;have WA:=W9.same se;have NA:=N9.same se;generalize (upd H9 e0 (.lst []))=HA at fA eoA WA NA ⊢;clear f9 eo9 W9 N9 se he0 hT9 dv9
  by_cases em:ms=[]
  .rw[aaM em]
   exact(show if true=true then _ else _ from eO (k _))
  rw[aaN em];refine(show if false=true then _ else _ from dG ?_);have np0:0<ms.length:=List.length_pos_iff.mpr em;obtain⟨vsA,hTA,dvA⟩:=id NA;have vl:vsA.length=ms.length:=by rw[dvA.length,aad]
  refine⟨_,Z,_,Z,_,Z,T,_,Z,.inl (bB.of hTA),r,b,_,_,Z,fA.B,by lia,by rw[vl];lia,by rw[vl];lia,λqi HB q0 q1 BB kB=>?_⟩;obtain⟨qi,rfl⟩:=abD q0;have hql:qi<vsA.length:=by lia
  have drk:∀{x o'},HA x=some o'->x≠r->HB x=some o':=λe n=>kB _ _ e n;have tk:∀x xs,HA x=some (HO.tup xs)->HB x=some (HO.tup xs):=fA.B.tups kB;have g:=(fA.g.same (Kp.dr kB)).same jq;have nh:=(fA.nh.same (Kp.dr kB)).same jq;have eo:LI HB o (kI l):=drk eoA nor
  have W:i_ HB w6 (l.map bG):=by
   obtain⟨vs,e,d⟩:=WA;exact⟨vs,drk e nwr,aO.keep tk _ (cu _ yq _) d⟩
  have hTB:=drk hTA nTr;have dvB:aO HB vsA (ms.map nD):=aO.keep tk _ (cu _ jN ms) dvA;obtain⟨nt,t,ex0,ev,ht⟩:=Lk dvB (i:=qi) (v:=vsA[qi]) (aae hql);refine⟨_,_,_,_,Z,Z,bB.of hTB,bI (aae hql), ?_⟩;rw[ev];have mem:nt∈lE (l.map bG) (l.map bG).length:=by rw[aad];exact pp.mem_iff.mp (aaL ex0)
  obtain⟨i,j,rfl,np⟩:=uf mem;clear fA eoA WA NA hTA dvA dvB hTB ev ex0 mem pp kB BB drk tk hql vl np0 em q0 q1 nTr nor nwr ml;obtain⟨nd,nb⟩:=ab2 ⟨nl,nh.2⟩;dsimp only;refine qP (λσ Hc=>∃(h c1 p2 D:Addr) (v2:V) (as2:List Addr),σ=[some (.ref a),some (.ref r),some (.int kd),some (.ref p),some nv,some (.ref o),some (.int rws.length),some (.ref w6),some (.ref T),x9,some (.ref t),some (.ref h),none,none,none,none,none,none,none]/\Hc h=some (.lst [.ref p2,.ref c1,v2])/\LI Hc c1 (kI l)/\rN Hc v2 ns nd/\Ay Hc p2 D as2 rws m/\Same HB Hc) (λD' hD' _=>?_) ?_
  .refine⟨_,Z,_,_,_,_,Z,Z,bO.of g.ep,Z,_,Z,_,_,_,_,Z,Z,bO.of g.ep,Z,L,Z,⟨_,bB.of g.eL⟩,λD hD=>?_⟩
   refine iQ (K:=K) (a:=L) (xs:=rs.map V.ref) (λi σ Hd=>∃(v:Option V) (as:List Addr),σ=[v]/\Cpy Hd D as rws m/\as.length=i/\Same HB Hd)
    ⟨none,[],Z,⟨ak,λk q x e=>by simp at e⟩,Z,aD hD⟩ (λi σ Hd _ ⟨_,_,_,_,_,sm⟩=>bB.of (sm _ _ g.eL)) ?_ ?_
   .rintro i y σ Hd hi ⟨v,as,rfl,cp,la,sm⟩
    dsimp only[gR,Bk];rw[abW rfl];have il:i<rs.length:=by have:=(aaf.mp hi).1;rwa [aad] at this
    have iw:i<rws.length:=by rw[←g.len];exact il
    have ex:y=V.ref rs[i]:=by rw[aag,aae il] at hi;exact(aaR hi).symm
    subst ex;obtain⟨ts,et,dt,ok',ab'⟩:=(g.same sm).row i rs[i] rws[i] (by simp[il]) (by simp[iw]);refine⟨_,Z,rs[i],_,Z,.inl (bB.of et),λq hq=>?_⟩;have sq:=aD (o:=HO.lst ts) hq;have nq:q≠D:=λe=>by rw[e,cp.d] at hq;cases hq
    have tu:∀x ys,(upd Hd q (.lst ts)) x=some (.tup ys)->(upd (upd Hd q (.lst ts)) D (.lst (as.map V.ref++[.ref q]))) x=some (.tup ys):=λx ys e=>by rw[aF (cH e (sq _ _ cp.d) (by intro z;cases z))];exact e
    refine⟨as.map V.ref,sq _ _ cp.d,(by rw[aad,la,sizeLine_eq];lia),_,as++[q],Z,⟨by rw[ak,aaX];rfl,λkk q' x' h1 h2=>?_⟩,by simp[la],λx u e=>by rw[aF (au e hD)];exact sq _ _ (sm _ _ e)⟩;rcases lB h1 with h1|⟨e1,e2⟩
    .obtain⟨n1,R1⟩:=cp.r kk q' x' h1 h2
     exact⟨n1,(R1.same sq).keep (λo e=>by rw[aF n1];exact e) tu⟩
    .subst e2
     rw[e1,la,aae iw] at h2;cases h2;exact⟨nq,ts,by rw[aF nq,ak],(dt.same sq _).keep tu _ (cu kZ yr _),ok',ab'⟩
   rintro σ MJ ⟨v,as2,rfl,cp,la2,s13⟩;rw[aad] at la2;refine⟨(by show 2<=sizeLine;decide),λp2 hp2=>?_⟩;have s14:=aD (o:=HO.tup [V.int m,V.ref D]) hp2;have g14:Ay (upd MJ p2 (.tup [V.int m,V.ref D])) p2 D as2 rws m:=⟨ak,s14 _ _ cp.d,by rw[la2,g.len],λkk q x h1 h2=>(cp.r kk q x h1 h2).2.same s14⟩;have sB:=s13.trans s14;generalize (upd MJ p2 (.tup [V.int m,V.ref D]))=H14 at g14 sB ⊢;refine⟨_,Z,o,_,Z,.inl (bB.of (sB _ _ eo)),λc1 hc1=>?_⟩;have sc1:=aD (o:=HO.lst ((kI l).map V.int)) hc1;refine RW rfl ((nb.same sB).same sc1) λv2 H16 agb s16=>?_;refine⟨(by show 3<=sizeLine;decide),λh hh=>?_⟩;have s17:=aD (o:=HO.lst [V.ref p2,V.ref c1,v2]) hh;have s47:=(sc1.trans s16).trans s17;exact hD' _ _ ⟨h,c1,p2,D,v2,as2,Z,ak,s17 _ _ (s16 _ _ ak),agb.same s17,g14.same s47,sB.trans s47⟩
  rintro σ HC ⟨h,c1,p2,D,v2,as2,rfl,eh,ec,nbC,gp,sC⟩;have nhC:Ds HC v2 ns m:=⟨nh.1,(Zw ⟨nl,nh.2⟩ nb nbC).2⟩;refine⟨_,Z,_,Z,_,_,_,_,Z,Z,bB.of eh,Z,_,Z,_,_,_,_,Z,Z,bB.of eh,Z,_,Z,_,Z,_,_,_,_,Z,Z,bB.of eh,Z, ?_⟩;refine⟨p2,D,as2,rws,m,v2,ns,c1,t,l,S1,i,j,kd,Z,gp,r8,Cw,nhC,ec,Sx,sC _ _ ht,np,R,λv HD BV sD=>?_⟩;obtain⟨q,A,f1,f2,p1,p2',p3,p4,T0,x,y,x',y',rfl,hq,hA,hf1,hp1,hp2,hf2,hp3,hp4,RT,ex,ey,pr⟩:=BV;have YT:=sC.trans sD;have gD:=g.same YT;have nhD:=nh.same YT;have eoD:=eo.same YT;have WD:=W.same YT;have htD:=YT _ _ ht;have abe:rM HD f1 x y:=⟨p1,p2',hf1,hp1,hp2⟩;have abd:rM HD f2 y' x':=⟨p3,p4,hf2,hp3,hp4⟩;clear hf1 hp1 hp2 hf2 hp3 hp4;refine⟨_,Z,_,_,true,Z,.tup hq,dW K,true,Z, ?_⟩;refine(show if false=true then _ else _ from dG ?_);refine⟨_,Z,q,_,Z,.inr (bO.of hq),Z,_,Z, ?_⟩;refine bK (λz=>abZ z (show ¬(!decide (V.int (3:Int)=V.int 3))=true by decide)) (λ_=>?_);refine⟨_,Z,_,Z,_,Z,_,Z,(by show 3<=sizeLine;decide),λz hz=>?_⟩;have sz:=aD (o:=HO.lst [V.ref p,V.ref o,nv]) hz;have sh:=HY (os:=kI l) g.ok nb.can;have sDz:=sD.trans sz;refine⟨_,_,Mj (sDz _ _ eh) (gp.same sDz) (sDz _ _ ec) (nbC.same sDz),Mj ak (gD.same sz) (sz _ _ eoD) ((nb.same YT).same sz),sh,sh,_,Z, ?_⟩;rw[Js sh];refine(show if false=true then _ else _ from dG ?_);have hqE:=sz _ _ hq;have hAE:=sz _ _ hA;have gE:=gD.same sz;have nhE:=nhD.same sz;have eoE:=eoD.same sz;have WE:=WD.same sz;have htE:=sz _ _ htD;have Ql:=abe.same sz;have Qk:=abd.same sz;generalize (upd HD z (.lst [V.ref p,V.ref o,nv]))=HE at hqE hAE gE nhE eoE WE htE Ql Qk ⊢;clear gD nhD eoD WD htD abe abd hq hA sz sDz YT sC sD eh ec nbC gp nhC nb W eo nh g hz sh ht;refine⟨_,Z,_,_,_,_,Z,Z,bO.of hqE,Z, ?_⟩;refine⟨_,Z,_,Z,_,Z,w6,t,l.map bG,rws.length,i,j,Z,WE,tin,r1,r8,wl,htE,np,λD2 HF _ LD sF=>?_⟩;have jl:=np.jl;rw[aad] at jl
  have al:∀p∈bY (l.map bG) i j,p<l.length:=λp hp=>by
   have:=(gO.mp hp).1.lt;lia
  rw[Ag _ al] at LD
  have Ss:(pick l (bY (l.map bG) i j)).length<=300:=by
   refine abG (List.length_filterMap_le _ _) ?_;have:=List.length_filter_le (λp=>decide (lF (l.map bG) j p/\p≠i)) (List.range j);rw[List.length_range] at this;unfold bY;lia
  generalize hap:pick l (bY (l.map bG) i j)=ap at LD Ss RT hAE
  refine⟨_,_,.list ((kI ap).map PyData.int),Z,iV (sF _ _ hAE),iV LD,⟨by rw[aad,g_];lia,λd hd=>by
   obtain⟨z,_,rfl⟩:=aa2.mp hd;trivial⟩,λHG sG=>⟨true,Z, ?_⟩⟩
  refine(show if false=true then _ else _ from dG ?_);have s1:=sF.trans sG;have hqG:=s1 _ _ hqE;have hAG:=s1 _ _ hAE;have gG:=gE.same s1;have nhG:=nhE.same s1;have eoG:=eoE.same s1;have htG:=s1 _ _ htE;have Xo:=Ql.same s1;have Xl:=Qk.same s1;clear gE nhE eoE WE htE Ql Qk hqE hAE s1 sF sG LD al;refine⟨_,Z,_,Z, ?_⟩;dsimp only[lQ];refine(Lq (i:=2) (τ:=aside 1 HG) gG (by lia) (by lia) (oK _ _) (by decide) nhG (λτ Wo HH wH tg sH=>?_));have tg:∀x u,HG x=some u->τ x=[1]:=λx u e=>by rw[tg x u e];exact oM e
  refine⟨_,Z,_,_,_,_,Z,Z,bO.of (sH _ _ hqG),Z,A,Z,⟨_,bB.of (sH _ _ hAG)⟩, ?_⟩
  refine gC (K:=K) (a:=A) (xs:=(kI ap).map V.int) (λn σ Hc=>∃(x14:Option V) (S2:gU),σ=[some (.ref a),some (.ref r),some (.int kd),some (.ref p),some nv,some (.ref o),some (.int rws.length),some (.ref w6),some (.ref T),x9,some (.ref t),some (.ref h),some (.ref q),some (.ref Wo.o),x14,none,none,none,none]/\kY aB aC 2 τ Hc Wo S2/\Run (iu m ns rws) (ap.take n) S2/\Same HG Hc)
   ⟨none,_,Z,wH,by rw[List.take_zero];rfl,sH⟩ (λn σ Hc _ ⟨_,_,_,_,_,sc⟩=>bB.of (sc _ _ hAG)) ?_ ?_
  .rintro n v σ Hc hn ⟨x14,S2,rfl,wc,R2,sc⟩
   obtain⟨hh,eh,rfl⟩:=ints_get hn;unfold kI at eh;rw[aag] at eh;cases et:ap[n]? with
   | none=>rw[et] at eh;cases eh
   | some tt=>
     rw[et] at eh;cases eh;obtain⟨at1,R3⟩:=Ce RT R2 et;have tl:S2.ts.length<=10000:=by rw[qj R2];show ([]++_).length<=_;simp;lia
     refine⟨_,Z,Wo.o,Wo.dx,_,Z,wc.o,Z,_,Z, ?_⟩;dsimp only[lQ];exact qL wc tl at1 λq Hd hq eq wd st=>⟨_,_,Z,wd,R3,λx u e=>st.keep _ _ (sc _ _ e) (by rw[tg x u e];simp)⟩
  rintro σ HI ⟨x14,S2,rfl,wI,R2,sI⟩;rw[aad,g_,aa3] at R2;have eT:=R2.det RT;subst eT;have gI':=gG.same sI;have nhI:=nhG.same sI;have eoI:=eoG.same sI;have htI:HI t=some (.tup [V.int (hnd (l.map bG) i),V.int (cnt ((l.map bG).take i) (hnd (l.map bG) i)),V.int (hnd (l.map bG) j),V.int (cnt ((l.map bG).take j) (hnd (l.map bG) j))]):=sI _ _ htG;have hqI:=sI _ _ hqG;have Xn:=Xo.same sI;have Xk:=Xl.same sI;clear gG nhG eoG htG hqG Xo Xl hAG sI sH wH tg;have hix:hnd (l.map bG) i=(x.k:Int):=dH (fL ex);have hjy:hnd (l.map bG) j=(y.k:Int):=dH (fL ey);rw[hix,hjy] at htI;refine⟨_,Z,_,Z,_,Z,p,L,rs,rws,m,nv,ns,o,kI l,Z,gI',r8,Cw,⟨nl,nhI.2⟩,eoI,by lia,λbad=>abZ nhI.1 bad,λ_=>⟨l,none,wk0,λ_ Dr as HJ _ _ _ la RJ sJ=>?_,λz=>(by cases z),λz=>(by cases z)⟩⟩;have htJ:=sJ _ _ htI;obtain⟨qa,ra,ua,ea1,ea2,ea3,ea4⟩:=qT RJ ex (by rw[la];exact kr x (aaL ex));obtain⟨qb,rb,ub,eb1,eb2,eb3,eb4⟩:=qT RJ ey (by rw[la];exact kr y (aaL ey));refine⟨_,Z,_,Z,_,_,_,_,Z,Z,bO.of htJ,Z,_,_,_,_,Z,Z,bB.of RJ.d,bI (by rw[aag,ea1];rfl),_,Z,_,_,_,_,Z,Z,bO.of htJ,Z,_,_,_,_,Z,Z,bB.of ea2,(by rw[←Mq];exact bI ea3), ?_⟩;refine⟨_,Z,_,Z,_,_,_,_,Z,Z,bO.of htJ,Z,_,_,_,_,Z,Z,bB.of RJ.d,bI (by rw[aag,eb1];rfl),_,Z,_,_,_,_,Z,Z,bO.of htJ,Z,_,_,_,_,Z,Z,bB.of eb2,(by rw[←Mq];exact bI eb3), ?_⟩;have wJ:=wI.same sJ;have tx:=tch x (aaL ex);have ty:=tch y (aaL ey);have ecc:=Oo np ex ey;have nsl:S2.ns.length=m:=by rw[wJ.nl,(xu R2).2];rfl
  have cm:cJ x.r<S2.ns.length:=by
   rw[nsl];have ok:=Nv x (aaL ex);revert tx ok;cases x.r with
   | load b c=>exact λ_ ok=>ok.2
   | store c e=>exact λ_ ok=>ok.1
   | swap b c e=>exact λ_ ok=>ok.2.1
   | _=>exact λz=>by cases z
  obtain⟨nn,hnn⟩:∃nn,S2.ns[cJ x.r]? = some nn:=⟨_,aae cm⟩;refine⟨_,Z,Wo.o,Wo.dx,_,Z,wJ.o,Z,2,τ,Wo,S2,Z,wJ,λlc HK _ Wj sK=>?_⟩;have hx1:HK ua=some (.tup (rR x)):=sK _ _ ea4;have hy1:HK ub=some (.tup (rR y)):=sK _ _ eb4;refine⟨_,Z,_,_,_,_,Z,Z,bO.of hx1,Z,_,_,_,_,Z,Z,bB.of Wj,bI (j:=cJ x.r) (by rw[aag,hnn];rfl), ?_⟩;have s2:=sJ.trans sK;have hqK:=s2 _ _ hqI;have Xm:=Xn.same s2;have abb:=Xk.same s2;obtain⟨ex1,ey1⟩:=Fz pr.x1 pr.y1 tx ty ecc hnn;obtain⟨ey2,ex2⟩:=Fz (x:=y') (y:=x') pr.y2 (by rw[pr.ey];exact pr.x2) (by rw[pr.ry];exact ty) (by rw[pr.rx];exact tx) (by rw[pr.ry,pr.rx];exact ecc.symm) (n:=nn) (by rw[pr.ry,←ecc];exact hnn)
  have vy':rR y'=[.str (dX y.r),.int (cJ y.r),P0 (dX y.r) (.int nn),oV y.wr]:=by
   unfold rR;rw[ey2,pr.ry,pr.wy]
  have vx':rR x'=[.str (dX x.r),.int (cJ x.r),P0 (dX x.r) (Y0 (dX y.r) (.int nn) (oV y.wr)),oV x.wr]:=by
   unfold rR;rw[ex2,pr.ry,pr.rx,pr.wx,pr.wy]
  have vx:rR x=[.str (dX x.r),.int (cJ x.r),P0 (dX x.r) (.int nn),oV x.wr]:=by
   unfold rR;rw[ex1]
  have vy:rR y=[.str (dX y.r),.int (cJ y.r),P0 (dX y.r) (Y0 (dX x.r) (.int nn) (oV x.wr)),oV y.wr]:=by
   unfold rR;rw[ey1]
  clear wI wJ ea1 ea2 ea3 eb1 eb2 eb3 RJ htJ sJ gI' nhI eoI htI Xn Xk hqI Wj ea4 eb4;refine⟨_,Z,_,_,_,_,Z,Z,bO.of hqK,Z,_,Z,_,Z,(by show 2<=sizeLine;decide),λd1 hd1=>?_⟩;have u1:=aD (o:=HO.tup [V.ref ua,V.ref ub]) hd1;refine⟨f1,d1,x,y,Z,Xm.same u1,⟨ua,ub,ak,u1 _ _ hx1,u1 _ _ hy1⟩,λHL sL=>⟨true,Z, ?_⟩⟩;refine(show if false=true then _ else _ from dG ?_);have s3:=u1.trans sL;refine⟨_,Z,_,_,_,_,Z,Z,bO.of (s3 _ _ hqK),Z,_,Z,_,Z,_,Z,ua,ub,_,_,_,_,_,_,_,_,_,Z,s3 _ _ hx1,s3 _ _ hy1,vH tx,vH ty,λd2 e1 e2 HM hd2 he1 he2 sM=>?_⟩;refine⟨f1,d2,x,y,Z,(Xm.same s3).same sM,⟨e1,e2,hd2,by rw[vx];exact he1,by rw[vy];exact he2⟩,λHN sN=>⟨true,Z, ?_⟩⟩;refine(show if false=true then _ else _ from dG ?_);have s4:=(s3.trans sM).trans sN;refine⟨_,Z,_,_,_,_,Z,Z,bO.of (s4 _ _ hqK),Z,_,Z,_,Z,_,Z,ub,ua,_,_,_,_,_,_,_,_,_,Z,s4 _ _ hy1,s4 _ _ hx1,vH ty,vH tx,λd3 e3 e4 HO' Z5 he3 he4 sO=>?_⟩;exact⟨f2,d3,y',x',Z,(abb.same s4).same sO,⟨e3,e4,Z5,by rw[vy'];exact he3,by rw[vx'];exact he4⟩,λHP _=>k HP⟩
end
theorem len0{us:List Value}(h:us.length=0):us=[]:=List.eq_nil_of_length_eq_zero h
theorem gM{us:List Value}{n:Nat}(h:us.length=n+1):∃a vs,us=a::vs/\vs.length=n:=by
 cases us with
 | nil=>cases h
 | cons a t=>exact⟨a,t,Z,Nat.succ.inj h⟩
theorem yQ{K:PySem.W.Frag}{T:Addr}{tc:Value}{td:Option Addr}{tn:Nat}{uK:Array (Option Value)}(d:K.lookup T=some ⟨tc,td,.seq #[.none] tn,uK⟩){kV doc pm:Value}{an:Option Addr}{cdv ct:Value}:Binds K (PySem.W.fnOf "__init__" "Works.__init__" (b_ bU) (cG bU) (aJ bU) (.ref T) kV doc pm an cdv ct) ["self","program","cells"] []:=by
 intro s us KX hl;have hl:us.length=3:=by simpa using hl
 obtain⟨_,_,rfl,h1⟩:=gM hl;obtain⟨_,_,rfl,h2⟩:=gM h1;obtain⟨_,_,rfl,h3⟩:=gM h2;cases len0 h3;exact PySem.W.binds_K KX rfl d rfl rfl rfl
theorem yO{K:PySem.W.Frag}{T:Addr}{tc:Value}{td:Option Addr}{tn:Nat}{uK:Array (Option Value)}(d:K.lookup T=some ⟨tc,td,.seq #[.none] tn,uK⟩){kV doc pm:Value}{an:Option Addr}{cdv ct:Value}:Binds K (PySem.W.fnOf "__init__" "Works.__init__" (b_ bU) (cG bU) (aJ bU) (.ref T) kV doc pm an cdv ct) ["self","program","cells"] [.none]:=by
 intro s us KX hl;have hl:us.length=2:=by simpa using hl
 obtain⟨_,_,rfl,h1⟩:=gM hl;obtain⟨_,_,rfl,h2⟩:=gM h1;cases len0 h2;exact PySem.W.binds_K KX rfl d rfl rfl rfl
theorem yM{K:PySem.W.Frag}{T:Addr}{tc:Value}{td:Option Addr}{tn:Nat}{uK:Array (Option Value)}(d:K.lookup T=some ⟨tc,td,.seq #[.none] tn,uK⟩){kV doc pm:Value}{an:Option Addr}{cdv ct:Value}(s:Shared)(us:List Value)(z:Value)(KX:K.In s.heap)(hl:(us++[z]).length=(["self","program","cells"]:List Str).length):BindsTo s (PySem.W.fnOf "__init__" "Works.__init__" (b_ bU) (cG bU) (aJ bU) (.ref T) kV doc pm an cdv ct) ⟨us,[("cells",z)]⟩ ((["self","program","cells"]:List Str).zip (us++[z])):=by
 have hl:us.length=2:=by simpa using hl
 obtain⟨_,_,rfl,h1⟩:=gM hl;obtain⟨_,_,rfl,h2⟩:=gM h1;cases len0 h2;exact PySem.W.binds_K KX rfl d rfl rfl rfl
theorem JT{K:PySem.W.Frag}{T:Addr}{tc:Value}{td:Option Addr}{tn:Nat}{uK:Array (Option Value)}(d:K.lookup T=some ⟨tc,td,.seq #[.none] tn,uK⟩){kV doc pm:Value}{an:Option Addr}{cdv ct:Value}:Binds K (PySem.W.fnOf "web_of" "web_of" (b_ dM) (cG dM) (aJ dM) (.ref T) kV doc pm an cdv ct) ["program","order","cells"] []:=by
 intro s us KX hl;have hl:us.length=3:=by simpa using hl
 obtain⟨_,_,rfl,h1⟩:=gM hl;obtain⟨_,_,rfl,h2⟩:=gM h1;obtain⟨_,_,rfl,h3⟩:=gM h2;cases len0 h3;exact PySem.W.binds_K KX rfl d rfl rfl rfl
theorem JR{K:PySem.W.Frag}{T:Addr}{tc:Value}{td:Option Addr}{tn:Nat}{uK:Array (Option Value)}(d:K.lookup T=some ⟨tc,td,.seq #[.none] tn,uK⟩){kV doc pm:Value}{an:Option Addr}{cdv ct:Value}:Binds K (PySem.W.fnOf "web_of" "web_of" (b_ dM) (cG dM) (aJ dM) (.ref T) kV doc pm an cdv ct) ["program","order","cells"] [.none]:=by
 intro s us KX hl;have hl:us.length=2:=by simpa using hl
 obtain⟨_,_,rfl,h1⟩:=gM hl;obtain⟨_,_,rfl,h2⟩:=gM h1;cases len0 h2;exact PySem.W.binds_K KX rfl d rfl rfl rfl
theorem JQ{K:PySem.W.Frag}{T:Addr}{tc:Value}{td:Option Addr}{tn:Nat}{uK:Array (Option Value)}(d:K.lookup T=some ⟨tc,td,.seq #[.none] tn,uK⟩){kV doc pm:Value}{an:Option Addr}{cdv ct:Value}(s:Shared)(us:List Value)(z:Value)(KX:K.In s.heap)(hl:(us++[z]).length=(["program","order","cells"]:List Str).length):BindsTo s (PySem.W.fnOf "web_of" "web_of" (b_ dM) (cG dM) (aJ dM) (.ref T) kV doc pm an cdv ct) ⟨us,[("cells",z)]⟩ ((["program","order","cells"]:List Str).zip (us++[z])):=by
 have hl:us.length=2:=by simpa using hl
 obtain⟨_,_,rfl,h1⟩:=gM hl;obtain⟨_,_,rfl,h2⟩:=gM h1;cases len0 h2;exact PySem.W.binds_K KX rfl d rfl rfl rfl
theorem zJ{K:PySem.W.Frag}{T:Addr}{tc:Value}{td:Option Addr}{tn:Nat}{uK:Array (Option Value)}(d:K.lookup T=some ⟨tc,td,.seq #[.none] tn,uK⟩){kV doc pm:Value}{an:Option Addr}{cdv ct:Value}:Binds K (PySem.W.fnOf "both_ways" "both_ways" (b_ cC) (cG cC) (aJ cC) (.ref T) kV doc pm an cdv ct) ["program","order","note","cells"] []:=by
 intro s us KX hl;have hl:us.length=4:=by simpa using hl
 obtain⟨_,_,rfl,h1⟩:=gM hl;obtain⟨_,_,rfl,h2⟩:=gM h1;obtain⟨_,_,rfl,h3⟩:=gM h2;obtain⟨_,_,rfl,h4⟩:=gM h3;cases len0 h4;exact PySem.W.binds_K KX rfl d rfl rfl rfl
theorem zH{K:PySem.W.Frag}{T:Addr}{tc:Value}{td:Option Addr}{tn:Nat}{uK:Array (Option Value)}(d:K.lookup T=some ⟨tc,td,.seq #[.none] tn,uK⟩){kV doc pm:Value}{an:Option Addr}{cdv ct:Value}:Binds K (PySem.W.fnOf "both_ways" "both_ways" (b_ cC) (cG cC) (aJ cC) (.ref T) kV doc pm an cdv ct) ["program","order","note","cells"] [.none]:=by
 intro s us KX hl;have hl:us.length=3:=by simpa using hl
 obtain⟨_,_,rfl,h1⟩:=gM hl;obtain⟨_,_,rfl,h2⟩:=gM h1;obtain⟨_,_,rfl,h3⟩:=gM h2;cases len0 h3;exact PySem.W.binds_K KX rfl d rfl rfl rfl
theorem zG{K:PySem.W.Frag}{T:Addr}{tc:Value}{td:Option Addr}{tn:Nat}{uK:Array (Option Value)}(d:K.lookup T=some ⟨tc,td,.seq #[.none] tn,uK⟩){kV doc pm:Value}{an:Option Addr}{cdv ct:Value}(s:Shared)(us:List Value)(z:Value)(KX:K.In s.heap)(hl:(us++[z]).length=(["program","order","note","cells"]:List Str).length):BindsTo s (PySem.W.fnOf "both_ways" "both_ways" (b_ cC) (cG cC) (aJ cC) (.ref T) kV doc pm an cdv ct) ⟨us,[("cells",z)]⟩ ((["program","order","note","cells"]:List Str).zip (us++[z])):=by
 have hl:us.length=3:=by simpa using hl
 obtain⟨_,_,rfl,h1⟩:=gM hl;obtain⟨_,_,rfl,h2⟩:=gM h1;obtain⟨_,_,rfl,h3⟩:=gM h2;cases len0 h3;exact PySem.W.binds_K KX rfl d rfl rfl rfl
theorem yP{K:PySem.W.Frag}{T:Addr}{tc:Value}{td:Option Addr}{tn:Nat}{uK:Array (Option Value)}(d:K.lookup T=some ⟨tc,td,.seq #[.none] tn,uK⟩){kV doc pm:Value}{an:Option Addr}{cdv ct:Value}:Binds K (PySem.W.fnOf "touches_of" "touches_of" (b_ bT) (cG bT) (aJ bT) (.ref T) kV doc pm an cdv ct) ["program","order","cells"] []:=by
 intro s us KX hl;have hl:us.length=3:=by simpa using hl
 obtain⟨_,_,rfl,h1⟩:=gM hl;obtain⟨_,_,rfl,h2⟩:=gM h1;obtain⟨_,_,rfl,h3⟩:=gM h2;cases len0 h3;exact PySem.W.binds_K KX rfl d rfl rfl rfl
theorem yN{K:PySem.W.Frag}{T:Addr}{tc:Value}{td:Option Addr}{tn:Nat}{uK:Array (Option Value)}(d:K.lookup T=some ⟨tc,td,.seq #[.none] tn,uK⟩){kV doc pm:Value}{an:Option Addr}{cdv ct:Value}:Binds K (PySem.W.fnOf "touches_of" "touches_of" (b_ bT) (cG bT) (aJ bT) (.ref T) kV doc pm an cdv ct) ["program","order","cells"] [.none]:=by
 intro s us KX hl;have hl:us.length=2:=by simpa using hl
 obtain⟨_,_,rfl,h1⟩:=gM hl;obtain⟨_,_,rfl,h2⟩:=gM h1;cases len0 h2;exact PySem.W.binds_K KX rfl d rfl rfl rfl
theorem yL{K:PySem.W.Frag}{T:Addr}{tc:Value}{td:Option Addr}{tn:Nat}{uK:Array (Option Value)}(d:K.lookup T=some ⟨tc,td,.seq #[.none] tn,uK⟩){kV doc pm:Value}{an:Option Addr}{cdv ct:Value}(s:Shared)(us:List Value)(z:Value)(KX:K.In s.heap)(hl:(us++[z]).length=(["program","order","cells"]:List Str).length):BindsTo s (PySem.W.fnOf "touches_of" "touches_of" (b_ bT) (cG bT) (aJ bT) (.ref T) kV doc pm an cdv ct) ⟨us,[("cells",z)]⟩ ((["program","order","cells"]:List Str).zip (us++[z])):=by
 have hl:us.length=2:=by simpa using hl
 obtain⟨_,_,rfl,h1⟩:=gM hl;obtain⟨_,_,rfl,h2⟩:=gM h1;cases len0 h2;exact PySem.W.binds_K KX rfl d rfl rfl rfl
theorem all_mk{l:PySem.W.OpenLaw}{w:World}{K:PySem.W.Frag}{h:Heap}{mg:Str->Option Value}{fa X7 T16 f33 T33 f35 T35 f45 T45 aC aB aP aX bZ dj:Addr}(X:K.In h)(G:h.Ns mainGlobals mg)(hfa:mg "law" = some (.ref fa))(Dv:Ut K "Hand" aC)(fX:Ut K "Works" aB)(A_:aaz K aC ["rows","at","in_boxes","sayings","state"])(vX:aaz K aB ["program","numbers","hands","turns"])(ycg:XcI K)(rZ:PySem.W.findIn K (.ref aB) "__class__" = some (some (.builtin "object.__class__")))(rY:PySem.W.mroIn K aB (.type "object")=some true)(m6:XoI K "NoNumber" aP)(sV:XoI K "NoHand" aX)(Bf:XoI K "Over" bZ)(sU:XoI K "NoNote" dj)(xcc:XcI K)(m5:XrI K aP)(sS:XrI K aX)(Bb:XrI K bZ)(sE:XrI K dj){S8:Tok}(CZ:PySem.W.nsIn K mainGlobals "BOXES" = some (some (.str "abcdefgh" S8))){S6:Tok}(CV:PySem.W.nsIn K mainGlobals "ROUND" = some (some (.int 1000 S6))){qx:Tok}(h_:PySem.W.nsIn K mainGlobals "MOST_UNTOUCHING" = some (some (.int 60 qx)))(q0:fu K "_law_bag" Ii)(q1:fu K "_law_stir" BR)(q2:fu K "_law_draw" Ca)(q3:fu K "is_whole" p8)(q4:fu K "is_below" qe)(q5:oU K aC "__init__" "Hand.__init__" nH)(q6:fu K "cell_of" tV)(q7:oU K aC "value_of" "Hand.value_of" gH)(q8:oU K aC "holds" "Hand.holds" mj)(q9:oU K aC "take" "Hand.take" nG)(Q0:oU K aC "do" "Hand.do" tX)(q11:oU K aC "lead_on" "Hand.lead_on" jF)(XF:fu K "check_numbers" jd)(q13:oU K aB "touch_by" "Works.touch_by" iH)(q14:oU K aB "hand_of" "Works.hand_of" jf)(q15:oU K aB "turn" "Works.turn" lZ){afS ahy:Option Addr}{aeZ:Array (Option Value)}{afW agt ahi afN acZ aho:Value}{aeI:Value}{aeD:Option Addr}{aex:Nat}{abk:Array (Option Value)}(a16:PySem.W.findIn K (.ref aB) "__init__" = some (some (.ref X7)))(l16:K.lookup X7=some ⟨afW,afS,.func (PySem.W.fnOf "__init__" "Works.__init__" (b_ bU) (cG bU) (aJ bU) (.ref T16) agt ahi afN ahy acZ aho),aeZ⟩)(c16:PySem.W.codeIn K acZ "Works.__init__" = true)(k16:PySem.W.keepIn K (.ref X7)=true)(n16:PySem.W.isFn K (.ref X7)=true)(d16:K.lookup T16=some ⟨aeI,aeD,.seq #[.none] aex,abk⟩)(q17:oU K aB "how" "Works.how" nF)(q18:oU K aC "another" "Hand.another" jG)(q19:oU K aB "twin" "Works.twin" lY)(q20:fu K "names" BK)(q21:fu K "touches_meet" jD)(q22:fu K "is_step" tR)(q23:fu K "is_known" qd)(q24:fu K "learn" BL)(q25:fu K "bare_steps" lX)(q26:fu K "notes_to" p7)(q27:fu K "notes" BJ)(q28:fu K "is_note" tU)(q29:fu K "check_fewest" jE)(q30:fu K "places_of" nA)(q31:fu K "steps_left" lW)(q32:fu K "ahead_of_both" je){afR ahx:Option Addr}{aeY:Array (Option Value)}{afV ags ahh afM acY ahn:Value}{aeH:Value}{aeC:Option Addr}{aev:Nat}{abj:Array (Option Value)}(a33:PySem.W.nsIn K mainGlobals "web_of" = some (some (.ref f33)))(l33:K.lookup f33=some ⟨afV,afR,.func (PySem.W.fnOf "web_of" "web_of" (b_ dM) (cG dM) (aJ dM) (.ref T33) ags ahh afM ahx acY ahn),aeY⟩)(c33:PySem.W.codeIn K acY "web_of" = true)(k33:PySem.W.keepIn K (.ref f33)=true)(d33:K.lookup T33=some ⟨aeH,aeC,.seq #[.none] aev,abj⟩)(q34:fu K "told_by" tQ){afQ ahw:Option Addr}{aeX:Array (Option Value)}{afU agr ahg afL acX ahm:Value}{aeG:Value}{aeB:Option Addr}{aeu:Nat}{abh:Array (Option Value)}(a35:PySem.W.nsIn K mainGlobals "both_ways" = some (some (.ref f35)))(l35:K.lookup f35=some ⟨afU,afQ,.func (PySem.W.fnOf "both_ways" "both_ways" (b_ cC) (cG cC) (aJ cC) (.ref T35) agr ahg afL ahw acX ahm),aeX⟩)(c35:PySem.W.codeIn K acX "both_ways" = true)(k35:PySem.W.keepIn K (.ref f35)=true)(d35:K.lookup T35=some ⟨aeG,aeB,.seq #[.none] aeu,abh⟩)(q36:fu K "_law_plain" wZ)(q37:fu K "_law_worth" wX)(q38:fu K "_law_row" Ih)(q39:fu K "_law_hand" B_)(q40:fu K "_law_program" qg)(q41:fu K "_law_first" xg)(q42:fu K "_law_run" Ig)(q43:fu K "_law_table" wY)(q44:oU K aB "cells" "Works.cells" kh){afP ahv:Option Addr}{aeW:Array (Option Value)}{afT agq ahf afK acW ahl:Value}{aeF:Value}{aeA:Option Addr}{aes:Nat}{abg:Array (Option Value)}(a45:PySem.W.nsIn K mainGlobals "touches_of" = some (some (.ref f45)))(l45:K.lookup f45=some ⟨afT,afP,.func (PySem.W.fnOf "touches_of" "touches_of" (b_ bT) (cG bT) (aJ bT) (.ref T45) agq ahf afK ahv acW ahl),aeW⟩)(c45:PySem.W.codeIn K acW "touches_of" = true)(k45:PySem.W.keepIn K (.ref f45)=true)(d45:K.lookup T45=some ⟨aeF,aeA,.seq #[.none] aes,abg⟩)(q46:fu K "_law_alike" qR)(q47:fu K "_law_read" BX)(q48:fu K "_law_pair" BZ)(q49:fu K "_law_same" BW)(q50:fu K "_law_needed" tW)(q51:fu K "_law_told" BP)(q52:fu K "law" QL)(zb:Uq K ["all","any","bool","enumerate","int","isinstance","len","list","max","min","range","sorted","tuple","zip"]):
 ∃fd:FuncData,(∀(s:Shared)(v:Value),BindsTo s fd ⟨[v],[]⟩ [("script",v)]) /\ ∀base:Heap,K.In base->base.Ns mainGlobals mg->bL l.prog w K mg base iC 13 fa fd ["script"] (KQ K):=by
 obtain⟨fl,fdl,al,Fl⟩:=q52;cases hfa.symm.trans (PySem.W.mg_of X G al);obtain⟨z0,z1,z2,z3,z4,z5,z6,z7,z8,z9,z10,z11,z12,z13,_⟩:=zb.mg X G;have Bt:rQ mg:=⟨z0,z1,z2,z3,z4,z5,z6,z7,z8,z9,z10,z11,z12,z13⟩;obtain⟨n0,n1,n2,n3,n4,_⟩:=A_;have aM:gj K aC:=⟨Dv.cls,n0,n1,n2,n3,n4⟩;obtain⟨n0,n1,n2,n3,_⟩:=vX;have aN:d9 K aB:=⟨fX.cls,n0,n1,n2,n3⟩;have aea:IsO K mg aB "Works" :=⟨PySem.W.mg_of X G fX.a,rZ,ycg.cg,ycg.ct,rY⟩;have fY:Gv mg "BOXES" (.str "abcdefgh"):=⟨_,PySem.W.mg_of X G CZ,⟨_,Z⟩⟩;have iB:Gv mg "ROUND" (.int 1000):=⟨_,PySem.W.mg_of X G CV,⟨_,Z⟩⟩;have fK:Gv mg "MOST_UNTOUCHING" (.int 60):=⟨_,PySem.W.mg_of X G h_,⟨_,Z⟩⟩;have iR:=m6.r X G m5 xcc;have rJ:=sV.r X G sS xcc;have Dq:=Bf.r X G Bb xcc;have rH:=sU.r X G sE xcc;have F16:zM K "__init__" "Works.__init__" bU [.none] X7 _:=⟨⟨_,_,_,_,_,_,_,_,_,_,_,_,_,_,Z,l16,c16,d16⟩,k16⟩;have F33:zM K "web_of" "web_of" dM [.none] f33 _:=⟨⟨_,_,_,_,_,_,_,_,_,_,_,_,_,_,Z,l33,c33,d33⟩,k33⟩;have F35:zM K "both_ways" "both_ways" cC [.none] f35 _:=⟨⟨_,_,_,_,_,_,_,_,_,_,_,_,_,_,Z,l35,c35,d35⟩,k35⟩;have F45:zM K "touches_of" "touches_of" bT [.none] f45 _:=⟨⟨_,_,_,_,_,_,_,_,_,_,_,_,_,_,Z,l45,c45,d45⟩,k45⟩;refine⟨fdl,Fl.bind1 (by kernel_rfl),λbase _ _=>?_⟩;have Y:At8 l.prog w K mg base:=⟨_,X,G⟩;have A0:=Y.fn q0 λF=>Zu F Bt;have A1:=Y.fn q1 λF=>VJ F;have A2:=Y.fn q2 λF=>V0 F A1 Bt;have A3:=Y.fn q3 λF=>FN F Bt;have A4:=Y.fn q4 λF=>FP F A3;have A5:=Y.ma Dv q5 (sp:=vK aC K) λF=>RM F aM fY;have A6:=Y.fn q6 λF=>Oh F;have ahJ:=Y.me q7 (sp:=wC aC 0 K) λF=>VD F;have ahI:=Y.me q7 λF=>Lj (n:=0) F ahJ aM fY iB;have A7:=Y.me q7 λF=>Lj (n:=1) F ahI aM fY iB;have A8:=Y.me q8 (sp:=Bq aC K) λF=>RL F A7 aM;have A9:=Y.me q9 (sp:=Bm aC K) λF=>VH F aM fY;have A10:=Y.me Q0 (sp:=YL aC K) λF=>ab0 F A7 A9 A8 aM;have A11:=Y.me q11 (sp:=Bp aC K) λF=>VR F A6 A10 aM fK Bt;have A12:=Y.fnX XF (sp:=pW aP K) λF=>FQ F A4 iB Bt iR;have A13:=Y.me q13 (sp:=sY aB aC K) λF=>Iu F A6 A7 A9 aN aM;have A14:=Y.meX q14 (sp:=qM aB aC aX K) λF=>Oe F A4 aN Bt rJ;have A15:=Y.meX q15 (sp:=jA aB aC aX bZ K) λF=>VG F A14 A13 A11 aN aM Dq;have G16:=Rx F16 aN aM A12 A5 A11 Bt;have A16:j6 l.prog w K mg base 7 aB "Works" ["self","program","cells"] [] (gF aB aC aP K):=⟨X7,_,_,G16,⟨fX.ms,a16,n16,fX.kp⟩,PySem.W.mg_of X G fX.a,yQ d16,.nil⟩;have ajS:j6 l.prog w K mg base 7 aB "Works" ["self","program","cells"] [.non] (gF aB aC aP K):=⟨X7,_,_,G16,⟨fX.ms,a16,n16,fX.kp⟩,PySem.W.mg_of X G fX.a,yO d16,.cons rfl .nil⟩;have ajR:Xf l.prog w K mg base 7 aB "Works" ["self","program","cells"] "cells" (gF aB aC aP K):=⟨X7,_,G16,⟨fX.ms,a16,n16,fX.kp⟩,PySem.W.mg_of X G fX.a,yM d16⟩;have A17:=Y.meX q17 (sp:=QD aB aC aX K) λF=>Zr F A14 aN aM;have A18:=Y.me q18 (sp:=sZ aC K) λF=>IK F aM A5 Bt;have A19:=Y.me q19 (sp:=HS aB aC K) λF=>VF F aN aM A16.calm A18 Bt;have A20:=Y.fn q20 λF=>RD F;have A21:=Y.fn q21 λF=>vd F;have A22:=Y.fn q22 λF=>Iw F A21;have A23:=Y.fn q23 λF=>RK F;have A24:=Y.fn q24 λF=>RG F Bt;have A25:=Y.fn q25 λF=>V1 F A22 A23 A24 Bt;have A26:=Y.fn q26 λF=>Iv F;have A27:=Y.fn q27 λF=>RB F A20 A25 A26 Bt;have A28:=Y.fn q28 λF=>Iz F A3 Bt;have A29:=Y.fnX q29 (sp:=QF dj K) λF=>Zt F rH A28 A27 Bt;have A30:=Y.fn q30 λF=>Ob F A20 Bt;have A31:=Y.fn q31 λF=>VP F A22 Bt;have A32:=Y.fn q32 λF=>RV F A31 Bt;have G33:=VB F33 A16 A15 aN;have A33:pU l.prog w K mg base 9 "web_of" ["program","order","cells"] (sX aB aC aP aX bZ K):=⟨f33,_,G33,PySem.W.mg_of X G a33,k33,JT d33⟩;have ajQ:Hi l.prog w K mg base 9 "web_of" ["program","order","cells"] [.non] (sX aB aC aP aX bZ K):=⟨f33,_,_,G33,PySem.W.mg_of X G a33,k33,JR d33,.cons rfl .nil⟩;have ajP:Hh l.prog w K mg base 9 "web_of" ["program","order","cells"] "cells" (sX aB aC aP aX bZ K):=⟨f33,_,G33,PySem.W.mg_of X G a33,k33,JQ d33⟩;have A34:=Y.fn q34 (sp:=wD aB aC K) λF=>N6 F A19 A15.calm aN;have G35:=RQ F35 A33 A29 A30 A32 A34 A16 A15 aN Bt;have A35:pU l.prog w K mg base 11 "both_ways" ["program","order","note","cells"] (jV aP aX bZ dj K):=⟨f35,_,G35,PySem.W.mg_of X G a35,k35,zJ d35⟩;have adk:Hi l.prog w K mg base 11 "both_ways" ["program","order","note","cells"] [.non] (jV aP aX bZ dj K):=⟨f35,_,_,G35,PySem.W.mg_of X G a35,k35,zH d35,.cons rfl .nil⟩;have adi:Hh l.prog w K mg base 11 "both_ways" ["program","order","note","cells"] "cells" (jV aP aX bZ dj K):=⟨f35,_,G35,PySem.W.mg_of X G a35,k35,zG d35⟩;have A36:=Y.fn q36 λF=>Oa F A2;have A37:=Y.fn q37 λF=>N5 F A2 A36;have A38:=Y.fn q38 λF=>VN F A2 A37;have A39:=Y.fn q39 λF=>RN F A2 A38 Bt;have A40:=Y.fn q40 λF=>Ry F A2 A39 Bt;have A41:=Y.fn q41 λF=>Og F A2 Bt;have A42:=Y.fn q42 λF=>VL F A2 A16.calm A17.calm A15.calm aN Bt;have A43:=Y.fn q43 λF=>Oi F Bt;have A44:=Y.me q44 (sp:=Br aB aC K) λF=>RP F aN Bt;have G45:=FJ F45 A16 A15 aN;have A45:pU l.prog w K mg base 9 "touches_of" ["program","order","cells"] (jB aB aC aP aX bZ K):=⟨f45,_,G45,PySem.W.mg_of X G a45,k45,yP d45⟩;have ajO:Hi l.prog w K mg base 9 "touches_of" ["program","order","cells"] [.non] (jB aB aC aP aX bZ K):=⟨f45,_,_,G45,PySem.W.mg_of X G a45,k45,yN d45,.cons rfl .nil⟩;have ajN:Hh l.prog w K mg base 9 "touches_of" ["program","order","cells"] "cells" (jB aB aC aP aX bZ K):=⟨f45,_,G45,PySem.W.mg_of X G a45,k45,yL d45⟩;have ac5:=Y.fn q46 (sp:=qN 0 K) λF=>Oj F;have ac4:=Y.fn q46 λF=>zX (n:=0) F ac5 Bt;have A46:=Y.fn q46 λF=>zX (n:=1) F ac4 Bt;have A47:=Y.fn q47 λF=>N_ F;have A48:=Y.fn q48 λF=>Oc F A47;have A49:=Y.fn q49 λF=>N8 F Bt;have A50:=Y.fn q50 λF=>Od F A43 Bt;have A51:=Y.fn q51 λF=>N7 F A35.calm adk adi;exact Zq Fl A0 A2 A40 A41 A42 A33.calm A45.calm A43 A51 A50 A46 A49 A48 A16.calm A15.calm A44 aN Bt
theorem walk{l:PySem.W.OpenLaw}{q:Program}{loose:List Str}{XP:(Str->Option Value)->Heap->Prop}{YP:World->Heap->Prop}{d:DefRec}{K:Params->PySem.W.Frag}(hn:l.most=some 63)(hdf:d.params.defaults=[])(hY:∀(w:World)(h:Heap),YP w h->(K w.params).In h)(F:∀(w:World)(mg:Str->Option Value)(fa:Addr)(h:Heap),(K w.params).In h->h.Ns mainGlobals mg->mg d.name=some (.ref fa) ->
   ∃fd:FuncData,(∀(s:Shared)(u:Value),BindsTo s fd ⟨[u],[]⟩ [("script",u)]) /\ ∀base:Heap,(K w.params).In base->base.Ns mainGlobals mg->bL l.prog w (K w.params) mg base iC 13 fa fd ["script"] (KQ (K w.params))):
 PySem.W.WalkO q loose XP YP l.row.toRowW d [] (λf vs=>PySem.call f vs):=
 L2.U6 (n:=63) (k:=13) (x:= "script") (CX:=λ_=>iC) (sp:=λw=>KQ (K w.params)) hn (by decide) hdf ⟨Z,by decide,by decide⟩ hY F (λ_ _ a ns hl _ hS=>⟨a,ns,Z,hS,hl,λ_=>rfl⟩) λ_ _ _ _ _ z=>z
end Prf
namespace PySem.W.Fast
noncomputable def tw14231803676069016460:=()
noncomputable def tw10422604666972162637:=()
noncomputable def tw3401632240114992289:=()
noncomputable def tw9093696176594122357:=()
noncomputable def tw8927534079882563410:=()
noncomputable def tw7576103827381239390:=()
noncomputable def tw936320497118642459:=()
noncomputable def tw6380056009494769772:=()
noncomputable def tw16234353959340804318:=()
noncomputable def tw8628048714146469067:=()
noncomputable def tw8495292048543822367:=()
noncomputable def tw11523558077978878845:=()
noncomputable def tw11893949464937299288:=()
noncomputable def tw11348423888545495280:=()
noncomputable def tw1679516488346316898:=()
noncomputable def tw6426980460933562414:=()
noncomputable def tw6587073475204390975:=()
noncomputable def tw13070069449241924884:=()
noncomputable def tw11410753842491497010:=()
noncomputable def tw12510963793989573999:=()
noncomputable def tw14351944145256094535:=()
noncomputable def tw3446190020775627902:=()
noncomputable def tw8116064433011446524:=()
noncomputable def tw4824675391837365347:=()
noncomputable def tw6466744175764915778:=()
noncomputable def tw3569047204931982145:=()
noncomputable def tw14495142867785587747:=()
noncomputable def tw1207647091592001367:=()
noncomputable def tw7048743754823907415:=()
noncomputable def tw7076896469565036385:=()
noncomputable def tw12970764751334515319:=()
noncomputable def tw2007541109521414625:=()
noncomputable def tw3559339620780899832:=()
noncomputable def tw9972508273763816253:=()
noncomputable def tw3547077094356879365:=()
noncomputable def tw5512219217932257158:=()
noncomputable def tw4052172543237607967:=()
noncomputable def tw509495938877962329:=()
noncomputable def tw14668665583984589319:=()
noncomputable def tw18268491334768579399:=()
noncomputable def tw9011861198989192416:=()
noncomputable def tw11879328342550100506:=()
noncomputable def tw5501010040202273811:=()
noncomputable def tw8162400162263694163:=()
noncomputable def tw5284696634107020984:=()
noncomputable def tw5899135000242095658:=()
noncomputable def tw1830665257844343439:=()
noncomputable def tw11980068334170586019:=()
noncomputable def tw16271234480260114404:=()
noncomputable def tw14895764576083840167:=()
noncomputable def tw15575049453024105343:=()
noncomputable def tw2860082524629521019:=()
noncomputable def tw17054265000292417885:=()
noncomputable def tw6202182749356723342:=()
noncomputable def tw4255659278283651295:=()
noncomputable def tw11629267416563325120:=()
noncomputable def tw16857506051222892350:=()
noncomputable def tw14996753799179088262:=()
noncomputable def tw13018528080177253262:=()
noncomputable def tw11018043365116883041:=()
noncomputable def tw14664614746473467737:=()
noncomputable def tw14294042490581253871:=()
noncomputable def tw3318213624000672856:=()
noncomputable def tw17306503654630880220:=()
noncomputable def tw8276106085045814027:=()
noncomputable def tw4220758420118958456:=()
noncomputable def tw15464138016535324997:=()
noncomputable def tw4654831308415946811:=()
noncomputable def tw17764689459742172577:=()
noncomputable def tw6271260336930507864:=()
noncomputable def tw16760790889987974134:=()
noncomputable def tw16252479944252938726:=()
noncomputable def tw16056466529771647281:=()
noncomputable def tw12676945664155680681:=()
noncomputable def tw16896249001022660847:=()
noncomputable def tw6481736861350960405:=()
noncomputable def tw10646707415189034937:=()
noncomputable def tw159763604145350600:=()
noncomputable def tw7094315300041044406:=()
noncomputable def tw11191750991907392982:=()
noncomputable def tw6002240099511273094:=()
noncomputable def tw14720120449482395503:=()
noncomputable def tw12435861837232058990:=()
noncomputable def tw4186176800914350470:=()
noncomputable def tw17164327663402710114:=()
noncomputable def tw9755443249673620876:=()
noncomputable def tw7802508575069777389:=()
noncomputable def tw7118714862694908065:=()
noncomputable def tw17068778370431513762:=()
noncomputable def tw13875016022466900848:=()
noncomputable def tw2412925172676062903:=()
noncomputable def tw10560319084749212542:=()
noncomputable def tw11753629027281240514:=()
noncomputable def tw7153363645656068090:=()
noncomputable def tw59426067061657453:=()
noncomputable def tw4847692194477177977:=()
noncomputable def tw3156573041303128276:=()
noncomputable def tw620284048104841668:=()
noncomputable def tw3300443415743470044:=()
noncomputable def tw2991195469073672443:=()
noncomputable def tw17734297159476111522:=()
noncomputable def tw6189123594373037404:=()
noncomputable def tw18084458769709755722:=()
noncomputable def tw4328580948731501206:=()
noncomputable def tw2228617994576736887:=()
noncomputable def tw8726146139369812431:=()
noncomputable def tw7779209217985409490:=()
noncomputable def tw6141506480328066043:=()
noncomputable def tw2261925329068844319:=()
noncomputable def tw15752134799077659350:=()
noncomputable def tw15319704091443684933:=()
noncomputable def tw3124043341379628384:=()
noncomputable def tw3145112635326245182:=()
noncomputable def tw18226994604925944390:=()
noncomputable def tw15719699870443704039:=()
noncomputable def tw17717661671197219421:=()
noncomputable def tw9368970597830892541:=()
noncomputable def tw16525073102432563986:=()
noncomputable def tw13199722518131293724:=()
noncomputable def tw9418253272481068610:=()
noncomputable def tw11668362994754453095:=()
noncomputable def tw12774618481050134949:=()
noncomputable def tw6577857526481165092:=()
noncomputable def tw9908598021115814201:=()
noncomputable def tw16551221134360311853:=()
noncomputable def tw10731944042886809935:=()
noncomputable def tw8500159418065044847:=()
noncomputable def tw10123564242390890269:=()
noncomputable def tw17222818402605366704:=()
noncomputable def tw15444807535996823367:=()
noncomputable def tw9656034954642610617:=()
noncomputable def tw11668971737729282016:=()
noncomputable def tw1075694448869545153:=()
noncomputable def tw13646516175845494385:=()
noncomputable def tw14576395687689059717:=()
noncomputable def tw13553621197251108548:=()
noncomputable def tw14093231854353747:=()
noncomputable def tw16782792375714967055:=()
noncomputable def tw9723295844147030984:=()
noncomputable def tw5652826765782710953:=()
noncomputable def tw18196365532673486092:=()
noncomputable def tw10731010692097633535:=()
noncomputable def tw15098933814444535569:=()
noncomputable def tw18313013582957627969:=()
noncomputable def tw15022070038529309338:=()
noncomputable def tw3974471206933001766:=()
noncomputable def tw2595919506331419823:=()
noncomputable def tw2606405229913621539:=()
noncomputable def tw4086069553333666809:=()
noncomputable def tw4141104150248077554:=()
noncomputable def tw14168274668520906961:=()
noncomputable def tw7638623115450760845:=()
noncomputable def tw12345721415787714802:=()
noncomputable def tw10253070243943838674:=()
noncomputable def tw13137662258806381740:=()
noncomputable def tw983875796090499495:=()
noncomputable def tw4325677479052074783:=()
noncomputable def tw2733448347930906149:=()
noncomputable def tw12289684416005541311:=()
noncomputable def tw16236347131562378405:=()
noncomputable def tw3587202047170093570:=()
noncomputable def tw1347394111722775927:=()
noncomputable def tw14383073724726099120:=()
noncomputable def tw3143483150946378729:=()
noncomputable def tw1275920742107334487:=()
noncomputable def tw14593194080775720883:=()
noncomputable def tw16326677071521706805:=()
noncomputable def tw6195801025011811471:=()
noncomputable def tw482891108103187390:=()
noncomputable def tw14549812285379137970:=()
noncomputable def tw4647595373127781909:=()
noncomputable def tw3858250805119758877:=()
noncomputable def tw3351956575608394744:=()
noncomputable def tw9699311557776221558:=()
noncomputable def tw6791411339112569703:=()
noncomputable def tw3066876408639237753:=()
noncomputable def tw14640366070613898453:=()
noncomputable def tw3588175726901874296:=()
noncomputable def tw1556368341675596369:=()
noncomputable def tw913272275614532377:=()
noncomputable def tw17364889785825849272:=()
noncomputable def tw4075594658110204954:=()
noncomputable def tw10575011326504992329:=()
noncomputable def tw2086612528232017078:=()
noncomputable def tw14719936380715183321:=()
noncomputable def tw7206515573948609289:=()
noncomputable def tw6261316274832654820:=()
noncomputable def tw13178492351095698074:=()
noncomputable def tw9869634219343908561:=()
noncomputable def tw1236777983740392512:=()
noncomputable def tw8360030739164225569:=()
noncomputable def tw15405524051495949032:=()
noncomputable def tw15507826804099053138:=()
noncomputable def tw12443263880877257240:=()
noncomputable def tw16808980565159139306:=()
noncomputable def tw11031186665982326336:=()
noncomputable def tw12526778322624997298:=()
noncomputable def tw11544964703541996815:=()
noncomputable def tw16549059293438936301:=()
noncomputable def tw16500655028064407938:=()
noncomputable def tw7786041698939221247:=()
noncomputable def tw4035606198202277393:=()
noncomputable def tw4713337576217795772:=()
noncomputable def tw11067513186303108757:=()
noncomputable def tw579628961608845070:=()
noncomputable def tw5377269395826067832:=()
noncomputable def tw2686130178868004187:=()
noncomputable def tw10415751799889696147:=()
noncomputable def tw16660685945923117470:=()
noncomputable def tw9125885634904164851:=()
noncomputable def tw9342896241852495108:=()
noncomputable def tw3052621875590870364:=()
noncomputable def tw2840407008047200968:=()
noncomputable def tw10875322125333171149:=()
noncomputable def tw6154780504233210169:=()
noncomputable def tw10633143654163984581:=()
noncomputable def tw17247177210518244334:=()
noncomputable def tw4786622017831324934:=()
noncomputable def tw17591016250076625915:=()
noncomputable def tw10673217831020643158:=()
noncomputable def tw13092688975482705464:=()
noncomputable def tw3212004073798478155:=()
noncomputable def tw8346906232830985583:=()
noncomputable def tw11434420976438877820:=()
noncomputable def tw10092512726930885749:=()
noncomputable def tw5021202161100372794:=()
noncomputable def tw7672398016449127052:=()
noncomputable def tw3691358799800927698:=()
noncomputable def tw16750874106900424678:=()
noncomputable def tw3634092858239755899:=()
noncomputable def tw3697079194332398455:=()
noncomputable def tw14612582995279224638:=()
noncomputable def tw9116857618963277712:=()
noncomputable def tw4558475544570428825:=()
noncomputable def tw4263054416048883177:=()
noncomputable def tw5412928263143887889:=()
noncomputable def tw9400965616006638702:=()
noncomputable def tw10808458212618164785:=()
noncomputable def tw9321092445100460958:=()
noncomputable def tw2474604548097681034:=()
noncomputable def tw15498927154211932002:=()
noncomputable def tw6706231296594224582:=()
noncomputable def tw7538517094374974652:=()
noncomputable def tw18223843757712455525:=()
noncomputable def tw17681436190242483816:=()
noncomputable def tw11637322348462552163:=()
noncomputable def tw226183979429542108:=()
noncomputable def tw10152860989260238869:=()
noncomputable def tw1816772195300809578:=()
noncomputable def tw16757535024115808612:=()
noncomputable def tw12421122460501455098:=()
noncomputable def tw8917934399575265311:=()
noncomputable def tw8901941221160961446:=()
noncomputable def tw13145897323510771811:=()
noncomputable def tw2487650924202086606:=()
noncomputable def tw8538638899091788968:=()
noncomputable def tw7890025376906110281:=()
noncomputable def tw10014054318955721631:=()
noncomputable def tw11903213906729649042:=()
noncomputable def tw16493438370482412678:=()
noncomputable def tw12353355894094927623:=()
noncomputable def tw2071105624063202351:=()
noncomputable def tw14198837944722240826:=()
noncomputable def tw9485908699966508808:=()
noncomputable def tw18106426028340497548:=()
noncomputable def tw1438389736231686490:=()
noncomputable def tw1587317598455635440:=()
noncomputable def tw11592161630519100346:=()
noncomputable def tw3547573304029027066:=()
noncomputable def tw11430933889424909692:=()
noncomputable def tw17269676145912382154:=()
noncomputable def tw877479671216351236:=()
noncomputable def tw8299629132360964971:=()
noncomputable def tw14812778598184825633:=()
noncomputable def tw6552820078400276438:=()
noncomputable def tw16821367073662559592:=()
noncomputable def tw16771076260566740677:=()
noncomputable def tw2140249046151199802:=()
noncomputable def tw12662236905598659911:=()
noncomputable def tw7873872052504744215:=()
noncomputable def tw6114849294177147105:=()
noncomputable def tw5599102545547488766:=()
noncomputable def tw4881555592961919149:=()
noncomputable def tw8968460854853359891:=()
noncomputable def tw6811287404514034263:=()
noncomputable def tw8535125917971297856:=()
noncomputable def tw12729001712288800037:=()
noncomputable def tw11351240595275515067:=()
noncomputable def tw1504182988967691865:=()
noncomputable def tw1586060188703189744:=()
noncomputable def tw13436313213301607307:=()
noncomputable def tw18004768652567962041:=()
noncomputable def tw7381540348209869829:=()
noncomputable def tw2531544139766903510:=()
noncomputable def tw13600999763093394378:=()
noncomputable def tw15754896694972249516:=()
noncomputable def tw14625008352616659741:=()
noncomputable def tw39394895681850783:=()
noncomputable def tw11441910305514654580:=()
noncomputable def tw17887364820080146506:=()
noncomputable def tw11910068984166124636:=()
noncomputable def tw13670743793628299222:=()
noncomputable def tw12252724116704058919:=()
noncomputable def tw2615093010652629148:=()
noncomputable def tw12200866518776392799:=()
noncomputable def tw3301210868939211692:=()
noncomputable def tw5709440400770645158:=()
noncomputable def tw2586866222374760191:=()
noncomputable def tw6105349190673538252:=()
noncomputable def tw7390591249014741244:=()
noncomputable def tw9670532933831127835:=()
noncomputable def tw16591788033948837110:=()
noncomputable def tw14338720652578897055:=()
noncomputable def tw15093421119750029959:=()
noncomputable def tw16412085716364357944:=()
noncomputable def tw12060816963667473998:=()
noncomputable def tw4648865811736907090:=()
noncomputable def tw1592666498424144802:=()
noncomputable def tw3918089168877068733:=()
noncomputable def tw5188969624802958953:=()
noncomputable def tw2140765379262628483:=()
noncomputable def tw6480142079799722418:=()
noncomputable def tw9434088784257689692:=()
noncomputable def tw2564331732425481779:=()
noncomputable def tw11328236863607035517:=()
noncomputable def tw13352359385111929361:=()
noncomputable def tw10598842104326252215:=()
noncomputable def tw813732263383043579:=()
noncomputable def tw15888163784128151366:=()
noncomputable def tw6322867515749145209:=()
noncomputable def tw11392252523572122787:=()
noncomputable def tw13379792042653308475:=()
noncomputable def tw1584012588974542695:=()
noncomputable def tw113733203685592135:=()
noncomputable def tw9012867041771382300:=()
noncomputable def tw13155548250314311150:=()
noncomputable def tw671116189913140111:=()
noncomputable def tw14158650104899326020:=()
noncomputable def tw4928563082270966333:=()
noncomputable def tw4890726215774502264:=()
noncomputable def tw13909003278478234289:=()
noncomputable def tw312130172234145810:=()
noncomputable def tw16631389300389557033:=()
noncomputable def tw5344884642493769278:=()
noncomputable def tw4609716063759452998:=()
noncomputable def tw18409409915671482890:=()
noncomputable def tw9721767457241668670:=()
noncomputable def tw10564855720913133857:=()
noncomputable def tw2878108639793632234:=()
noncomputable def tw9596269349238195268:=()
noncomputable def tw2421348206583592394:=()
noncomputable def tw6850082661203449923:=()
noncomputable def tw4976750658346545563:=()
noncomputable def tw3433421625832845147:=()
noncomputable def tw2624050375466699963:=()
noncomputable def tw18109383776273514730:=()
noncomputable def tw10939583458446114100:=()
noncomputable def tw8082141166032578852:=()
noncomputable def tw5889084403682283092:=()
noncomputable def tw3929051901758286843:=()
noncomputable def tw9643843848193599348:=()
noncomputable def tw13342668330897418816:=()
noncomputable def tw7641637130215361136:=()
noncomputable def tw17389320971406913951:=()
noncomputable def tw16612553476051396188:=()
noncomputable def tw8758371109753513023:=()
noncomputable def tw17644596447925529063:=()
noncomputable def tw11076671783540998587:=()
noncomputable def tw16864267281742202446:=()
noncomputable def tw17523576635229798096:=()
noncomputable def tw85473325094323935:=()
noncomputable def tw6553967234501182066:=()
noncomputable def tw8091601306961243780:=()
noncomputable def tw10660804116171054220:=()
noncomputable def tw4232299908368399494:=()
noncomputable def tw1378227329054071443:=()
noncomputable def tw18156561229961538548:=()
noncomputable def tw9752967765684235118:=()
noncomputable def tw6080698042538849941:=()
noncomputable def tw13895502203386525810:=()
noncomputable def tw17726866368178159922:=()
noncomputable def tw9710400606301966242:=()
noncomputable def tw7573433326854480386:=()
noncomputable def tw1279530504355873604:=()
noncomputable def tw17272976678120879520:=()
noncomputable def tw875646378233750739:=()
noncomputable def tw2146250634227970036:=()
noncomputable def tw1704622985869006439:=()
noncomputable def tw10674466900862824619:=()
noncomputable def tw13835564302192336871:=()
noncomputable def tw10459607391947665836:=()
noncomputable def tw834517760566754144:=()
noncomputable def tw9204140032755831335:=()
noncomputable def tw1171844096250294033:=()
noncomputable def tw5786689385143948231:=()
noncomputable def tw6852529412719186920:=()
noncomputable def tw1032810433914779932:=()
noncomputable def tw5669827876168257212:=()
noncomputable def tw18167035420609868746:=()
noncomputable def tw2847213353381707246:=()
noncomputable def tw1892538636308380031:=()
noncomputable def tw11803709248448467922:=()
noncomputable def tw4303091788894431654:=()
noncomputable def tw3237390780036007433:=()
noncomputable def tw9718314608724129830:=()
noncomputable def tw1026335261099954632:=()
noncomputable def tw5605059247059941621:=()
noncomputable def tw2846711578899709574:=()
noncomputable def tw16899929826968956497:=()
noncomputable def tw4204067185374121200:=()
noncomputable def tw11017363982365277524:=()
noncomputable def tw337853904207124999:=()
noncomputable def tw14775276066139056110:=()
noncomputable def tw17177015491393134960:=()
noncomputable def tw15864037749359884692:=()
noncomputable def tw13156861774285196357:=()
noncomputable def tw1352756728349494870:=()
noncomputable def tw15845414838942482551:=()
noncomputable def tw17857211068813630262:=()
noncomputable def tw8477570103043426546:=()
noncomputable def tw13971198659724493336:=()
noncomputable def tw1388022005211716131:=()
noncomputable def tw14357861936816394775:=()
noncomputable def tw13362177113783264457:=()
noncomputable def tw17398354848827446294:=()
noncomputable def tw14040459553494470059:=()
noncomputable def tw17570540865988373874:=()
noncomputable def tw5749205814004963909:=()
noncomputable def tw8501357559574436911:=()
noncomputable def tw7087303731928208191:=()
noncomputable def tw13529018381649189026:=()
noncomputable def tw17991229682608249107:=()
noncomputable def tw15984082375350420911:=()
noncomputable def tw11562681555441180104:=()
noncomputable def tw6657633028458314591:=()
noncomputable def tw11743270406216540847:=()
noncomputable def tw9769862218538005816:=()
noncomputable def tw15384162154413640849:=()
noncomputable def tw5732222863815832496:=()
noncomputable def tw6028908262468869282:=()
noncomputable def tw9328493882126119475:=()
noncomputable def tw14696091972041722293:=()
noncomputable def tw14596960638298491024:=()
noncomputable def tw831854466143330981:=()
noncomputable def tw13009081330141330498:=()
noncomputable def tw639984276412333665:=()
noncomputable def tw14050055145186481977:=()
noncomputable def tw14822452409209990758:=()
noncomputable def tw2847515081697660643:=()
noncomputable def tw2897305577568535163:=()
noncomputable def tw13295186008373288970:=()
noncomputable def tw12099610662639263719:=()
noncomputable def tw4120579317058848111:=()
noncomputable def tw8414105615902352578:=()
noncomputable def tw298553359834256093:=()
noncomputable def tw11627357346318613803:=()
noncomputable def tw11029061358992846355:=()
noncomputable def tw14662752967904334774:=()
noncomputable def tw4936596319722217257:=()
noncomputable def tw5596283075191908938:=()
noncomputable def tw16623178808212624471:=()
noncomputable def tw3510858812532218901:=()
noncomputable def tw232993413526871441:=()
noncomputable def tw9026753670414592733:=()
noncomputable def tw1240571620634534740:=()
noncomputable def tw11186925070718723745:=()
noncomputable def tw3039341498091164128:=()
noncomputable def tw12609901894515200060:=()
noncomputable def tw3646919455660635541:=()
noncomputable def tw17603893860013315218:=()
noncomputable def tw7434828000905661707:=()
noncomputable def tw6920694527275047884:=()
noncomputable def tw8624989616926136984:=()
noncomputable def tw1808748007389537596:=()
noncomputable def tw3619367860132692546:=()
noncomputable def tw6018105642055857633:=()
noncomputable def tw12436531454933619486:=()
noncomputable def tw109243794558209654:=()
noncomputable def tw5944960933092181733:=()
noncomputable def tw18144253075732487943:=()
noncomputable def tw9643718897397254738:=()
noncomputable def tw9722546663795787615:=()
noncomputable def tw4333546318333098763:=()
noncomputable def tw5401329286623066010:=()
noncomputable def tw15429694483656632240:=()
noncomputable def tw45247806716909050:=()
noncomputable def tw11390112158884501260:=()
noncomputable def tw13083149569123640537:=()
noncomputable def tw14983913364210369013:=()
noncomputable def tw17573255391442720779:=()
noncomputable def tw1756698586348224997:=()
noncomputable def tw3761831774361732930:=()
noncomputable def tw9469044168678509028:=()
noncomputable def tw6235686151060151427:=()
noncomputable def tw3989703192887398839:=()
noncomputable def tw11701849856955781387:=()
noncomputable def tw17204312259401700334:=()
noncomputable def tw7250404586089505325:=()
noncomputable def tw12164644315283657137:=()
noncomputable def tw14254171345496729926:=()
noncomputable def tw6877344408433084778:=()
noncomputable def tw10918166316404961014:=()
noncomputable def tw6234691198812885863:=()
noncomputable def tw13628012401405042803:=()
noncomputable def tw8811846081849929211:=()
noncomputable def tw9105657306240616358:=()
noncomputable def tw8962509696988629943:=()
noncomputable def tw11816751114363360178:=()
noncomputable def tw1626445205843721992:=()
noncomputable def tw10234434811437564054:=()
noncomputable def tw12768185824392949755:=()
noncomputable def tw10952526649352201788:=()
noncomputable def tw9578934148285688510:=()
noncomputable def tw7967423428858192038:=()
noncomputable def tw7862927650476259812:=()
noncomputable def tw4822114007989291810:=()
noncomputable def tw6999171758403251939:=()
noncomputable def tw2068386352793941304:=()
noncomputable def tw3437489119242511470:=()
noncomputable def tw914109406469470555:=()
noncomputable def tw2894107608808912714:=()
noncomputable def tw2051584848287347425:=()
end PySem.W.Fast
open PySem PySem.W PyProof.Rows
set_option maxRecDepth 100000 in
set_option maxHeartbeats 0 in
theorem PySem.Challenge.cw_fewnotes_k60_whole_both_ways_holds : PySem.Challenge.rw_fewnotes_k60_whole_both_ways.Holds := by
 w_on;o_law;k_head;(case hw=>w_witness2)
 k_fill
 refine Prf.walk (l:=PySem.Challenge.rw_fewnotes_k60_whole_both_ways) rfl rfl (fun w h Y=>PySem.W.kIn_of Y) ?F
 case F=>
  intro w mg fa h KX G hmg
  replace hmg:mg (Str.ofString "law")=some (.ref fa):=hmg
  refine' Prf.all_mk KX G hmg ?Dv ?fX ?A_ ?vX ?ycg ?rZ ?rY ?m6 ?sV ?Bf ?sU ?xcc ?m5 ?sS ?Bb ?sE ?CZ ?CV ?h_ ?q0 ?q1 ?q2 ?q3 ?q4 ?q5 ?q6 ?q7 ?q8 ?q9 ?Q0 ?q11 ?XF ?q13 ?q14 ?q15 ?a16 ?l16 ?c16 ?k16 ?n16 ?d16 ?q17 ?q18 ?q19 ?q20 ?q21 ?q22 ?q23 ?q24 ?q25 ?q26 ?q27 ?q28 ?q29 ?q30 ?q31 ?q32 ?a33 ?l33 ?c33 ?k33 ?d33 ?q34 ?a35 ?l35 ?c35 ?k35 ?d35 ?q36 ?q37 ?q38 ?q39 ?q40 ?q41 ?q42 ?q43 ?q44 ?a45 ?l45 ?c45 ?k45 ?d45 ?q46 ?q47 ?q48 ?q49 ?q50 ?q51 ?q52 ?zb
  (case Dv|fX=>constructor<;>k_is)
  (case A_=>refine' ⟨?_, ?_, ?_, ?_, ?_,trivial⟩<;>k_is)
  (case vX=>refine' ⟨?_, ?_, ?_, ?_,trivial⟩<;>k_is)
  (case ycg=>constructor<;>k_is)
  (case rZ|rY=>k_is)
  (case m6|sV|Bf|sU=>constructor;k_is;rfl;k_is;k_is)
  (case xcc=>constructor<;>k_is)
  (case m5|sS|Bb|sE=>constructor;k_is;k_is;k_is;k_is;k_is;k_is;k_exc)
  (case CZ|CV|h_=>k_is)
  (case q0|q1|q2|q3|q4=>apply L2.Ju<;>k_is)
  (case q5=>apply L2.Tw<;>k_is)
  (case q6=>apply L2.Ju<;>k_is)
  (case q7|q8|q9|Q0|q11=>apply L2.Tw<;>k_is)
  (case XF=>apply L2.Ju<;>k_is)
  (case q13|q14|q15=>apply L2.Tw<;>k_is)
  (case a16|l16|c16|k16|n16|d16=>k_is)
  (case q17|q18|q19=>apply L2.Tw<;>k_is)
  (case q20|q21|q22|q23|q24|q25|q26|q27|q28|q29|q30|q31|q32=>apply L2.Ju<;>k_is)
  (case a33|l33|c33|k33|d33=>k_is)
  (case q34=>apply L2.Ju<;>k_is)
  (case a35|l35|c35|k35|d35=>k_is)
  (case q36|q37|q38|q39|q40|q41|q42|q43=>apply L2.Ju<;>k_is)
  (case q44=>apply L2.Tw<;>k_is)
  (case a45|l45|c45|k45|d45=>k_is)
  (case q46|q47|q48|q49|q50|q51|q52=>apply L2.Ju<;>k_is)
  (case zb=>refine' ⟨?_, ?_, ?_, ?_, ?_, ?_, ?_, ?_, ?_, ?_, ?_, ?_, ?_, ?_,trivial⟩<;>k_is)
#print axioms PySem.Challenge.cw_fewnotes_k60_whole_both_ways_holds
