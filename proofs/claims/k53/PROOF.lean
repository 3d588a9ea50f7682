import PyProof.Rows.All
import Wide.All
import OpenK.AllK
import Wide.FinOn
import Lean
import PyProof.EqAt
import PyProof.EqKinds
import PyProof.TupleCall
import PyProof.EqLayable
import PyProof.ExcArgsOwn
import PyProof.ExcAttrAll.Exception
import PyProof.RulesAs
import PyProof.ExcBaseAll.ValueError
import PyProof.NsDelKeeps
import KE.KRevSl
import OpenK.KOps
import OpenK.KWalk
import PyProof.TupleIter
import PyProof.ZipIter
import KE.KLam
import KE.KNestM
import KE.KMinKey
import PyProof.NeKinds
import PySem.Challenge.RW_fewnotes_k53_whole_replays_of_runs
set_option Elab.async false
set_option linter.all false
set_option maxRecDepth 100000
noncomputable section
section
open PySem PySem.Spec PyProof.Rows
theorem acg {α:Sort _} {a:α}:a=a:=rfl
def aac:=@List.length_map
def aad:=@List.getElem?_eq_getElem
def aae:=@List.getElem?_eq_some_iff
def aaf:=@List.getElem?_map
def aag:=@Heap.get?_push_of_some
def aah:=@Heap.get?_push_size
def aai:=@Heap.lt_size
def aaj:=@Nat.le_refl
def aak:=@wpAny_bind
def aal:=@wpAny_pure
def aam:=@wpS_bind
def aan:=@wpS_pure
def aao:=@Array.length_toList
def aap:=@List.mem_of_getElem?
def aaq:=@decide_eq_true
def aar:=@decide_eq_false
def aaw:=@of_decide_eq_true
def aax:=@Bool.false_ne_true
def aaB:=@List.size_toArray
def aaC:=@Option.some.inj
def aaD:=@List.length_append
def aaL:=@List.getElem?_append_right
def aaO:=@List.getElem?_append_left
def aaP:=@Nat.ne_of_lt
def aa1:=@Nat.lt_of_lt_of_le
def aa3:=@List.map_append
def aa5:=@Int.toNat_natCast
def aa6:=@Bool.and_eq_true
def aa7:=@List.mem_cons_of_mem
def abb:=@List.mem_append
def abn:=@List.mem_map
def aby:=@List.mem_singleton
def abA:=@List.take_length
def abB:=@List.take_add_one
def abE:=@List.map_map
def abF:=@List.length_set
def abI:=@List.length_take
def abS:=@List.mem_filter
def abY:=@List.mem_range
def abZ:=@List.filter_cons
def ab0:=@List.length_cons
def ab4:=@Int.eq_ofNat_of_zero_le
def ab5:=@Nat.lt_irrefl
def ab9:=@Nat.le_trans
def ab_:=@List.filter_append
def ab':=@if_neg
def acd:=@if_pos
def ace:=@absurd
end
namespace L2
open PySem PySem.Spec PyProof.Rows
noncomputable abbrev Key:=Sum Int Str
noncomputable def Ac:Key->Value->Bool
 | .inl k,v=>Value.isInt k v
 | .inr x,v=>Value.isStrOf x v
noncomputable def afg(w:World):Key->Int
 | .inl k=>hashInt k
 | .inr x=>hashStr w x
theorem dZ:∀{k:Key}{v:Value},Ac k v=true->(∃i t,k=Sum.inl i/\v=Value.int i t)\/(∃x t,k=Sum.inr x/\v=Value.str x t)
 | .inl i,v,h=>by
   obtain⟨t,e⟩:=Value.isInt_shape (k:=i) (v:=v) h;exact .inl ⟨i,t,acg,e⟩
 | .inr x,v,h=>by
   obtain⟨t,e⟩:=Value.isStrOf_shape (x:=x) (v:=v) h;exact .inr ⟨x,t,acg,e⟩
theorem Ls(i:Int)(t:Tok):Ac (.inl i) (.int i t)=true:=by simp[Ac,Value.isInt]
theorem Lr(x:Str)(t:Tok):Ac (.inr x) (.str x t)=true:=by simp[Ac,Value.isStrOf]
theorem YX(a b:Int):decide ((Sum.inl a:Key)=Sum.inl b)=(a==b):=by
 by_cases e:a=b
 .subst e;simp
 .have h:¬(Sum.inl a:Key)=Sum.inl b:=λq=>e (Sum.inl.inj q)
  rw[aar h];exact(beq_eq_false_iff_ne.mpr e).symm
theorem YS(a b:Str):decide ((Sum.inr a:Key)=Sum.inr b)=decide (a=b):=by
 by_cases e:a=b
 .subst e;simp
 .have h:¬(Sum.inr a:Key)=Sum.inr b:=λq=>e (Sum.inr.inj q)
  rw[aar h,aar e]
theorem YW(a:Int)(b:Str):decide ((Sum.inl a:Key)=Sum.inr b)=false:=aar (λq=>nomatch q)
theorem YT(a:Str)(b:Int):decide ((Sum.inr a:Key)=Sum.inl b)=false:=aar (λq=>nomatch q)
noncomputable def fu(prog:Program)(w:World):PySem.KeyKind prog w Key where
 is:=Ac
 hash:=afg w
 inj:=λv a b ha hb=>by
  rcases dZ ha with ⟨i,t,rfl,rfl⟩|⟨x,t,rfl,rfl⟩
  .rcases dZ hb with ⟨j,u,rfl,e⟩|⟨y,u,rfl,e⟩
   .injection e with e1 _;rw[e1]
   .exact nomatch e
  .rcases dZ hb with ⟨j,u,rfl,e⟩|⟨y,u,rfl,e⟩
   .exact nomatch e
   .injection e with e1 _;rw[e1]
 byValue:=λk v h=>by
  rcases dZ h with ⟨i,t,rfl,rfl⟩|⟨x,t,rfl,rfl⟩<;>rfl
 pyHash:=λhv h=>by
  rcases dZ hv with ⟨i,t,rfl,rfl⟩|⟨x,t,rfl,rfl⟩
  .exact wpAny_pyHash_int h
  .exact wpAny_pyHash_str h
 eqBool:=λhu hv h=>by
  rcases dZ hu with ⟨i,t,rfl,rfl⟩|⟨x,t,rfl,rfl⟩
  .rcases dZ hv with ⟨j,u,rfl,rfl⟩|⟨y,u,rfl,rfl⟩
   .rw[YX] at h;exact wpAny_eqBool_int h
   .rw[YW] at h;exact SeqAt.EqAt.int_str i t y u _ _ _ _ h
  .rcases dZ hv with ⟨j,u,rfl,rfl⟩|⟨y,u,rfl,rfl⟩
   .rw[YT] at h;exact SeqAt.EqAt.str_int x t j u _ _ _ _ h
   .rw[YS] at h;exact wpAny_eqBool_str h
 «strs» :=λk x t v h=>by
  rcases dZ h with ⟨i,u,rfl,e⟩|⟨y,u,rfl,e⟩
  .exact nomatch e
  .injection e with e1 _
   subst e1;cases v<;>rfl
theorem Fp(prog:Program)(w:World)(i:Int)(t:Tok):(fu prog w).is (.inl i) (.int i t)=true:=Ls i t
theorem Fo(prog:Program)(w:World)(x:Str)(t:Tok):(fu prog w).is (.inr x) (.str x t)=true:=Lr x t
inductive V where
 | non|bl (b:Bool)|int (i:Int)|str (x:Str)|Iv (b:Array UInt8)|flt (b:UInt64)|ref (a:Addr)|ty (n:String)
 deriving DecidableEq
noncomputable def RelV:V->Value->Prop
 | .non,u=>u=Value.none
 | .bl b,u=>u=Value.bool b
 | .int i,u=>∃t,u=Value.int i t
 | .str x,u=>∃t,u=Value.str x t
 | .Iv b,u=>∃t,u=Value.bytes b t
 | .flt b,u=>∃t,u=Value.float b t
 | .ref a,u=>u=Value.ref a
 | .ty n,u=>u=Value.type n
noncomputable abbrev Vals:List V->List Value->Prop:=Paired RelV
theorem Vals.length{xs:List V}{us:List Value}(r:Vals xs us):xs.length=us.length:=Paired.length r
theorem Vals.get:∀{xs:List V}{us:List Value}{i:Nat}{x:V},Vals xs us->xs[i]? = some x -> ∃u,us[i]? = some u/\RelV x u
 | _,_,_,_,.nil,e=>by simp at e
 | _,_,0,_,.cons r _,e=>by simp at e;subst e;exact⟨_,acg,r⟩
 | _,_,i+1,x,.cons _ t,e=>by
   obtain⟨u,h1,h2⟩:=Vals.get (i:=i) (x:=x) t (by simpa using e);exact⟨u,by simpa using h1,h2⟩
theorem Vals.set{x:V}{u:Value}(r:RelV x u):∀{xs:List V}{us:List Value}(i:Nat),Vals xs us->Vals (xs.set i x) (us.set i u)
 | _,_,_,.nil=> .nil
 | _,_,0,.cons _ t=> .cons r t
 | _,_,i+1,.cons q t=> .cons q (Vals.set r i t)
theorem Vals.append{xs ys:List V}{us ws:List Value}(h:Vals xs us)(s:Vals ys ws):Vals (xs++ys) (us++ws):=by
 induction h with
 | nil=>exact s
 | cons r t ih=>exact .cons r ih
theorem Vals.take:∀{xs:List V}{us:List Value}(n:Nat),Vals xs us->Vals (xs.take n) (us.take n)
 | _,_,0,_=> .nil
 | _,_,_+1,.nil=> .nil
 | _,_,n+1,.cons r t=> .cons r (Vals.take n t)
theorem Vals.drop:∀{xs:List V}{us:List Value}(n:Nat),Vals xs us->Vals (xs.drop n) (us.drop n)
 | _,_,0,r=>r
 | _,_,_+1,.nil=> .nil
 | _,_,n+1,.cons _ t=>Vals.drop n t
noncomputable def oH:Option V->Option Value->Prop
 | some v,some u=>RelV v u
 | none,none=>True
 | _,_=>False
noncomputable def KV{κ:Type}:List (κ×V)->List (κ×Value)->Prop:=Paired λ(p:κ×V) (q:κ×Value)=>p.1=q.1/\RelV p.2 q.2
noncomputable def kV:Key->V
 | .inl i=> .int i
 | .inr x=> .str x
inductive HO where
 | lst (xs:List V)
 | tup (xs:List V)
 | dK (kvs:List (Key×V))|dT (kvs:List (List Key×V))
 | set (S:Int->Bool) (n:Nat)
 | ins (C dx:Addr) (fs:List (Str×V))
 | own (x:Addr)
 | xd (fs:List (Str×V))
 | met (f x:Addr)
 | rng (lo hi:Int)
 | FP (o:Obj) (u:HO)
 | V4 (ps:Array Value)
 | ext (φ:Heap->Prop)
noncomputable abbrev Hp:=Addr->Option HO
noncomputable def upd(H:Hp)(a:Addr)(o:HO):Hp:=λb=>if b=a then some o else H b
theorem ak{H:Hp}{a:Addr}{o:HO}:upd H a o a=some o:=by unfold upd;rw[acd rfl]
theorem aF{H:Hp}{a b:Addr}{o:HO}(h:b≠a):upd H a o b=H b:=by unfold upd;rw[ab' h]
theorem dg{H:Hp}{a b:Addr}{o u:HO}(h:H a=some o)(h':H b=some u)(d:o≠u):a≠b:=by
 intro e;subst e;rw[h] at h';exact d (aaC h')
theorem aB{H:Hp}{a b:Addr}{o:HO}(h:H a=some o)(h':H b=none):a≠b:=by
 intro e;subst e;rw[h] at h';cases h'
section
variable(P:Program)(w:World)
noncomputable def eF(H:Hp)(h:Heap)(a:Addr):HO->Prop
 | .lst xs=>xs.length<=sizeLine /\ ∃(its:List Value) (n:Nat),Vals xs its/\h.get? a=some {cls:= .type "list",data:= .seq its.toArray n}
 | .tup xs=>xs.length<=sizeLine /\ ∃its:List Value,Vals xs its/\IsTup h a its.toArray
 | .dK kvs=>kvs.length<=sizeLine/\(a==sysModules)=false /\ ∃vs,KV kvs vs/\h.DictOf (fu P w) a vs
 | .dT kvs=>kvs.length<=sizeLine/\(a==sysModules)=false /\ ∃xs:List (List Key×Addr×Value),
    Paired (λ(p:List Key×V) (q:List Key×Addr×Value)=>p.1=q.1/\H q.2.1=some (.tup (p.1.map kV))/\RelV p.2 q.2.2) kvs xs /\
    ∃o es ep,h.get? a=some o/\o.ExactDict/\o.data = .dict es ep/\es.toList=xs.map (entryOfKey (tupleKind (fu P w)))/\(xs.map (·.1)).Nodup
 | .set S n=>h.SetOf (intKind P w) a S n
 | .ins C dx fs=>H dx=some (.own a)/\fs.length<=1000/\dx≠a/\h.get? a=some (PySem.W.instObj C dx) /\
    ∃mA,h.Ns1 dx mA/\(∀f,oH (fs.lookup f) (mA f))/\PySem.Within mA (fs.map (·.1))
 | .own _=>∃o,h.get? a=some o
 | .xd fs=>∃mA,h.Ns1 a mA /\ ∀f,oH (fs.lookup f) (mA f)
 | .rng lo hi=>∃t u v,h.get? a=some {cls:= .type "range",data:= .fields #[.int lo t,.int hi u,.int 1 v]}
 | .FP o u=>h.get? a=some o/\eF H h a u
 | .V4 ps=>h.get? a=some {cls:= .none,data:= .fields ps}
 | .met f x=>h.get? a=some (PySem.W.methodObj (.ref f) (.ref x))
 | .ext φ=>φ h/\(∃o,h.get? a=some o) /\ ∀h1 h2:Heap,φ h1->(∀o,h1.get? a=some o->h2.get? a=some o)->φ h2
noncomputable def qz(H:Hp)(h:Heap):Prop:=∀a o,H a=some o->eF P w H h a o
end
section
variable{P:Program}{w:World}{H H':Hp}{h h':Heap}{a:Addr}{o:HO}
theorem eF.lt(x:eF P w H h a o):a<h.objs.size:=by
 cases o with
 | lst xs=>obtain⟨_,_,_,_,e⟩:=x;exact aai e
 | tup xs=>obtain⟨_,_,_,p⟩:=x;exact p.lt
 | dK kvs=>obtain⟨_,_,_,_,o,_,_,e,_⟩:=x;exact aai e
 | dT kvs=>obtain⟨_,_,_,_,o,_,_,e,_⟩:=x;exact aai e
 | set S n=>obtain⟨o,_,_,_,e,_⟩:=x;exact aai e
 | ins C dx fs=>obtain⟨_,_,_,e,_⟩:=x;exact aai e
 | own y=>obtain⟨_,e⟩:=x;exact aai e
 | xd fs=>obtain⟨_,⟨_,_,_,e,_⟩,_⟩:=x;exact aai e
 | rng lo hi=>obtain⟨_,_,_,e⟩:=x;exact aai e
 | FP ob u=>obtain⟨e,_⟩:=x;exact aai e
 | V4 ps=>exact aai (show h.get? a=some _ from x)
 | met f y=>exact aai (show h.get? a=some _ from x)
 | ext φ=>obtain⟨_,⟨_,e⟩,_⟩:=x;exact aai e
theorem Paired.aa_{α β:Type}{F G:α->β->Prop}:∀{l₁:List α}{l₂:List β},Paired F l₁ l₂->(∀a b,F a b->G a b)->Paired G l₁ l₂
 :=by
 intro l₁ l₂ h f
 induction h with
 | nil=>exact .nil
 | cons r t ih=>exact .cons (f _ _ r) ih
theorem eF.stay(x:eF P w H h a o)(k:∀b u,(b=a\/H b=some (.own a))->h.get? b=some u->h'.get? b=some u)(ho:∀b,H b=some (.own a)->H' b=some (.own a))(ht:∀b xs,H b=some (.tup xs)->H' b=some (.tup xs)):eF P w H' h' a o:=by
 induction o with
 | lst xs=>obtain⟨z,its,n,r,e⟩:=x;exact⟨z,its,n,r,k _ _ (.inl rfl) e⟩
 | tup xs=>obtain⟨z,its,r,ob,e,c⟩:=x;exact⟨z,its,r,ob,k _ _ (.inl rfl) e,c⟩
 | dK kvs=>obtain⟨z,y,vs,r,ob,es,ep,e,c⟩:=x;exact⟨z,y,vs,r,ob,es,ep,k _ _ (.inl rfl) e,c⟩
 | dT kvs=>
   obtain⟨z,y,xs,r,ob,es,ep,e,c⟩:=x;exact⟨z,y,xs,Paired.aa_ r λp q z=>⟨z.1,ht _ _ z.2.1,z.2.2⟩,ob,es,ep,k _ _ (.inl rfl) e,c⟩
 | set S n=>obtain⟨ob,es,ep,t,e,c⟩:=x;exact⟨ob,es,ep,t,k _ _ (.inl rfl) e,c⟩
 | ins C dx fs=>
   obtain⟨d,z,ne,e,mA,⟨od,es,ep,e2,c⟩,r⟩:=x;exact⟨ho _ d,z,ne,k _ _ (.inl rfl) e,mA,⟨od,es,ep,k _ _ (.inr d) e2,c⟩,r⟩
 | own y=>obtain⟨ob,e⟩:=x;exact⟨ob,k _ _ (.inl rfl) e⟩
 | xd fs=>obtain⟨mA,⟨od,es,ep,e,c⟩,r⟩:=x;exact⟨mA,⟨od,es,ep,k _ _ (.inl rfl) e,c⟩,r⟩
 | rng lo hi=>obtain⟨t,u,v,e⟩:=x;exact⟨t,u,v,k _ _ (.inl rfl) e⟩
 | FP ob u ih=>obtain⟨e,q⟩:=x;exact⟨k _ _ (.inl rfl) e,ih q⟩
 | V4 ps=>
   have e:h.get? a=some {cls:= .none,data:= .fields ps}:=x;show h'.get? a=some {cls:= .none,data:= .fields ps};exact k a _ (.inl rfl) e
 | met f y=>
   have e:h.get? a=some (PySem.W.methodObj (.ref f) (.ref y)):=x;show h'.get? a=some (PySem.W.methodObj (.ref f) (.ref y));exact k a _ (.inl rfl) e
 | ext φ=>obtain⟨p,⟨o,e⟩,st⟩:=x;exact⟨st _ _ p λo q=>k _ _ (.inl rfl) q,⟨o,k _ _ (.inl rfl) e⟩,st⟩
theorem qz.lt(x:qz P w H h)(e:H a=some o):a<h.objs.size:=(x a o e).lt
theorem qz.fresh(x:qz P w H h)(e:h.objs.size<=a):H a=none:=by
 cases q:H a with
 | none=>rfl
 | some u=>exact ace (aa1 (x.lt q) e) (ab5 _)
theorem qz.kept(x:qz P w H h)(k:∀b u,h.get? b=some u->h'.get? b=some u):qz P w H h':=λa o e=>
 (x a o e).stay (λb u _ q=>k b u q) (λ_ q=>q) λ_ _ q=>q
theorem qz.laid(x:qz P w H h)(k:∀b u,h.get? b=some u->h'.get? b=some u)(hp:h.objs.size<=a)(new:eF P w (upd H a o) h' a o):qz P w (upd H a o) h':=λb u e=>by
 have hn:=x.fresh hp
 by_cases hb:b=a
 .subst hb;rw[ak] at e;cases e;exact new
 .rw[aF hb] at e
  exact(x b u e).stay (λc v _ q=>k c v q) (λc q=>by rw[aF (aB q hn)];exact q) λc xs q=>by rw[aF (aB q hn)];exact q
end
noncomputable def Rd(H:Hp)(a:Addr)(u:HO):Prop:=H a=some u \/ ∃o,H a=some (.FP o u)
theorem Rd.ok{P:Program}{w:World}{H:Hp}{h:Heap}{a:Addr}{u:HO}(r:Rd H a u)(x:qz P w H h):eF P w H h a u:=by
 rcases r with r|⟨o,r⟩
 .exact x a u r
 .obtain⟨_,q⟩:=x a _ r
  exact q
noncomputable def Mut:Option HO->Prop
 | some (.lst _)=>True
 | some (.dK _)=>True
 | some (.dT _)=>True
 | some (.set _ _)=>True
 | some (.ins _ _ _)=>True
 | some (.ext _)=>True
 | _=>False
section
variable{P:Program}{w:World}{H:Hp}{h h':Heap}{x e:Addr}{o':HO}
theorem qz.write(ok:qz P w H h)(mu:Mut (H x))(he:e=x\/H e=some (.own x))(k:∀b u,b≠e->h.get? b=some u->h'.get? b=some u)(heo:∃u,h'.get? e=some u)(new:eF P w (upd H x o') h' x o'):qz P w (upd H x o') h':=λb u q=>by
 have aa4:∀c y,H c=some (.own y)->c≠x:=λc y r z=>by subst z;rw[r] at mu;exact mu
 have aeZ:∀c xs,H c=some (.tup xs)->c≠x:=λc xs r z=>by subst z;rw[r] at mu;exact mu
 by_cases hb:b=x
 .subst hb;rw[ak] at q;cases q;exact new
 .rw[aF hb] at q
  by_cases hbe:b=e
  .have q':H b=some (.own x):=by
    rcases he with z|z
    .exact ace (hbe.trans z) hb
    .rw[hbe];exact z
   rw[q] at q';cases q';obtain⟨v,hv⟩:=heo;exact⟨v,by rw[hbe];exact hv⟩
  .refine(ok b u q).stay (λc v hc r=>k c v ?_ r) (λc r=>by rw[aF (aa4 c b r)];exact r) λc xs r=>by rw[aF (aeZ c xs r)];exact r
   rcases hc with rfl|hc
   .exact hbe
   .rintro rfl
    rcases he with z|z
    .exact aa4 c b hc z
    .rw[hc] at z;cases z;exact hb rfl
end
structure Un(fs ex:List Addr)(H H':Hp)(h h':Heap):Prop where
 keep:∀b o,h.get? b=some o->H b=none->b∉fs->b∉ex->h'.get? b=some o
 slot:∀b o,h.get? b=some o->H b=none->b∈fs->b∉ex -> ∃sl,h'.get? b=some {o with slots:=sl}
 free:∀b o,h.get? b=some o->H b=none->b∉ex->H' b=none
 there:∀b o,h.get? b=some o->b∉ex -> ∃o',h'.get? b=some o'
 tups:∀b xs,H b=some (.tup xs)->H' b=some (.tup xs)
 yD:∀b o u,H b=some (.FP o u)->H' b=some (.FP o u)
 zm:∀b ps,H b=some (.V4 ps) -> ∃more,H' b=some (.V4 (ps++more))
section
variable{fs fs' ex ex':List Addr}{H H1 H2:Hp}{h h1 h2 h':Heap}{a x e:Addr}{o:HO}
theorem Un.any(u:Un fs ex H H1 h h1){b:Addr}{ob:Obj}(q:h.get? b=some ob)(n:H b=none)(hx:b∉ex):∃sl,h1.get? b=some {ob with slots:=sl}:=by
 by_cases hb:b∈fs
 .exact u.slot b ob q n hb hx
 .exact⟨ob.slots,u.keep b ob q n hb hx⟩
theorem Un.kept(k:∀b u,h.get? b=some u->h'.get? b=some u):Un fs ex H H h h':=
 ⟨λb ob q _ _ _=>k b ob q,λb ob q _ _ _=>⟨ob.slots,k b ob q⟩,λ_ _ _ n _=>n,λb ob q _=>⟨ob,k b ob q⟩,λ_ _ q=>q,λ_ _ _ q=>q,λ_ ps q=>⟨#[],by rw[q];simp⟩⟩
theorem Un.refl:Un fs ex H H h h:=Un.kept λ_ _ q=>q
theorem Un.laid(k:∀b u,h.get? b=some u->h'.get? b=some u)(hp:h.objs.size<=a)(hn:H a=none):Un fs ex H (upd H a o) h h' where
 keep:=λb u q _ _ _=>k b u q
 slot:=λb u q _ _ _=>⟨u.slots,k b u q⟩
 free:=λb u q n _=>by rw[aF (aaP (aa1 (aai q) hp))];exact n
 there:=λb u q _=>⟨u,k b u q⟩
 tups:=λb xs q=>by rw[aF (aB q hn)];exact q
 yD:=λb u xs q=>by rw[aF (aB q hn)];exact q
 zm:=λb ps q=>⟨#[],by rw[aF (aB q hn),q];simp⟩
theorem Un.write(mu:Mut (H x))(he:e=x\/H e=some (.own x))(k:∀b u,b≠e->h.get? b=some u->h'.get? b=some u)(heo:∃u,h'.get? e=some u):Un fs ex H (upd H x o) h h':=by
 have hx:∀b,H b=none->b≠x:=λb n z=>by subst z;rw[n] at mu;exact mu
 have hb:∀b,H b=none->b≠e:=λb n z=>by
  subst z;rcases he with r|r
  .exact hx b n r
  .rw[n] at r;cases r
 have hm:∀b u,H b=some u -> ¬Mut (some u)->b≠x:=λb u q nm z=>by subst z;rw[q] at mu;exact nm mu
 refine⟨λb u q n _ _=>k b u (hb b n) q,λb u q n _ _=>⟨u.slots,k b u (hb b n) q⟩,λb u q n _=>by rw[aF (hx b n)];exact n,λb u q _=>?_,
  λb xs q=>by rw[aF (hm b _ q λz=>z)];exact q,λb u xs q=>by rw[aF (hm b _ q λz=>z)];exact q,λb ps q=>⟨#[],by rw[aF (hm b _ q λz=>z),q];simp⟩⟩
 by_cases hbe:b=e
 .subst hbe;exact heo
 .exact⟨u,k b u hbe q⟩
end
noncomputable def Xc(h:Heap)(H:Hp):List Addr:=(List.range h.objs.size).filter λa=>(H a).isSome
noncomputable def CK(h:Heap)(H:Hp):Heap:=PySem.W.hideAll h (Xc h H)
theorem LK(h:Heap)(H:Hp):(CK h H).objs.size=h.objs.size:=PySem.W.hideAll_size _ _
theorem QC{h:Heap}{H:Hp}{b:Addr}{o:Obj}(e:h.get? b=some o)(n:H b=none):(CK h H).get? b=some o:=
 PySem.W.hideAll_get _ e λhm=>by
  have q:(H b).isSome=true:=(abS.mp hm).2;rw[n] at q;simp at q
theorem U0{h:Heap}{H:Hp}{b:Addr}{o:Obj}(e:(CK h H).get? b=some o):h.get? b=some o/\H b=none:=by
 have e':h.get? b=some o:=PySem.W.of_hideAll (Xc h H) e;refine⟨e', ?_⟩;cases q:H b with
 | none=>rfl
 | some x=>
   have hm:b∈Xc h H:=abS.mpr ⟨abY.mpr (aai e'),by simp[q]⟩;have z:(CK h H).get? b=none:=PySem.W.hideAll_none (Xc h H) hm;rw[z] at e;cases e
noncomputable def VL(g h:Heap)(L:Addr):List (Addr×Obj):=(List.range h.objs.size).filterMap λa=>if a=L\/(g.get? a).isSome=true then none else (h.get? a).map λo=>(a,o)
noncomputable def rest(g h:Heap)(L d:Addr):List (Addr×Obj):=(VL g h L).filter λp=>decide (p.1≠d)
structure Mod(K:PySem.W.Frag)(mg:Str->Option Value)(base:Heap):Prop where
 R_:K.In base
 glob:base.Ns mainGlobals mg
 blt:∃mb,base.Ns builtinsNs mb /\ ∀x:Str,x ≠ "__name__" -> mb x=bootBuiltins x
 nolimit:base.NoLimit
structure Cx where
 prog:Program
 w:World
 K:PySem.W.Frag
 mg:Str->Option Value
 base:Heap
 A:Around
 N:List Str
 s₀:Shared
 H₀:Hp
 env:Env
 outer:List Env
 stack:List Env
 ex:List Addr
 fn:Str->Bool
 calm:Bool
 pn:List (Addr×Obj)
 xe:Value->Shared->Prop
noncomputable def frs(l:List Env):List Addr:=l.filterMap (·.frame)
noncomputable abbrev Cx.fs(X:Cx):List Addr:=frs X.outer
noncomputable def Vis(sc:Scope)(x:Str):Prop:=sc.names.lookup x=some .local\/sc.names.lookup x=some .cell\/sc.names.lookup x=some .free
noncomputable def Loc(sc:Scope)(x:Str):Prop:=sc.names.lookup x=some .local\/sc.names.lookup x=some .cell
noncomputable def Look(env:Env)(h:Heap)(m:Str->Option Value)(x:Str)(u:Value):Prop:=
 (env.kindOf x=some .local/\m x=some u)\/((env.kindOf x=some .cell\/env.kindOf x=some .free) /\ ∃c,env.cells.lookup x=some c/\h.IsCell c (some u))
structure Cx.Ok(X:Cx):Prop where
 mod:Mod X.K X.mg X.base
 kind:X.env.scope.kind = .function
 glob:X.env.globals=mainGlobals
 blt:X.env.builtins=builtinsNs
 above:X.s₀.heap.objs.size<=X.env.locals
 inj:∀x y c,X.env.cells.lookup x=some c->X.env.cells.lookup y=some c->x=y
 has:∀x,(X.env.kindOf x=some .cell\/X.env.kindOf x=some .free) -> ∃c,X.env.cells.lookup x=some c
 cab:∀x c,X.fn x=true->X.env.cells.lookup x=some c->X.s₀.heap.objs.size<=c
 hd:X.calm=true->X.A.handled=none
 frames:X.A.frames=some X.stack
 stk:X.stack=X.outer\/(X.stack=X.env::X.outer/\X.env.frame=some X.env.locals)
 exf:∀b∈X.ex,b≠X.env.locals /\ ∀x c,X.env.cells.lookup x=some c->c≠b
 bs:∀b o,X.base.get? b=some o->X.s₀.heap.get? b=some o/\X.H₀ b=none
 Rq:X.base.objs.size<=X.s₀.heap.objs.size
 Ql:∀b o,X.base.get? b=some o->b∉X.ex
 Vo:∀b∈X.ex,b∉X.fs
 tQ:X.s₀.heap.FunFrames X.base X.outer
 WQ:∀b∈X.fs,X.H₀ b=none
structure Inv(X:Cx)(pins:List (Addr×Obj))(σ:List (Option V))(H:Hp)(s:Shared):Prop where
 ok:X.Ok
 os:s.os=X.s₀.os
 bare:AllBare s.gens
 base:Un X.fs X.ex X.H₀ H X.s₀.heap s.heap
 loc:∃m,s.heap.Ns X.env.locals m /\ ∀(i:Nat)(x:Str)(v:V),X.N[i]? = some x->σ[i]? = some (some v)->Vis X.env.scope x -> ∃u,RelV v u/\Look X.env s.heap m x u
 cell:∀x c,X.env.cells.lookup x=some c -> ∃v,s.heap.IsCell c v
 free:H X.env.locals=none
 pL:∀x c,X.env.cells.lookup x=some c->H c=none
 pin:∀p∈X.pn++pins,s.heap.get? p.1=some p.2/\H p.1=none/\p.1≠X.env.locals/\p.1∉X.fs /\ ∀v,p.2.data ≠ .cell v
 hok:qz X.prog X.w H s.heap
 len:σ.length=X.N.length
section
variable{X:Cx}{pins:List (Addr×Obj)}{σ:List (Option V)}{H H':Hp}{s:Shared}{h':Heap}
theorem Cx.Ok.ae4(ok:X.Ok){b:Addr}{o:Obj}(e:X.base.get? b=some o):b∉X.fs:=λhb=>by
 have:=(ok.tQ.mem hb).1;rw[e] at this;cases this
theorem Inv.bs(I:Inv X pins σ H s):∀b o,X.base.get? b=some o->s.heap.get? b=some o/\H b=none:=λb o e=>
 ⟨I.base.keep b o (I.ok.bs b o e).1 (I.ok.bs b o e).2 (I.ok.ae4 e) (I.ok.Ql b o e),I.base.free b o (I.ok.bs b o e).1 (I.ok.bs b o e).2 (I.ok.Ql b o e)⟩
theorem Inv.bk(I:Inv X pins σ H s):∀b o,X.base.get? b=some o->s.heap.get? b=some o:=λb o e=>(I.bs b o e).1
theorem Inv.mod(I:Inv X pins σ H s):Mod X.K X.mg X.base:=I.ok.mod
theorem Inv.rN(I:Inv X pins σ H s):X.K.In s.heap:=I.ok.mod.R_.keeps I.bk
theorem Inv.fr(I:Inv X pins σ H s):∃m,Fr X.base X.env.locals s.heap m:=
 let ⟨m,hn,_⟩:=I.loc
 ⟨m,hn,I.bk,ab9 I.ok.Rq I.ok.above⟩
theorem Inv.lt(I:Inv X pins σ H s):X.env.locals<s.heap.objs.size:=let ⟨_,hn,_⟩:=I.loc;hn.lt
theorem Inv.sz(I:Inv X pins σ H s):X.s₀.heap.objs.size<=s.heap.objs.size:=ab9 I.ok.above (Nat.le_of_lt I.lt)
theorem Inv.ae3(I:Inv X pins σ H s){a:Addr}(h:s.heap.objs.size<=a):a∉X.fs:=λhb=>by
 obtain⟨_,o,ho,_⟩:=I.ok.tQ.mem hb;exact ace (aa1 (aai ho) (ab9 I.sz h)) (ab5 _)
theorem Inv.Zu(I:Inv X pins σ H s):∀x c,X.env.cells.lookup x=some c->c≠X.env.locals:=λx c e z=>by
 obtain⟨v,o,ho,hd⟩:=I.cell x c e;obtain⟨m,⟨o',es,ep,ho',hd',_⟩,_⟩:=I.loc;rw[z,ho'] at ho;cases ho;rw[hd'] at hd;cases hd
theorem Inv.tQ(I:Inv X pins σ H s):s.heap.FunFrames X.base X.outer:=by
 have all:∀(l:List Env),(∀b∈frs l,b∈X.fs)->X.s₀.heap.FunFrames X.base l->s.heap.FunFrames X.base l:=by
  intro l
  induction l with
  | nil=>intro _ _;trivial
  | cons env r ih=>
    intro hs hl;obtain⟨hk,⟨L,o,hf,hn,ho,hd⟩,hr⟩:=hl;have hL:L∈X.fs:=hs L (by unfold frs;rw[List.filterMap_cons,hf];exact List.mem_cons_self);obtain⟨sl,e⟩:=I.base.slot L o ho (I.ok.WQ L hL) hL λz=>I.ok.Vo L z hL;exact⟨hk,⟨L,_,hf,hn,e,hd⟩,ih (λb hb=>hs b (by unfold frs;rw[List.filterMap_cons,hf];exact aa7 _ hb)) hr⟩
 exact all X.outer (λ_ hb=>hb) I.ok.tQ
theorem Inv.stack(I:Inv X pins σ H s):s.heap.FunFrames X.base X.stack:=by
 rcases I.ok.stk with e|⟨e,hf⟩
 .rw[e];exact I.tQ
 .rw[e]
  obtain⟨m,hn,_⟩:=I.loc;refine .cons (by rw[I.ok.kind];decide) hf hn ?_ I.tQ;exact Heap.get?_none_of_le (ab9 I.ok.Rq I.ok.above)
theorem Inv.wR(I:Inv X pins σ H s):∀b∈frs X.stack,b∈X.env.locals::X.fs:=λb hb=>by
 rcases I.ok.stk with e|⟨e,hf⟩
 .rw[e] at hb;exact aa7 _ hb
 .rw[e] at hb
  unfold frs at hb;rw[List.filterMap_cons,hf] at hb;exact hb
theorem Inv.Bg(I:Inv X pins σ H s):∀b∈frs X.stack,H b=none:=λb hb=>by
 rcases List.mem_cons.mp (I.wR b hb) with e|hb
 .rw[e];exact I.free
 .obtain⟨_,o,ho,_⟩:=I.ok.tQ.mem hb
  exact I.base.free b o ho (I.ok.WQ b hb) λz=>I.ok.Vo b z hb
theorem Inv.step{g':Array GenState}{t':Nat}{d':Drawn}{ch:List Addr}(I:Inv X pins σ H s)(hch:∀b∈ch,(b∈X.ex\/X.s₀.heap.objs.size<=b)/\b≠X.env.locals/\(∀x c,X.env.cells.lookup x=some c->c≠b) /\ ∀p∈X.pn++pins,p.1≠b)(keep:∀b o,b≠X.env.locals->b∉X.fs->b∉ch->s.heap.get? b=some o->H b=none->h'.get? b=some o)(slot:∀b o,b≠X.env.locals->b∈X.fs->b∉ch->s.heap.get? b=some o->H b=none -> ∃sl,h'.get? b=some {o with slots:=sl})(free:∀b o,b∉ch->s.heap.get? b=some o->H b=none->H' b=none)(there:∀b o,b∉ch->s.heap.get? b=some o -> ∃o',h'.get? b=some o')(tups:∀b xs,H b=some (.tup xs)->H' b=some (.tup xs))(yD:∀b o u,H b=some (.FP o u)->H' b=some (.FP o u))(zm:∀b ps,H b=some (.V4 ps) -> ∃more,H' b=some (.V4 (ps++more)))(ns:∀m,s.heap.Ns X.env.locals m->h'.Ns X.env.locals m)(hok:qz X.prog X.w H' h')(hg:AllBare g'):
 Inv X pins σ H' {s with heap:=h',gens:=g',drawn:=d',toks:=t'}:=by
 have neL:∀b o,X.s₀.heap.get? b=some o->b≠X.env.locals:=λb o e=>aaP (aa1 (aai e) I.ok.above)
 have neC:∀b o,X.s₀.heap.get? b=some o->b∉X.ex->b∉ch:=λb o e hx hb=>by
  rcases(hch b hb).1 with z|z
  .exact hx z
  .exact ace (aa1 (aai e) z) (ab5 _)
 have cellK:∀x c,X.env.cells.lookup x=some c -> ∀v,s.heap.IsCell c v->h'.IsCell c v:=λx c e v ⟨o,ho,hd⟩=>by
  have nch:c∉ch:=λz=>(hch c z).2.2.1 x c e rfl
  by_cases hc:c∈X.fs
  .obtain⟨sl,q⟩:=slot c o (I.Zu x c e) hc nch ho (I.pL x c e)
   exact⟨_,q,hd⟩
  .exact⟨o,keep c o (I.Zu x c e) hc nch ho (I.pL x c e),hd⟩
 refine⟨I.ok,I.os,hg,⟨λb o e n hb hx=>?_,λb o e n hb hx=>?_,λb o e n hx=>?_,λb o e hx=>?_,λb xs e=>tups b xs (I.base.tups b xs e),λb o xs e=>yD b o xs (I.base.yD b o xs e),λb ps e=>?_⟩, ?_,λx c e=>?_, ?_,λx c e=>?_,λp hp=>?_,hok,I.len⟩
 .exact keep b o (neL b o e) hb (neC b o e hx) (I.base.keep b o e n hb hx) (I.base.free b o e n hx)
 .obtain⟨sl,e1⟩:=I.base.slot b o e n hb hx
  obtain⟨sl',e2⟩:=slot b _ (neL b o e) hb (neC b o e hx) e1 (I.base.free b o e n hx);exact⟨sl',e2⟩
 .obtain⟨o',e1⟩:=I.base.there b o e hx
  exact free b o' (neC b o e hx) e1 (I.base.free b o e n hx)
 .obtain⟨o',e1⟩:=I.base.there b o e hx
  exact there b o' (neC b o e hx) e1
 .obtain⟨m1,e1⟩:=I.base.zm b ps e
  obtain⟨m2,e2⟩:=zm b _ e1;exact⟨m1++m2,by rw[e2,Array.append_assoc]⟩
 .obtain⟨m,hn,hl⟩:=I.loc
  refine⟨m,ns m hn,λi x v e1 e2 e3=>?_⟩;obtain⟨u,r,l⟩:=hl i x v e1 e2 e3;refine⟨u,r, ?_⟩;rcases l with l|⟨k,c,e,z⟩
  .exact .inl l
  .exact .inr ⟨k,c,e,cellK x c e _ z⟩
 .obtain⟨v,z⟩:=I.cell x c e
  exact⟨v,cellK x c e v z⟩
 .obtain⟨m,⟨o,_,_,ho,_⟩,_⟩:=I.loc
  exact free _ o (λz=>(hch _ z).2.1 rfl) ho I.free
 .obtain⟨v,o,ho,hd⟩:=I.cell x c e
  exact free c o (λz=>(hch c z).2.2.1 x c e rfl) ho (I.pL x c e)
 .obtain⟨e,n,ne,nf,d⟩:=I.pin p hp
  have nch:p.1∉ch:=λz=>(hch p.1 z).2.2.2 p hp rfl;exact⟨keep p.1 p.2 ne nf nch e n,free p.1 p.2 nch e n,ne,nf,d⟩
theorem Inv.un{t':Nat}(I:Inv X pins σ H s)(u:Un X.fs [] H H' s.heap h')(hok:qz X.prog X.w H' h'):Inv X pins σ H' {s with heap:=h',toks:=t'}:=by
 obtain⟨m,⟨o,es,ep,ho,r⟩,_⟩:=id I.loc;obtain⟨sl,hL⟩:=u.any ho I.free (by simp)
 exact I.step (g':=s.gens) (d':=s.drawn) (ch:=[]) (λ_ z=>nomatch z) (λb o _ hb _ e n=>u.keep b o e n hb (by simp)) (λb o _ hb _ e n=>u.slot b o e n hb (by simp)) (λb o _ e n=>u.free b o e n (by simp)) (λb o _ e=>u.there b o e (by simp)) u.tups u.yD u.zm (λm' hm=>by
  obtain⟨o',es',ep',ho',r'⟩:=hm;rw[ho] at ho';cases ho';exact⟨_,es',ep',hL,r'⟩) hok I.bare
theorem Inv.call{g':Array GenState}{t':Nat}{d':Drawn}{ch:List Addr}(I:Inv X pins σ H s)(u:Un (frs X.stack) ch H H' s.heap h')(hok:qz X.prog X.w H' h')(hg:AllBare g')(hch:∀b∈ch,(b∈X.ex\/X.s₀.heap.objs.size<=b)/\b≠X.env.locals/\(∀x c,X.env.cells.lookup x=some c->c≠b) /\ ∀p∈X.pn++pins,p.1≠b):
 Inv X pins σ H' {s with heap:=h',gens:=g',drawn:=d',toks:=t'}:=by
 obtain⟨m,⟨o,es,ep,ho,r⟩,_⟩:=id I.loc;obtain⟨sl,hL⟩:=u.any ho I.free λz=>(hch _ z).2.1 rfl
 exact I.step (ch:=ch) hch (λb o hL hb hc e n=>u.keep b o e n (λz=>(List.mem_cons.mp (I.wR b z)).elim hL hb) hc) (λb o _ _ hc e n=>u.any e n hc) (λb o hc e n=>u.free b o e n hc) (λb o hc e=>u.there b o e hc) u.tups u.yD u.zm (λm' hm=>by
  obtain⟨o',es',ep',ho',r'⟩:=hm;rw[ho] at ho';cases ho';exact⟨_,es',ep',hL,r'⟩) hok hg
theorem Inv.turned{t':Nat}{it:Addr}(I:Inv X pins σ H s)(k:∀b o,b≠it->s.heap.get? b=some o->h'.get? b=some o)(hn:H it=none)(hL:it≠X.env.locals)(h1:it∈X.ex\/X.s₀.heap.objs.size<=it)(h2:∀x c,X.env.cells.lookup x=some c->c≠it)(h3:∀p∈X.pn++pins,p.1≠it):Inv X pins σ H {s with heap:=h',toks:=t'}:=by
 have nit:∀b u,H b=some u->b≠it:=λb u e z=>by rw[z,hn] at e;cases e
 refine I.step (g':=s.gens) (d':=s.drawn) (ch:=[it]) (λb hb=>?_) (λb o _ _ hc e _=>k b o (λz=>hc (by simp[z])) e) (λb o _ _ hc e _=>⟨o.slots,k b o (λz=>hc (by simp[z])) e⟩) (λ_ _ _ _ n=>n)
  (λb o hc e=>⟨o,k b o (λz=>hc (by simp[z])) e⟩) (λ_ _ e=>e) (λ_ _ _ e=>e) (λb ps e=>⟨#[],by rw[e];simp⟩) (λm hm=>?_) (λb u e=>?_) I.bare
 .have e:b=it:=by simpa using hb
  subst e;exact⟨h1,hL,h2,h3⟩
 .obtain⟨o,es,ep,ho,r⟩:=hm
  exact⟨o,es,ep,k _ o (Ne.symm hL) ho,r⟩
 .refine(I.hok b u e).stay (λc v hc q=>k c v ?_ q) (λ_ q=>q) λ_ _ q=>q
  rcases hc with z|z
  .rw[z];exact nit b u e
  .exact nit c _ z
theorem Inv.tok(I:Inv X pins σ H s)(t:Nat):Inv X pins σ H {s with toks:=t}:=I.un (h':=s.heap) (t':=t) Un.refl I.hok
theorem Inv.kept{t':Nat}(I:Inv X pins σ H s)(k:∀b u,s.heap.get? b=some u->h'.get? b=some u):Inv X pins σ H {s with heap:=h',toks:=t'}:=I.un (Un.kept k) (I.hok.kept k)
theorem Inv.laid{a:Addr}{o:HO}{t':Nat}(I:Inv X pins σ H s)(k:∀b u,s.heap.get? b=some u->h'.get? b=some u)(hp:s.heap.objs.size<=a)(new:eF X.prog X.w (upd H a o) h' a o):
 Inv X pins σ (upd H a o) {s with heap:=h',toks:=t'}:=I.un (Un.laid k hp (I.hok.fresh hp)) (I.hok.laid k hp new)
theorem Inv.write{x e:Addr}{o:HO}{t':Nat}(I:Inv X pins σ H s)(mu:Mut (H x))(he:e=x\/H e=some (.own x))(k:∀b u,b≠e->s.heap.get? b=some u->h'.get? b=some u)(heo:∃u,h'.get? e=some u)(new:eF X.prog X.w (upd H x o) h' x o):Inv X pins σ (upd H x o) {s with heap:=h',toks:=t'}:=I.un (Un.write mu he k heo) (I.hok.write mu he k heo new)
theorem Inv.JK{JL:List (Addr×Obj)}(I:Inv X pins σ H s)(h:∀p∈JL,s.heap.get? p.1=some p.2/\H p.1=none/\p.1≠X.env.locals/\p.1∉X.fs /\ ∀v,p.2.data ≠ .cell v):Inv X JL σ H s:=
 ⟨I.ok,I.os,I.bare,I.base,I.loc,I.cell,I.free,I.pL,λp hp=>(abb.mp hp).elim (λz=>I.pin p (List.mem_append_left _ z)) (h p),I.hok,I.len⟩
theorem Fg{N:List Str}(hN:N.Nodup){i j:Nat}{x:Str}(a:N[i]? = some x)(b:N[j]? = some x):i=j:=by
 obtain⟨h1,e1⟩:=aae.mp a;obtain⟨h2,e2⟩:=aae.mp b;exact(List.getElem_inj hN).mp (e1.trans e2.symm)
theorem zQ{M:Model}{A:Around}{E:Value->Shared->Prop}{i:Nat}{x:Str}{v:V}{u:Value}{Q:Unit->Shared->Prop}(I:Inv X pins σ H s)(hN:X.N.Nodup)(hi:X.N[i]? = some x)(hx:Loc X.env.scope x)(r:RelV v u)(h:∀s',Inv X pins (σ.set i (some v)) H s'->(∃a,Heap.SameBut a s.heap s'.heap/\(a=X.env.locals\/X.env.cells.lookup x=some a))->Q () s')(hf:X.fn x=true\/X.env.scope.names.lookup x=some .local:=by first |exact .inl rfl|exact .inr rfl|assumption):wpAny M A (storeName X.env x u) Q E s:=by
 obtain⟨m,hn,hl⟩:=id I.loc;have hcls:(X.env.scope.kind == .class||(X.env.scope.kind == .module&&X.env.locals != X.env.globals))=false:=by rw[I.ok.kind];rfl
 have ag1:i<σ.length:=by rw[I.len];exact(aae.mp hi).1
 have Zu:=I.Zu
 have tracked:∀{a:Addr}{h':Heap},(∃o,s.heap.get? a=some o/\H a=none)->Heap.SameBut a s.heap h'->qz X.prog X.w H h':=fun {a h'} ha hs b ob e=>by
  obtain⟨_,_,hfree⟩:=ha;refine(I.hok b ob e).stay (λc w' hc q=>(hs.2 c ?_).trans q) (λ_ q=>q) λ_ _ q=>q;rintro rfl;rcases hc with rfl|hc
  .rw[hfree] at e;cases e
  .rw[hfree] at hc;cases hc
 rcases hx with hk|hk
 .refine wpAny_storeName_local hk hn (λh' hn' hs=>?_) hcls
  obtain⟨oL,_,_,hoL,_⟩:=id hn;refine h _ ⟨I.ok,I.os,I.bare,⟨λb o e n hb hx=>?_,λb o e n hb hx=>?_,I.base.free,λb o e hx=>?_,I.base.tups,I.base.yD,I.base.zm⟩,⟨_,hn',λj y v' e1 e2 e3=>?_⟩,λy c e=>?_,I.free,I.pL,λp hp=>?_,tracked ⟨oL,hoL,I.free⟩ hs,by simpa using I.len⟩ ⟨_,hs,.inl rfl⟩
  .exact(hs.2 b (aaP (aa1 (aai e) I.ok.above))).trans (I.base.keep b o e n hb hx)
  .obtain⟨sl,e1⟩:=I.base.slot b o e n hb hx
   exact⟨sl,(hs.2 b (aaP (aa1 (aai e) I.ok.above))).trans e1⟩
  .obtain⟨o',e1⟩:=I.base.there b o e hx
   exact⟨o',(hs.2 b (aaP (aa1 (aai e) I.ok.above))).trans e1⟩
  .by_cases hj:j=i
   .subst hj
    rw[hi] at e1;cases e1;rw[List.getElem?_set_self ag1] at e2;cases e2;exact⟨u,r,.inl ⟨hk,by simp⟩⟩
   .rw[List.getElem?_set_ne (Ne.symm hj)] at e2
    obtain⟨u',r',q⟩:=hl j y v' e1 e2 e3;refine⟨u',r', ?_⟩;rcases q with ⟨k,e⟩|⟨k,c,e,z⟩
    .refine .inl ⟨k, ?_⟩
     have:y≠x:=λe=>hj (Fg hN e1 (e▸hi));simp[this,e]
    .exact .inr ⟨k,c,e,z.sameBut hs (Zu y c e)⟩
  .obtain⟨w',z⟩:=I.cell y c e
   exact⟨w',z.sameBut hs (Zu y c e)⟩
  .obtain⟨e,n,ne,nf,d⟩:=I.pin p hp
   exact⟨(hs.2 p.1 ne).trans e,n,ne,nf,d⟩
 .have hfn:X.fn x=true:=by
   rcases hf with z|z
   .exact z
   .rw[z] at hk;cases hk
  obtain⟨c,hc⟩:=I.ok.has x (.inl hk);obtain⟨w',z⟩:=I.cell x c hc;refine wpAny_storeName_cell I.ok.kind hk hc z (λh' hc' hs=>?_);obtain⟨oc,hoc,afn⟩:=id z;refine h {s with heap:=h'} ⟨I.ok,I.os,I.bare,⟨λb o e n hb hx=>?_,λb o e n hb hx=>?_,I.base.free,λb o e hx=>?_,I.base.tups,I.base.yD,I.base.zm⟩,⟨m,hn.sameBut hs (Ne.symm (Zu x c hc)),λj y v' e1 e2 e3=>?_⟩,λy c' e=>?_,I.free,I.pL,λp hp=>?_,tracked ⟨oc,hoc,I.pL x c hc⟩ hs,by simpa using I.len⟩ ⟨c,hs,.inr hc⟩
  .exact(hs.2 b (aaP (aa1 (aai e) (I.ok.cab x c hfn hc)))).trans (I.base.keep b o e n hb hx)
  .obtain⟨sl,e1⟩:=I.base.slot b o e n hb hx
   exact⟨sl,(hs.2 b (aaP (aa1 (aai e) (I.ok.cab x c hfn hc)))).trans e1⟩
  .obtain⟨o',e1⟩:=I.base.there b o e hx
   exact⟨o',(hs.2 b (aaP (aa1 (aai e) (I.ok.cab x c hfn hc)))).trans e1⟩
  .by_cases hj:j=i
   .subst hj
    rw[hi] at e1;cases e1;rw[List.getElem?_set_self ag1] at e2;cases e2;exact⟨u,r,.inr ⟨.inl hk,c,hc,hc'⟩⟩
   .rw[List.getElem?_set_ne (Ne.symm hj)] at e2
    obtain⟨u',r',q⟩:=hl j y v' e1 e2 e3;refine⟨u',r', ?_⟩;rcases q with q|⟨k,c',e,z'⟩
    .exact .inl q
    .refine .inr ⟨k,c',e,z'.sameBut hs ?_⟩
     rintro rfl;exact hj (Fg hN e1 (I.ok.inj _ _ _ e hc▸hi))
  .by_cases hcc:c'=c
   .subst hcc;exact⟨_,hc'⟩
   .obtain⟨w2,z2⟩:=I.cell y c' e
    exact⟨w2,z2.sameBut hs hcc⟩
  .obtain⟨e,n,ne,nf,d⟩:=I.pin p hp
   refine⟨(hs.2 p.1 ?_).trans e,n,ne,nf,d⟩;intro q;rw[q,hoc] at e;have q':oc=p.2:=aaC e;exact d w' (by rw[←q'];exact afn)
theorem wQ{M:Model}{A:Around}{E:Value->Shared->Prop}{i:Nat}{x:Str}{v:V}{u:Value}{Q:Unit->Shared->Prop}(I:Inv X pins σ H s)(hN:X.N.Nodup)(hi:X.N[i]? = some x)(hx:Loc X.env.scope x)(r:RelV v u)(h:∀s',Inv X pins (σ.set i (some v)) H s'->Q () s')(hf:X.fn x=true\/X.env.scope.names.lookup x=some .local:=by first |exact .inl rfl|exact .inr rfl|assumption):wpAny M A (storeName X.env x u) Q E s:=
 zQ I hN hi hx r (λs' I' _=>h s' I') hf
theorem Inv.call'{s':Shared}{ch:List Addr}(I:Inv X pins σ H s)(ho:s'.os=s.os)(u:Un (frs X.stack) ch H H' s.heap s'.heap)(hok:qz X.prog X.w H' s'.heap)(hg:AllBare s'.gens)(hch:∀b∈ch,(b∈X.ex\/X.s₀.heap.objs.size<=b)/\b≠X.env.locals/\(∀x c,X.env.cells.lookup x=some c->c≠b) /\ ∀p∈X.pn++pins,p.1≠b):Inv X pins σ H' s':=by
 obtain⟨h',g',d',t',o'⟩:=s';have e:o'=s.os:=ho;subst e;exact I.call (g':=g') (t':=t') (d':=d') u hok hg hch
end
noncomputable abbrev XK:=Value->Option Addr->Hp->Prop
noncomputable abbrev St:=List (Option V)
noncomputable abbrev VK:=V->Hp->Prop
noncomputable abbrev TE:=St->Hp->VK->Prop
noncomputable abbrev TT:=St->Hp->(Bool->Hp->Prop)->Prop
noncomputable abbrev TA:=St->Hp->(List V->Hp->Prop)->Prop
structure Ends where
 nx:St->Hp->Prop
 rt:VK
 bk:St->Hp->Prop:=λ_ _=>False
 ct:St->Hp->Prop:=λ_ _=>False
noncomputable abbrev TS:=Ends->St->Hp->Prop
noncomputable def EP(X:Cx)(pins:List (Addr×Obj))(σ:St)(Q:VK)(u:Value)(s':Shared):Prop:=∃v H',Inv X pins σ H' s'/\RelV v u/\Q v H'
noncomputable def TP(X:Cx)(pins:List (Addr×Obj))(σ:St)(Q:Bool->Hp->Prop)(b:Bool)(s':Shared):Prop:=∃H',Inv X pins σ H' s'/\Q b H'
noncomputable def AP(X:Cx)(pins:List (Addr×Obj))(σ:St)(Q:List V->Hp->Prop)(us:List Value)(s':Shared):Prop:=∃vs H',Inv X pins σ H' s'/\Vals vs us/\Q vs H'
noncomputable def SP(X:Cx)(pins:List (Addr×Obj))(D:Ends)(f:Flow)(s':Shared):Prop:=
 match f with
 | .next=>∃σ' H',Inv X pins σ' H' s'/\D.nx σ' H'
 | .brk=>∃σ' H',Inv X pins σ' H' s'/\D.bk σ' H'
 | .cont=>∃σ' H',Inv X pins σ' H' s'/\D.ct σ' H'
 | .ret u=>∃v σ' H',Inv X pins σ' H' s'/\RelV v u/\D.rt v H'
noncomputable def PE(X:Cx)(e:Expr)(t:TE):Prop:=
 ∀(pins:List (Addr×Obj))(s:Shared)(σ:St)(H:Hp)(Q:VK),Inv X pins σ H s->t σ H Q->wpAny (model X.prog X.w) X.A (eval e X.env) (EP X pins σ Q) X.xe s
noncomputable def PT(X:Cx)(e:Expr)(t:TT):Prop:=
 ∀(pins:List (Addr×Obj))(s:Shared)(σ:St)(H:Hp)(Q:Bool->Hp->Prop),Inv X pins σ H s->t σ H Q->wpAny (model X.prog X.w) X.A (isTrue e X.env (eval e X.env)) (TP X pins σ Q) X.xe s
noncomputable def PW(X:Cx)(e:Expr)(t:TT):Prop:=
 ∀(whole:Sem Value)(pins:List (Addr×Obj))(s:Shared)(σ:St)(H:Hp)(Q:Bool->Hp->Prop),Inv X pins σ H s->t σ H Q->wpAny (model X.prog X.w) X.A (isTrue e X.env whole) (TP X pins σ Q) X.xe s
theorem PW.pt{X:Cx}{e:Expr}{t:TT}(h:PW X e t):PT X e t:=h _
noncomputable def PA(X:Cx)(es:List Expr)(t:TA):Prop:=
 ∀(pos:Pos)(pins:List (Addr×Obj))(s:Shared)(σ:St)(H:Hp)(Q:List V->Hp->Prop),Inv X pins σ H s->t σ H Q->wpAny (model X.prog X.w) X.A (spliced (backTo pos (starEach es X.env))) (AP X pins σ Q) X.xe s
noncomputable def PS(X:Cx)(st:Stmt)(t:TS):Prop:=
 ∀(pins:List (Addr×Obj))(s:Shared)(σ:St)(H:Hp)(D:Ends),Inv X pins σ H s->t D σ H->wpAny (model X.prog X.w) X.A (exec st X.env) (SP X pins D) X.xe s
noncomputable def IW(X:Cx)(st:List Stmt)(t:TS):Prop:=
 ∀(pins:List (Addr×Obj))(s:Shared)(σ:St)(H:Hp)(D:Ends),Inv X pins σ H s->t D σ H->wpAny (model X.prog X.w) X.A (execs st X.env) (SP X pins D) X.xe s
theorem dG{α:Type}{t:Sem α}{Q Q':α->Shared->Prop}{M:Model}{A:Around}{E:Value->Shared->Prop}{s:Shared}(h:wpAny M A t Q E s)(hQ:∀a s,Q a s->Q' a s):wpAny M A t Q' E s:=wpAny_mono h hQ λ_ _ x=>x
section
variable{X:Cx}
noncomputable def cW(i:Nat):TE:=λσ H Q=>∃v,σ[i]? = some (some v)/\Q v H
noncomputable def tC(v:V):TE:=λ_ H Q=>Q v H
theorem Yd{i:Nat}{x:Str}{pos:Pos}(hN:X.N[i]? = some x)(hv:Vis X.env.scope x)(hd:(x==("__debug__" :Str))=false:=by decide)(hcd:(x==("__classdict__" :Str))=false:=by decide):PE X (.Name x pos) (cW i):=by
 intro pins s σ H Q I h;obtain⟨v,e,h⟩:=h;obtain⟨m,hn,hl⟩:=I.loc;obtain⟨u,r,l⟩:=hl i x v hN e hv;have fin:EP X pins σ Q u s:=⟨v,H,I,r,h⟩;rcases l with ⟨hk,hm⟩|⟨hk,c,hc,hcell⟩
 .exact wpAny_Name (wpAny_loadName_local I.ok.kind hk hn hm fin) hd
 .rcases hk with hk|hk
  .exact wpAny_Name (wpAny_loadName_cell I.ok.kind hk hc hcell fin) hd
  .exact wpAny_Name (wpAny_loadName_free I.ok.kind hk hc hcell fin hcd) hd
theorem aC{i j pos}:PE X (.Constant (.int i) j pos) (tC (.int i)):=λ_ _ _ H _ I h=>wpAny_Constant_int ⟨.int i,H,I.tok _,⟨_,acg⟩,h⟩
theorem oA{b j pos}:PE X (.Constant (.bool b) j pos) (tC (.bl b)):=λ_ _ _ H _ I h=>Constant_bool ⟨.bl b,H,I,acg,h⟩
theorem jY{j pos}:PE X (.Constant .none j pos) (tC .non):=λ_ _ _ H _ I h=>Constant_none ⟨.non,H,I,acg,h⟩
theorem bO{x j pos}:PE X (.Constant (.str x) j pos) (tC (.str x)):=λ_ _ _ H _ I h=>Calls.Constant_str ⟨.str x,H,I.tok _,⟨_,acg⟩,h⟩
noncomputable def Gl(X:Cx)(x:Str):Prop:=X.env.kindOf x=some .globalImplicit
theorem tH{E:Value->Shared->Prop}{pins:List (Addr×Obj)}{s:Shared}{σ:St}{H:Hp}{x:Str}{u:Value}{pos:Pos}{Q:Value->Shared->Prop}(I:Inv X pins σ H s)(hg:Gl X x)(hm:X.mg x=some u)(h:Q u s)(hd:(x==("__debug__" :Str))=false:=by decide):wpAny (model X.prog X.w) X.A (eval (.Name x pos) X.env) Q E s:=
 Calls.Name_function_global I.ok.kind hg (Calls.loadGlobal_global (by rw[I.ok.glob];exact I.mod.glob.keeps I.bk) hm h) hd
theorem nQ{E:Value->Shared->Prop}{pins:List (Addr×Obj)}{s:Shared}{σ:St}{H:Hp}{x:Str}{u:Value}{pos:Pos}{Q:Value->Shared->Prop}(I:Inv X pins σ H s)(hg:Gl X x)(hm:X.mg x=none)(hv:bootBuiltins x=some u)(h:Q u s)(hn:x ≠ "__name__" :=by decide)(hd:(x==("__debug__" :Str))=false:=by decide):wpAny (model X.prog X.w) X.A (eval (.Name x pos) X.env) Q E s:=by
 obtain⟨mb,h1,h2⟩:=I.mod.blt;exact Calls.Name_function_global I.ok.kind hg (Calls.loadGlobal_builtin (by rw[I.ok.glob];exact I.mod.glob.keeps I.bk) hm (by rw[I.ok.blt];exact h1.keeps I.bk) ((h2 x hn).trans hv) h) hd
theorem kO{x:Str}{v:V}{u:Value}{pos:Pos}(hg:Gl X x)(hm:X.mg x=some u)(r:RelV v u)(hd:(x==("__debug__" :Str))=false:=by decide):PE X (.Name x pos) (tC v):=
 λ_ _ _ H _ I h=>tH I hg hm ⟨v,H,I,r,h⟩ hd
theorem eH{x:Str}{v:V}{u:Value}{pos:Pos}(hg:Gl X x)(hm:X.mg x=none)(hv:bootBuiltins x=some u)(r:RelV v u)(hn:x ≠ "__name__" :=by decide)(hd:(x==("__debug__" :Str))=false:=by decide):PE X (.Name x pos) (tC v):=
 λ_ _ _ H _ I h=>nQ I hg hm hv ⟨v,H,I,r,h⟩ hn hd
variable{a b:Expr}{ta tb:TE}{pos:Pos}
noncomputable def tB(t:TE):TT:=λσ H Q=>t σ H λx H1=>∃c,x = .bl c/\Q c H1
theorem dB{e:Expr}{t:TE}(h:PE X e t)(he:∀whole,isTrue e X.env whole=(do let v ←whole;standAt e.pos;holding [v] (truthy v)):=by intro _;rfl):PT X e (tB t):=by
 intro pins s σ H Q I hw;refine isTrue_plain (dG (h pins s σ H _ I hw) λv s1 ⟨x,H1,I1,r1,q1⟩=>?_) (he _);obtain⟨d,rfl,q⟩:=q1;cases r1;exact wpAny_truthy_bool ⟨H1,I1,q⟩
variable{tA tB':TT}{rest:List Expr}
noncomputable def Ti(t u:TT):TT:=λσ H Q=>t σ H λc H1=>if c=true then u σ H1 Q else Q false H1
noncomputable def tOr(t u:TT):TT:=λσ H Q=>t σ H λc H1=>if c=true then Q true H1 else u σ H1 Q
noncomputable def aaH(t:TT):TT:=λσ H Q=>t σ H λc H1=>Q (!c) H1
theorem sW(ha:PT X a tA):PW X (.BoolOp .And [a] pos) tA:=by
 intro wh pins s σ H Q I h;refine isTrue_and (dG (ha pins s σ H Q I h) λc s1 e=>?_);cases c with
 | true=>exact isTrue_and_nil e
 | false=>exact e
theorem jU(ha:PT X a tA):PW X (.BoolOp .Or [a] pos) tA:=by
 intro wh pins s σ H Q I h;refine isTrue_or (dG (ha pins s σ H Q I h) λc s1 e=>?_);cases c with
 | false=>exact isTrue_or_nil e
 | true=>exact e
theorem xU(ha:PT X a tA)(hb:PW X (.BoolOp .And (b::rest) pos) tB'):PW X (.BoolOp .And (a::b::rest) pos) (Ti tA tB'):=by
 intro wh pins s σ H Q I h;refine isTrue_and (dG (ha pins s σ H _ I h) λc s1 ⟨H1,I1,q1⟩=>?_);cases c with
 | true=>exact hb wh pins s1 σ H1 Q I1 q1
 | false=>exact⟨H1,I1,q1⟩
theorem jV(ha:PT X a tA)(hb:PW X (.BoolOp .Or (b::rest) pos) tB'):PW X (.BoolOp .Or (a::b::rest) pos) (tOr tA tB'):=by
 intro wh pins s σ H Q I h;refine isTrue_or (dG (ha pins s σ H _ I h) λc s1 ⟨H1,I1,q1⟩=>?_);cases c with
 | true=>exact⟨H1,I1,q1⟩
 | false=>exact hb wh pins s1 σ H1 Q I1 q1
theorem gU(ha:PT X a tA):PT X (.UnaryOp .Not a pos) (aaH tA):=by
 intro pins s σ H Q I h;exact isTrue_not (ha pins s σ H (λc H1=>Q (!c) H1) I h)
noncomputable def aaN(ta tb:TE):TE:=λσ H Q=>ta σ H λx H1=>∃c,x = .bl c/\if c=true then tb σ H1 Q else Q (.bl false) H1
noncomputable def aaF(ta tb:TE):TE:=λσ H Q=>ta σ H λx H1=>∃c,x = .bl c/\if c=true then Q (.bl true) H1 else tb σ H1 Q
noncomputable def aaG(ta:TE):TE:=λσ H Q=>ta σ H λx H1=>∃c,x = .bl c/\Q (.bl (!c)) H1
theorem iR{op}{t:TE}(h:PE X a t):PE X (.BoolOp op [a] pos) t:=λpins s σ H Q I hw=>BoolOp_one (h pins s σ H Q I hw)
theorem jt(ha:PE X a ta)(hb:PE X (.BoolOp .And (b::rest) pos) tb):PE X (.BoolOp .And (a::b::rest) pos) (aaN ta tb):=by
 intro pins s σ H Q I h;refine BoolOp_and (dG (ha pins s σ H _ I h) λv s1 gO=>?_);obtain⟨x,H1,I1,r1,q1⟩:=gO;obtain⟨c,rfl,q1⟩:=q1;cases r1;refine wpAny_truthy_bool ?_;cases c with
 | true=>exact hb pins s1 σ H1 Q I1 q1
 | false=>exact⟨.bl false,H1,I1,acg,q1⟩
theorem Pk(ha:PE X a ta)(hb:PE X (.BoolOp .Or (b::rest) pos) tb):PE X (.BoolOp .Or (a::b::rest) pos) (aaF ta tb):=by
 intro pins s σ H Q I h;refine BoolOp_or (dG (ha pins s σ H _ I h) λv s1 gO=>?_);obtain⟨x,H1,I1,r1,q1⟩:=gO;obtain⟨c,rfl,q1⟩:=q1;cases r1;refine wpAny_truthy_bool ?_;cases c with
 | false=>exact hb pins s1 σ H1 Q I1 q1
 | true=>exact⟨.bl true,H1,I1,acg,q1⟩
theorem Pn(ha:PE X a ta):PE X (.UnaryOp .Not a pos) (aaG ta):=by
 intro pins s σ H Q I h;refine UnaryOp_ (dG (ha pins s σ H _ I h) λv s1 gO=>?_);obtain⟨x,H1,I1,r1,q1⟩:=gO;obtain⟨c,rfl,q1⟩:=q1;cases r1;exact not_of (wpAny_truthy_bool ⟨.bl (!c),H1,I1,acg,q1⟩)
noncomputable def tIf(t:TT)(ta tb:TE):TE:=λσ H Q=>t σ H λc H1=>if c=true then ta σ H1 Q else tb σ H1 Q
theorem jZ{c:Expr}(hc:PT X c tA)(ha:PE X a ta)(hb:PE X b tb):PE X (.IfExp c a b pos) (tIf tA ta tb):=by
 intro pins s σ H Q I h;refine wpAny_IfExp (dG (hc pins s σ H _ I h) λd s1 ⟨H1,I1,q1⟩=>?_);cases d with
 | true=>exact ha pins s1 σ H1 Q I1 q1
 | false=>exact hb pins s1 σ H1 Q I1 q1
end
noncomputable def bI(K:PySem.W.Frag)(H:Hp)(a:Addr)(xs:List V):Prop:=
 Rd H a (.lst xs) \/
  ∃(o:Obj) (its:Array Value) (n:Nat),K.lookup a=some o/\o.cls = .type "list" /\ o.dict=none/\o.data = .seq its n/\its.size<=sizeLine/\Vals xs its.toList
noncomputable def cD(K:PySem.W.Frag)(H:Hp)(a:Addr)(xs:List V):Prop:=
 Rd H a (.tup xs) \/
  ∃(o:Obj) (its:Array Value) (n:Nat),K.lookup a=some o/\o.cls = .type "tuple" /\ o.data = .seq its n/\its.size<=sizeLine/\Vals xs its.toList
noncomputable def afV:Value->Option V
 | .none=>some .non
 | .bool b=>some (.bl b)
 | .int i _=>some (.int i)
 | .str x _=>some (.str x)
 | .bytes b _=>some (.Iv b)
 | .float b _=>some (.flt b)
 | .ref a=>some (.ref a)
 | .type n=>some (.ty n)
 | _=>none
theorem RelV.abs{x:V}{u:Value}(r:RelV x u):afV u=some x:=by
 cases x with
 | non=>cases r;rfl
 | bl _=>cases r;rfl
 | int _=>obtain⟨t,rfl⟩:=r;rfl
 | str _=>obtain⟨t,rfl⟩:=r;rfl
 | Iv _=>obtain⟨t,rfl⟩:=r;rfl
 | flt _=>obtain⟨t,rfl⟩:=r;rfl
 | ref _=>cases r;rfl
 | ty _=>cases r;rfl
theorem RelV.inj{x y:V}{u:Value}(r:RelV x u)(q:RelV y u):x=y:=aaC (r.abs.symm.trans q.abs)
theorem Vals.inj{xs ys:List V}{us:List Value}(h:Vals xs us)(h':Vals ys us):xs=ys:=by
 induction h generalizing ys with
 | nil=>cases h';rfl
 | cons r t ih=>cases h' with
   | cons r' t'=>rw[r.inj r',ih t']
section
variable{X:Cx}{pins:List (Addr×Obj)}{σ:St}{H:Hp}{s:Shared}{a:Addr}{xs ys:List V}
theorem bI.of{K:PySem.W.Frag}(h:H a=some (.lst xs)):bI K H a xs:= .inl (.inl h)
theorem cD.of{K:PySem.W.Frag}(h:H a=some (.tup xs)):cD K H a xs:= .inl (.inl h)
theorem Inv.list(I:Inv X pins σ H s)(h:bI X.K H a xs):∃its:List Value,Vals xs its/\PlainL s.heap a its.toArray/\xs.length<=sizeLine:=by
 rcases h with h|⟨o,its,n,hk,hc,hd,hs,hz,r⟩
 .obtain⟨z,its,n,r,e⟩:=h.ok I.hok
  exact⟨its,r,⟨_,n,e,acg,acg,acg⟩,z⟩
 .refine⟨its.toList,r,⟨o,n,I.rN a o hk,hc,hd,by simpa using hs⟩, ?_⟩
  have e:=r.length;simp only[aao] at e;lia
theorem Inv.tuple(I:Inv X pins σ H s)(h:cD X.K H a xs):∃its:List Value,Vals xs its/\IsTup s.heap a its.toArray/\xs.length<=sizeLine:=by
 rcases h with h|⟨o,its,n,hk,hc,hs,hz,r⟩
 .obtain⟨z,its,r,p⟩:=h.ok I.hok
  exact⟨its,r,p,z⟩
 .refine⟨its.toList,r,⟨o,I.rN a o hk,hc,n,by simpa using hs⟩, ?_⟩
  have e:=r.length;simp only[aao] at e;lia
theorem Inv.tE(I:Inv X pins σ H s)(h:bI X.K H a xs)(h':bI X.K H a ys):xs=ys:=by
 obtain⟨its,r,⟨o,n,e,_,_,d⟩,_⟩:=I.list h;obtain⟨its',r',⟨o',n',e',_,_,d'⟩,_⟩:=I.list h';rw[e] at e';cases e';rw[d] at d';injection d' with d1 _
 have:its=its':=by simpa using congrArg Array.toList d1
 subst this;exact r.inj r'
theorem Inv.uG(I:Inv X pins σ H s)(h:cD X.K H a xs)(h':cD X.K H a ys):xs=ys:=by
 obtain⟨its,r,⟨o,e,_,n,d⟩,_⟩:=I.tuple h;obtain⟨its',r',⟨o',e',_,n',d'⟩,_⟩:=I.tuple h';rw[e] at e';cases e';rw[d] at d';injection d' with d1 _
 have:its=its':=by simpa using congrArg Array.toList d1
 subst this;exact r.inj r'
end
noncomputable abbrev Cx.wish(X:Cx)(E:Value->Shared->Prop):Cx:={X with xe:=E}
noncomputable abbrev Cx.nox(X:Cx):Cx:=X.wish λ_ _=>False
theorem Cx.Ok.wish{X:Cx}(ok:X.Ok)(E:Value->Shared->Prop):(X.wish E).Ok:=
 ⟨ok.mod,ok.kind,ok.glob,ok.blt,ok.above,ok.inj,ok.has,ok.cab,ok.hd,ok.frames,ok.stk,ok.exf,ok.bs,ok.Rq,ok.Ql,ok.Vo,ok.tQ,ok.WQ⟩
theorem Cx.Ok.oN{X:Cx}{E:Value->Shared->Prop}(ok:(X.wish E).Ok):X.Ok:=
 ⟨ok.mod,ok.kind,ok.glob,ok.blt,ok.above,ok.inj,ok.has,ok.cab,ok.hd,ok.frames,ok.stk,ok.exf,ok.bs,ok.Rq,ok.Ql,ok.Vo,ok.tQ,ok.WQ⟩
section
variable{X:Cx}{pins:List (Addr×Obj)}{σ:St}{H:Hp}{s:Shared}{E:Value->Shared->Prop}
theorem Inv.wish(I:Inv X pins σ H s)(E:Value->Shared->Prop):Inv (X.wish E) pins σ H s:=⟨I.ok.wish E,I.os,I.bare,I.base,I.loc,I.cell,I.free,I.pL,I.pin,I.hok,I.len⟩
theorem Inv.oN(I:Inv (X.wish E) pins σ H s):Inv X pins σ H s:=⟨I.ok.oN,I.os,I.bare,I.base,I.loc,I.cell,I.free,I.pL,I.pin,I.hok,I.len⟩
theorem SP.oN{D:Ends}{f:Flow}{s':Shared}(h:SP (X.wish E) pins D f s'):SP X pins D f s':=by
 cases f with
 | next=>obtain⟨σ',H',I,q⟩:=h;exact⟨σ',H',I.oN,q⟩
 | brk=>obtain⟨σ',H',I,q⟩:=h;exact⟨σ',H',I.oN,q⟩
 | cont=>obtain⟨σ',H',I,q⟩:=h;exact⟨σ',H',I.oN,q⟩
 | ret u=>obtain⟨v,σ',H',I,r,q⟩:=h;exact⟨v,σ',H',I.oN,r,q⟩
theorem IW.nox{st:List Stmt}{t:TS}(h:IW X.nox st t):IW X st t:=λpins s σ H D I hw=>
 wpAny_mono (h pins s σ H D (I.wish _) hw) (λ_ _ q=>q.oN) λ_ _ z=>False.elim z
end
section
variable{X:Cx}{st:Stmt}{rest:List Stmt}{t u:TS}{e:Expr}{te:TE}{pos:Pos}
noncomputable def zP:TS:=λD σ H=>D.nx σ H
noncomputable def GQ(t u:TS):TS:=λD σ H=>t {D with nx:=u D} σ H
theorem bJ:IW X [] zP:=λ_ _ σ H _ I h=>wpAny_execs_nil ⟨σ,H,I,h⟩
theorem aA(h1:PS X st t)(h2:IW X rest u):IW X (st::rest) (GQ t u):=by
 intro pins s σ H D I h;refine wpAny_execs_cons (dG (h1 pins s σ H {D with nx:=u D} I h) λf s1 q=>?_);cases f with
 | next=>
   obtain⟨σ',H',I',q⟩:=q;exact h2 pins s1 σ' H' D I' q
 | ret v=>exact q
 | brk=>exact q
 | cont=>exact q
theorem aJ(h1:PS X st t):IW X [st] t:=by
 intro pins s σ H D I h;refine wpAny_execs_cons (dG (h1 pins s σ H D I h) λf s1 q=>?_);cases f with
 | next=>exact wpAny_execs_nil q
 | ret v=>exact q
 | brk=>exact q
 | cont=>exact q
noncomputable def Xv:TS:=λD σ H=>D.bk σ H
theorem O_:PS X (.Break pos) Xv:=λ_ _ σ H _ I h=>wpAny_Break ⟨σ,H,I,h⟩
theorem Inv.quiet{pins:List (Addr×Obj)}{σ:St}{H:Hp}{s:Shared}(I:Inv X pins σ H s):interactive X.env=false:=by simp[interactive,I.ok.kind]
noncomputable def Ec(te:TE):TS:=λD σ H=>te σ H λ_ H1=>D.nx σ H1
theorem dh(he:PE X e te)(hs:swapsWith e none pos.line X.env=pure false:=by rfl):PS X (.Expr e pos) (Ec te):=by
 intro pins s σ H D I h;exact wpAny_Expr_any (dG (he pins s σ H _ I h) λv s1 ⟨x,H1,I1,r1,q1⟩=>⟨σ,H1,I1,q1⟩) I.quiet hs
noncomputable def S_(te:TE):TS:=λD σ H=>te σ H D.rt
theorem bA(he:PE X e te):PS X (.Return (some e) pos) (S_ te):=by
 intro pins s σ H D I h;exact wpAny_Return_some (dG (he pins s σ H _ I h) λv s1 ⟨x,H1,I1,r1,q1⟩=>⟨x,σ,H1,I1,r1,q1⟩)
noncomputable def aaE:TS:=λD _ H=>D.rt .non H
theorem Ua:PS X (.Return none pos) aaE:=λ_ _ σ H _ I h=>wpAny_Return_none ⟨.non,σ,H,I,acg,h⟩
noncomputable def Xl(c:TT)(t u:TS):TS:=λD σ H=>c σ H λb H1=>if b=true then t D σ H1 else u D σ H1
theorem cB{c:Expr}{a b:List Stmt}{tc:TT}(hc:PT X c tc)(ha:IW X a t)(hb:IW X b u):PS X (.If c a b pos) (Xl tc t u):=by
 intro pins s σ H D I h;refine wpAny_If (dG (hc pins s σ H _ I h) λd s1 ⟨H1,I1,q1⟩=>?_);cases d with
 | true=>exact ha pins s1 σ H1 D I1 q1
 | false=>exact hb pins s1 σ H1 D I1 q1
noncomputable def Xj:TS:=λ_ _ _=>False
theorem Ew:PS X st Xj:=λ_ _ _ _ _ _ h=>h.elim
end
noncomputable abbrev TG:=V->St->Hp->(St->Hp->Prop)->Prop
noncomputable abbrev WY:=List V->St->Hp->(St->Hp->Prop)->Prop
noncomputable def PG(X:Cx)(target:Expr)(t:TG):Prop:=
 ∀(pins:List (Addr×Obj))(s:Shared)(σ:St)(H:Hp)(v:V)(u:Value)(Q:St->Hp->Prop),Inv X pins σ H s->RelV v u->t v σ H Q ->
  wpAny (model X.prog X.w) X.A (assign target X.env u) (λ_ s'=>∃σ' H',Inv X pins σ' H' s'/\Q σ' H') X.xe s
noncomputable def PGs(X:Cx)(ts:List Expr)(t:WY):Prop:=
 ∀(pins:List (Addr×Obj))(s:Shared)(σ:St)(H:Hp)(vs:List V)(us:List Value)(Q:St->Hp->Prop),Inv X pins σ H s->Vals vs us->t vs σ H Q ->
  wpAny (model X.prog X.w) X.A (assignInOrder ((assignEach ts X.env).map (·.2)) us) (λ_ s'=>∃σ' H',Inv X pins σ' H' s'/\Q σ' H') X.xe s
noncomputable abbrev Rx:=V->V->V->Hp->(Hp->Prop)->Prop
noncomputable def ZQ(X:Cx)(t:Rx):Prop:=
 ∀(pins:List (Addr×Obj))(s:Shared)(σ:St)(H:Hp)(o i v:V)(ov iv u:Value)(Q:Hp->Prop),Inv X pins σ H s->RelV o ov->RelV i iv->RelV v u->t o i v H Q ->
  wpAny (model X.prog X.w) X.A (setItem ov iv u) (λ_ s'=>∃H',Inv X pins σ H' s'/\Q H') X.xe s
noncomputable abbrev TIp:=V->V->Hp->VK->Prop
noncomputable def PIp(X:Cx)(op:Operator)(t:TIp):Prop:=
 ∀(pins:List (Addr×Obj))(s:Shared)(σ:St)(H:Hp)(x y:V)(v u:Value)(Q:VK),Inv X pins σ H s->RelV x v->RelV y u->t x y H Q ->
  wpAny (model X.prog X.w) X.A (inplaceOp op v u) (EP X pins σ Q) X.xe s
section
variable{X:Cx}{pos:Pos}
noncomputable def cN(i:Nat):TG:=λv σ H Q=>Q (σ.set i (some v)) H
theorem bL{i:Nat}{x:Str}(hN:X.N.Nodup)(hi:X.N[i]? = some x)(hx:Loc X.env.scope x)(hf:X.fn x=true\/X.env.scope.names.lookup x=some .local:=by first |exact .inl rfl|exact .inr rfl|assumption):PG X (.Name x pos) (cN i):=by
 intro pins s σ H v u Q I r h;exact wpAny_assign_Name (wQ I hN hi hx r (λs' I'=>⟨_,H,I',h⟩) hf)
noncomputable def Ze:WY:=λvs σ H Q=>vs=[]/\Q σ H
noncomputable def FN(t:TG)(u:WY):WY:=λvs σ H Q=>∃v r,vs=v::r/\t v σ H λσ' H'=>u r σ' H' Q
theorem Cd:PGs X [] Ze:=by
 intro pins s σ H vs us Q I r h;obtain⟨e,h⟩:=h;subst e;cases r;exact assignInOrder_nil ⟨σ,H,I,h⟩
theorem mD{e:Expr}{es:List Expr}{t:TG}{u:WY}(h1:PG X e t)(h2:PGs X es u)(hs:(assignEach (e::es) X.env).map (·.2)=assign e X.env::(assignEach es X.env).map (·.2):=by rfl):PGs X (e::es) (FN t u):=by
 intro pins s σ H vs us Q I r h;obtain⟨v,vr,e1,h⟩:=h;subst e1;cases r with
 | cons r rr=>
   rw[hs];refine assignInOrder_cons (dG (h1 pins s σ H _ _ _ I r h) λ_ s1 gO=>?_);obtain⟨σ1,H1,I1,q1⟩:=gO;exact h2 pins s1 σ1 H1 _ _ Q I1 rr q1
noncomputable def Vm(K:PySem.W.Frag)(n:Nat)(t:WY):TG:=λv σ H Q=>∃a xs,v = .ref a/\cD K H a xs/\xs.length=n/\t xs σ H Q
theorem Yc{es:List Expr}{k:Nat}{t:WY}{n:Nat}(hc:X.calm=true)(h:PGs X es t)(hn:(assignEach es X.env).length=n:=by rfl)(hst:(assignEach es X.env).findIdx? (·.1)=none:=by rfl):PG X (.Tuple es k pos) (Vm X.K n t):=by
 intro pins s σ H v u Q I r hw;obtain⟨a,xs,e1,hq,hl,hw⟩:=hw;subst e1;cases r;obtain⟨its,rv,ht,hz⟩:=I.tuple hq;refine assign_Tuple_tuple (I.ok.hd hc) ht (by simp[hn,←hl,rv.length]) hst λh' hx=>?_;have I1:Inv X pins σ H {s with heap:=h'}:=I.kept (t':=s.toks) λb o e=>hx b o (aaP (aai e)) e;exact h pins _ σ H xs _ Q I1 (by simpa using rv) hw
noncomputable def Zd(to ti:TE)(t:Rx):TG:=λv σ H Q=>to σ H λo H1=>ti σ H1 λi H2=>t o i v H2 λH3=>Q σ H3
theorem pq{o i:Expr}{to ti:TE}{t:Rx}(ho:PE X o to)(hi:PE X i ti)(hs:ZQ X t)(ha:∀v,assign (.Subscript o i pos) X.env v=(do
   let ov ←holding [v] (eval o X.env)
   let iv ←holding [v,ov] (eval i X.env)
   standAt pos
   holding [v,ov,iv] (setItem ov iv v)
   release [v,ov,iv] []):=by intro _;rfl):PG X (.Subscript o i pos) (Zd to ti t):=by
 intro pins s σ H v u Q I r h;rw[ha];refine aak (wpAny_holding (dG (ho pins s σ H _ I h) λov s1 gO=>?_));obtain⟨x,H1,I1,r1,q1⟩:=gO;refine aak (wpAny_holding (dG (hi pins s1 σ H1 _ I1 q1) λiv s2 gO=>?_));obtain⟨y,H2,I2,r2,q2⟩:=gO;refine aak (wpAny_standAt (aak (wpAny_holding (dG (hs pins s2 σ H2 x y v ov iv u _ I2 r1 r2 r q2) λ_ s3 ⟨H3,I3,q3⟩=>?_))));exact wpAny_release ⟨σ,H3,I3,q3⟩
noncomputable def Tf(te:TE)(g:TG):TS:=λD σ H=>te σ H λx H1=>g x σ H1 D.nx
theorem nJ{tg e:Expr}{te:TE}{g:TG}(he:PE X e te)(hg:PG X tg g)(hs:swapsWithSole [tg] e pos.line X.env=pure false:=by rfl)(hw:swappedStores [tg] e X.env=pure none:=by rfl)(h1:(assignEach [tg] X.env).map (·.2)=[assign tg X.env]:=by rfl):PS X (.Assign [tg] e pos) (Tf te g):=by
 intro pins s σ H D I h;refine wpAny_Assign_stores (dG (he pins s σ H _ I h) λv s1 ⟨x,H1,I1,r1,q1⟩=>?_) hs hw;rw[h1];exact dG (hg pins s1 σ H1 x v _ I1 r1 q1) λ_ s2 q=>q
theorem bH{i:Nat}{x:Str}{e:Expr}{te:TE}{pos':Pos}(hN:X.N.Nodup)(hi:X.N[i]? = some x)(hx:Loc X.env.scope x)(he:PE X e te)(hs:swapsWith e (some (.Name x pos')) pos.line X.env=pure false:=by rfl)(hf:X.fn x=true\/X.env.scope.names.lookup x=some .local:=by first |exact .inl rfl|exact .inr rfl|assumption):
 PS X (.Assign [.Name x pos'] e pos) (Tf te (cN i)):=by
 intro pins s σ H D I h;refine wpAny_Assign_Name (dG (he pins s σ H _ I h) λv s1 ⟨y,H1,I1,r1,q1⟩=>?_) hs;exact wQ I1 hN hi hx r1 (λs2 I2=>⟨_,H1,I2,q1⟩) hf
noncomputable def adH(i:Nat)(te:TE)(ti:TIp):TS:=λD σ H=>∃x,σ[i]? = some (some x)/\te σ H λy H1=>ti x y H1 λz H2=>D.nx (σ.set i (some z)) H2
theorem X8{i:Nat}{x:Str}{e:Expr}{te:TE}{op:Operator}{ti:TIp}{pos':Pos}(hN:X.N.Nodup)(hi:X.N[i]? = some x)(hx:Loc X.env.scope x)(he:PE X e te)(ho:PIp X op ti)(hf:X.fn x=true\/X.env.scope.names.lookup x=some .local:=by first |exact .inl rfl|exact .inr rfl|assumption):
 PS X (.AugAssign (.Name x pos') op e pos) (adH i te ti):=by
 intro pins s σ H D I h;obtain⟨v,e1,h⟩:=h;obtain⟨m,hn,hl⟩:=I.loc;have vis:Vis X.env.scope x:=by rcases hx with k|k;exact .inl k;exact .inr (.inl k)
 obtain⟨u,r,l⟩:=hl i x v hi e1 vis;refine wpAny_AugAssign_Name ?_
 have go:wpAny (model X.prog X.w) X.A (eval e X.env) (λw s₂=>wpAny (model X.prog X.w) X.A (inplaceOp op u w) (λr s₃=>wpAny (model X.prog X.w) X.A (storeName X.env x r) (λ_=>SP X pins D .next) X.xe s₃) X.xe s₂) X.xe s:=by
  refine dG (he pins s σ H _ I h) λw s1 gO=>?_;obtain⟨y,H1,I1,r1,q1⟩:=gO;refine dG (ho pins s1 σ H1 v y u w _ I1 r r1 q1) λz s2 gO=>?_;obtain⟨zv,H2,I2,r2,q2⟩:=gO;exact wQ I2 hN hi hx r2 (λs3 I3=>⟨_,H2,I3,q2⟩) hf
 rcases l with ⟨hk,hm⟩|⟨hk,c,hc,hcell⟩
 .exact wpAny_loadName_local I.ok.kind hk hn hm go
 .rcases hk with hk|hk
  .exact wpAny_loadName_cell I.ok.kind hk hc hcell go
  .rcases hx with k|k
   .have:X.env.scope.names.lookup x=some .free:=hk
    rw[k] at this;cases this
   .have:X.env.scope.names.lookup x=some .free:=hk
    rw[k] at this;cases this
noncomputable def aaM(to ti te:TE)(SQ:V->V->Hp->VK->Prop)(tip:TIp)(SN:Rx):TS:=λD σ H=>to σ H λo H1=>ti σ H1 λi H2=>SQ o i H2 λx H3=>te σ H3 λy H4=>tip x y H4 λz H5=>SN o i z H5 λH6=>D.nx σ H6
noncomputable def ab1(X:Cx)(t:V->V->Hp->VK->Prop):Prop:=
 ∀(pins:List (Addr×Obj))(s:Shared)(σ:St)(H:Hp)(o i:V)(ov iv:Value)(Q:VK),Inv X pins σ H s->RelV o ov->RelV i iv->t o i H Q ->
  wpAny (model X.prog X.w) X.A (getItem ov iv) (EP X pins σ Q) X.xe s
theorem Ub{o i e:Expr}{to ti te:TE}{SQ:V->V->Hp->VK->Prop}{tip:TIp}{SN:Rx}{op:Operator}{tpos:Pos}(ho:PE X o to)(hi:PE X i ti)(hg:ab1 X SQ)(he:PE X e te)(hp:PIp X op tip)(hs:ZQ X SN)(ha:∀ov iv new,augStore i ov iv new=(do holding [new,ov,iv] (setItem ov iv new);release [new,ov,iv] [];pure .next):=by intros;rfl):PS X (.AugAssign (.Subscript o i tpos) op e pos) (aaM to ti te SQ tip SN):=by
 intro pins s σ H D I h;refine wpAny_AugAssign_SubscriptAny (dG (ho pins s σ H _ I h) λov s1 ⟨x1,H1,I1,r1,q1⟩=>?_) ha;refine dG (hi pins s1 σ H1 _ I1 q1) λiv s2 gO=>?_;obtain⟨x2,H2,I2,r2,q2⟩:=gO;refine dG (hg pins s2 σ H2 x1 x2 ov iv _ I2 r1 r2 q2) λold s3 gO=>?_;obtain⟨x3,H3,I3,r3,q3⟩:=gO;refine dG (he pins s3 σ H3 _ I3 q3) λv s4 gO=>?_;obtain⟨x4,H4,I4,r4,q4⟩:=gO;refine dG (hp pins s4 σ H4 x3 x4 old v _ I4 r3 r4 q4) λnew s5 gO=>?_;obtain⟨x5,H5,I5,r5,q5⟩:=gO;exact dG (hs pins s5 σ H5 x1 x2 x5 ov iv new _ I5 r1 r2 r5 q5) λ_ s6 ⟨H6,I6,q6⟩=>⟨σ,H6,I6,q6⟩
noncomputable def ipI(f:Int->Int->Int):TIp:=λx y H Q=>∃i j,x = .int i/\y = .int j/\Q (.int (f i j)) H
theorem Cy:PIp X .Add (ipI λi j=>i+j):=by
 intro pins s σ H x y v u Q I r1 r2 h;obtain⟨i,j,e1,e2,q⟩:=h;subst e1;subst e2;obtain⟨t,rfl⟩:=r1;obtain⟨t',rfl⟩:=r2;exact iadd_int ⟨.int _,H,I.tok _,⟨_,acg⟩,q⟩
end
section
variable{X:Cx}{pos:Pos}
noncomputable def Xg(c:TT)(tb:TS):TS:=λD σ H=>∃W:Nat->St->Hp->Prop,(∃m,W m σ H) /\ ∀m σ H,W m σ H ->
 c σ H λb H1=>if b=true then ∃N:St->Hp->Prop,(∀σ' H',N σ' H' -> ∃m',m'<m/\W m' σ' H')/\tb {D with nx:=N,ct:=N,bk:=D.nx} σ H1 else D.nx σ H1
theorem O9{c:Expr}{body:List Stmt}{tc:TT}{tb:TS}(hp:PassesOwn (model X.prog X.w) X.A X.env X.xe)(hc:PT X c tc)(hb:IW X body tb):PS X (.While c body [] pos) (Xg tc tb):=by
 intro pins s σ H D I h;obtain⟨W,⟨m0,w0⟩,turn⟩:=h;refine wpAny_While (codeAny_whileLoop (λn s'=>∃σ' H',Inv X pins σ' H' s'/\W n σ' H') ?_ m0 ⟨σ,H,I,w0⟩);rintro n s1 ⟨σ1,H1,I1,w1⟩;refine wpAny_passesOwn hp (dG (hc pins s1 σ1 H1 _ I1 (turn n σ1 H1 w1)) λb s2 ⟨H2,I2,q2⟩=>?_);cases b with
 | true=>
   obtain⟨N,hN,q2⟩:=q2;rw[acd rfl];refine wpAny_passesOwn hp (dG (hb pins s2 σ1 H2 _ I2 q2) λf s3 q3=>?_);cases f with
   | next=>
     obtain⟨σ3,H3,I3,n3⟩:=q3;obtain⟨m',hm,w3⟩:=hN σ3 H3 n3;exact⟨m',hm,σ3,H3,I3,w3⟩
   | cont=>
     obtain⟨σ3,H3,I3,n3⟩:=q3;obtain⟨m',hm,w3⟩:=hN σ3 H3 n3;exact⟨m',hm,σ3,H3,I3,w3⟩
   | brk=>exact q3
   | ret v=>exact q3
 | false=>
   rw[ab' aax];exact wpAny_execs_nil ⟨σ1,H2,I2,q2⟩
end
structure It where
 go:Nat->Hp->Prop
 W8:Nat->Hp->V->Hp->Prop
 stop:Nat->Hp->Prop
noncomputable def pY(X:Cx)(pins:List (Addr×Obj))(H:Hp)(b:Addr):Prop:=
 H b=none/\b≠X.env.locals/\b∉X.fs/\(b∈X.ex\/X.s₀.heap.objs.size<=b)/\(∀x c,X.env.cells.lookup x=some c->c≠b) /\ ∀p∈X.pn++pins,p.1≠b
theorem Inv.yF{X:Cx}{pins:List (Addr×Obj)}{σ:St}{H H':Hp}{s:Shared}{b:Addr}(I:Inv X pins σ H s)(hb:s.heap.objs.size<=b)(hn:H' b=none):pY X pins H' b:=by
 refine⟨hn,Nat.ne_of_gt (aa1 I.lt hb),I.ae3 hb,.inr (ab9 I.sz hb),λx c e z=>?_,λp hp z=>?_⟩
 .obtain⟨v,q⟩:=I.cell x c e
  exact ace (aa1 q.lt (by rw[z];exact hb)) (ab5 _)
 .exact ace (aa1 (aai (I.pin p hp).1) (by rw[z];exact hb)) (ab5 _)
structure Turn(P:Program)(w:World)(K:PySem.W.Frag)(tg:Expr)(J:It)(fp:List Addr)(it:Addr)(tn:Nat->Heap->Prop):Prop where
 mem:it∈fp
 obj:∀i h,tn i h -> ∀b∈fp,∃o,h.get? b=some o /\ ∀v,o.data ≠ .cell v
 keep:∀i h h',tn i h->(∀b∈fp,∀o,h.get? b=some o->h'.get? b=some o)->tn i h'
 item:∀(X:Cx),X.prog=P->X.w=w->X.K=K->X.calm=true -> ∀(i:Nat)(pins:List (Addr×Obj))(s:Shared)(σ:St)(H:Hp)(E:Value->Shared->Prop),Inv X pins σ H s->(∀b∈fp,pY X pins H b)->tn i s.heap->J.go i H ->
  wpAny (model P w) X.A (pyNext (.ref it)) (λr s1=>∃u,r=some u /\
   wpAny (model P w) X.A (letOwnedTupleGo tg (.ref it) u) (λ_ s2=>∃x H',Inv X pins σ H' s2/\RelV x u/\J.W8 i H x H'/\tn (i+1) s2.heap /\ ∀b∈fp,H' b=none) E s1) E s
 done:∀(X:Cx),X.prog=P->X.w=w->X.K=K->X.calm=true -> ∀(i:Nat)(pins:List (Addr×Obj))(s:Shared)(σ:St)(H:Hp)(E:Value->Shared->Prop),Inv X pins σ H s->(∀b∈fp,pY X pins H b)->tn i s.heap->J.stop i H ->
  wpAny (model P w) X.A (pyNext (.ref it)) (λr s1=>r=none/\Inv X pins σ H s1) E s
 self:∀(A:Around)(i:Nat)(s:Shared)(Q:Value->Shared->Prop)(E:Value->Shared->Prop),tn i s.heap->Q (.ref it) s->wpAny (model P w) A (pyIter (.ref it)) Q E s
noncomputable abbrev TI:=St->Hp->(It->Hp->Prop)->Prop
noncomputable def PIE(X:Cx)(pins:List (Addr×Obj))(σ:St)(tg:Expr)(R:It->Hp->Prop)(itv:Value)(s2:Shared):Prop:=
 ∃(it:Addr) (fp:List Addr) (tn:Nat->Heap->Prop) (J:It) (H':Hp),itv = .ref it/\Inv X pins σ H' s2/\Turn X.prog X.w X.K tg J fp it tn/\tn 0 s2.heap/\(∀b∈fp,pY X pins H' b)/\R J H'
noncomputable def PI(X:Cx)(tg iter:Expr)(wi:TI):Prop:=
 ∀(pins:List (Addr×Obj))(s:Shared)(σ:St)(H:Hp)(R:It->Hp->Prop),Inv X pins σ H s->wi σ H R ->
  wpAny (model X.prog X.w) X.A (eval iter X.env) (λv s1=>wpAny (model X.prog X.w) X.A (pyIter v) (PIE X pins σ tg R) X.xe s1) X.xe s
theorem Ai{M:Model}{A:Around}{E:Value->Shared->Prop}{s:Shared}{tg:Expr}{it:Addr}{u:Value}{o:Obj}{n:String}{vs:Array Value}{Q:Unit->Shared->Prop}(ho:s.heap.get? it=some o)(hc:o.cls = .type n)(hd:o.data = .fields vs)(hn:["enumerate","zip","dict_itemiterator","dict_reverseitemiterator","odict_iterator","itertools.zip_longest","itertools.pairwise"].contains n=false)(hQ:Q () s):wpAny M A (letOwnedTupleGo tg (.ref it) u) Q E s:=by
 unfold letOwnedTupleGo
 cases tg<;>first
  | exact aal hQ
  | (cases u<;>first
      | exact aal hQ
      | (refine aak (wpAny_load ho ?_)
         rw[hc,hd];show wpAny M A (if (["enumerate","zip","dict_itemiterator","dict_reverseitemiterator","odict_iterator","itertools.zip_longest","itertools.pairwise"].contains n&&vs[0]? == some (rawInt _))=true then _ else _) Q E s;rw[ab' (by intro h;rw[hn,Bool.false_and] at h;cases h)];exact aal hQ))
noncomputable def RL(K:PySem.W.Frag)(a:Addr):It:=
 ⟨λi H=>∃xs x,bI K H a xs/\xs[i]? = some x,λi H x H'=>H'=H /\ ∀xs,bI K H a xs->xs[i]? = some x,λi H=>∃xs,bI K H a xs/\xs.length<=i⟩
noncomputable def Itt(K:PySem.W.Frag)(a:Addr):It:=
 ⟨λi H=>∃xs x,cD K H a xs/\xs[i]? = some x,λi H x H'=>H'=H /\ ∀xs,cD K H a xs->xs[i]? = some x,λi H=>∃xs,cD K H a xs/\xs.length<=i⟩
noncomputable def RK(lo:Int)(n:Nat):It:=⟨λi _=>i<n,λi H x H'=>H'=H/\x = .int (lo+i),λi _=>n<=i⟩
theorem KD{P:Program}{w:World}{K:PySem.W.Frag}{tg:Expr}(a it:Addr):Turn P w K tg (RL K a) [it] it (λi h=>h.IsListIter it a i) where
 mem:=by simp
 obj:=λi h st b hb=>by
  have e:b=it:=by simpa using hb
  subst e;obtain⟨o,e,c,d⟩:=st;exact⟨o,e,λv z=>by rw[d] at z;cases z⟩
 keep:=λi h h' st k=>st.at λo e=>k it (by simp) o e
 item:=by
  intro X hP hw hK hc i pins s σ H E I hf st hg;subst hP hw hK;obtain⟨xs,x,hq,hx⟩:=hg;obtain⟨its,rv,p,hz⟩:=I.list hq;obtain⟨u,hu,ru⟩:=rv.get hx;obtain⟨f0,f1,f2,f3,f4,f5⟩:=hf it (by simp);refine wpAny_pyNext_list_item st p.isList (x:=u) (by simpa using hu) λh' st' sb=>?_;have I1:Inv X pins σ H {s with heap:=h'}:=I.turned (t':=s.toks) (λb o hb e=>(sb.2 b hb).trans e) f0 f1 f3 f4 f5;obtain⟨o,e,c,d⟩:=id st';exact⟨u,acg,Ai (s:={s with heap:=h'}) e c d (by decide) ⟨x,H,I1,ru,⟨acg,λys hy=>by rw[I.tE hy hq];exact hx⟩,st',λb hb=>(hf b hb).1⟩⟩
 done:=by
  intro X hP hw hK hc i pins s σ H E I hf st hg;subst hP hw hK;obtain⟨xs,hq,hx⟩:=hg;obtain⟨its,rv,p,hz⟩:=I.list hq;obtain⟨f0,f1,f2,f3,f4,f5⟩:=hf it (by simp);have hl:=rv.length;exact wpAny_pyNext_list_end (I.ok.hd hc) st p.isList (by simp;lia) λh' eb=>⟨acg,I.turned (t':=s.toks) (λb o hb e=>eb b o hb e) f0 f1 f3 f4 f5⟩
 self:=λ_ _ _ _ _ st h=>wpAny_pyIter_listiter st h
theorem GK{P:Program}{w:World}{K:PySem.W.Frag}{tg:Expr}(a it:Addr):Turn P w K tg (Itt K a) [it] it (λi h=>h.IsTupleIter it a i) where
 mem:=by simp
 obj:=λi h st b hb=>by
  have e:b=it:=by simpa using hb
  subst e;obtain⟨o,e,c,d⟩:=st;exact⟨o,e,λv z=>by rw[d] at z;cases z⟩
 keep:=λi h h' st k=>st.at λo e=>k it (by simp) o e
 item:=by
  intro X hP hw hK hc i pins s σ H E I hf st hg;subst hP hw hK;obtain⟨xs,x,hq,hx⟩:=hg;obtain⟨its,rv,p,hz⟩:=I.tuple hq;obtain⟨u,hu,ru⟩:=rv.get hx;obtain⟨f0,f1,f2,f3,f4,f5⟩:=hf it (by simp);refine wpAny_pyNext_tuple_item st (show s.heap.IsTuple a its.toArray from p) (x:=u) (by simpa using hu) λh' st' sb=>?_;have I1:Inv X pins σ H {s with heap:=h'}:=I.turned (t':=s.toks) (λb o hb e=>(sb.2 b hb).trans e) f0 f1 f3 f4 f5;obtain⟨o,e,c,d⟩:=id st';exact⟨u,acg,Ai (s:={s with heap:=h'}) e c d (by decide) ⟨x,H,I1,ru,⟨acg,λys hy=>by rw[I.uG hy hq];exact hx⟩,st',λb hb=>(hf b hb).1⟩⟩
 done:=by
  intro X hP hw hK hc i pins s σ H E I hf st hg;subst hP hw hK;obtain⟨xs,hq,hx⟩:=hg;obtain⟨its,rv,p,hz⟩:=I.tuple hq;obtain⟨f0,f1,f2,f3,f4,f5⟩:=hf it (by simp);have hl:=rv.length;exact wpAny_pyNext_tuple_end (I.ok.hd hc) st (show s.heap.IsTuple a its.toArray from p) (by simp;lia) λh' eb=>⟨acg,I.turned (t':=s.toks) (λb o hb e=>eb b o hb e) f0 f1 f3 f4 f5⟩
 self:=λ_ _ _ _ _ st h=>wpAny_pyIter_tupleiter st h
theorem GP{P:Program}{w:World}{K:PySem.W.Frag}{tg:Expr}(it:Addr)(lo:Int)(n:Nat):Turn P w K tg (RK lo n) [it] it (λi h=>IsRangeIter h it (lo+(i:Nat)*1) ((n:Int) - (i:Nat)) 1) where
 mem:=by simp
 obj:=λi h st b hb=>by
  have e:b=it:=by simpa using hb
  subst e
  exact⟨_,st,λv z=>by
   have z':Data.fields _=Data.cell v:=z;cases z'⟩
 keep:=λi h h' st k=>k it (by simp) _ st
 item:=by
  intro X hP hw hK hc i pins s σ H E I hf st hg;subst hP hw hK;obtain⟨f0,f1,f2,f3,f4,f5⟩:=hf it (by simp);have W:=Walks.range (prog:=X.prog) (w:=X.w) (I.ok.hd hc) it lo 1 n;refine W.item i s _ _ hg st λv h' tk hv st' kk=>?_;obtain⟨t,rfl⟩:=hv;have I1:Inv X pins σ H {s with heap:=h',toks:=tk}:=I.turned (λb o hb e=>kk b o (by simpa using hb) e) f0 f1 f3 f4 f5;refine⟨_,acg,Ai (s:={s with heap:=h',toks:=tk}) (n:= "range_iterator") st' rfl rfl (by decide) ⟨.int (lo+i),H,I1,⟨t, ?_⟩,⟨acg,acg⟩,st',λb hb=>(hf b hb).1⟩⟩;rw[Int.mul_one]
 done:=by
  intro X hP hw hK hc i pins s σ H E I hf st hg;subst hP hw hK;obtain⟨f0,f1,f2,f3,f4,f5⟩:=hf it (by simp);exact wpAny_pyNext_range_end (I.ok.hd hc) st (by have:n<=i:=hg;lia) λh' eb=>⟨acg,I.turned (t':=s.toks) (λb o hb e=>eb b o hb e) f0 f1 f3 f4 f5⟩
 self:=λ_ _ _ _ _ st h=>wpAny_pyIter_rangeiter st h
section
variable{X:Cx}{tg:Expr}
noncomputable def Wx(K:PySem.W.Frag)(tl:TE):TI:=λσ H R=>tl σ H λx H1=>∃a,x = .ref a/\(∃xs,bI K H1 a xs)/\R (RL K a) H1
noncomputable def abh(K:PySem.W.Frag)(tl:TE):TI:=λσ H R=>tl σ H λx H1=>∃a,x = .ref a/\(∃xs,cD K H1 a xs)/\R (Itt K a) H1
theorem Uh{l:Expr}{tl:TE}(hl:PE X l tl):PI X tg l (Wx X.K tl):=by
 intro pins s σ H R I h;refine dG (hl pins s σ H _ I h) λv s1 gO=>?_;obtain⟨x,H1,I1,r1,q1⟩:=gO;obtain⟨a,e,⟨xs,hq⟩,q⟩:=q1;subst e;cases r1;obtain⟨its,rv,p,hz⟩:=I1.list hq;refine wpAny_pyIter_list p.isList ?_;refine⟨s1.heap.objs.size,[s1.heap.objs.size],_,_,H1,acg,I1.kept (t':=s1.toks) λb o e=>aag _ e,KD a _,⟨_,aah _ rfl,acg,acg⟩,λb hb=>?_,q⟩;have e:b=s1.heap.objs.size:=by simpa using hb
 subst e;exact I1.yF (aaj _) (I1.hok.fresh (aaj _))
theorem X_{l:Expr}{tl:TE}(hl:PE X l tl):PI X tg l (abh X.K tl):=by
 intro pins s σ H R I h;refine dG (hl pins s σ H _ I h) λv s1 gO=>?_;obtain⟨x,H1,I1,r1,q1⟩:=gO;obtain⟨a,e,⟨xs,hq⟩,q⟩:=q1;subst e;cases r1;obtain⟨its,rv,p,hz⟩:=I1.tuple hq;refine wpAny_pyIter_tuple (show s1.heap.IsTuple a its.toArray from p) ?_;refine⟨s1.heap.objs.size,[s1.heap.objs.size],_,_,H1,acg,I1.kept (t':=s1.toks) λb o e=>aag _ e,GK a _,⟨_,aah _ rfl,acg,acg⟩,λb hb=>?_,q⟩;have e:b=s1.heap.objs.size:=by simpa using hb
 subst e;exact I1.yF (aaj _) (I1.hok.fresh (aaj _))
theorem Et{pins:List (Addr×Obj)}{σ:St}{H:Hp}{s:Shared}{R:It->Hp->Prop}{E:Value->Shared->Prop}{lo hi:Int}{t u v:Tok}{tk:Nat}(I:Inv X pins σ H s)(h1: -(2 ^ 62)<=lo)(h2:lo<2 ^ 62)(h3: -(2 ^ 62)<=hi)(h4:hi<2 ^ 62)(q:R (RK lo (hi - lo).toNat) H):wpAny (model X.prog X.w) X.A (pyIter (.ref s.heap.objs.size)) (PIE X pins σ tg R) E {s with heap:=s.heap.push {cls:= .type "range",data:= .fields #[.int lo t,.int hi u,.int 1 v]},toks:=tk}:=by
 refine wpAny_pyIter_range (IsRange.new ..) (small_one h1 h2 h3 h4) ?_;have I1:Inv X pins σ H {s with heap:=s.heap.push {cls:= .type "range",data:= .fields #[.int lo t,.int hi u,.int 1 v]},toks:=tk}:=I.kept λb o e=>aag _ e
 refine⟨(s.heap.push {cls:= .type "range",data:= .fields #[.int lo t,.int hi u,.int 1 v]}).objs.size,[(s.heap.push {cls:= .type "range",data:= .fields #[.int lo t,.int hi u,.int 1 v]}).objs.size],_,_,H,acg,
  I1.kept (t':=tk) λb o e=>aag _ e,GP _ lo (hi - lo).toNat, ?_,λb hb=>?_,q⟩
 .have e1:lo+((0:Nat):Int)*1=lo:=by simp
  have e2:(((hi - lo).toNat:Nat):Int) - ((0:Nat):Int)=Builtin.Range.rangeSize lo hi 1:=by rw[rangeSize_one];split<;>lia
  show IsRangeIter _ _ (lo+((0:Nat):Int)*1) ((((hi - lo).toNat:Nat):Int) - ((0:Nat):Int)) 1;rw[e1,e2];exact aah _ rfl
 .have e:b=(s.heap.push {cls:= .type "range",data:= .fields #[.int lo t,.int hi u,.int 1 v]}).objs.size:=by simpa using hb
  subst e;exact I1.yF (aaj _) (I1.hok.fresh (aaj _))
noncomputable def abk(ta:TA):TI:=λσ H R=>ta σ H λvs H1=>∃j:Int,vs=[.int j] /\ -(2 ^ 62)<=j/\j<2 ^ 62/\R (RK 0 j.toNat) H1
noncomputable def abj(ta:TA):TI:=λσ H R=>ta σ H λvs H1=>∃i j:Int,vs=[.int i,.int j]/\(-(2 ^ 62)<=i/\i<2 ^ 62 /\ -(2 ^ 62)<=j/\j<2 ^ 62)/\R (RK i (j - i).toNat) H1
theorem cR{a:Expr}{ta:TA}{p pos:Pos}(hg:Gl X "range")(hm:X.mg "range" = none)(ha:PA X [a] ta)(hs:starEach [a] X.env=[(false,eval a X.env)]:=by rfl):PI X tg (.Call (.Name "range" p) [a] [] pos) (abk ta):=by
 intro pins s σ H R I h;refine Call_ (nQ I hg hm boot_range (PyProof.Rows.callWith_type1 (dG (ha pos pins s σ H _ I h) λus s1 ⟨vs,H1,I1,r1,q1⟩=>?_) hs rfl));obtain⟨j,e,q1,q2,q⟩:=q1;subst e;cases r1 with
 | cons r rr=>
   cases rr;obtain⟨t,rfl⟩:=r;exact call_range_1 (Et I1 (by lia) (by lia) q1 q2 (by simpa using q))
theorem zZ{a b:Expr}{ta:TA}{p pos:Pos}(hg:Gl X "range")(hm:X.mg "range" = none)(ha:PA X [a,b] ta)(hs:starEach [a,b] X.env=[(false,eval a X.env),(false,eval b X.env)]:=by rfl)(hs2:starEach [b] X.env=[(false,eval b X.env)]:=by rfl):
 PI X tg (.Call (.Name "range" p) [a,b] [] pos) (abj ta):=by
 intro pins s σ H R I h;refine Call_ (nQ I hg hm boot_range (PyProof.Rows.callWith_type1 (dG (ha pos pins s σ H _ I h) λus s1 ⟨vs,H1,I1,r1,q1⟩=>?_) (by rw[hs,hs2]) (by rw[hs2];rfl)));obtain⟨i,j,e,⟨q1,q2,q3,q4⟩,q⟩:=q1;subst e;cases r1 with
 | cons r rr=>
   cases rr with
   | cons r' rr=>
     cases rr;obtain⟨t,rfl⟩:=r;obtain⟨t',rfl⟩:=r';exact call_range_2 (Et I1 q1 q2 q3 q4 q)
noncomputable def adF(wi:TI)(g:TG)(tb:TS):TS:=λD σ H=>wi σ H λJ H1=>∃W:Nat->Nat->St->Hp->Prop,(∃m,W 0 m σ H1) /\ ∀i m σ H,W i m σ H ->
 (J.stop i H/\D.nx σ H)\/(J.go i H /\ ∃N:St->Hp->Prop,(∀σ' H',N σ' H' -> ∃m',m'<m/\W (i+1) m' σ' H') /\ ∀x H',J.W8 i H x H'->g x σ H' λσ2 H2=>tb {D with nx:=N,ct:=N,bk:=D.nx} σ2 H2)
noncomputable def xZ(fp:List Addr)(h:Heap):List (Addr×Obj):=fp.filterMap λb=>(h.get? b).map λo=>(b,o)
theorem nP{fp:List Addr}{h:Heap}{b:Addr}{o:Obj}(hb:b∈fp)(e:h.get? b=some o):(b,o)∈xZ fp h:=List.mem_filterMap.mpr ⟨b,hb,by rw[e];rfl⟩
theorem Lj{fp:List Addr}{h:Heap}{p:Addr×Obj}(hp:p∈xZ fp h):p.1∈fp/\h.get? p.1=some p.2:=by
 obtain⟨b,hb,e⟩:=List.mem_filterMap.mp hp;cases q:h.get? b with
 | none=>rw[q] at e;cases e
 | some o=>
   rw[q] at e;have e':(b,o)=p:=aaC e;subst e';exact⟨hb,q⟩
theorem Inv.pinned{pins:List (Addr×Obj)}{σ:St}{H:Hp}{s:Shared}{fp:List Addr}(I:Inv X pins σ H s)(hf:∀b∈fp,pY X pins H b)(ho:∀b∈fp,∃o,s.heap.get? b=some o /\ ∀v,o.data ≠ .cell v):Inv X (pins++xZ fp s.heap) σ H s:=
 I.JK λp hp=>(abb.mp hp).elim (λz=>I.pin p (List.mem_append_right _ z)) λz=>by
  obtain⟨hb,e⟩:=Lj z;obtain⟨f0,f1,f2,_⟩:=hf p.1 hb;obtain⟨o,e',d⟩:=ho p.1 hb;rw[e] at e';cases e';exact⟨e,f0,f1,f2,d⟩
theorem Inv.rQ{pins pl:List (Addr×Obj)}{σ:St}{H:Hp}{s:Shared}(I:Inv X (pins++pl) σ H s):Inv X pins σ H s:=I.JK λp hp=>I.pin p (List.mem_append_right _ (List.mem_append_left _ hp))
theorem jr{iter:Expr}{body:List Stmt}{wi:TI}{g:TG}{tb:TS}{pos:Pos}(hp:PassesOwn (model X.prog X.w) X.A X.env X.xe)(hc:X.calm=true)(hi:PI X tg iter wi)(hg:PG X tg g)(hb:IW X body tb)(hs:∀x,foldedSetIterable iter X.env x=pure x:=by intro _;rfl):PS X (.For tg iter body [] pos) (adF wi g tb):=by
 intro pins s σ H D I h;refine wpAny_For (dG (hi pins s σ H _ I h) λv s1 h1=>dG h1 λitv s2 h2=>?_) hs;obtain⟨it,fp,tn,J,H2,e,I2,T,st2,f2,W,⟨m0,w0⟩,turn⟩:=h2;subst e;have stat:∀{H':Hp},(∀b∈fp,H' b=none) -> ∀b∈fp,pY X pins H' b:=λhn b hb=>⟨hn b hb,(f2 b hb).2⟩;refine codeAny_forLoop_any (λn s'=>∃i σ' H',Inv X pins σ' H' s'/\tn i s'.heap/\(∀b∈fp,H' b=none)/\W i n σ' H') ?_ m0 ⟨0,σ,H2,I2,st2,λb hb=>(f2 b hb).1,w0⟩;rintro n s3 ⟨i,σ3,H3,I3,st3,fr3,w3⟩;rcases turn i n σ3 H3 w3 with ⟨stop,qn⟩|⟨go,N,hN,step⟩
 .refine wpAny_passesOwn hp (dG (T.done X rfl rfl rfl hc i pins s3 σ3 H3 X.xe I3 (stat fr3) st3 stop) λr s4 ⟨hr,I4⟩=>?_)
  subst hr;exact wpAny_execs_nil ⟨σ3,H3,I4,qn⟩
 .refine wpAny_passesOwn hp (dG (T.item X rfl rfl rfl hc i pins s3 σ3 H3 X.xe I3 (stat fr3) st3 go) λr s4 ⟨u,hr,h4⟩=>?_)
  subst hr;refine wpAny_passesOwn hp (dG h4 λ_ s5 gO=>?_);obtain⟨x,H5,I5,r5,y5,Tp,fr5⟩:=gO;have I5':=I5.pinned (stat fr5) (T.obj _ _ Tp);refine wpAny_passesOwn hp (dG (hg _ s5 σ3 H5 x u _ I5' r5 (step x H5 y5)) λ_ s6 gO=>?_);obtain⟨σ6,H6,I6,q6⟩:=gO;refine wpAny_passesOwn hp (dG (hb _ s6 σ6 H6 _ I6 q6) λf s7 q7=>?_)
  have again:∀{σ7:St}{H7:Hp},Inv X (pins++xZ fp s5.heap) σ7 H7 s7->N σ7 H7 -> ∃m,m<n /\ ∃i σ' H',Inv X pins σ' H' s7/\tn i s7.heap/\(∀b∈fp,H' b=none)/\W i m σ' H':=fun {σ7 H7} I7 n7=>by
   obtain⟨m',hm,w7⟩:=hN σ7 H7 n7;refine⟨m',hm,i+1,σ7,H7,I7.rQ,T.keep _ _ _ Tp λb hb o e=>(I7.pin (b,o) (List.mem_append_right _ (List.mem_append_right _ (nP hb e)))).1,λb hb=>?_,w7⟩;obtain⟨o,e,d⟩:=T.obj _ _ Tp b hb;exact(I7.pin (b,o) (List.mem_append_right _ (List.mem_append_right _ (nP hb e)))).2.1
  cases f with
  | next=>obtain⟨σ7,H7,I7,n7⟩:=q7;exact again I7 n7
  | cont=>obtain⟨σ7,H7,I7,n7⟩:=q7;exact again I7 n7
  | brk=>obtain⟨σ7,H7,I7,q7⟩:=q7;exact⟨σ7,H7,I7.rQ,q7⟩
  | ret v=>obtain⟨x7,σ7,H7,I7,r7,q7⟩:=q7;exact⟨x7,σ7,H7,I7.rQ,r7,q7⟩
end
theorem yG{K:PySem.W.Frag}{a:Addr}{xs:List V}{g:TG}{tb:TS}{D:Ends}{σ:St}{H:Hp}(Pv:Nat->St->Hp->Prop)(h0:Pv 0 σ H)(hl:∀i σ H,i<=xs.length->Pv i σ H->bI K H a xs)(hs:∀i x σ H,xs[i]? = some x->Pv i σ H->g x σ H λσ2 H2=>tb {D with nx:=Pv (i+1),ct:=Pv (i+1),bk:=D.nx} σ2 H2)(hd:∀σ H,Pv xs.length σ H->D.nx σ H):
 ∃W:Nat->Nat->St->Hp->Prop,(∃m,W 0 m σ H) /\ ∀i m σ H,W i m σ H ->
  ((RL K a).stop i H/\D.nx σ H)\/((RL K a).go i H /\ ∃N:St->Hp->Prop,(∀σ' H',N σ' H' -> ∃m',m'<m/\W (i+1) m' σ' H') /\ ∀x H',(RL K a).W8 i H x H'->g x σ H' λσ2 H2=>tb {D with nx:=N,ct:=N,bk:=D.nx} σ2 H2):=by
 refine⟨λi m σ H=>m=xs.length - i/\i<=xs.length/\Pv i σ H,⟨xs.length,by simp,Nat.zero_le _,h0⟩, ?_⟩;rintro i m σ H ⟨rfl,hi,p⟩;have q:=hl i σ H hi p
 by_cases hlt:i<xs.length
 .refine .inr ⟨⟨xs,xs[i],q,by simp[hlt]⟩,Pv (i+1),λσ' H' p'=>⟨xs.length - (i+1),by lia,acg,hlt,p'⟩,λx H' y=>?_⟩
  obtain⟨e,y⟩:=y;subst e;exact hs i x σ _ (y xs q) p
 .have e:i=xs.length:=by lia
  subst e;exact .inl ⟨⟨xs,q,aaj _⟩,hd σ H p⟩
theorem iU{lo:Int}{n:Nat}{g:TG}{tb:TS}{D:Ends}{σ:St}{H:Hp}(Pv:Nat->St->Hp->Prop)(h0:Pv 0 σ H)(hs:∀i σ H,i<n->Pv i σ H->g (.int (lo+i)) σ H λσ2 H2=>tb {D with nx:=Pv (i+1),ct:=Pv (i+1),bk:=D.nx} σ2 H2)(hd:∀σ H,Pv n σ H->D.nx σ H):
 ∃W:Nat->Nat->St->Hp->Prop,(∃m,W 0 m σ H) /\ ∀i m σ H,W i m σ H ->
  ((RK lo n).stop i H/\D.nx σ H)\/((RK lo n).go i H /\ ∃N:St->Hp->Prop,(∀σ' H',N σ' H' -> ∃m',m'<m/\W (i+1) m' σ' H') /\ ∀x H',(RK lo n).W8 i H x H'->g x σ H' λσ2 H2=>tb {D with nx:=N,ct:=N,bk:=D.nx} σ2 H2):=by
 refine⟨λi m σ H=>m=n - i/\i<=n/\Pv i σ H,⟨n,by simp,Nat.zero_le _,h0⟩, ?_⟩;rintro i m σ H ⟨rfl,hi,p⟩
 by_cases hlt:i<n
 .refine .inr ⟨hlt,Pv (i+1),λσ' H' p'=>⟨n - (i+1),by lia,acg,hlt,p'⟩,λx H' y=>?_⟩
  obtain⟨e,y⟩:=y;subst e y;exact hs i σ _ hlt p
 .have e:i=n:=by lia
  subst e;exact .inl ⟨aaj _,hd σ H p⟩
noncomputable abbrev R2:=V->V->Hp->VK->Prop
noncomputable def qx(X:Cx)(f:Value->Value->Sem Value)(r:R2):Prop:=
 ∀(pins:List (Addr×Obj))(s:Shared)(σ:St)(H:Hp)(x y:V)(v u:Value)(Q:VK),Inv X pins σ H s->RelV x v->RelV y u->r x y H Q ->
  wpAny (model X.prog X.w) X.A (f v u) (EP X pins σ Q) X.xe s
noncomputable def UnR(X:Cx)(f:Value->Sem Value)(r:V->Hp->VK->Prop):Prop:=
 ∀(pins:List (Addr×Obj))(s:Shared)(σ:St)(H:Hp)(x:V)(v:Value)(Q:VK),Inv X pins σ H s->RelV x v->r x H Q ->
  wpAny (model X.prog X.w) X.A (f v) (EP X pins σ Q) X.xe s
noncomputable def jA(X:Cx)(f:Value)(r:List V->Hp->VK->Prop):Prop:=
 ∀(pins:List (Addr×Obj))(s:Shared)(σ:St)(H:Hp)(xs:List V)(us:List Value)(Q:VK),Inv X pins σ H s->Vals xs us->r xs H Q ->
  wpAny (model X.prog X.w) X.A (call f us) (EP X pins σ Q) X.xe s
noncomputable def afZ(X:Cx)(r:V->Hp->(Bool->Hp->Prop)->Prop):Prop:=
 ∀(pins:List (Addr×Obj))(s:Shared)(σ:St)(H:Hp)(x:V)(v:Value)(Q:Bool->Hp->Prop),Inv X pins σ H s->RelV x v->r x H Q ->
  wpAny (model X.prog X.w) X.A (truthy v) (TP X pins σ Q) X.xe s
noncomputable def vL(r:R2)(ta tb:TE):TE:=λσ H Q=>ta σ H λx H1=>tb σ H1 λy H2=>r x y H2 Q
noncomputable def tUn(r:V->Hp->VK->Prop)(ta:TE):TE:=λσ H Q=>ta σ H λx H1=>r x H1 Q
noncomputable def rI(C:Int->Int->Prop)(g:Int->Int->V):R2:=λx y H Q=>∃i j,x = .int i/\y = .int j/\C i j/\Q (g i j) H
noncomputable def Wk(g:Int->Int->V):R2:=λx y H Q=>∃i j,x = .int i/\y = .int j/\Q (g i j) H
noncomputable def rU(g:Int->V):V->Hp->VK->Prop:=λx H Q=>∃i,x = .int i/\Q (g i) H
section
variable{X:Cx}{a b c:Expr}{ta tb tc:TE}{pos:Pos}
theorem ZC(ha:PE X a ta)(hb:PE X b tb){pins:List (Addr×Obj)}{s:Shared}{σ:St}{H:Hp}{R:V->V->Hp->Prop}(I:Inv X pins σ H s)(h:ta σ H λx H1=>tb σ H1 λy H2=>R x y H2){Q:Value->Shared->Prop}{f:Value->Value->Sem Value}(hf:∀v u s2 x y H2,Inv X pins σ H2 s2->RelV x v->RelV y u->R x y H2->wpAny (model X.prog X.w) X.A (f v u) Q X.xe s2):
 wpAny (model X.prog X.w) X.A (eval a X.env) (λv s₁=>wpAny (model X.prog X.w) X.A (eval b X.env) (λu s₂=>wpAny (model X.prog X.w) X.A (f v u) Q X.xe s₂) X.xe s₁) X.xe s:=by
 refine dG (ha pins s σ H _ I h) λv s1 gO=>?_;obtain⟨x,H1,I1,r1,q1⟩:=gO;refine dG (hb pins s1 σ H1 _ I1 q1) λu s2 gO=>?_;obtain⟨y,H2,I2,r2,q2⟩:=gO;exact hf v u s2 x y H2 I2 r1 r2 q2
theorem bY{op:Operator}{r:R2}(ho:qx X (binaryOp op) r)(ha:PE X a ta)(hb:PE X b tb):PE X (.BinOp a op b pos) (vL r ta tb):=by
 intro pins s σ H Q I h;exact wpAny_BinOp (ZC ha hb I h λv u s2 x y H2 I2 rx ry q=>ho pins s2 σ H2 x y v u Q I2 rx ry q)
theorem Wn{op:UnaryOp}{r:V->Hp->VK->Prop}(ho:UnR X (unaryOp op) r)(ha:PE X a ta):PE X (.UnaryOp op a pos) (tUn r ta):=by
 intro pins s σ H Q I h;exact UnaryOp_ (dG (ha pins s σ H _ I h) λv s1 ⟨x,H1,I1,r1,q1⟩=>ho pins s1 σ H1 x v Q I1 r1 q1)
theorem opI{f:Value->Value->Sem Value}{C:Int->Int->Prop}{g:Int->Int->Int}(rule:∀(i j:Int)(t u:Tok)(s:Shared)(Q:Value->Shared->Prop)(E:Value->Shared->Prop),C i j->Q (.int (g i j) s.toks) {s with toks:=s.toks+1}->wpAny (model X.prog X.w) X.A (f (.int i t) (.int j u)) Q E s):
 qx X f (rI C λi j=> .int (g i j)):=by
 intro pins s σ H x y v u Q I rx ry h;obtain⟨i,j,rfl,rfl,hc,q⟩:=h;obtain⟨t,rfl⟩:=rx;obtain⟨t',rfl⟩:=ry;exact rule i j t t' s _ _ hc ⟨.int (g i j),H,I.tok _,⟨_,acg⟩,q⟩
theorem aa0{f:Value->Value->Sem Value}{g:Int->Int->Int}(rule:∀(i j:Int)(t u:Tok)(s:Shared)(Q:Value->Shared->Prop)(E:Value->Shared->Prop),Q (.int (g i j) s.toks) {s with toks:=s.toks+1}->wpAny (model X.prog X.w) X.A (f (.int i t) (.int j u)) Q E s):
 qx X f (Wk λi j=> .int (g i j)):=by
 intro pins s σ H x y v u Q I rx ry h;obtain⟨i,j,rfl,rfl,q⟩:=h;obtain⟨t,rfl⟩:=rx;obtain⟨t',rfl⟩:=ry;exact rule i j t t' s _ _ ⟨.int (g i j),H,I.tok _,⟨_,acg⟩,q⟩
theorem Um{f:Value->Value->Sem Value}{g:Int->Int->Bool}(rule:∀(i j:Int)(t u:Tok)(s:Shared)(Q:Value->Shared->Prop)(E:Value->Shared->Prop),Q (.bool (g i j)) s->wpAny (model X.prog X.w) X.A (f (.int i t) (.int j u)) Q E s):
 qx X f (Wk λi j=> .bl (g i j)):=by
 intro pins s σ H x y v u Q I rx ry h;obtain⟨i,j,rfl,rfl,q⟩:=h;obtain⟨t,rfl⟩:=rx;obtain⟨t',rfl⟩:=ry;exact rule i j t t' s _ _ ⟨.bl (g i j),H,I,acg,q⟩
noncomputable def GD(i j:Int):Prop:=0<=j/\j<=1000000/\i.natAbs<2 ^ 64
noncomputable def Z0(i j:Int):Prop:=(-(2 ^ 64)<i/\i<2 ^ 64)\/(-(2 ^ 64)<j/\j<2 ^ 64)
theorem Z0.ok{i j:Int}(h:Z0 i j):IntMulOk i j:=by
 rcases h with ⟨h1,h2⟩|⟨h1,h2⟩
 .exact .of_left (intBits_le_64 h1 h2)
 .exact .of_right (intBits_le_64 h1 h2)
theorem iy:qx X (binaryOp .Add) (Wk λi j=> .int (i+j)):=aa0 λ_ _ _ _ _ _ _ q=>add_int q
theorem rm:qx X (binaryOp .Sub) (Wk λi j=> .int (i - j)):=aa0 λ_ _ _ _ _ _ _ q=>sub_int q
theorem Ci:qx X (binaryOp .Mult) (rI Z0 λi j=> .int (i*j)):=opI λ_ _ _ _ _ _ _ hc q=>mul_int q hc.ok
theorem nM:qx X (binaryOp .Mod) (rI (λ_ j=>0<j) λi j=> .int (i % j)):=opI λi j _ _ _ _ _ hc q=>by
 have h1:(0:Int)<j:=hc;exact mod_int' (by lia) (by rw[Int.fmod_eq_emod_of_nonneg i (by lia)];exact q)
theorem pB:qx X (binaryOp .Pow) (rI GD λi j=> .int (i ^ j.toNat)):=opI λ_ _ _ _ _ _ _ hc q=>pow_int_small hc.1 hc.2.1 hc.2.2 q
theorem unI{f:Value->Sem Value}{g:Int->Int}(rule:∀(i:Int)(t:Tok)(s:Shared)(Q:Value->Shared->Prop)(E:Value->Shared->Prop),Q (.int (g i) s.toks) {s with toks:=s.toks+1}->wpAny (model X.prog X.w) X.A (f (.int i t)) Q E s):
 UnR X f (rU λi=> .int (g i)):=by
 intro pins s σ H x v Q I rx h;obtain⟨i,rfl,q⟩:=h;obtain⟨t,rfl⟩:=rx;exact rule i t s _ _ ⟨.int (g i),H,I.tok _,⟨_,acg⟩,q⟩
theorem Nv:UnR X (unaryOp .USub) (rU λi=> .int (-i)):=unI λ_ _ _ _ _ q=>neg_int q
end
noncomputable def aaQ:V->V->Bool
 | .non,.non=>true | .non,.int _=>true | .int _,.non=>true | .non,.bl _=>true | .bl _,.non=>true | .non,.str _=>true | .str _,.non=>true
 | .int _,.int _=>true | .bl _,.bl _=>true | .str _,.str _=>true | .Iv _,.Iv _=>true
 | .int _,.str _=>true | .str _,.int _=>true | .bl _,.str _=>true | .str _,.bl _=>true
 | _,_=>false
noncomputable def rEq:R2:=λx y H Q=>aaQ x y=true/\Q (.bl (decide (x=y))) H
noncomputable def rNe:R2:=λx y H Q=>aaQ x y=true/\Q (.bl (!decide (x=y))) H
theorem Kc{i j:Int}:decide (V.int i=V.int j)=(i==j):=by
 rw[Bool.eq_iff_iff];simp
theorem Q7{i j:Bool}:decide (V.bl i=V.bl j)=(i==j):=by
 rw[Bool.eq_iff_iff];simp
theorem Ka{i j:Str}:decide (V.str i=V.str j)=(i==j):=by
 rw[Bool.eq_iff_iff];simp
theorem Kd{i j:Array UInt8}:decide (V.Iv i=V.Iv j)=(i.toList==j.toList):=by
 rw[Bool.eq_iff_iff];cases i;cases j;simp
section
variable{X:Cx}{a b c:Expr}{ta tb tc:TE}{pos:Pos}
theorem cF{pins:List (Addr×Obj)}{σ:St}{H:Hp}{s:Shared}{Q:VK}{k k':Bool}(I:Inv X pins σ H s)(q:Q (.bl k) H)(e:k=k'):EP X pins σ Q (.bool k') s:=by
 subst e;exact⟨.bl k,H,I,acg,q⟩
theorem dU:qx X (compareOp .Eq) rEq:=by
 intro pins s σ H x y v u Q I rx ry h;obtain⟨hs,q⟩:=h;cases x with
 | non=>
   cases rx;cases y with
   | non=>cases ry;exact PySem.EqNone.eq_none_none (cF I q (by simp))
   | bl j=>cases ry;exact PySem.EqNone.eq_none_bool (cF I q (by simp))
   | int j=>obtain⟨t',rfl⟩:=ry;exact PySem.EqNone.eq_none_int (cF I q (by simp))
   | str j=>obtain⟨t',rfl⟩:=ry;exact PySem.EqNone.eq_none_str (cF I q (by simp))
   | _=>exact ace (show false=true from hs) aax
 | bl i=>
   cases rx;cases y with
   | non=>cases ry;exact PySem.EqNone.eq_bool_none (cF I q (by simp))
   | bl j=>cases ry;exact eq_bool (cF I q Q7)
   | str j=>obtain⟨t',rfl⟩:=ry;exact PySem.EqMixed.eq_bool_str (cF I q (by simp))
   | _=>exact ace (show false=true from hs) aax
 | int i=>
   obtain⟨t,rfl⟩:=rx;cases y with
   | non=>cases ry;exact PySem.EqNone.eq_int_none (cF I q (by simp))
   | int j=>obtain⟨t',rfl⟩:=ry;exact eq_int (cF I q Kc)
   | str j=>obtain⟨t',rfl⟩:=ry;exact PySem.EqMixed.eq_int_str (cF I q (by simp))
   | _=>exact ace (show false=true from hs) aax
 | str i=>
   obtain⟨t,rfl⟩:=rx;cases y with
   | non=>cases ry;exact PySem.EqNone.eq_str_none (cF I q (by simp))
   | bl j=>cases ry;exact PySem.EqMixed.eq_str_bool (cF I q (by simp))
   | int j=>obtain⟨t',rfl⟩:=ry;exact PySem.EqMixed.eq_str_int (cF I q (by simp))
   | str j=>obtain⟨t',rfl⟩:=ry;exact eq_str (cF I q Ka)
   | _=>exact ace (show false=true from hs) aax
 | Iv i=>
   obtain⟨t,rfl⟩:=rx;cases y with
   | Iv j=>obtain⟨t',rfl⟩:=ry;exact PySem.W.eq_bytes (cF I q Kd)
   | _=>exact ace (show false=true from hs) aax
 | _=>cases y<;>exact ace (show false=true from hs) aax
theorem kW:qx X (compareOp .NotEq) rNe:=by
 intro pins s σ H x y v u Q I rx ry h;obtain⟨hs,q⟩:=h;cases x with
 | non=>
   cases rx;cases y with
   | non=>cases ry;exact PySem.EqNone.ne_none_none (cF I q (by simp))
   | bl j=>cases ry;exact PySem.EqNone.ne_none_bool (cF I q (by simp))
   | int j=>obtain⟨t',rfl⟩:=ry;exact PySem.EqNone.ne_none_int (cF I q (by simp))
   | str j=>obtain⟨t',rfl⟩:=ry;exact PySem.EqNone.ne_none_str (cF I q (by simp))
   | _=>exact ace (show false=true from hs) aax
 | bl i=>
   cases rx;cases y with
   | non=>cases ry;exact PySem.EqNone.ne_bool_none (cF I q (by simp))
   | bl j=>cases ry;exact ne_bool (cF I q (congrArg not Q7))
   | str j=>obtain⟨t',rfl⟩:=ry;exact PySem.EqMixed.ne_bool_str (cF I q (by simp))
   | _=>exact ace (show false=true from hs) aax
 | int i=>
   obtain⟨t,rfl⟩:=rx;cases y with
   | non=>cases ry;exact PySem.EqNone.ne_int_none (cF I q (by simp))
   | int j=>obtain⟨t',rfl⟩:=ry;exact ne_int (cF I q (congrArg not Kc))
   | str j=>obtain⟨t',rfl⟩:=ry;exact PySem.EqMixed.ne_int_str (cF I q (by simp))
   | _=>exact ace (show false=true from hs) aax
 | str i=>
   obtain⟨t,rfl⟩:=rx;cases y with
   | non=>cases ry;exact PySem.EqNone.ne_str_none (cF I q (by simp))
   | bl j=>cases ry;exact PySem.EqMixed.ne_str_bool (cF I q (by simp))
   | int j=>obtain⟨t',rfl⟩:=ry;exact PySem.EqMixed.ne_str_int (cF I q (by simp))
   | str j=>obtain⟨t',rfl⟩:=ry;exact ne_str (cF I q (congrArg not Ka))
   | _=>exact ace (show false=true from hs) aax
 | Iv i=>
   obtain⟨t,rfl⟩:=rx;cases y with
   | Iv j=>obtain⟨t',rfl⟩:=ry;exact PySem.W.ne_bytes (cF I q (congrArg not Kd))
   | _=>exact ace (show false=true from hs) aax
 | _=>cases y<;>exact ace (show false=true from hs) aax
theorem qM:qx X (compareOp .Lt) (Wk λi j=> .bl (decide (i<j))):=Um λ_ _ _ _ _ _ _ q=>lt_int q
theorem aaZ:qx X (compareOp .LtE) (Wk λi j=> .bl (decide (i<=j))):=Um λ_ _ _ _ _ _ _ q=>le_int q
theorem Wq:qx X (compareOp .Gt) (Wk λi j=> .bl (decide (j<i))):=Um λ_ _ _ _ _ _ _ q=>gt_int q
theorem Wr:qx X (compareOp .GtE) (Wk λi j=> .bl (decide (j<=i))):=Um λ_ _ _ _ _ _ _ q=>ge_int q
theorem Cj:qx X (compareOp .Is) (λx y H Q=>y = .non/\Q (.bl (decide (x = .non))) H):=by
 intro pins s σ H x y v u Q I rx ry h;obtain⟨rfl,q⟩:=h;cases ry;refine is_none_gen (cF I q ?_)
 cases x<;>first
  | (cases rx;rfl)
  | (obtain⟨t,rfl⟩:=rx;rfl)
theorem JN:qx X (compareOp .IsNot) (λx y H Q=>y = .non/\Q (.bl (!decide (x = .non))) H):=by
 intro pins s σ H x y v u Q I rx ry h;obtain⟨rfl,q⟩:=h;cases ry;refine isnot_none_gen (cF I q ?_)
 cases x<;>first
  | (cases rx;rfl)
  | (obtain⟨t,rfl⟩:=rx;rfl)
noncomputable def isObj:HO->Bool
 | .lst _=>true
 | .ins _ _ _=>true
 | _=>false
theorem bw(b:Expr){op:CmpOp}(h:op ≠ .In:=by decide)(h2:op ≠ .NotIn:=by decide):behindInMarks op b=false:=by
 have e1:(op==CmpOp.In)=false:=by cases op<;>first |rfl|exact ace rfl h
 have e2:(op==CmpOp.NotIn)=false:=by cases op<;>first |rfl|exact ace rfl h2
 cases b<;>simp[behindInMarks,e1,e2]
theorem cI{op:CmpOp}{r:R2}(ho:qx X (compareOp op) r)(ha:PE X a ta)(hb:PE X b tb)(hm:behindInMarks op b=false):PE X (.Compare a [op] [b] pos) (vL r ta tb):=by
 intro pins s σ H Q I h;exact wpAny_Compare1 (ZC ha hb I h λv u s2 x y H2 I2 rx ry q=>ho pins s2 σ H2 x y v u Q I2 rx ry q) hm
noncomputable def Ju(t:TE):TT:=λσ H Q=>t σ H λx H'=>∃k,x = .bl k/\Q k H'
theorem bF{op:CmpOp}{r:R2}(ho:qx X (compareOp op) r)(ha:PE X a ta)(hb:PE X b tb)(hm:behindInMarks op b=false):PT X (.Compare a [op] [b] pos) (Ju (vL r ta tb)):=by
 intro pins s σ H Q I h
 refine wpAny_isTrue_Compare1 (dG (ha pins s σ H _ I h) λv s1 ⟨x,H1,I1,r1,q1⟩=>dG (hb pins s1 σ H1 _ I1 q1) λu s2 ⟨y,H2,I2,r2,q2⟩=>
  dG (ho pins s2 σ H2 x y v u _ I2 r1 r2 q2) λc s3 ⟨z,H3,I3,r3,k,e,q3⟩=>?_) hm
 subst e;cases r3;exact wpAny_truthy_bool ⟨H3,I3,q3⟩
noncomputable def Xq(r r':R2)(ta tb tc:TE):TE:=λσ H Q=>ta σ H λx H1=>tb σ H1 λy H2=>r x y H2 λz H3=>∃k,z = .bl k /\
 (if k=true then tc σ H3 λw' H4=>r' y w' H4 Q else Q (.bl false) H3)
theorem Py{op op':CmpOp}{r r':R2}(ho:qx X (compareOp op) r)(ho':qx X (compareOp op') r')(ha:PE X a ta)(hb:PE X b tb)(hc:PE X c tc)(hm:lastMarks [op,op'] [b,c]=false:=by with_unfolding_all rfl):PE X (.Compare a [op,op'] [b,c] pos) (Xq r r' ta tb tc):=by
 intro pins s σ H Q I h
 refine Compare_chain (dG (ha pins s σ H _ I h) λv s1 ⟨x,H1,I1,r1,q1⟩=>chain_link (dG (hb pins s1 σ H1 _ I1 q1) λu s2 ⟨y,H2,I2,r2,q2⟩=>
  dG (ho pins s2 σ H2 x y v u _ I2 r1 r2 q2) λd s3 ⟨z,H3,I3,r3,k,e,q3⟩=>?_)) hm
 subst e;cases r3;refine wpAny_truthy_bool ?_;cases k with
 | false=>exact ite_ff ⟨.bl false,H3,I3,acg,q3⟩
 | true=>exact ite_tt (chain_last (dG (hc pins s3 σ H3 _ I3 q3) λw' s4 ⟨z',H4,I4,r4,q4⟩=>ho' pins s4 σ H4 y z' u w' Q I4 r2 r4 q4))
noncomputable def ZG(K:PySem.W.Frag)(x:V)(H:Hp)(k:Bool):Prop:=
 match x with
 | .non=>k=false
 | .bl b=>k=b
 | .int i=>k=(i != 0)
 | .str y=>y.length<=sizeLine/\k=((y.length:Int) != 0)
 | .Iv y=>y.size<=sizeLine/\k=((y.size:Int) != 0)
 | .ref p=>(∃xs,bI K H p xs/\k = !xs.isEmpty)\/(∃xs,cD K H p xs/\k = !xs.isEmpty) \/ ∃kvs,H p=some (.dK kvs)/\k = !kvs.isEmpty
 | _=>False
theorem Ia{κ:Type}{kvs:List (κ×V)}{vs:List (κ×Value)}(r:KV kvs vs):(!vs.isEmpty) = !kvs.isEmpty:=by
 cases r<;>rfl
theorem yt{xs:List V}{its:List Value}(r:Vals xs its):(!its.toArray.isEmpty) = !xs.isEmpty:=by
 cases r<;>simp
theorem rA:(sizeLine:Nat)<2 ^ 63:=by rw[sizeLine_eq];decide
theorem Xb:afZ X (λx H Q=>∃k,ZG X.K x H k/\Q k H):=by
 intro pins s σ H x v Q I rx h;obtain⟨k,e,q⟩:=h;have hl:=rA;have hs:sizeLine=16777216:=sizeLine_eq;cases x with
 | non=>
   cases rx;have e':k=false:=e;subst e';exact truthy_none ⟨H,I,q⟩
 | bl b=>
   cases rx;have e':k=b:=e;subst e';exact wpAny_truthy_bool ⟨H,I,q⟩
 | int i=>
   obtain⟨t,rfl⟩:=rx;have e':k=(i != 0):=e;subst e';exact PySem.P.truthy_int ⟨H,I,q⟩
 | str y=>
   obtain⟨t,rfl⟩:=rx;obtain⟨hy,e'⟩:y.length<=sizeLine/\k=((y.length:Int) != 0):=e;subst e';exact PySem.P.truthy_str (by lia) ⟨H,I.tok _,q⟩
 | Iv y=>
   obtain⟨t,rfl⟩:=rx;obtain⟨hy,e'⟩:y.size<=sizeLine/\k=((y.size:Int) != 0):=e;subst e';exact PySem.W.truthy_bytes (by lia) ⟨H,I.tok _,q⟩
 | ref p=>
   cases rx;have e':(∃xs,bI X.K H p xs/\k = !xs.isEmpty)\/(∃xs,cD X.K H p xs/\k = !xs.isEmpty) \/ ∃kvs,H p=some (.dK kvs)/\k = !kvs.isEmpty:=e;rcases e' with ⟨xs,hx,e'⟩|⟨xs,hx,e'⟩|⟨kvs,hx,e'⟩
   .subst e'
    obtain⟨its,r,pl,hz⟩:=I.list hx;have hlen:=r.length;exact wpAny_truthy_list pl.isList (by simp only[aaB];lia) ⟨H,I.tok _,by rw[yt r];exact q⟩
   .subst e'
    obtain⟨its,r,pl,hz⟩:=I.tuple hx;have hlen:=r.length;exact truthy_tuple pl (by simp only[aaB];lia) ⟨H,I.tok _,by rw[yt r];exact q⟩
   .subst e'
    obtain⟨hz,hS,vs,r,m⟩:kvs.length<=sizeLine/\(p==sysModules)=false /\ ∃vs,KV kvs vs/\s.heap.DictOf (fu X.prog X.w) p vs:=I.hok p _ hx;have hlen:kvs.length=vs.length:=Paired.length r;exact wpAny_truthy_dict hS m (by lia) ⟨H,I.tok _,by rw[Ia r];exact q⟩
 | _=>exact(show False from e).elim
theorem O8(ha:PE X a ta)(he:∀whole,isTrue a X.env whole=(do let v ←whole;standAt a.pos;holding [v] (truthy v))):
 PT X a (λσ H Q=>ta σ H λx H'=>∃k,ZG X.K x H' k/\Q k H'):=by
 intro pins s σ H Q I h;exact isTrue_plain (dG (ha pins s σ H _ I h) λv s1 ⟨x,H1,I1,r1,q1⟩=>Xb pins s1 σ H1 x v Q I1 r1 q1) (he _)
theorem vals1{x:V}{us:List Value}(r:Vals [x] us):∃u,us=[u]/\RelV x u:=by
 cases r with
 | cons r1 r2=>cases r2;exact⟨_,acg,r1⟩
theorem vals2{x y:V}{us:List Value}(r:Vals [x,y] us):∃u w',us=[u,w']/\RelV x u/\RelV y w':=by
 cases r with
 | cons r1 r2=>
   cases r2 with
   | cons r3 r4=>cases r4;exact⟨_,_,acg,r1,r3⟩
theorem MN(hc:X.calm=true):jA X (.builtin "max") (λxs H Q=>∃i j,xs=[.int i,.int j]/\Q (.int (if j>i then j else i)) H):=by
 intro pins s σ H xs us Q I r h;obtain⟨i,j,rfl,q⟩:=h;obtain⟨u,w',rfl,⟨t,rfl⟩,⟨t',rfl⟩⟩:=vals2 r;refine max_two_ints (I.ok.hd hc) λh' tk k=>⟨_,H,I.kept k, ?_,q⟩
 by_cases hj:j>i
 .rw[acd hj,acd hj];exact⟨_,acg⟩
 .rw[ab' hj,ab' hj];exact⟨_,acg⟩
theorem MK(hc:X.calm=true):jA X (.builtin "min") (λxs H Q=>∃i j,xs=[.int i,.int j]/\Q (.int (if j<i then j else i)) H):=by
 intro pins s σ H xs us Q I r h;obtain⟨i,j,rfl,q⟩:=h;obtain⟨u,w',rfl,⟨t,rfl⟩,⟨t',rfl⟩⟩:=vals2 r;refine min_two_ints (I.ok.hd hc) λh' tk k=>⟨_,H,I.kept k, ?_,q⟩
 by_cases hj:j<i
 .rw[acd hj,acd hj];exact⟨_,acg⟩
 .rw[ab' hj,ab' hj];exact⟨_,acg⟩
theorem vd:jA X (.type "int") (λxs H Q=>(∃i,xs=[.int i]/\Q (.int i) H) \/ ∃k,xs=[.bl k]/\Q (.int (if k then 1 else 0)) H):=by
 intro pins s σ H xs us Q I r h;rcases h with ⟨i,rfl,q⟩|⟨k,rfl,q⟩
 .obtain⟨u,rfl,t,rfl⟩:=vals1 r
  exact call_int_int ⟨.int i,H,I,⟨_,acg⟩,q⟩
 .obtain⟨u,rfl,r1⟩:=vals1 r
  cases r1;exact call_int_bool ⟨.int (if k then 1 else 0),H,I.tok _,⟨_,acg⟩,q⟩
end
structure I_(h:Heap)(x dx C:Addr)(mA:Str->Option Value):Prop where
 obj:h.get? x=some (PySem.W.instObj C dx)
 ns:h.Ns1 dx mA
 ne:dx≠x
theorem Lp{h:Heap}{dx:Addr}{mA:Str->Option Value}(n:h.Ns1 dx mA):∃od,h.get? dx=some od /\ ∀name,PySem.W.lookIn name od=some (mA name):=by
 obtain⟨o,es,ep,ho,hd,hk,_,hm⟩:=n;refine⟨o,ho,λname=>?_⟩;have e:=hm name;unfold nsFind findBy at e;rw[←Array.find?_toList] at e;unfold PySem.W.lookIn;rw[hd];dsimp only;split
 .rename_i y q
  rw[q] at e;exact congrArg some e
 .rename_i q
  rw[q] at e
  have a:es.toList.any (·.refKey)=false:=by
   rw[List.any_eq_false];intro y hy;obtain⟨z,t,hkey⟩:=hk y (Array.mem_toList_iff.mp hy);simp[DictEntry.refKey,hkey]
  have a':¬es.toList.any (·.refKey)=true:=by rw[a];exact aax
  rw[ab' a'];exact congrArg some e
theorem I_.look{h:Heap}{x dx C:Addr}{mA:Str->Option Value}(I:I_ h x dx C mA):∃od,PySem.W.InstAt h x (PySem.W.instObj C dx) C (some od) /\ ∀name,PySem.W.lookIn name od=some (mA name):=
 let ⟨od,ho,hl⟩:=Lp I.ns
 ⟨od,⟨I.obj,acg,acg,ho⟩,hl⟩
section
variable{prog:Program}{w:World}{A:Around}{E:Value->Shared->Prop}{s:Shared}{K:PySem.W.Frag}{x dx C f:Addr}{mA:Str->Option Value}{name:Str}{v:Value}
theorem get_map{expr:Bool}{Q:Value->Shared->Prop}(X:K.In s.heap)(I:I_ s.heap x dx C mA)(hg:PySem.W.plainGet K C name=true)(hh:PySem.W.hasDictIn K C=true)(ha:PySem.W.findIn K (.ref C) name=some none)(hv:mA name=some v)(hv':PySem.W.handedIn v=true)(h:Q v {s with toks:=s.toks+1}):
 wpAny (model prog w) A (getAttr (.ref x) name expr) Q E s:=by
 obtain⟨od,J,hl⟩:=I.look;exact PySem.W.get_value X J (PySem.W.plainGet_of hg).1 (PySem.W.findObj_own hh ha rfl (by rw[hl,hv])) hv' h
theorem QH{pl:Sem Bool}{Q:Value×List Value->Shared->Prop}(X:K.In s.heap)(I:I_ s.heap x dx C mA)(hg:PySem.W.plainGet K C name=true)(hf:PySem.W.findIn K (.ref C) name=some (some (.ref f)))(ht:PySem.W.isFn K (.ref f)=true)(hv:mA name=none)(h:Q (.ref f,[.ref x]) s):
 wpAny (model prog w) A (getMethod (.ref x) name pl) Q E s:=by
 obtain⟨od,J,hl⟩:=I.look;exact PySem.W.method_fn X J (PySem.W.plainGet_of hg).1 (PySem.W.plainGet_of hg).2 hf (beq_iff_eq.mp ht) (by show (PySem.W.lookIn name od).map (·.isSome)=some false;rw[hl,hv];rfl) h
theorem Tr{ns:List Str}{Q:Unit->Shared->Prop}(X:K.In s.heap)(I:I_ s.heap x dx C mA)(hs:PySem.W.findIn K (.ref C) "__setattr__" = some (some (.builtin "object.__setattr__")))(hp:PySem.W.plainOver K C=true)(ht:PySem.W.takerIn K C name=some none)(hh:PySem.W.hasDictIn K C=true)(hw:PySem.Within mA ns)(hsz:ns.length<=sizeLine)(h:∀h',I_ h' x dx C (λy=>if y=name then some v else mA y)->Heap.SameBut dx s.heap h'->Q () {s with heap:=h',toks:=s.toks+2}):
 wpAny (model prog w) A (setAttr (.ref x) name v) Q E s:=by
 obtain⟨od,J,hl⟩:=I.look;refine PySem.W.set_plain X J hs (PySem.W.osa_open (s:={s with toks:=s.toks+1}) (r:=none) X J hp ht λb=>?_);obtain⟨cd,hc,hd'⟩:=PySem.W.any_some hh;have hx:s.heap.get? x=some ⟨.ref C,some dx,.plain, #[]⟩:=I.obj;refine aak (aal (aak (aak (wpAny_loadPart hx (aak (PySem.W.Looks.here (s:={s with toks:=s.toks+1}) (PySem.W.looks_clsIn X hc) ?_))))));rw[hd'];refine aal (a:=some dx) (aak (aal (aak ?_)));refine wpAny_nsSet1 (s:={s with toks:=s.toks+1}) I.ns λh' hn2 hs2=>?_;obtain⟨oD,esD,epD,hoD,hdD,hcD⟩:=hn2.count (PySem.Within.cons name v hw);refine aak (wpAny_lookBehind hoD (by rw[hdD];exact pastItsLine_dict (ab9 hcD (by rw[ab0];lia))) ?_);exact aal (h _ ⟨(hs2.2 _ (Ne.symm I.ne)).trans I.obj,hn2,I.ne⟩ hs2)
theorem Qq{R:Result->Shared->Prop}{vs:List Value}{kw:List (Str×Value)}(X:K.In s.heap)(hm:PySem.W.makesIn K C=true)(hi:PySem.W.findIn K (.ref C) "__init__" = some (some (.ref f)))(hf:PySem.W.typeIn K (.ref f)=some (.type "function"))(h:codeAny (model prog w) (A.under (.builtin "type.__call__" ⟨.ref C::vs,kw⟩)) (.call (.ref f) ⟨.ref (s.heap.objs.size+1)::vs,kw⟩) (PySem.W.InitBack (s.heap.objs.size+1) R)
   {s with heap:=(s.heap.push PySem.W.emptyDict).push (PySem.W.instObj C s.heap.objs.size)}):
 codeAny (model prog w) A (.call (.ref C) ⟨vs,kw⟩) R s:=by
 obtain⟨hh,g,d,t,os⟩:=s;exact PySem.W.make_core (PySem.W.makes_of X hm) (PySem.W.looks_findIn X hi) (λself=>PySem.W.bind_fn X self hf) (.inl rfl) h
end
noncomputable def cG(f:Str)(v:V):List (Str×V)->List (Str×V)
 | []=>[(f,v)]
 | (g,x)::r=>if g=f then (g,v)::r else (g,x)::cG f v r
theorem vq(f g:Str)(v:V):∀fs:List (Str×V),(cG f v fs).lookup g=if g=f then some v else fs.lookup g
 | []=>by
   show List.lookup g [(f,v)]=_
   by_cases h:g=f
   .have hb:(g==f)=true:=beq_iff_eq.mpr h
    simp only[List.lookup,hb,acd h]
   .have hb:(g==f)=false:=beq_eq_false_iff_ne.mpr h
    simp only[List.lookup,hb,ab' h]
 | (k,x)::r=>by
   have ih:=vq f g v r;rw[show cG f v ((k,x)::r)=(if k=f then (k,v)::r else (k,x)::cG f v r) from rfl]
   by_cases hk:k=f
   .rw[acd hk]
    by_cases h:g=k
    .have hb:(g==k)=true:=beq_iff_eq.mpr h
     simp only[List.lookup,hb,acd (h.trans hk)]
    .have hb:(g==k)=false:=beq_eq_false_iff_ne.mpr h
     simp only[List.lookup,hb,ab' (λe:g=f=>h (e.trans hk.symm))]
   .rw[ab' hk]
    by_cases h:g=k
    .have hb:(g==k)=true:=beq_iff_eq.mpr h
     simp only[List.lookup,hb,ab' (λe:g=f=>hk (h.symm.trans e))]
    .have hb:(g==k)=false:=beq_eq_false_iff_ne.mpr h
     simp only[List.lookup,hb];exact ih
theorem uX(f:Str)(v:V):∀fs:List (Str×V),f∈(cG f v fs).map (·.1) /\ ∀g,g∈fs.map (·.1)->g∈(cG f v fs).map (·.1)
 | []=>⟨by simp[cG],λg h=>by simp at h⟩
 | (k,x)::r=>by
   obtain⟨i1,i2⟩:=uX f v r;rw[show cG f v ((k,x)::r)=(if k=f then (k,v)::r else (k,x)::cG f v r) from rfl]
   by_cases hk:k=f
   .rw[acd hk]
    subst hk;exact⟨by simp,λg h=>by simpa using h⟩
   .rw[ab' hk]
    refine⟨?_,λg h=>?_⟩
    .rw[List.map_cons]
     exact aa7 _ i1
    .rw[List.map_cons] at h ⊢
     rcases List.mem_cons.mp h with e|e
     .exact List.mem_cons.mpr (.inl e)
     .exact aa7 _ (i2 g e)
theorem vB(f:Str)(v:V):∀fs:List (Str×V),(cG f v fs).length<=fs.length+1
 | []=>by simp[cG]
 | (k,x)::r=>by
   have ih:=vB f v r;rw[show cG f v ((k,x)::r)=(if k=f then (k,v)::r else (k,x)::cG f v r) from rfl]
   by_cases hk:k=f
   .rw[acd hk,ab0,ab0];lia
   .rw[ab' hk,ab0,ab0];lia
theorem oH.some_of{v:V}{o:Option Value}(r:oH (some v) o):∃u,o=some u/\RelV v u:=by
 cases o with
 | none=>exact(show False from r).elim
 | some u=>exact⟨u,acg,r⟩
theorem oH.none_of{o:Option Value}(r:oH none o):o=none:=by
 cases o with
 | none=>rfl
 | some u=>exact(show False from r).elim
theorem L_{v:V}{u:Value}(r:RelV v u):PySem.W.handedIn u=true:=by
 cases v with
 | non=>cases (show u=Value.none from r);rfl
 | bl b=>cases (show u=Value.bool b from r);rfl
 | int i=>obtain⟨t,e⟩:=(show ∃t,u=Value.int i t from r);cases e;rfl
 | str x=>obtain⟨t,e⟩:=(show ∃t,u=Value.str x t from r);cases e;rfl
 | Iv b=>obtain⟨t,e⟩:=(show ∃t,u=Value.bytes b t from r);cases e;rfl
 | flt b=>obtain⟨t,e⟩:=(show ∃t,u=Value.float b t from r);cases e;rfl
 | ref a=>cases (show u=Value.ref a from r);rfl
 | ty n=>cases (show u=Value.type n from r);rfl
section
variable{P:Program}{w:World}{H H':Hp}{h h':Heap}{a C dx:Addr}{fs fs':List (Str×V)}
theorem nU(hok:qz P w H h)(e:H a=some (.ins C dx fs)):∃mA,I_ h a dx C mA/\(∀f,oH (fs.lookup f) (mA f))/\PySem.Within mA (fs.map (·.1))/\fs.length<=1000/\H dx=some (.own a):=by
 obtain⟨d,z,ne,ob,mA,n,r,q⟩:=(show eF P w H h a (.ins C dx fs) from hok a _ e);exact⟨mA,⟨ob,n,ne⟩,r,q,z,d⟩
end
structure Cls(K:PySem.W.Frag)(C:Addr):Prop where
 pg:PySem.W.plainGet K C Str.empty=true
 hd:PySem.W.hasDictIn K C=true
 po:PySem.W.plainOver K C=true
 sa:PySem.W.findIn K (.ref C) "__setattr__" = some (some (.builtin "object.__setattr__"))
theorem Cls.get{K:PySem.W.Frag}{C:Addr}(c:Cls K C)(f:Str):PySem.W.plainGet K C f=true:=c.pg
noncomputable def eU(K:PySem.W.Frag)(C:Addr)(f:Str):Prop:=PySem.W.findIn K (.ref C) f=some none
theorem eU.taker{K:PySem.W.Frag}{C:Addr}{f:Str}(n:eU K C f):PySem.W.takerIn K C f=some none:=by
 unfold PySem.W.takerIn;rw[show PySem.W.findIn K (.ref C) f=some none from n];rfl
structure Meth(K:PySem.W.Frag)(C:Addr)(m:Str)(f:Addr):Prop where
 at_:PySem.W.findIn K (.ref C) m=some (some (.ref f))
 fn:PySem.W.isFn K (.ref f)=true
 kp:PySem.W.keepIn K (.ref f)=true
section
variable{X:Cx}{pins:List (Addr×Obj)}{σ:St}{H:Hp}{s:Shared}{a C dx:Addr}{fs:List (Str×V)}{f:Str}{v:V}{A:Around}{E:Value->Shared->Prop}
theorem yw{b:Bool}{Q:Value->Shared->Prop}(I:Inv X pins σ H s)(e:H a=some (.ins C dx fs))(c:Cls X.K C)(n:eU X.K C f)(l:fs.lookup f=some v)(h:∀u s',Inv X pins σ H s'->RelV v u->Q u s'):wpAny (model X.prog X.w) A (getAttr (.ref a) f b) Q E s:=by
 obtain⟨mA,O,r,_,_,_⟩:=nU I.hok e;obtain⟨u,hu,ru⟩:=oH.some_of (v:=v) (o:=mA f) (by rw[←l];exact r f);exact get_map I.rN O (c.get f) c.hd n hu (L_ ru) (h u _ (I.tok _) ru)
theorem rF{m:Str}{g:Addr}{pl:Sem Bool}{Q:Value×List Value->Shared->Prop}(I:Inv X pins σ H s)(e:H a=some (.ins C dx fs))(c:Cls X.K C)(k:Meth X.K C m g)(l:fs.lookup m=none)(h:Q (.ref g,[.ref a]) s):wpAny (model X.prog X.w) A (getMethod (.ref a) m pl) Q E s:=by
 obtain⟨mA,O,r,_,_,_⟩:=nU I.hok e;have hn:mA m=none:=oH.none_of (by rw[←l];exact r m);exact QH I.rN O (c.get m) k.at_ k.fn hn h
theorem xg{y:V}{u:Value}{Q:Unit->Shared->Prop}(I:Inv X pins σ H s)(e:H a=some (.ins C dx fs))(c:Cls X.K C)(n:eU X.K C f)(hl:fs.length<1000)(ry:RelV y u)(h:∀s',Inv X pins σ (upd H a (.ins C dx (cG f y fs))) s'->Q () s'):wpAny (model X.prog X.w) A (setAttr (.ref a) f u) Q E s:=by
 obtain⟨mA,O,r,wi,_,ho⟩:=nU I.hok e;have hz:(fs.map (·.1)).length<=sizeLine:=by rw[aac,sizeLine_eq];lia
 refine Tr I.rN O c.sa c.po n.taker c.hd wi hz λh' O' sb=>h _ ?_;have hd:∃o,h'.get? dx=some o:=let ⟨o,_,_,e',_⟩:=O'.ns;⟨o,e'⟩
 refine I.write (x:=a) (e:=dx) (by rw[e];exact True.intro) (.inr ho) (λb q hb z=>(sb.2 b hb).trans z) hd ?_;refine⟨by rw[aF O.ne];exact ho, ?_,O.ne,O'.obj,_,O'.ns,λg=>?_,λg hg=>?_⟩
 .have:=vB f y fs;lia
 .show oH ((cG f y fs).lookup g) (if g=f then some u else mA g)
  rw[vq]
  by_cases q:g=f
  .rw[acd q,acd q];exact ry
  .rw[ab' q,ab' q];exact r g
 .by_cases q:g=f
  .rw[q];exact(uX f y fs).1
  .refine(uX f y fs).2 g (wi g λz=>hg ?_)
   show (if g=f then some u else mA g)=none;rw[ab' q];exact z
theorem Inv.made(I:Inv X pins σ H s):Inv X pins σ (upd (upd H s.heap.objs.size (.own (s.heap.objs.size+1))) (s.heap.objs.size+1) (.ins C s.heap.objs.size []))
 {s with heap:=(s.heap.push PySem.W.emptyDict).push (PySem.W.instObj C s.heap.objs.size)}:=by
 have e1:(s.heap.push PySem.W.emptyDict).get? s.heap.objs.size=some PySem.W.emptyDict:=aah s.heap rfl
 have e2:((s.heap.push PySem.W.emptyDict).push (PySem.W.instObj C s.heap.objs.size)).get? (s.heap.objs.size+1)=some (PySem.W.instObj C s.heap.objs.size):=by
  have:=aah (s.heap.push PySem.W.emptyDict) (o:=PySem.W.instObj C s.heap.objs.size) rfl;rwa [Heap.size_push] at this
 have e3:(s.heap.push PySem.W.emptyDict).Ns s.heap.objs.size (λ_=>none):=⟨PySem.W.emptyDict, #[],_,e1,acg,(λe he=>ace he (by simp)),λ_=>rfl⟩;have I1:=I.laid (a:=s.heap.objs.size) (o:= .own (s.heap.objs.size+1)) (h':=s.heap.push PySem.W.emptyDict) (t':=s.toks) (λb u q=>aag _ q) (aaj _) ⟨_,e1⟩;refine I1.laid (a:=s.heap.objs.size+1) (o:= .ins C s.heap.objs.size []) (t':=s.toks) (λb u q=>aag _ q) (Nat.le_of_eq (Heap.size_push _ _)) ?_;have ne:s.heap.objs.size≠s.heap.objs.size+1:=aaP (Nat.lt_succ_self _);refine⟨by rw[aF ne,ak],Nat.zero_le _,ne,e2,λ_=>none,(Heap.Ns1.of_empty e3).at λo q=>aag _ q,λ_=>True.intro,λy hy=>ace rfl hy⟩
theorem VJ{prog:Program}{w:World}{env:Env}{e:Expr}{f:Str}{pos:Pos}{s:Shared}{Q:Value->Shared->Prop}(hb:attributeBase e f env (eval e env)=eval e env)(h:wpAny (model prog w) A (eval e env) (λo s₁=>wpAny (model prog w) A (getAttr o f true) Q E s₁) E s):wpAny (model prog w) A (eval (.Attribute e f pos) env) Q E s:=
 Attribute_any_ h (by rw[arm_eval_Attribute,hb])
end
noncomputable def aaK(K:PySem.W.Frag)(ta:TE)(f:Str):TE:=λσ H Q=>ta σ H λx H1=>∃a C dx fs v,x = .ref a/\H1 a=some (.ins C dx fs)/\Cls K C/\eU K C f/\fs.lookup f=some v/\Q v H1
noncomputable def aaR(K:PySem.W.Frag)(ta tv:TE)(f:Str):TS:=λD σ H=>tv σ H λy H1=>ta σ H1 λx H2=>∃a C dx fs,x = .ref a/\H2 a=some (.ins C dx fs)/\Cls K C/\eU K C f/\fs.length<1000 /\
 D.nx σ (upd H2 a (.ins C dx (cG f y fs)))
noncomputable def ab6(X:Cx)(op:Operator)(rd:V->V->Hp->VK->Prop):Prop:=
 ∀(pins:List (Addr×Obj))(s:Shared)(σ:St)(H:Hp)(x y:V)(u v:Value)(Q:VK),Inv X pins σ H s->RelV x u->RelV y v->rd x y H Q->wpAny (model X.prog X.w) X.A (inplaceOp op u v) (EP X pins σ Q) X.xe s
noncomputable def JB(K:PySem.W.Frag)(ta tv:TE)(rd:V->V->Hp->VK->Prop)(f:Str):TS:=λD σ H=>ta σ H λx H1=>∃a C dx fs v,x = .ref a/\H1 a=some (.ins C dx fs)/\Cls K C/\eU K C f/\fs.lookup f=some v /\
 tv σ H1 λy H2=>rd v y H2 λz H3=>∃Zo fs',H3 a=some (.ins C Zo fs')/\fs'.length<1000/\D.nx σ (upd H3 a (.ins C Zo (cG f z fs')))
section
variable{X:Cx}{o e value:Expr}{f:Str}{pos pos' tpos:Pos}{ta tv:TE}
theorem Yg(he:PE X e ta)(hb:attributeBase e f X.env (eval e X.env)=eval e X.env):PE X (.Attribute e f pos) (aaK X.K ta f):=by
 intro pins s σ H Q I h;refine VJ hb (dG (he pins s σ H _ I h) λu s1 gO=>?_);obtain⟨x,H1,I1,rx,a,C,dx,fs,v,ex,ea,c,n,l,q⟩:=gO;subst ex;obtain rfl:u=Value.ref a:=rx;exact yw I1 ea c n l λu' s2 I2 ru=>⟨v,H1,I2,ru,q⟩
theorem X7(ha:PE X o ta)(hv:PE X value tv)(hs:swapsWith value (some (.Attribute o f pos')) pos.line X.env=pure false):PS X (.Assign [.Attribute o f pos'] value pos) (aaR X.K ta tv f):=by
 intro pins s σ H D I h;refine plainObj_wpAny_Assign_Attribute (dG (hv pins s σ H _ I h) λu s1 ⟨y,H1,I1,ry,q⟩=>dG (ha pins s1 σ H1 _ I1 q) λov s2 ⟨x,H2,I2,rx,a,C,dx,fs,ex,ea,c,n,l,q2⟩=>?_) hs;subst ex;obtain rfl:ov=Value.ref a:=rx;exact xg I2 ea c n l ry λs3 I3=>⟨σ,_,I3,q2⟩
theorem K9{op:Operator}{rd:V->V->Hp->VK->Prop}(ha:PE X o ta)(hv:PE X value tv)(hop:ab6 X op rd):PS X (.AugAssign (.Attribute o f tpos) op value pos) (JB X.K ta tv rd f):=by
 intro pins s σ H D I h;refine wpAny_AugAssign_AttributeAny (dG (ha pins s σ H _ I h) λov s1 gO=>?_);obtain⟨x,H1,I1,rx,a,C,dx,fs,v,ex,ea,c,n,l,q⟩:=gO;subst ex;obtain rfl:ov=Value.ref a:=rx;refine yw I1 ea c n l λu s2 I2 ru=>dG (hv pins s2 σ H1 _ I2 q) λw3 s3 ⟨y,H2,I3,ry,q3⟩=>dG (hop pins s3 σ H2 v y u w3 _ I3 ru ry q3) λw4 s4 gO=>?_;obtain⟨z,H3,I4,rz,Zo,fs',ea',l',q4⟩:=gO;exact xg I4 ea' c n l' rz λs5 I5=>⟨σ,_,I5,q4⟩
end
section
variable{X:Cx}{pins:List (Addr×Obj)}{σ:St}{H:Hp}{s:Shared}{A:Around}{E:Value->Shared->Prop}{Q:Value->Shared->Prop}{c:Value}{b:Bool}
inductive rJ(K:PySem.W.Frag)(H:Hp):V->Value->Prop where
 | non:rJ K H .non (.type "NoneType")
 | bl (x:Bool):rJ K H (.bl x) (.type "bool")
 | int (i:Int):rJ K H (.int i) (.type "int")
 | str (x:Str):rJ K H (.str x) (.type "str")
 | flt (x:UInt64):rJ K H (.flt x) (.type "float")
 | lst {a:Addr} {xs:List V} (e:H a=some (.lst xs)):rJ K H (.ref a) (.type "list")
 | FP {a:Addr} {o:Obj} {xs:List V} (e:H a=some (.FP o (.lst xs))):rJ K H (.ref a) (.type "list")
 | tup {a:Addr} {xs:List V} (e:H a=some (.tup xs)):rJ K H (.ref a) (.type "tuple")
 | dK {a:Addr} {kvs:List (Key×V)} (e:H a=some (.dK kvs)):rJ K H (.ref a) (.type "dict")
 | dT {a:Addr} {kvs:List (List Key×V)} (e:H a=some (.dT kvs)):rJ K H (.ref a) (.type "dict")
 | ins {a C dx:Addr} {fs:List (Str×V)} (e:H a=some (.ins C dx fs)) (cl:Cls K C) (ha:PySem.W.findIn K (.ref C) "__class__" = some (some (.builtin "object.__class__")))
    (hn:PySem.W.specialIn K (.builtin "object.__class__") "__get__" = some (some (.builtin "getset_descriptor.__get__"))) (htk:PySem.W.takesIn K (.builtin "object.__class__")=some true)
    (hm:PySem.W.mroIn K C (.type "object")=some true):rJ K H (.ref a) (.ref C)
theorem Lx{x:V}{u t:Value}(I:Inv X pins σ H s)(rx:RelV x u)(ty:rJ X.K H x t)(e:PySem.W.kitOne X.K t c=some b)(h:∀tk,Q (.bool b) {s with toks:=tk}):
 wpAny (model X.prog X.w) A (call (.builtin "isinstance") [u,c]) Q E s:=by
 cases ty with
 | non=>cases (show u=Value.none from rx);exact PySem.W.kia_one PySem.W.kitx_none I.rN True.intro e (λz=>nomatch z) h
 | bl y=>cases (show u=Value.bool y from rx);exact PySem.W.kia_one PySem.W.kitx_bool I.rN True.intro e (λz=>nomatch z) h
 | int i=>obtain⟨t,q⟩:=(show ∃t,u=Value.int i t from rx);cases q;exact PySem.W.kia_one PySem.W.kitx_int I.rN True.intro e (λz=>nomatch z) h
 | str y=>obtain⟨t,q⟩:=(show ∃t,u=Value.str y t from rx);cases q;exact PySem.W.kia_one PySem.W.kitx_str I.rN True.intro e (λz=>nomatch z) h
 | flt y=>obtain⟨t,q⟩:=(show ∃t,u=Value.float y t from rx);cases q;exact PySem.W.kia_one PySem.W.kitx_float I.rN True.intro e (λz=>nomatch z) h
 | @lst a xs ea=>
   cases (show u=Value.ref a from rx);obtain⟨_,_,n,_,h1⟩:=(show eF X.prog X.w H s.heap a (.lst xs) from I.hok a _ ea);exact PySem.W.kia_one PySem.W.kitx_list I.rN ⟨_,h1,acg⟩ e (λz=>nomatch z) h
 | @FP a ob xs ea=>
   cases (show u=Value.ref a from rx);obtain⟨_,_,_,n,_,h1⟩:=(show eF X.prog X.w H s.heap a (.FP ob (.lst xs)) from I.hok a _ ea);exact PySem.W.kia_one PySem.W.kitx_list I.rN ⟨_,h1,acg⟩ e (λz=>nomatch z) h
 | @tup a xs ea=>
   cases (show u=Value.ref a from rx);obtain⟨_,_,_,p⟩:=(show eF X.prog X.w H s.heap a (.tup xs) from I.hok a _ ea);obtain⟨o,h1,h2,_⟩:=p;exact PySem.W.kia_one PySem.W.kitx_tuple I.rN ⟨o,h1,h2⟩ e (λz=>nomatch z) h
 | @dK a kvs ea=>
   cases (show u=Value.ref a from rx);obtain⟨_,_,vs,_,p⟩:=(show eF X.prog X.w H s.heap a (.dK kvs) from I.hok a _ ea);obtain⟨o,es,ep,h1,h2,_⟩:=p;exact PySem.W.kia_one PySem.W.kitx_dict I.rN ⟨o,h1,h2.1⟩ e (λz=>nomatch z) h
 | @dT a kvs ea=>
   cases (show u=Value.ref a from rx);obtain⟨_,_,xs,_,o,es,ep,h1,h2,_⟩:=(show eF X.prog X.w H s.heap a (.dT kvs) from I.hok a _ ea);exact PySem.W.kia_one PySem.W.kitx_dict I.rN ⟨o,h1,h2.1⟩ e (λz=>nomatch z) h
 | @ins a C dx fs ea cl ha hn htk hm=>
   cases (show u=Value.ref a from rx);obtain⟨mA,O,_⟩:=nU I.hok ea;obtain⟨od,J,_⟩:=O.look;exact PySem.W.kia_one (PySem.W.kitx_own (cl.get _) cl.hd ha hn htk hm) I.rN J e (λz=>nomatch z) h
end
structure eG(k:Nat)(A:Around):Prop where
 hd:A.handled=none
 dp:A.depth+3*k+5<recursionLimit
 un:A.units+16*k+200<cLine
theorem eG.mono{j k:Nat}{A:Around}(r:eG k A)(h:j<=k):eG j A:=⟨r.hd,by have:=r.dp;lia,by have:=r.un;lia⟩
theorem eG.deeper{k:Nat}{A:Around}(r:eG (k+1) A)(env:Env):eG k (A.deeper env):=
 ⟨r.hd,by have:=r.dp;show A.depth+1+3*k+5<_;lia,by have:=r.un;show A.units+3+16*k+200<_;lia⟩
theorem eG.in1{k:Nat}{A:Around}(r:eG (k+1) A):eG k A.in1:=
 ⟨r.hd,by have:=r.dp;show A.depth+3*k+5<_;lia,by have:=r.un;show A.units+1+16*k+200<_;lia⟩
theorem HJ{A:Around}{C:Addr}{us:List Value}{kw:List (Str×Value)}:(A.under (.builtin "type.__call__" ⟨.ref C::us,kw⟩)).depth=A.depth+1:=by
 first |rfl|simp[Around.under,Code.weight,Code.isCreation,Code.isGuard,Code.isCaller,Code.frames,Code.isFrame,guardIds]
theorem HF{A:Around}{C:Addr}{us:List Value}{kw:List (Str×Value)}:(A.under (.builtin "type.__call__" ⟨.ref C::us,kw⟩)).units=A.units+1:=by
 first |rfl|simp[Around.under,Code.cUnits,Code.frames,Code.isFrame]
theorem eG.make{k:Nat}{A:Around}(r:eG (k+1) A)(C:Addr)(us:List Value)(kw:List (Str×Value)):eG k (A.under (.builtin "type.__call__" ⟨.ref C::us,kw⟩)):=
 ⟨r.hd,by have:=r.dp;rw[HJ];lia,by have:=r.un;rw[HF];lia⟩
theorem eG.depth{k:Nat}{A:Around}(r:eG k A):A.depth<recursionLimit:=by have:=r.dp;lia
theorem eG.units{k:Nat}{A:Around}(r:eG k A):A.units+64<cLine:=by have:=r.un;lia
theorem eG.W_{k:Nat}{A:Around}(r:eG k A):A.units<cLine:=by have:=r.un;lia
noncomputable def qC:TA:=λ_ H Q=>Q [] H
noncomputable def h_(ta:TE)(tr:TA):TA:=λσ H Q=>ta σ H λx H1=>tr σ H1 λxs H2=>Q (x::xs) H2
section
variable{X:Cx}{e:Expr}{es:List Expr}{te:TE}{t:TA}{pos:Pos}
theorem au:PA X [] qC:=λ_ _ _ _ H Q I h=>Calls.spliced_nil ⟨[],H,I,.nil,h⟩
theorem aj(ha:PE X e te)(hr:PA X es t)(hs:starEach (e::es) X.env=(false,eval e X.env)::starEach es X.env:=by rfl):PA X (e::es) (h_ te t):=by
 intro pos pins s σ H Q I h;rw[hs];show wpAny _ _ (spliced ((false,eval e X.env)::backTo pos (starEach es X.env))) _ _ s;refine Calls.spliced_cons (dG (ha pins s σ H _ I h) λu s1 gO=>?_);obtain⟨x,H1,I1,r1,q1⟩:=gO;exact dG (hr pos pins s1 σ H1 _ I1 q1) λus s2 ⟨xs,H2,I2,r2,q2⟩=>⟨x::xs,H2,I2,.cons r1 r2,q2⟩
noncomputable def Xh(t:TA):TE:=λσ H Q=>t σ H λxs H1=>xs.length<=sizeLine /\ ∀p,H1 p=none->Q (.ref p) (upd H1 p (.tup xs))
noncomputable def aaI(t:TA):TE:=λσ H Q=>t σ H λxs H1=>xs.length<=sizeLine /\ ∀p,H1 p=none->Q (.ref p) (upd H1 p (.lst xs))
theorem cX{x1}(h:PA X es t):PE X (.Tuple es x1 pos) (Xh t):=by
 intro pins s σ H Q I hq;refine wpAny_Tuple_spliced (dG (h pos pins s σ H _ I hq) λus s1 ⟨xs,H1,I1,r,z,q⟩=>⟨by rw[←r.length];exact z, ?_⟩);have hf:H1 s1.heap.objs.size=none:=I1.hok.fresh (aaj _);refine⟨.ref s1.heap.objs.size,upd H1 s1.heap.objs.size (.tup xs),I1.laid (t':=s1.toks) (λb u e=>aag _ e) (aaj _) ?_,acg,q _ hf⟩;exact⟨z,us,r,⟨_,aah _ rfl,acg,_,acg⟩⟩
theorem cY(h:PA X es t):PE X (.List es pos) (aaI t):=by
 intro pins s σ H Q I hq;refine wpAny_List_spliced (dG (h pos pins s σ H _ I hq) λus s1 ⟨xs,H1,I1,r,z,q⟩=>⟨by rw[←r.length];exact z, ?_⟩);have hf:H1 s1.heap.objs.size=none:=I1.hok.fresh (aaj _);refine⟨.ref s1.heap.objs.size,upd H1 s1.heap.objs.size (.lst xs),I1.laid (t':=s1.toks) (λb u e=>aag _ e) (aaj _) ?_,acg,q _ hf⟩;exact⟨z,us,0,r,aah _ rfl⟩
end
noncomputable abbrev Sp:=List V->Hp->VK->XK->Prop
noncomputable abbrev Nk:=List Env->Hp->Shared->XK->Value->Shared->Prop
structure zM(P:Program)(w:World)(K:PySem.W.Frag)(mg:Str->Option Value)(base:Heap)(A:Around)(outer:List Env)(s:Shared)(H:Hp):Prop where
 frames:A.frames=some outer
 mod:Mod K mg base
 bs:∀b o,base.get? b=some o->s.heap.get? b=some o/\H b=none
 Rq:base.objs.size<=s.heap.objs.size
 tQ:s.heap.FunFrames base outer
 WQ:∀b∈frs outer,H b=none
 hok:qz P w H s.heap
 bare:AllBare s.gens
noncomputable def CE(outer:List Env)(P:Program)(w:World)(H:Hp)(s:Shared)(Q:VK)(u:Value)(s':Shared):Prop:=
 ∃v H',s'.os=s.os/\AllBare s'.gens/\Un (frs outer) [] H H' s.heap s'.heap/\qz P w H' s'.heap/\RelV v u/\Q v H'
noncomputable def CR(CX:Nk)(outer:List Env)(P:Program)(w:World)(H:Hp)(s:Shared)(Q:VK)(E:XK)(r:Result)(s':Shared):Prop:=
 match r with
 | .ok (.ret u)=>CE outer P w H s Q u s'
 | .ok _=>False
 | .error e=>CX outer H s E e s'
structure bR(P:Program)(w:World)(K:PySem.W.Frag)(mg:Str->Option Value)(base:Heap)(CX:Nk)(k:Nat)(f:Addr)(fd:FuncData)(ps:List Str)(sp:Sp):Prop where
 len:∀vs H Q E,sp vs H Q E->vs.length=ps.length
 run:∀(A:Around)(outer:List Env)(s:Shared)(H:Hp)(args:Args)(us:List Value)(vs:List V)(Q:VK)(E:XK),eG k A->zM P w K mg base A outer s H->BindsTo s fd args (ps.zip us)->Vals vs us->sp vs H Q E ->
  codeAny (model P w) A (.call (.ref f) args) (CR CX outer P w H s Q E) s
theorem zM.make{P:Program}{w:World}{K:PySem.W.Frag}{mg:Str->Option Value}{base:Heap}{A:Around}{outer:List Env}{s:Shared}{H:Hp}(e:zM P w K mg base A outer s H)(C:Addr)(us:List Value)(kw:List (Str×Value)):
 zM P w K mg base (A.under (.builtin "type.__call__" ⟨.ref C::us,kw⟩)) outer s H:=⟨by first |exact e.frames|(simpa [Around.under,Code.envs,Code.isFrame,pushEnvs] using e.frames),e.mod,e.bs,e.Rq,e.tQ,e.WQ,e.hok,e.bare⟩
theorem zM.in1{P:Program}{w:World}{K:PySem.W.Frag}{mg:Str->Option Value}{base:Heap}{A:Around}{outer:List Env}{s:Shared}{H:Hp}(e:zM P w K mg base A outer s H):
 zM P w K mg base A.in1 outer s H:=⟨e.frames,e.mod,e.bs,e.Rq,e.tQ,e.WQ,e.hok,e.bare⟩
section
variable{X:Cx}{pins:List (Addr×Obj)}{σ:St}{H:Hp}{s s':Shared}
theorem Inv.env0(I:Inv X pins σ H s):zM X.prog X.w X.K X.mg X.base X.A X.stack s H:=
 ⟨I.ok.frames,I.ok.mod,I.bs,ab9 I.ok.Rq I.sz,I.stack,I.Bg,I.hok,I.bare⟩
theorem Inv.after{Q:VK}{u:Value}(I:Inv X pins σ H s)(h:CE X.stack X.prog X.w H s Q u s'):EP X pins σ Q u s':=by
 obtain⟨v,H',os,bare,un,hok,r,q⟩:=h;obtain⟨hh,g,d,t,os'⟩:=s';obtain rfl:os'=s.os:=os;exact⟨v,H',I.call (h':=hh) (g':=g) (d':=d) (t':=t) (ch:=[]) un hok bare (λb z=>ace z (by simp)),r,q⟩
end
noncomputable def Ed(sp:Sp)(qO:List V)(E:XK)(t:TA):TE:=λσ H Q=>t σ H λvs H1=>sp (vs++qO) H1 Q E
noncomputable def Eb(C:Addr)(m:Str)(sp:Sp)(qO:List V)(E:XK)(ta:TE)(t:TA):TE:=λσ H Q=>ta σ H λx H1=>∃a dx fs,x = .ref a/\H1 a=some (.ins C dx fs)/\fs.lookup m=none /\
 t σ H1 λvs H2=>sp (x::(vs++qO)) H2 Q E
noncomputable def V5(C:Addr)(sp:Sp)(qO:List V)(E:XK)(t:TA):TE:=λσ H Q=>t σ H λvs H1=>∀x dx,H1 x=none->H1 dx=none->dx≠x ->
 sp (.ref x::(vs++qO)) (upd (upd H1 dx (.own x)) x (.ins C dx [])) (λv H2=>v = .non/\Q (.ref x) H2) E
noncomputable def Binds(K:PySem.W.Frag)(fd:FuncData)(ps:List Str)(ds:List Value):Prop:=
 ∀(s:Shared)(us:List Value),K.In s.heap->(us++ds).length=ps.length->BindsTo s fd ⟨us,[]⟩ (ps.zip (us++ds))
theorem Binds.all{K:PySem.W.Frag}{fd:FuncData}{ps:List Str}(h:∀us:List Value,us.length=ps.length->bindArgs fd ⟨us,[]⟩=pure (ps.zip us)):Binds K fd ps []:=λs us _ hl=>by
 rw[List.append_nil] at hl ⊢;exact .of_eq (h us hl)
noncomputable def Passes(CX:Nk)(X:Cx)(E:XK):Prop:=∀(pins:List (Addr×Obj))(σ:St)(H:Hp)(s:Shared)(e:Value)(s':Shared),Inv X pins σ H s->CX X.stack H s E e s'->X.xe e s'
section
variable{X:Cx}{CX:Nk}{k:Nat}{f C:Addr}{fd:FuncData}{ps:List Str}{sp:Sp}{qO:List V}{ds:List Value}{E:XK}{x m:Str}{p pos apos:Pos}{e o:Expr}{es:List Expr}{ta:TE}{t:TA}
theorem B_{pins:List (Addr×Obj)}{σ:St}{H:Hp}{s:Shared}{Q:VK}{us:List Value}{vs:List V}(F:bR X.prog X.w X.K X.mg X.base CX k f fd ps sp)(hr:eG k X.A)(hb:Binds X.K fd ps ds)(hd:Vals qO ds)(hx:Passes CX X E)(I:Inv X pins σ H s)(r:Vals vs us)(h:sp (vs++qO) H Q E):wpAny (model X.prog X.w) X.A (call (.ref f) us) (EP X pins σ Q) X.xe s:=by
 have r2:Vals (vs++qO) (us++ds):=r.append hd;have hl:(us++ds).length=ps.length:=by rw[←r2.length];exact F.len _ _ _ _ h
 refine wpAny_call (codeAny_mono (F.run X.A X.stack s H ⟨us,[]⟩ (us++ds) (vs++qO) Q E hr I.env0 (hb s us I.rN hl) r2 h) λr s' hq=>?_);cases r with
 | error e=>exact hx pins σ H s e s' I hq
 | ok fl=>
   cases fl with
   | ret u=>exact I.after hq
   | next=>exact False.elim hq
   | brk=>exact False.elim hq
   | cont=>exact False.elim hq
theorem Uk(F:bR X.prog X.w X.K X.mg X.base CX k f fd ps sp)(hr:eG k X.A)(hg:Gl X x)(hm:X.mg x=some (.ref f))(hk:PySem.W.keepIn X.K (.ref f)=true)(hb:Binds X.K fd ps ds)(hd:Vals qO ds)(hx:Passes CX X E)(ha:PA X (e::es) t)(hdb:(x==("__debug__" :Str))=false:=by decide)(he:starEach (e::es) X.env=(false,eval e X.env)::starEach es X.env:=by rfl)(hpl:(backTo pos (starEach es X.env)).any (·.1)=false:=by rfl):
 PE X (.Call (.Name x p) (e::es) [] pos) (Ed sp qO E t):=by
 intro pins s σ H Q I h;refine wpAny_Call_Name_kw (tH I hg hm ?_ hdb);refine PySem.W.callWith_K (h₀:=X.base) I.ok.mod.R_ hk (dG (ha pos pins s σ H _ I h) λus s1 ⟨vs,H1,I1,r,q⟩=>⟨I1.rN, ?_⟩) he hpl;exact B_ F hr hb hd hx I1 r q
theorem Ui{pl:Sem Bool}(he:PE X o ta)(c:Cls X.K C)(hm:Meth X.K C m f)(F:bR X.prog X.w X.K X.mg X.base CX k f fd ps sp)(hr:eG k X.A)(hb:Binds X.K fd ps ds)(hd:Vals qO ds)(hx:Passes CX X E)(ha:PA X (e::es) t)(hst:starEach (e::es) X.env=(false,eval e X.env)::starEach es X.env:=by rfl)(hpl:(backTo pos (starEach es X.env)).any (·.1)=false:=by rfl)(ht:eval (.Call (.Attribute o m apos) (e::es) [] pos) X.env=(do
   let ov ←eval o X.env
   standAt apos.atName
   let (f,first) ←holding [ov] (getMethod ov m pl)
   callWith pos f first (backTo pos (starEach (e::es) X.env)) (backToKw pos (keywordEach [] X.env))):=by rfl):
 PE X (.Call (.Attribute o m apos) (e::es) [] pos) (Eb C m sp qO E ta t):=by
 intro pins s σ H Q I h;refine PySem.W.methodCall_KW (pl:=pl) (dG (he pins s σ H _ I h) λu s1 ⟨x,H1,I1,rx,a,dx,fs,ex,ea,l,q⟩=>?_) ht;subst ex;obtain rfl:u=Value.ref a:=rx;refine rF I1 ea c hm l ?_;refine PySem.W.callWith_K (first:=[.ref a]) (h₀:=X.base) I.ok.mod.R_ hm.kp (dG (ha pos pins s1 σ H1 _ I1 q) λus s2 ⟨vs,H2,I2,r,q2⟩=>⟨I2.rN, ?_⟩) hst hpl;exact B_ (us:= .ref a::us) (vs:= .ref a::vs) F hr hb hd hx I2 (.cons rfl r) q2
theorem Pq{pl:Sem Bool}(he:PE X o ta)(c:Cls X.K C)(hm:Meth X.K C m f)(F:bR X.prog X.w X.K X.mg X.base CX k f fd ps sp)(hr:eG k X.A)(hb:Binds X.K fd ps ds)(hd:Vals qO ds)(hx:Passes CX X E)(ht:eval (.Call (.Attribute o m apos) [] [] pos) X.env=(do
   let ov ←eval o X.env
   standAt apos.atName
   let (f,first) ←holding [ov] (getMethod ov m pl)
   callWith pos f first (backTo pos (starEach [] X.env)) (backToKw pos (keywordEach [] X.env))):=by rfl):
 PE X (.Call (.Attribute o m apos) [] [] pos) (Eb C m sp qO E ta qC):=by
 intro pins s σ H Q I h;refine PySem.W.methodCall_KW (pl:=pl) (dG (he pins s σ H _ I h) λu s1 ⟨x,H1,I1,rx,a,dx,fs,ex,ea,l,q⟩=>?_) ht;subst ex;obtain rfl:u=Value.ref a:=rx;refine rF I1 ea c hm l ?_;exact PySem.W.callWith_K0 (first:=[.ref a]) I1.rN hm.kp (B_ (us:=[.ref a]) (vs:=[.ref a]) F hr hb hd hx I1 (.cons rfl .nil) q)
structure Mk(K:PySem.W.Frag)(C f:Addr):Prop where
 makes:PySem.W.makesIn K C=true
 init:PySem.W.findIn K (.ref C) "__init__" = some (some (.ref f))
 fn:PySem.W.isFn K (.ref f)=true
 kp:PySem.W.keepIn K (.ref C)=true
theorem Ot{pins:List (Addr×Obj)}{σ:St}{H:Hp}{s:Shared}{Q:VK}{us:List Value}{vs:List V}(M:Mk X.K C f)(F:bR X.prog X.w X.K X.mg X.base CX k f fd ps sp)(hr:eG (k+1) X.A)(hb:Binds X.K fd ps ds)(hd:Vals qO ds)(hx:Passes CX X E)(I:Inv X pins σ H s)(r:Vals vs us)(h:∀x dx,H x=none->H dx=none->dx≠x->sp (.ref x::(vs++qO)) (upd (upd H dx (.own x)) x (.ins C dx [])) (λv H2=>v = .non/\Q (.ref x) H2) E):
 wpAny (model X.prog X.w) X.A (call (.ref C) us) (EP X pins σ Q) X.xe s:=by
 have hq:=h (s.heap.objs.size+1) s.heap.objs.size (I.hok.fresh (Nat.le_succ _)) (I.hok.fresh (aaj _)) (aaP (Nat.lt_succ_self _));have I2:=Inv.made (C:=C) I;have r2:Vals (V.ref (s.heap.objs.size+1)::(vs++qO)) (Value.ref (s.heap.objs.size+1)::(us++ds)):= .cons rfl (r.append hd)
 have hl:(Value.ref (s.heap.objs.size+1)::us++ds).length=ps.length:=by
  have e:=r2.length;rw[F.len _ _ _ _ hq] at e;exact e.symm
 refine wpAny_call (Qq (f:=f) I.rN M.makes M.init (beq_iff_eq.mp M.fn) (codeAny_mono (F.run _ X.stack _ _ ⟨Value.ref (s.heap.objs.size+1)::us,[]⟩ (Value.ref (s.heap.objs.size+1)::(us++ds)) _ _ E (hr.make C us [])
  (I2.env0.make C us []) (hb _ (Value.ref (s.heap.objs.size+1)::us) I2.rN hl) r2 hq) λr s' hq'=>?_))
 cases r with
 | error e=>exact hx pins σ _ _ e s' I2 hq'
 | ok fl=>
   cases fl with
   | ret u=>
     obtain⟨v,H',I3,rv,ev,q3⟩:=I2.after hq';subst ev;exact⟨rv,⟨V.ref (s.heap.objs.size+1),H',I3,acg,q3⟩⟩
   | next=>exact False.elim hq'
   | brk=>exact False.elim hq'
   | cont=>exact False.elim hq'
theorem Uj(M:Mk X.K C f)(F:bR X.prog X.w X.K X.mg X.base CX k f fd ps sp)(hr:eG (k+1) X.A)(hg:Gl X x)(hm:X.mg x=some (.ref C))(hb:Binds X.K fd ps ds)(hd:Vals qO ds)(hx:Passes CX X E)(ha:PA X (e::es) t)(hdb:(x==("__debug__" :Str))=false:=by decide)(he:starEach (e::es) X.env=(false,eval e X.env)::starEach es X.env:=by rfl)(hpl:(backTo pos (starEach es X.env)).any (·.1)=false:=by rfl):
 PE X (.Call (.Name x p) (e::es) [] pos) (V5 C sp qO E t):=by
 intro pins s σ H Q I h;refine wpAny_Call_Name_kw (tH I hg hm ?_ hdb);refine PySem.W.callWith_K (h₀:=X.base) I.ok.mod.R_ M.kp (dG (ha pos pins s σ H _ I h) λus s1 ⟨vs,H1,I1,r,q⟩=>⟨I1.rN, ?_⟩) he hpl;exact Ot M F hr hb hd hx I1 r q
end
section
variable{X:Cx}{CX:Nk}{k:Nat}{f C:Addr}{fd:FuncData}{ps ks:List Str}{sp:Sp}{E:XK}{x m:Str}{p pos apos kpos:Pos}{e o:Expr}{es:List Expr}{kws:List Keyword}{te ta:TE}{t tk:TA}{nm:Option Str}
variable{g:List Value->List Value->List Value}{gV:List V->List V->List V}
end
structure aZ(N P:List Str)(sc:Scope):Prop where
 kind:sc.kind = .function
 co:sc.isCoroutine=false
 gen:sc.isGenerator=false
 nd:N.Nodup
 pre:N.take P.length=P
 par:∀x∈P,sc.names.lookup x=some .local\/sc.names.lookup x=some .cell
 YF:∀y∈sc.names,y.2 ≠ .free
theorem Al{kindOf:Str->Option NameKind}{x:Str}:∀{binds:List (Str×Value)}{m:Str->Option Value},(∀v,(x,v)∉binds)->bindL kindOf binds m x=m x
 | [],_,_=>rfl
 | (n,v)::r,m,h=>by
   unfold bindL;rw[Al λw hw=>h w (aa7 _ hw)];split
   .have:x≠n:=by rintro rfl;exact h v List.mem_cons_self
    simp[this]
   .rfl
theorem Ao{kindOf:Str->Option NameKind}{x:Str}:∀{binds:List (Str×Value)}{m:Str->Option Value},(∀v,(x,v)∉binds)->bindC kindOf binds m x=m x
 | [],_,_=>rfl
 | (n,v)::r,m,h=>by
   unfold bindC;rw[Ao λw hw=>h w (aa7 _ hw)];split
   .rfl
   .have:x≠n:=by rintro rfl;exact h v List.mem_cons_self
    simp[this]
theorem Am{kindOf:Str->Option NameKind}{x:Str}{v:Value}:∀{P:List Str}{vs:List Value}{i:Nat}{m:Str->Option Value},P.Nodup->P[i]? = some x->vs[i]? = some v->kindOf x=some .local ->
 bindL kindOf (P.zip vs) m x=some v
 | [],_,_,_,_,h,_,_=>by simp at h
 | _::_,[],_,_,_,_,h,_=>by simp at h
 | p::P,w::vs,0,m,nd,h1,h2,hk=>by
   simp at h1 h2;subst h1;subst h2;show bindL kindOf ((p,w)::P.zip vs) m p=_;unfold bindL;rw[Al λv hv=>(List.nodup_cons.mp nd).1 (List.of_mem_zip hv).1,acd hk];simp
 | p::P,w::vs,i+1,m,nd,h1,h2,hk=>by
   show bindL kindOf ((p,w)::P.zip vs) m x=_;unfold bindL;exact Am (i:=i) (List.nodup_cons.mp nd).2 (by simpa using h1) (by simpa using h2) hk
theorem Aq{kindOf:Str->Option NameKind}{x:Str}{v:Value}:∀{P:List Str}{vs:List Value}{i:Nat}{m:Str->Option Value},P.Nodup->P[i]? = some x->vs[i]? = some v->kindOf x≠some .local ->
 bindC kindOf (P.zip vs) m x=some v
 | [],_,_,_,_,h,_,_=>by simp at h
 | _::_,[],_,_,_,_,h,_=>by simp at h
 | p::P,w::vs,0,m,nd,h1,h2,hk=>by
   simp at h1 h2;subst h1;subst h2;show bindC kindOf ((p,w)::P.zip vs) m p=_;unfold bindC;rw[Ao λv hv=>(List.nodup_cons.mp nd).1 (List.of_mem_zip hv).1,ab' hk];simp
 | p::P,w::vs,i+1,m,nd,h1,h2,hk=>by
   show bindC kindOf ((p,w)::P.zip vs) m x=_;unfold bindC;exact Aq (i:=i) (List.nodup_cons.mp nd).2 (by simpa using h1) (by simpa using h2) hk
noncomputable def start(N:List Str)(vs:List V):St:=vs.map some++List.replicate (N.length - vs.length) none
noncomputable def oG(CX:Nk)(P:Program)(w:World)(K:PySem.W.Frag)(mg:Str->Option Value)(base:Heap)(N:List Str)(qual:Str)(scope:Scope)(f:Addr)(cd:Value)(A:Around)(outer:List Env)(s:Shared)(H:Hp)(E:XK):Cx where
 prog:=P
 w:=w
 K:=K
 mg:=mg
 base:=base
 A:=A.deeper (envOfC qual scope s.heap.objs.size f cd)
 N:=N
 s₀:=s
 H₀:=H
 env:=envOfC qual scope s.heap.objs.size f cd
 outer:=outer
 stack:=envOfC qual scope s.heap.objs.size f cd::outer
 ex:=[]
 calm:=true
 fn:=λ_=>true
 pn:=[]
 xe:=λe s'=>wpAny (model P w) (A.deeper (envOfC qual scope s.heap.objs.size f cd)) (leaving (envOfC qual scope s.heap.objs.size f cd) e) (λ_ s''=>CX outer H s E e s'') (λe' s''=>CX outer H s E e' s'') s'
theorem Gg{sc:Scope}{n:Nat}{x:Str}(h:sc.names.lookup x=some .cell):∃c,(cellsFrom n sc.names []).lookup x=some c:=by
 have q:=PySem.W.cellsFrom_some sc.names n [] (.inl h);exact Option.isSome_iff_exists.mp q
theorem Lz{CX:Nk}{P:Program}{w:World}{K:PySem.W.Frag}{mg:Str->Option Value}{base:Heap}{N ps:List Str}{qual:Str}{scope:Scope}{f:Addr}{cd:Value}{A:Around}{outer:List Env}{s s1:Shared}{H:Hp}{E:XK}{us:List Value}{vs:List V}(S:aZ N ps scope)(hd:A.handled=none)(e0:zM P w K mg base A outer s H)(hl:vs.length=ps.length)(r:Vals vs us)(x:InCallC s s.heap.objs.size (bindL (envOfC qual scope s.heap.objs.size f cd).kindOf (ps.zip us) λ_=>none) (cellsFrom (s.heap.objs.size+1) scope.names []) (bindC (envOfC qual scope s.heap.objs.size f cd).kindOf (ps.zip us) λ_=>none) s1):
 Inv (oG CX P w K mg base N qual scope f cd A outer s H E) [] (start N vs) H s1:=by
 have hpl:ps.length<=N.length:=by have:=congrArg List.length S.pre;rw[abI] at this;lia
 obtain⟨h1,tk,rfl,hk⟩:=x.done;have noA:∀b:Addr,b∉(oG CX P w K mg base N qual scope f cd A outer s H E).ex:=λb z=>ace (show b∈([]:List Addr) from z) (by simp)
 refine⟨⟨e0.mod,S.kind,acg,acg,aaj _,λy z c h1 h2=>?_,λy hy=>?_,λy c _ h=>?_,λ_=>hd,Around.frames_deeper e0.frames,.inr ⟨acg,acg⟩,λb z=>ace z (noA b),e0.bs,e0.Rq,λb _ _=>noA b,λb z=>ace z (noA b),e0.tQ,e0.WQ⟩,
  acg,e0.bare,Un.kept hk,⟨_,x.toInCall.ns,λi y v h1 h2 h3=>?_⟩,λy c h=>⟨_,x.cell y c h⟩,e0.hok.fresh (aaj _),λy c h=>?_,λp hp=>ace (show p∈([]:List (Addr×Obj)) from hp) (by simp),e0.hok.kept hk, ?_⟩
 .exact name_of_addr x.apart (PySem.mem_of_lookup h1) (PySem.mem_of_lookup h2)
 .have hy:scope.names.lookup y=some .cell\/scope.names.lookup y=some .free:=hy
  rcases hy with hy|hy
  .exact Gg hy
  .exact ace rfl (S.YF _ (PySem.mem_of_lookup hy))
 .exact Nat.le_of_lt (x.above y c (PySem.mem_of_lookup h))
 .have hi:i<vs.length:=by
   unfold start at h2
   by_cases hi:i<vs.length
   .exact hi
   .rw[aaL (by simpa using hi)] at h2
    rw[List.getElem?_replicate] at h2;split at h2<;>cases h2
  have ha:vs[i]? = some v:=by
   unfold start at h2;rw[aaO (by simpa using hi),aaf] at h2;cases e:vs[i]? with
   | none=>rw[e] at h2;cases h2
   | some a=>rw[e] at h2;cases h2;rfl
  obtain⟨u,hu,rv⟩:=r.get ha
  have hp:ps[i]? = some y:=by
   rw[←S.pre,List.getElem?_take_of_lt (by lia)];exact h1
  have ndP:ps.Nodup:=by rw[←S.pre];exact S.nd.sublist (List.take_sublist _ _)
  refine⟨u,rv, ?_⟩;rcases S.par y (aap hp) with k|k
  .exact .inl ⟨k,Am ndP hp hu k⟩
  .obtain⟨c,e⟩:=Gg (n:=s.heap.objs.size+1) k
   refine .inr ⟨.inl k,c,e, ?_⟩;have q:=x.cell y c e;rw[Aq ndP hp hu (by show scope.names.lookup y≠_;rw[k];decide)] at q;exact q
 .exact e0.hok.fresh (Nat.le_of_lt (x.above y c (PySem.mem_of_lookup h)))
 .unfold start
  show _=N.length;rw[aaD,aac,List.length_replicate];lia
theorem QL{CX:Nk}{P:Program}{w:World}{K:PySem.W.Frag}{mg:Str->Option Value}{base:Heap}{k:Nat}{f:Addr}{name qual:Str}{params:Arguments}{body:List Stmt}{scope:Scope}{dV kV doc pm cdv ct oc:Value}{an od:Option Addr}{osl:Array (Option Value)}{N ps:List Str}{sp:Sp}(lk:K.lookup f=some ⟨oc,od,.func (PySem.W.fnOf name qual params body scope dV kV doc pm an cdv ct),osl⟩)(hcd:PySem.W.codeIn K cdv qual=true)(S:aZ N ps scope)(len:∀vs H Q E,sp vs H Q E->vs.length=ps.length)(hbody:∀(A:Around)(outer:List Env)(s:Shared)(H:Hp)(vs:List V)(Q:VK)(E:XK),eG k (A.deeper (envOfC qual scope s.heap.objs.size f cdv))->sp vs H Q E ->
   ∃t,IW (oG CX P w K mg base N qual scope f cdv A outer s H E) body t/\t {nx:=λ_ H'=>Q .non H',rt:=Q} (start N vs) H):
 bR P w K mg base CX (k+1) f (PySem.W.fnOf name qual params body scope dV kV doc pm an cdv ct) ps sp:=by
 refine⟨len,λA outer s H args us vs Q E hr e0 hb r hsp=>?_⟩;have hl:=len _ _ _ _ hsp;have KX:K.In s.heap:=e0.mod.R_.keeps λb o e=>(e0.bs b o e).1;have lim:s.heap.NoLimit:=e0.mod.nolimit.keeps λb o e=>(e0.bs b o e).1
 have hkind:∀y∈ps.zip us,scope.names.lookup y.1=some .local\/(scope.names.lookup y.1=some .cell/\((cellsFrom (s.heap.objs.size+1) scope.names []).lookup y.1).isSome=true):=λ⟨n,v⟩ hy=>by
  rcases S.par n (List.of_mem_zip hy).1 with q|q
  .exact .inl q
  .exact .inr ⟨q,PySem.W.cellsFrom_some _ _ _ (.inl q)⟩
 refine codeAny_call_function hr.depth (KX _ _ lk) rfl S.co S.gen rfl (PySem.W.codeRec_of KX hcd) (hb _ _ _ _ ?_);refine wpAny_newFunctionEnv_cells S.kind hkind λenv he s1 x=>?_;subst he;refine⟨lim.keeps x.toInCall.keep,codeAny_func ?_⟩;obtain⟨t,ht,hq⟩:=hbody A outer s H vs Q E (hr.deeper _) hsp;have I:Inv (oG CX P w K mg base N qual scope f cdv A outer s H E) [] (start N vs) H s1:=Lz S hr.hd e0 hl r x;refine wpAny_mono (ht [] s1 (start N vs) H _ I hq) (λfl s' hs=>?_) λe s' hs=>hs
 have fin:∀{σ':St}{H':Hp}{v:V}{u:Value},Inv (oG CX P w K mg base N qual scope f cdv A outer s H E) [] σ' H' s'->RelV v u->Q v H'->CE outer P w H s Q u s':=
  fun {σ' H' v u} J rv q=>⟨v,H',J.os,J.bare,J.base,J.hok,rv,q⟩
 cases fl with
 | ret u=>
   obtain⟨v,σ',H',J,rv,q⟩:=hs;exact fin J rv q
 | next=>
   obtain⟨σ',H',J,q⟩:=hs;exact fin (v:=V.non) (u:=Value.none) J rfl q
 | brk=>
   obtain⟨_,_,_,q⟩:=hs;exact False.elim q
 | cont=>
   obtain⟨_,_,_,q⟩:=hs;exact False.elim q
section
variable{X:Cx}{x:Str}{p pos:Pos}{e:Expr}{es:List Expr}{t:TA}{id T:String}{r:List V->Hp->VK->Prop}
noncomputable def tCB(r:List V->Hp->VK->Prop)(t:TA):TE:=λσ H Q=>t σ H λvs H1=>r vs H1 Q
theorem aW(hc:jA X (.builtin id) r)(hg:Gl X x)(hm:X.mg x=none)(hv:bootBuiltins x=some (.builtin id))(ha:PA X (e::es) t)(hn:x ≠ "__name__" :=by decide)(hdb:(x==("__debug__" :Str))=false:=by decide)(he:starEach (e::es) X.env=(false,eval e X.env)::starEach es X.env:=by rfl)(hpl:(backTo pos (starEach es X.env)).any (·.1)=false:=by rfl):PE X (.Call (.Name x p) (e::es) [] pos) (tCB r t):=by
 intro pins s σ H Q I h;refine wpAny_Call_Name_kw (nQ I hg hm hv ?_ hn hdb);exact PyProof.Rows.callWith_builtin1 (dG (ha pos pins s σ H _ I h) λus s1 ⟨vs,H1,I1,r1,q1⟩=>hc pins s1 σ H1 vs us Q I1 r1 q1) he hpl
theorem cZ(hc:jA X (.type T) r)(hg:Gl X x)(hm:X.mg x=none)(hv:bootBuiltins x=some (.type T))(ha:PA X (e::es) t)(hn:x ≠ "__name__" :=by decide)(hdb:(x==("__debug__" :Str))=false:=by decide)(he:starEach (e::es) X.env=(false,eval e X.env)::starEach es X.env:=by rfl)(hpl:(backTo pos (starEach es X.env)).any (·.1)=false:=by rfl):PE X (.Call (.Name x p) (e::es) [] pos) (tCB r t):=by
 intro pins s σ H Q I h;refine wpAny_Call_Name_kw (nQ I hg hm hv ?_ hn hdb);exact PyProof.Rows.callWith_type1 (dG (ha pos pins s σ H _ I h) λus s1 ⟨vs,H1,I1,r1,q1⟩=>hc pins s1 σ H1 vs us Q I1 r1 q1) he hpl
end
end L2
namespace HT
open PySem PyProof.Rows
section
open PySem.SeqAt
open PySem.AutoSeq1 (wpAny_loadPart')
open PySem.MeetsSeq PySem.MeetsSeq2 PySem.MeetsSeq3
end
section
variable{prog:Program}{w:World}{A:Around}{E:Value->Shared->Prop}{s:Shared}
theorem VD{t b:Addr}{vs ws:List Value}{Q:Value->Shared->Prop}(ht:IsTup s.heap t vs.toArray)(hb:IsTup s.heap b ws.toArray)(hv:vs≠[])(h1:ws=[]->Q (.ref t) s)(h2:ws≠[]->Q (.ref s.heap.objs.size) {s with heap:=s.heap.push {cls:= .type "tuple",data:= .seq (vs++ws).toArray}})(hsz:vs.length+ws.length<=sizeLine):wpAny (model prog w) A (binaryOp .Add (.ref t) (.ref b)) Q E s:=by
 obtain⟨⟨cls,dd,data,sl⟩,ho,hc,n,hd⟩:=id ht;obtain⟨⟨cls2,dd2,data2,sl2⟩,ho2,hc2,n2,hd2⟩:=id hb;simp only at hc hd hc2 hd2;subst hc hd hc2 hd2;have e:vs.toArray++ws.toArray=(vs++ws).toArray:=by simp
 by_cases hw:ws=[]
 .exact concat_meets ⟨_,ho,acg⟩ ⟨_,ho2,acg⟩ noFill_tuple_add seq_tuple_add PySem.F.slot_tuple_add PySem.F.entry_tuple_add (PySem.F.args_tuple_add_2 _ _)
   (tuple_addW1 t b vs.toArray ws.toArray n n2 dd dd2 sl sl2 (by simpa using hv) (by simp[hw])) ⟨ho,ho2,h1 hw⟩
 .refine concat_meets ⟨_,ho,acg⟩ ⟨_,ho2,acg⟩ noFill_tuple_add seq_tuple_add PySem.F.slot_tuple_add PySem.F.entry_tuple_add (PySem.F.args_tuple_add_2 _ _)
   (tuple_addW2 t b vs.toArray ws.toArray n n2 dd dd2 sl sl2 (by simpa using hv) (by simpa using hw) (by rw[aaB,aaB];exact hsz)) ⟨ho,ho2, ?_⟩
  rw[e];exact h2 hw
noncomputable def iG(n d:Nat):Option Int->Nat
 | none=>d
 | some v=>if v<0 then (v+(n:Int)).toNat else min v.toNat n
theorem xQ(n d:Nat):iG n d none=d:=acg
theorem BW(n d k:Nat):iG n d (some (k:Int))=min k n:=by
 show (if (k:Int)<0 then ((k:Int)+(n:Int)).toNat else min (k:Int).toNat n)=min k n;rw[ab' (by lia),aa5]
theorem XF(n d:Nat)(hd:d<=n)(o:Option Int):iG n d o<=n:=by
 cases o with
 | none=>exact hd
 | some v=>
   show (if v<0 then (v+(n:Int)).toNat else min v.toNat n)<=n
   by_cases hv:v<0
   .rw[acd hv];lia
   .rw[ab' hv];exact Nat.min_le_right _ _
theorem Kf(v:Int)(n d:Nat):(if v<0 then max (v+(n:Int)) 0 else min v (n:Int))=((iG n d (some v):Nat):Int):=by
 show (if v<0 then max (v+(n:Int)) 0 else min v (n:Int))=(((if v<0 then (v+(n:Int)).toNat else min v.toNat n):Nat):Int)
 by_cases hv:v<0
 .simp only[acd hv];lia
 .simp only[ab' hv];lia
theorem IV(lo hi:Option Int)(n:Nat):Builtin.Slice.sliceAdjust lo hi 1 (n:Int)=(((iG n 0 lo:Nat):Int),((iG n n hi:Nat):Int)):=by
 have h1:¬((1:Int)<0):=by lia
 unfold Builtin.Slice.sliceAdjust;simp only[h1,if_false];refine Prod.ext ?_ ?_
 .cases lo with
  | none=>rfl
  | some v=>exact Kf v n 0
 .cases hi with
  | none=>rfl
  | some v=>exact Kf v n n
theorem Hr(i j:Nat):Builtin.Slice.slicePlaces (i:Int) (j:Int) 1=j - i:=by
 unfold Builtin.Slice.slicePlaces;have h1:(1:Int)>0:=by lia
 simp only[h1,if_true,Int.ediv_one];split<;>lia
theorem wY{v:Value}{o:Option Int}{Q:Option Int->Shared->Prop}(p:IsPart v o)(h:Q o s):wpAny (model prog w) A (Builtin.Slice.slicePartIndex v) Q E s:=by
 cases p with
 | none=>exact slicePart_none h
 | int i t=>exact slicePart_int h
theorem uL{sl:Addr}{vl vu:Value}{lo hi:Option Int}{n:Nat}{Q:Int×Int×Nat->Shared->Prop}(hs:s.heap.IsSliceOf sl vl vu .none)(pl:IsPart vl lo)(pu:IsPart vu hi)(h:Q (((iG n 0 lo:Nat):Int),1,iG n n hi - iG n 0 lo) s):wpAny (model prog w) A (Builtin.Slice.sliceApplied (.ref sl) (pure (n:Int))) Q E s:=by
 obtain⟨os,hos,hcs,hds⟩:=id hs;unfold Builtin.Slice.sliceApplied Builtin.Slice.sliceFields;refine aak (aak (wpAny_field hos hds (x:=vl) rfl (aak (wpAny_field hos hds (x:=vu) rfl (aak (wpAny_field hos hds (x:= .none) rfl (aal ?_)))))));refine aak (slicePart_none ?_);show wpAny _ _ (if ((1:Int)==0)=true then _ else _) _ _ s;rw[ab' (by decide)];refine aak (wY pl (aak (wY pu (aak (aal ?_)))));show wpAny _ _ (match Builtin.Slice.sliceAdjust lo hi 1 (n:Int) with |(lo,hi)=>pure (lo,(1:Int),Builtin.Slice.slicePlaces lo hi 1)) _ _ s;rw[IV lo hi n];show wpAny _ _ (pure (((iG n 0 lo:Nat):Int),(1:Int),Builtin.Slice.slicePlaces ((iG n 0 lo:Nat):Int) ((iG n n hi:Nat):Int) 1)) _ _ s;rw[Hr];exact aal h
theorem Pb(xs:Array Value)(i k:Nat):((List.range k).filterMap λ(m:Nat)=>xs[((i:Int)+(m:Int)*1).toNat]?).toArray=((xs.toList.drop i).take k).toArray:=by
 have e:(λ(m:Nat)=>xs[((i:Int)+(m:Int)*1).toNat]?)=λm=>xs[i+m]? :=by
  funext m;have:((i:Int)+(m:Int)*1).toNat=i+m:=by lia
  rw[this]
 rw[e];have:=pick_run xs i k;rw[List.filterMap_map] at this;have e2:((λx=>xs[x]?)∘λx=>i+x)=λm=>xs[i+m]? :=acg;rw[e2] at this;rw[this]
theorem tO{t sl:Addr}{items:Array Value}{vl vu:Value}{lo hi:Option Int}{Q:Value->Shared->Prop}(ht:IsTup s.heap t items)(hs:s.heap.IsSliceOf sl vl vu .none)(pl:IsPart vl lo)(pu:IsPart vu hi)(hw:¬(iG items.size 0 lo=0/\iG items.size items.size hi=items.size))(h:Q (.ref s.heap.objs.size) {s with heap:=s.heap.push {cls:= .type "tuple",data:= .seq ((items.toList.drop (iG items.size 0 lo)).take (iG items.size items.size hi - iG items.size 0 lo)).toArray}})(hsz:items.size<=sizeLine):wpAny (model prog w) A (getItem (.ref t) (.ref sl)) Q E s:=by
 have J8:sizeOk (.seq ((items.toList.drop (iG items.size 0 lo)).take (iG items.size items.size hi - iG items.size 0 lo)).toArray):=by
  show ((items.toList.drop (iG items.size 0 lo)).take (iG items.size items.size hi - iG items.size 0 lo)).toArray.size<=sizeLine;rw[aaB,abI,List.length_drop,aao];lia
 have hj:iG items.size items.size hi<=items.size:=XF _ _ (aaj _) hi;obtain⟨os,hos,hcs,hds⟩:=id hs;have hTs:s.TypeIs (.ref sl) "slice" :=⟨os,hos,hcs⟩;unfold getItem
 try with_reducible refine wpAny_holding ?_
 first |refine aak (aal ?_)|skip
 refine aak (wpAny_sequenceKey ht.typeIs (by decide) ?_)
 refine aak (wpAny_callSpecial?_slot (name:=Str.ofString "__getitem__") ht.typeIs PyProof.Rows.slot_tuple_getitem
  (wpAny_call_entry PyProof.Rows.slot_tuple_getitem ht.typeIs entry_tuple_getitem ?_ (args_tuple_getitem _ _)))
 show wpAny _ _ (Builtin.Tuple.tupleItemsOf (.ref t) >>= _) _ _ s;refine aak (tupleItemsOf_ ht ?_);refine aak (wpAny_typeOf hTs ?_);rw[acd (by decide)];refine aak (uL hs pl pu ?_)
 have hno:¬((((iG items.size 0 lo:Nat):Int)==0&&(1:Int)==1&&(iG items.size items.size hi - iG items.size 0 lo)==items.size)=true):=by
  intro q;rw[aa6,aa6] at q;have q1:((iG items.size 0 lo:Nat):Int)=0:=eq_of_beq q.1.1;have q2:iG items.size items.size hi - iG items.size 0 lo=items.size:=eq_of_beq q.2;exact hw ⟨by lia,by lia⟩
 show wpAny _ _ (if (((iG items.size 0 lo:Nat):Int)==0&&(1:Int)==1&&(iG items.size items.size hi - iG items.size 0 lo)==items.size)=true then _ else _) _ _ s;rw[ab' hno,Pb]
 first
  | exact aak (m:=Builtin.Tuple.tupleExact _) (wpAny_newObj_type (aal ⟨_,acg,aal h⟩) J8)
  | exact aak (m:=Builtin.Tuple.tupleExact _) (wpAny_newObj_type (aak (aal (aal ⟨_,acg,aal h⟩))) J8)
  | exact aak (aak (m:=Builtin.Tuple.tupleExact _) (wpAny_newObj_type (aal (aal ⟨_,acg,aal h⟩)) J8))
  | exact aak (aak (m:=Builtin.Tuple.tupleExact _) (wpAny_newObj_type (aal ⟨_,acg,aal h⟩) J8))
end
end HT
namespace L2
open PySem PySem.Spec PyProof.Rows
noncomputable abbrev TO:=St->Hp->(Option Int->Hp->Prop)->Prop
noncomputable def PO(X:Cx)(e:Option Expr)(t:TO):Prop:=
 ∀(pins:List (Addr×Obj))(s:Shared)(σ:St)(H:Hp)(Q:Option Int->Hp->Prop),Inv X pins σ H s->t σ H Q ->
  wpAny (model X.prog X.w) X.A (evalPart e X.env) (λu s'=>∃o H',Inv X pins σ H' s'/\IsPart u o/\Q o H') X.xe s
noncomputable def Bf:TO:=λ_ H Q=>Q none H
noncomputable def N8(t:TE):TO:=λσ H Q=>t σ H λx H1=>∃i,x = .int i/\Q (some i) H1
section
variable{X:Cx}{e:Expr}{te:TE}{lo hi:Option Expr}{tl th:TO}{pos p2:Pos}
theorem kJ:PO X none Bf:=by
 intro pins s σ H Q I h;rw[evalPart_none];exact aal ⟨none,H,I,.none,h⟩
theorem kI(h:PE X e te):PO X (some e) (N8 te):=by
 intro pins s σ H Q I hw;rw[evalPart_some];refine dG (h pins s σ H _ I hw) λu s1 gO=>?_;obtain⟨x,H1,I1,r1,q1⟩:=gO;obtain⟨i,rfl,q⟩:=q1;obtain⟨t,rfl⟩:=r1;exact⟨some i,H1,I1,.int i t,q⟩
noncomputable def SlR(X:Cx)(r:V->Option Int->Option Int->Hp->VK->Prop):Prop:=
 ∀(pins:List (Addr×Obj))(s:Shared)(σ:St)(H:Hp)(x:V)(v vl vu:Value)(lo hi:Option Int)(sl:Addr)(Q:VK),Inv X pins σ H s->RelV x v->s.heap.IsSliceOf sl vl vu .none->IsPart vl lo->IsPart vu hi->r x lo hi H Q ->
  ∃T id,typeLookup (.type T) "__getitem__" = pure (some (.builtin id))/\s.TypeIs v T/\wpAny (model X.prog X.w) X.A (getItem v (.ref sl)) (EP X pins σ Q) X.xe s
noncomputable def tSl(r:V->Option Int->Option Int->Hp->VK->Prop)(te:TE)(tl th:TO):TE:=λσ H Q=>te σ H λx H1=>tl σ H1 λl H2=>th σ H2 λu H3=>r x l u H3 Q
theorem jd{r:V->Option Int->Option Int->Hp->VK->Prop}(hr:SlR X r)(he:PE X e te)(hl:PO X lo tl)(hu:PO X hi th):PE X (.Subscript e (.Slice lo hi none p2) pos) (tSl r te tl th):=by
 intro pins s σ H Q I h;refine Subscript_ (dG (he pins s σ H _ I h) λv s1 gO=>?_);obtain⟨x,H1,I1,r1,q1⟩:=gO;refine wpAny_Slice (dG (hl pins s1 σ H1 _ I1 q1) λvl s2 ⟨l,H2,I2,pl,q2⟩=>dG (hu pins s2 σ H2 _ I2 q2) λvu s3 gO=>?_);obtain⟨u,H3,I3,pu,q3⟩:=gO;rw[evalPart_none];refine aal ?_;have I4:Inv X pins σ H3 {s3 with heap:=s3.heap.push {cls:= .type "slice",data:= .fields #[vl,vu,.none]}}:=I3.kept (t':=s3.toks) λb ob q=>aag _ q;obtain⟨T,id,hT,ht,hg⟩:=hr pins {s3 with heap:=s3.heap.push {cls:= .type "slice",data:= .fields #[vl,vu,.none]}} σ H3 x v vl vu l u s3.heap.objs.size Q I4 r1 (Heap.IsSliceOf.new ..) pl pu q3;show wpAny (model X.prog X.w) X.A (subscriptTail e (.Slice lo hi none p2) v (.ref s3.heap.objs.size)) (EP X pins σ Q) X.xe {s3 with heap:=s3.heap.push {cls:= .type "slice",data:= .fields #[vl,vu,.none]}};exact tail_any (ops:=[.ref s3.heap.objs.size,v]) ht hT hg (by with_unfolding_all rfl)
noncomputable def j5(xs:List V)(lo hi:Option Int):List V:=(xs.drop (HT.iG xs.length 0 lo)).take (HT.iG xs.length xs.length hi - HT.iG xs.length 0 lo)
theorem vG(xs:List V)(lo hi:Option Int):(j5 xs lo hi).length<=xs.length:=by
 unfold j5;rw[abI,List.length_drop];lia
noncomputable def aaS(K:PySem.W.Frag):V->Option Int->Option Int->Hp->VK->Prop:=λx lo hi H Q=>∃a xs,x = .ref a/\cD K H a xs /\
 ¬(HT.iG xs.length 0 lo=0/\HT.iG xs.length xs.length hi=xs.length) /\ ∀p,H p=none->Q (.ref p) (upd H p (.tup (j5 xs lo hi)))
theorem Xz:SlR X (aaS X.K):=by
 intro pins s σ H x v vl vu lo hi sl Q I rx hs pl pu h;obtain⟨a,xs,rfl,hx,hw,q⟩:=h;cases rx;obtain⟨its,r,ht,hz⟩:=I.tuple hx;have hlen:its.toArray.size=xs.length:=by rw[aaB];exact r.length.symm
 refine⟨"tuple",_,PyProof.Rows.slot_tuple_getitem.lookup,ht.typeIs, ?_⟩;refine HT.tO ht hs pl pu (by rw[hlen];exact hw) ?_ (by rw[hlen];exact hz);rw[hlen];refine⟨.ref s.heap.objs.size,_,I.laid (t':=s.toks) (o:= .tup (j5 xs lo hi)) (λb ob q=>aag _ q) (aaj _) ?_,acg,q _ (I.hok.fresh (aaj _))⟩;exact⟨ab9 (vG xs lo hi) hz,_,(r.drop (HT.iG xs.length 0 lo)).take (HT.iG xs.length xs.length hi - HT.iG xs.length 0 lo),IsTup.new _ _⟩
theorem Vals.JZ{xs:List V}{us:List Value}(r:Vals xs us):us=[]↔xs=[]:=by
 cases r with
 | nil=>simp
 | cons _ _=>simp
end
noncomputable def Lw(n:Nat)(i:Int):Option Nat:=if 0<=i then (if i<n then some i.toNat else none) else if -(n:Int)<=i then some (i+n).toNat else none
noncomputable def zf{α:Type}(xs:List α)(i:Int):Option α:=(Lw xs.length i).bind λj=>xs[j]?
theorem J7{n:Nat}{i:Int}{j:Nat}(h:Lw n i=some j):seqIndex? i n=some j/\j<n /\ -(n:Int)<=i/\i<n:=by
 unfold Lw at h
 by_cases h0:0<=i
 .rw[acd h0] at h
  by_cases h1:i<n
  .rw[acd h1] at h
   have e:i.toNat=j:=aaC h;exact⟨by rw[seqIndex_of h0 h1,e],by lia,by lia,h1⟩
  .rw[ab' h1] at h;cases h
 .rw[ab' h0] at h
  by_cases h1: -(n:Int)<=i
  .rw[acd h1] at h
   have e:(i+n).toNat=j:=aaC h;exact⟨by rw[seqIndex_neg (by lia) h1,e],by lia,h1,by lia⟩
  .rw[ab' h1] at h;cases h
theorem Dm{α:Type}{xs:List α}{i:Int}{v:α}(h:zf xs i=some v):∃j,seqIndex? i xs.length=some j/\xs[j]? = some v/\j<xs.length /\ -(xs.length:Int)<=i/\i<xs.length:=by
 unfold zf at h;cases e:Lw xs.length i with
 | none=>rw[e] at h;cases h
 | some j=>
   rw[e] at h;obtain⟨h1,h2,h3,h4⟩:=J7 e;exact⟨j,h1,h,h2,h3,h4⟩
theorem bV{α:Type}{xs:List α}{j:Nat}{v:α}(h:xs[j]? = some v):zf xs (j:Int)=some v:=by
 have hj:j<xs.length:=(aae.mp h).1
 have e:Lw xs.length (j:Int)=some j:=by
  unfold Lw;rw[acd (by lia),acd (by lia)];simp
 unfold zf;rw[e];exact h
noncomputable def VP(b:Expr):Prop:=∀o i,subscripted b false o i=operate [o,i] (getItem o i)
noncomputable def IxR(X:Cx)(r:R2):Prop:=
 ∀(value slice:Expr)(pins:List (Addr×Obj))(s:Shared)(σ:St)(H:Hp)(x y:V)(v u:Value)(Q:VK),Inv X pins σ H s->RelV x v->RelV y u->r x y H Q ->
  subscripted slice false v u=operate [v,u] (getItem v u)->wpAny (model X.prog X.w) X.A (subscriptTail value slice v u) (EP X pins σ Q) X.xe s
noncomputable def ZS(X:Cx)(id:String)(r:V->List V->Hp->VK->Prop):Prop:=
 ∀(pins:List (Addr×Obj))(s:Shared)(σ:St)(H:Hp)(x:V)(xs:List V)(v:Value)(us:List Value)(Q:VK),Inv X pins σ H s->RelV x v->Vals xs us->r x xs H Q ->
  wpAny (model X.prog X.w) X.A (call (.builtin id) (v::us)) (EP X pins σ Q) X.xe s
section
variable{X:Cx}{a b:Expr}{ta tb:TE}{pos:Pos}
theorem aO{r:R2}(hr:IxR X r)(ha:PE X a ta)(hb:PE X b tb)(hs:VP b):PE X (.Subscript a b pos) (vL r ta tb):=by
 intro pins s σ H Q I h;exact Subscript_ (ZC ha hb I h λv u s2 x y H2 I2 rx ry q=>hr a b pins s2 σ H2 x y v u Q I2 rx ry q (hs _ _))
noncomputable def o_(K:PySem.W.Frag):R2:=λx y H Q=>∃p xs i v,x = .ref p/\y = .int i/\bI K H p xs/\zf xs i=some v/\Q v H
noncomputable def Oz(K:PySem.W.Frag):R2:=λx y H Q=>∃p xs i v,x = .ref p/\y = .int i/\cD K H p xs/\zf xs i=some v/\Q v H
noncomputable def ad4:R2:=λx y H Q=>∃z i c,x = .str z/\y = .int i/\z.length<=sizeLine/\zf z.cps.toList i=some c/\Q (.str ⟨#[c]⟩) H
theorem U9:IxR X (o_ X.K):=by
 intro value slice pins s σ H x y v u Q I rx ry h hs;obtain⟨p,xs,i,z,rfl,rfl,hq,he,q⟩:=h;cases rx;obtain⟨t,rfl⟩:=ry;obtain⟨its,r,pl,hz⟩:=I.list hq;obtain⟨j,h1,h2,h3,h4,h5⟩:=Dm he;obtain⟨w,ew,rw'⟩:=r.get h2;have hl:=r.length;have hn:=rA;have fin:EP X pins σ Q w s:=⟨z,H,I,rw',q⟩
 by_cases h0:0<=i
 .have hj:i.toNat=j:=by
   rw[seqIndex_of h0 h5] at h1;exact aaC h1
  exact item_listR pl.isList h0 (by lia) (by rw[hj];simpa using ew) fin hs
 .have hj:(i+(its.toArray.size:Int)).toNat=j:=by
   rw[seqIndex_neg (by lia) h4] at h1;rw[aaB,←hl];exact aaC h1
  exact subscriptTail_builtinR (x:=w) pl.isList.typeIs slot_list_getitem.lookup
   (wpAny_getItem_list_neg (Q:=λr s'=>r=w/\EP X pins σ Q r s') pl.isList (by lia) (by rw[aaB]<;>lia) (by lia) (by rw[hj];simpa using ew) ⟨acg,fin⟩) hs
theorem YZ:IxR X (Oz X.K):=by
 intro value slice pins s σ H x y v u Q I rx ry h hs;obtain⟨p,xs,i,z,rfl,rfl,hq,he,q⟩:=h;cases rx;obtain⟨t,rfl⟩:=ry;obtain⟨its,r,pl,hz⟩:=I.tuple hq;obtain⟨j,h1,h2,h3,h4,h5⟩:=Dm he;obtain⟨w,ew,rw'⟩:=r.get h2;have hl:=r.length;have hn:=rA;have fin:EP X pins σ Q w s:=⟨z,H,I,rw',q⟩
 exact subscriptTail_builtinR (x:=w) pl.typeIs slot_tuple_getitem.lookup
  (getItem_tuple (j:=j) (Q:=λr s'=>r=w/\EP X pins σ Q r s') pl (by lia) (by lia) (by rw[aaB,←hl];exact h1) (by simpa using ew) ⟨acg,fin⟩) hs
theorem H_:IxR X ad4:=by
 intro value slice pins s σ H x y v u Q I rx ry h hs;obtain⟨z,i,c,rfl,rfl,hz,he,q⟩:=h;obtain⟨t,rfl⟩:=rx;obtain⟨t',rfl⟩:=ry;obtain⟨j,h1,h2,h3,h4,h5⟩:=Dm he;have hl:z.cps.toList.length=z.length:=by simp[Str.length]
 rw[hl] at h1 h4 h5;have hn:=rA
 exact tail_any (typeIs_str s z t) slot_str_getitem.lookup (getItem_str (c:=c) (by
  have e1:decide (i < -(2 ^ 63:Int))=false:=aar (by lia);have e2:decide (i≥2 ^ 63)=false:=aar (by lia);rw[e1,e2,Bool.or_false]) (by rw[h1];simpa using h2) ⟨.str ⟨#[c]⟩,H,I.tok _,⟨_,acg⟩,q⟩) hs
theorem HD(its:List Value)(n j:Nat)(u:Value):Obj.mapSeq (·.setIfInBounds j u) {cls:= .type "list",data:= .seq its.toArray n}={cls:= .type "list",data:= .seq (its.set j u).toArray n}:=by
 simp[Obj.mapSeq]
theorem Inv.lst{pins:List (Addr×Obj)}{σ:St}{H:Hp}{s:Shared}{p:Addr}{xs:List V}(I:Inv X pins σ H s)(h:H p=some (.lst xs)):
 ∃(its:List Value) (n:Nat),Vals xs its/\s.heap.get? p=some {cls:= .type "list",data:= .seq its.toArray n}/\xs.length<=sizeLine:=by
 obtain⟨z,its,n,r,e⟩:=I.hok p _ h;exact⟨its,n,r,e,z⟩
theorem Inv.YL{pins:List (Addr×Obj)}{σ:St}{H:Hp}{s:Shared}{p:Addr}{xs ys:List V}{its its':List Value}{n n':Nat}{f:Obj->Obj}(I:Inv X pins σ H s)(h:H p=some (.lst xs))(ho:s.heap.get? p=some {cls:= .type "list",data:= .seq its.toArray n})(hf:f {cls:= .type "list",data:= .seq its.toArray n}={cls:= .type "list",data:= .seq its'.toArray n'})(r:Vals ys its')(hz:ys.length<=sizeLine)(t:Nat):
 Inv X pins σ (upd H p (.lst ys)) {s with heap:=s.heap.update p f,toks:=t}:=by
 have e:(s.heap.update p f).get? p=some {cls:= .type "list",data:= .seq its'.toArray n'}:=by
  rw[Heap.get?_update_self f ho (by rw[hf]<;>rfl),hf]
 refine I.write (x:=p) (e:=p) (by rw[h];trivial) (.inl rfl) (λb u hb q=>(Heap.get?_update_other _ _ (Ne.symm hb)).trans q) ⟨_,e⟩ ?_;exact⟨hz,its',n',r,e⟩
noncomputable def Ox:V->V->V->Hp->(Hp->Prop)->Prop:=λo i v H Q=>∃p xs k j,o = .ref p/\i = .int k/\H p=some (.lst xs)/\Lw xs.length k=some j/\Q (upd H p (.lst (xs.set j v)))
theorem set_list:ZQ X Ox:=by
 intro pins s σ H o i v ov iv u Q I ro ri rv h;obtain⟨p,xs,k,j,rfl,rfl,hp,hj,q⟩:=h;cases ro;obtain⟨t,rfl⟩:=ri;obtain⟨its,n,r,ho,hz⟩:=I.lst hp;obtain⟨h1,h2,h3,h4⟩:=J7 hj;have hl:=r.length;have hn:=rA
 have I':Inv X pins σ (upd H p (.lst (xs.set j v))) {s with heap:=s.heap.update p (Obj.mapSeq (·.setIfInBounds j u))}:=
  I.YL hp ho (HD its n j u) (r.set rv j) (by rw[abF];exact hz) s.toks
 by_cases h0:0<=k
 .have hk:k.toNat=j:=by
   rw[seqIndex_of h0 h4] at h1;exact aaC h1
  exact PySem.W.ki_setAt ho h0 (by lia) (by rw[aaB,←hl];exact h4) (by rw[hk];exact⟨_,I',q⟩)
 .have hk:(k+(its.toArray.size:Int)).toNat=j:=by
   rw[seqIndex_neg (by lia) h3] at h1;rw[aaB,←hl];exact aaC h1
  exact PySem.W.ki_setBack ho (by lia) (by rw[aaB,←hl];exact h3) (by lia) (by rw[hk];exact⟨_,I',q⟩)
theorem Bv(lo hi:Option Int)(n:Nat):(sliceBounds lo hi none n).1=((HT.iG n 0 lo:Nat):Int)/\(sliceBounds lo hi none n).2.1=((HT.iG n n hi:Nat):Int)/\(sliceBounds lo hi none n).2.2=1:=by
 refine⟨?_, ?_,acg⟩
 .cases lo with
  | none=>simp[sliceBounds,HT.iG]
  | some i=>
    simp only[sliceBounds,HT.iG,Option.getD_none,show (1:Int)>0 by decide,if_true]
    by_cases h:i<0
    .simp only[h,if_true]<;>lia
    .simp only[h,if_false]<;>lia
 .cases hi with
  | none=>simp[sliceBounds,HT.iG]
  | some i=>
    simp only[sliceBounds,HT.iG,Option.getD_none,show (1:Int)>0 by decide,if_true]
    by_cases h:i<0
    .simp only[h,if_true]<;>lia
    .simp only[h,if_false]<;>lia
theorem zp(its:List Value)(lo hi:Option Int):slicePick its.toArray lo hi none=((its.drop (HT.iG its.length 0 lo)).take (HT.iG its.length its.length hi - HT.iG its.length 0 lo)).toArray:=by
 obtain⟨h1,h2,h3⟩:=Bv lo hi its.toArray.size;unfold slicePick;rw[h1,h2,h3];simp only[sliceRange_one,pick_run,aaB]<;>rfl
noncomputable def TX(K:PySem.W.Frag):V->Option Int->Option Int->Hp->VK->Prop:=λx lo hi H Q=>∃a xs,x = .ref a/\bI K H a xs /\ ∀p,H p=none->Q (.ref p) (upd H p (.lst (j5 xs lo hi)))
theorem Tq:SlR X (TX X.K):=by
 intro pins s σ H x v vl vu lo hi sl Q I rx hs pl pu h;obtain⟨a,xs,rfl,hx,q⟩:=h;cases rx;obtain⟨its,r,ht,hz⟩:=I.list hx;have hlen:=r.length;refine⟨"list",_,slot_list_getitem.lookup,ht.isList.typeIs, ?_⟩;refine wpAny_getItem_list_slice ht.isList hs pl pu .none (by simp) ?_ (by rw[aaB]<;>lia);rw[zp,←hlen];refine⟨.ref s.heap.objs.size,_,I.laid (t':=s.toks) (o:= .lst (j5 xs lo hi)) (λb ob q=>aag _ q) (aaj _) ?_,acg,q _ (I.hok.fresh (aaj _))⟩;exact⟨ab9 (vG xs lo hi) hz,_,0,(r.drop (HT.iG xs.length 0 lo)).take (HT.iG xs.length xs.length hi - HT.iG xs.length 0 lo),aah _ rfl⟩
noncomputable def tR:V->Bool
 | .non=>true
 | .bl _=>true
 | .int _=>true
 | .str _=>true
 | _=>false
noncomputable def QW:V->V->Bool
 | .non,.non=>true
 | .bl a,.bl b=>a==b
 | .bl a,.int b=>(if a then 1 else 0)==b
 | .int a,.bl b=>a==(if b then 1 else 0)
 | .int a,.int b=>a==b
 | .str a,.str b=>a==b
 | _,_=>false
theorem Zj{A:Around}{s:Shared}{y x:V}{u v:Value}(ry:RelV y u)(rx:RelV x v)(fy:tR y=true)(fx:tR x=true):SeqAt.EqAt A s u v (QW y x):=by
 cases y with
 | non=>
   cases ry;cases x with
   | non=>cases rx;exact SeqAt.EqAt.same _
   | bl b=>cases rx;exact SeqAt.EqAt.none_bool b
   | int b=>obtain⟨t,rfl⟩:=rx;exact SeqAt.EqAt.none_int b t
   | str b=>obtain⟨t,rfl⟩:=rx;exact SeqAt.EqAt.none_str b t
   | _=>exact ace (show false=true from fx) aax
 | bl a=>
   cases ry;cases x with
   | non=>cases rx;exact SeqAt.EqAt.bool_none a
   | bl b=>cases rx;exact SeqAt.EqAt.bool_bool a b
   | int b=>obtain⟨t,rfl⟩:=rx;exact SeqAt.EqAt.bool_int a b t
   | str b=>obtain⟨t,rfl⟩:=rx;exact SeqAt.EqAt.bool_str a b t
   | _=>exact ace (show false=true from fx) aax
 | int a=>
   obtain⟨t',rfl⟩:=ry;cases x with
   | non=>cases rx;exact SeqAt.EqAt.int_none a t'
   | bl b=>cases rx;exact SeqAt.EqAt.int_bool a t' b
   | int b=>obtain⟨t,rfl⟩:=rx;exact SeqAt.EqAt.int_int a t' b t
   | str b=>obtain⟨t,rfl⟩:=rx;exact SeqAt.EqAt.int_str a t' b t
   | _=>exact ace (show false=true from fx) aax
 | str a=>
   obtain⟨t',rfl⟩:=ry;cases x with
   | non=>cases rx;exact SeqAt.EqAt.str_none a t'
   | bl b=>cases rx;exact SeqAt.EqAt.str_bool a t' b
   | int b=>obtain⟨t,rfl⟩:=rx;exact SeqAt.EqAt.str_int a t' b t
   | str b=>obtain⟨t,rfl⟩:=rx;exact SeqAt.EqAt.str_str a t' b t
   | _=>exact ace (show false=true from fx) aax
 | _=>exact ace (show false=true from fy) aax
noncomputable def Vq(x:V)(u:Value):Bool:=match u with
 | .none=>QW .non x
 | .bool b=>QW (.bl b) x
 | .int i _=>QW (.int i) x
 | .str z _=>QW (.str z) x
 | _=>false
theorem QX{x y:V}{u:Value}(r:RelV y u)(f:tR y=true):Vq x u=QW y x:=by
 cases y with
 | non=>cases r;rfl
 | bl b=>cases r;rfl
 | int i=>obtain⟨t,rfl⟩:=r;rfl
 | str z=>obtain⟨t,rfl⟩:=r;rfl
 | _=>exact ace (show false=true from f) aax
theorem Dn{x:V}:∀{xs:List V}{us:List Value},Vals xs us->xs.all tR=true->us.any (Vq x)=xs.any λy=>QW y x
 | _,_,.nil,_=>rfl
 | y::xs,u::us,.cons r t,f=>by
   rw[List.all_cons,aa6] at f;rw[List.any_cons,List.any_cons,QX r f.1,Dn t f.2]
theorem yj{A:Around}{s:Shared}{x:V}{v:Value}(rx:RelV x v)(fx:tR x=true):∀{xs:List V}{us:List Value},Vals xs us->xs.all tR=true -> ∀u∈us,SeqAt.EqAt A s u v (Vq x u)
 | _,_,.nil,_=>λu hu=>by cases hu
 | y::xs,u::us,.cons r t,f=>λu' hu=>by
   rw[List.all_cons,aa6] at f;rcases List.mem_cons.mp hu with rfl|hu
   .rw[QX r f.1];exact Zj r rx f.1 fx
   .exact yj rx fx t f.2 u' hu
noncomputable def inV(x:V)(xs:List V):Bool:=xs.any λy=>QW y x
noncomputable def rIn(K:PySem.W.Frag)(neg:Bool):R2:=λx y H Q=>∃p xs,y = .ref p/\(bI K H p xs\/cD K H p xs)/\tR x=true/\xs.all tR=true/\Q (.bl (if neg then !inV x xs else inV x xs)) H
theorem La:qx X (compareOp .In) (rIn X.K false):=by
 intro pins s σ H x y v u Q I rx ry h;obtain⟨p,xs,rfl,hq,fx,fs,q⟩:=h;cases ry;rcases hq with hq|hq
 .obtain⟨its,r,pl,hz⟩:=I.list hq
  refine SeqAt.in_listAt (Vq x) pl.isList (λw hw=>yj rx fx r fs w (by simpa using hw)) ⟨.bl _,H,I,acg, ?_⟩;rw[show its.toArray.any (Vq x)=its.any (Vq x) by simp,Dn r fs];exact q
 .obtain⟨its,r,pl,hz⟩:=I.tuple hq
  refine SeqAt.in_tupleAt (Vq x) pl (λw hw=>yj rx fx r fs w (by simpa using hw)) ⟨.bl _,H,I,acg, ?_⟩;rw[show its.toArray.any (Vq x)=its.any (Vq x) by simp,Dn r fs];exact q
theorem Di:jA X (.builtin "len") (λxs H Q=>∃p ys,xs=[.ref p]/\(bI X.K H p ys\/cD X.K H p ys)/\Q (.int ys.length) H):=by
 intro pins s σ H xs us Q I r h;obtain⟨p,ys,rfl,hq,q⟩:=h;obtain⟨u,rfl,rx⟩:=vals1 r;cases rx;have hn:=rA;rcases hq with hq|hq
 .obtain⟨its,r',pl,hz⟩:=I.list hq
  have hlen:=r'.length;exact Calls.call_len_list pl.isList (by simp only[aaB]<;>lia) ⟨.int ys.length,H,I.tok _,⟨s.toks+1,by rw[aaB,hlen]⟩,q⟩
 .obtain⟨its,r',pl,hz⟩:=I.tuple hq
  have hlen:=r'.length;exact len_tuple pl (by simp only[aaB]<;>lia) ⟨.int ys.length,H,I.tok _,⟨s.toks+1,by rw[aaB,hlen]⟩,q⟩
theorem Dh:jA X (.type "list") (λxs H Q=>∃p ys,xs=[.ref p]/\(bI X.K H p ys\/cD X.K H p ys) /\ ∀l,H l=none->Q (.ref l) (upd H l (.lst ys))):=by
 intro pins s σ H xs us Q I r h;obtain⟨p,ys,rfl,hq,q⟩:=h;obtain⟨u,rfl,rx⟩:=vals1 r;cases rx
 have fin:∀(its:List Value),Vals ys its->ys.length<=sizeLine -> ∀(h':Heap)(c':Nat),(∀b o',s.heap.get? b=some o'->h'.get? b=some o') ->
  h'.get? s.heap.objs.size=some {cls:= .type "list",dict:=none,data:= .seq its.toArray c',slots:= #[]}->EP X pins σ Q (.ref s.heap.objs.size) {s with heap:=h'}:=λits r' hz h' c' kp e=>
  ⟨.ref s.heap.objs.size,_,I.laid (t':=s.toks) kp (aaj _) (show eF X.prog X.w _ h' _ (.lst ys) from ⟨hz,its,c',r',e⟩),acg,q _ (I.hok.fresh (aaj _))⟩
 rcases hq with hq|hq
 .obtain⟨its,r',pl,hz⟩:=I.list hq
  have hlen:=r'.length;obtain⟨o,ho,hc,n,hd⟩:=pl.isList;exact call_list_seq p (.inl rfl) ho hc hd (λh' c' kp e=>fin its r' hz h' c' kp e) (by simp only[aaB]<;>lia)
 .obtain⟨its,r',pl,hz⟩:=I.tuple hq
  have hlen:=r'.length;obtain⟨o,ho,hc,n,hd⟩:=pl;exact call_list_seq p (.inr rfl) ho hc hd (λh' c' kp e=>fin its r' hz h' c' kp e) (by simp only[aaB]<;>lia)
noncomputable def tyV(K:PySem.W.Frag)(T:String)(x:V)(H:Hp):Prop:=match x with
 | .str _=>T = "str"
 | .int _=>T = "int"
 | .ref p=>(T = "list" /\ ∃xs,bI K H p xs)\/(T = "tuple" /\ ∃o,K.lookup p=some o/\o.cls = .type "tuple" /\ o.dict=none) \/
    (T = "dict" /\ ((∃kvs,H p=some (.dK kvs)) \/ ∃kvs,H p=some (.dT kvs)))\/(T = "set" /\ ∃S n,H p=some (.set S n))
 | _=>False
theorem Ny{pins:List (Addr×Obj)}{σ:St}{H:Hp}{s:Shared}{T:String}{x:V}{v:Value}(I:Inv X pins σ H s)(r:RelV x v)(ty:tyV X.K T x H):
 s.TypeIs v T /\ ∀a,v = .ref a -> ∃ob,s.heap.get? a=some ob/\ob.dict=none:=by
 cases x with
 | str z=>
   obtain⟨t,rfl⟩:=r;cases (show T = "str" from ty);exact⟨typeIs_str s z t,λ_ e=>nomatch e⟩
 | int i=>
   obtain⟨t,rfl⟩:=r;cases (show T = "int" from ty);exact⟨typeIs_int s i t,λ_ e=>nomatch e⟩
 | ref p=>
   cases r;rcases ty with ⟨rfl,xs,hq⟩|⟨rfl,o,hk,hc,hd⟩|⟨rfl,hk⟩|⟨rfl,S,n,hk⟩
   .obtain⟨its,_,pl,_⟩:=I.list hq
    refine⟨pl.isList.typeIs,λa e=>?_⟩;cases e;obtain⟨o,n,e,c,hd,_⟩:=pl;exact⟨o,e,hd⟩
   .refine⟨⟨o,I.rN p o hk,hc⟩,λa e=>?_⟩
    cases e;exact⟨o,I.rN _ o hk,hd⟩
   .have z:∃o,s.heap.get? p=some o/\o.ExactDict:=by
     rcases hk with ⟨kvs,hk⟩|⟨kvs,hk⟩
     .obtain⟨_,_,_,_,o,_,_,e,ex,_⟩:=I.hok p _ hk
      exact⟨o,e,ex⟩
     .obtain⟨_,_,_,_,o,_,_,e,ex,_⟩:=I.hok p _ hk
      exact⟨o,e,ex⟩
    obtain⟨o,e,ex⟩:=z;refine⟨⟨o,e,ex.1⟩,λa e2=>?_⟩;cases e2;exact⟨o,e,ex.2.1⟩
   .obtain⟨o,_,_,_,e,ex,_⟩:=I.hok p _ hk
    refine⟨⟨o,e,ex.1⟩,λa e2=>?_⟩;cases e2;exact⟨o,e,ex.2.1⟩
 | _=>exact False.elim ty
noncomputable def Xw(K:PySem.W.Frag)(T:String)(r:V->List V->Hp->VK->Prop)(to:TE):TE:=λσ H Q=>to σ H λx H1=>tyV K T x H1/\r x [] H1 Q
noncomputable def V7(K:PySem.W.Frag)(T:String)(r:V->List V->Hp->VK->Prop)(to:TE)(t:TA):TE:=λσ H Q=>to σ H λx H1=>tyV K T x H1/\t σ H1 λxs H2=>r x xs H2 Q
variable{o e:Expr}{es:List Expr}{to:TE}{t:TA}{name:Str}{apos cpos:Pos}{T id:String}{r:V->List V->Hp->VK->Prop}
theorem Yh(pa:PlainAttrs T)(slot:Slot T name id)(hty:typeOf (.builtin id)=pure (.type "method_descriptor"))(hm:ZS X id r)(ho:PE X o to)(hbase:attributeBase o name X.env (eval o X.env)=eval o X.env:=by rfl)(hline:(apos.endLine==cpos.line)=true:=by rfl):PE X (.Call (.Attribute o name apos) [] [] cpos) (Xw X.K T r to):=by
 intro pins s σ H Q I h;refine wpAny_Call_method0_late hbase hline (dG (ho pins s σ H _ I h) λv s1 gO=>?_);obtain⟨x,H1,I1,r1,ty,q1⟩:=gO;obtain⟨h1,h2⟩:=Ny I1 r1 ty;exact⟨T,id,pa,slot,hty,h1,h2,Calls.callWith_builtin rfl (PySem.evalArgs_none (hm pins s1 σ H1 x [] v [] Q I1 r1 .nil q1))⟩
theorem Wo(pa:PlainAttrs T)(slot:Slot T name id)(hty:typeOf (.builtin id)=pure (.type "method_descriptor"))(hm:ZS X id r)(ho:PE X o to)(ha:PA X (e::es) t)(hbase:attributeBase o name X.env (eval o X.env)=eval o X.env:=by rfl)(hfew:((backTo cpos (starEach (e::es) X.env)).all (λx=> !x.1)&&(backToKw cpos (keywordEach [] X.env)).all (λx=>x.1.isSome)
   && decide ((e::es).length+([]:List Keyword).length+(if ([]:List Keyword).isEmpty then 0 else 1)<30))=true:=by rfl)(hline:(apos.endLine==cpos.line)=true:=by rfl)(hs:starEach (e::es) X.env=(false,eval e X.env)::starEach es X.env:=by rfl)(hplain:(backTo cpos (starEach es X.env)).any (·.1)=false:=by rfl):
 PE X (.Call (.Attribute o name apos) (e::es) [] cpos) (V7 X.K T r to t):=by
 intro pins s σ H Q I h;refine wpAny_Call_method_late hbase hfew hline rfl (dG (ho pins s σ H _ I h) λv s1 gO=>?_);obtain⟨x,H1,I1,r1,ty,q1⟩:=gO;obtain⟨h1,h2⟩:=Ny I1 r1 ty;refine⟨T,id,pa,slot,hty,h1,h2, ?_⟩;have hA:=ha cpos pins s1 σ H1 _ I1 q1;rw[hs] at hA ⊢;refine Calls.callWith_builtin (by show (false||(backTo cpos (starEach es X.env)).any (·.1))=false;rw[hplain]<;>rfl) (Calls.evalArgs_plain ?_);exact dG hA λus s2 ⟨vs,H2,I2,r2,q2⟩=>hm pins s2 σ H2 x vs v us Q I2 r1 r2 q2
end
noncomputable def MtM(X:Cx)(id:String)(r:V->List V->Hp->VK->Prop):Prop:=
 ∀(pins:List (Addr×Obj))(s:Shared)(σ:St)(H:Hp)(x:V)(xs:List V)(v:Value)(us:List Value)(Q:VK),Inv X pins σ H s->RelV x v->Vals xs us->r x xs H Q ->
  wpAny (model X.prog X.w) X.A (call (.builtin id) (v::us)) (EP X pins σ Q) X.xe s
theorem Vals.one{x:V}{us:List Value}(h:Vals [x] us):∃u,us=[u]/\RelV x u:=by
 cases h with
 | cons r t=>cases t;exact⟨_,acg,r⟩
theorem Vals.zero:∀{us:List Value},Vals [] us->us=[]
 | _,.nil=>rfl
theorem Vals.dropLast{xs:List V}{us:List Value}(h:Vals xs us):Vals xs.dropLast us.dropLast:=by
 induction h with
 | nil=>exact .nil
 | cons r t ih=>
   cases t with
   | nil=>exact .nil
   | cons q t'=>exact .cons r ih
theorem Vals.reverse{xs:List V}{us:List Value}(h:Vals xs us):Vals xs.reverse us.reverse:=by
 induction h with
 | nil=>exact .nil
 | cons r t ih=>rw[List.reverse_cons,List.reverse_cons];exact Vals.append ih (.cons r .nil)
theorem Vals.rep{xs:List V}{us:List Value}(h:Vals xs us):∀k:Nat,Vals (List.replicate k xs).flatten (List.replicate k us).flatten
 | 0=> .nil
 | k+1=>by
   rw[List.replicate_succ,List.replicate_succ,List.flatten_cons,List.flatten_cons];exact Vals.append h (Vals.rep h k)
theorem Ij{α:Type}(l:List α):l.eraseIdx (l.length - 1)=l.dropLast:=by
 induction l with
 | nil=>rfl
 | cons a r ih=>
   cases r with
   | nil=>rfl
   | cons b r=>
     have e:(a::b::r).length - 1=((b::r).length - 1)+1:=by
      have h1:(a::b::r).length=r.length+2:=acg;have h2:(b::r).length=r.length+1:=acg;lia
     rw[e,List.eraseIdx_cons_succ,ih]
     all_goals rfl
theorem foldl_rep(its:List Value):∀(k:Nat)(acc:List Value),
 List.foldl (λx1 x2=>x1++x2) acc.toArray (List.replicate k its.toArray)=(acc++(List.replicate k its).flatten).toArray
 | 0,acc=>by simp
 | k+1,acc=>by
   have e:acc.toArray++its.toArray=(acc++its).toArray:=by simp
   have e2:(acc++its)++(List.replicate k its).flatten=acc++(List.replicate (k+1) its).flatten:=by
    rw[List.replicate_succ,List.flatten_cons,List.append_assoc]
   rw[←e2,←foldl_rep its k (acc++its),←e,List.replicate_succ,List.foldl_cons]
section
variable{X:Cx}{pins:List (Addr×Obj)}{σ:St}{H:Hp}{s:Shared}{l b:Addr}{xs ys zs:List V}
theorem Inv.Qs{its its':List Value}{n:Nat}{f:Array Value->Array Value}{t':Nat}(I:Inv X pins σ H s)(hH:H l=some (.lst xs))(e:s.heap.get? l=some {cls:= .type "list",data:= .seq its.toArray n})(hf:f its.toArray=its'.toArray)(hv:Vals ys its')(hz:ys.length<=sizeLine):
 Inv X pins σ (upd H l (.lst ys)) {s with heap:=s.heap.update l (Obj.mapSeq f),toks:=t'}:=by
 have q:=PySem.IsL.update e f;rw[hf] at q;refine I.write (x:=l) (e:=l) (by rw[hH];exact trivial) (.inl rfl) (λb' u hb hu=>(Heap.get?_update_other s.heap (Obj.mapSeq f) (Ne.symm hb)).trans hu) ⟨_,q⟩ ?_;exact⟨hz,its',_,hv,q⟩
theorem Inv.aa'{its:List Value}{t':Nat}(I:Inv X pins σ H s)(hv:Vals ys its)(hz:ys.length<=sizeLine):
 Inv X pins σ (upd H s.heap.objs.size (.lst ys)) {s with heap:=s.heap.push {cls:= .type "list",data:= .seq its.toArray},toks:=t'}:=
 I.laid (λ_ _ q=>aag _ q) (aaj _) ⟨hz,its,0,hv,aah _ rfl⟩
theorem Inv.fresh(I:Inv X pins σ H s):H s.heap.objs.size=none:=I.hok.fresh (aaj _)
theorem Inv.Cr(I:Inv X pins σ H s)(hH:H l=some (.lst xs)):xs.length<=sizeLine /\ ∃(its:List Value) (n:Nat),Vals xs its/\xs.length=its.length/\s.heap.get? l=some {cls:= .type "list",data:= .seq its.toArray n}:=by
 obtain⟨z,its,n,r,e⟩:=I.hok l _ hH;exact⟨z,its,n,r,r.length,e⟩
theorem Fe{n:Nat}(h:n<=sizeLine):Builtin.List.listTooLong n=false:=by
 unfold Builtin.List.listTooLong;exact aar (by lia)
end
section
variable{X:Cx}
noncomputable def sV:V->List V->Hp->VK->Prop:=λx vs H Q=>∃l xs y,x = .ref l/\vs=[y]/\H l=some (.lst xs)/\xs.length<sizeLine/\Q .non (upd H l (.lst (xs++[y])))
theorem Ab:MtM X "list.append" sV:=by
 intro pins s σ H x vs v us Q I rx rv h;obtain⟨l,xs,y,rfl,rfl,hH,hz,q⟩:=h;cases rx;obtain⟨u,rfl,ru⟩:=rv.one;obtain⟨z,its,n,r,hl,e⟩:=I.Cr hH;refine call_meets F.slot_list_append ⟨_,e,acg⟩ F.entry_list_append (F.args_list_append_2 _ _) (PySem.list_append l its.toArray n u (by rw[aaB];lia)) ⟨e, ?_⟩;refine⟨.non,_,I.Qs (its':=its++[u]) hH e (by simp) (r.append (.cons ru .nil)) ?_,acg,q⟩;rw[aaD,List.length_singleton];lia
noncomputable def TY:V->List V->Hp->VK->Prop:=λx vs H Q=>∃l b xs zs,x = .ref l/\vs=[.ref b]/\H l=some (.lst xs)/\H b=some (.lst zs)/\xs.length+zs.length<=sizeLine/\Q .non (upd H l (.lst (xs++zs)))
theorem Ln:MtM X "list.extend" TY:=by
 intro pins s σ H x vs v us Q I rx rv h;obtain⟨l,b,xs,zs,rfl,rfl,hH,hB,hz,q⟩:=h;cases rx;obtain⟨u,rfl,ru⟩:=rv.one;cases ru;obtain⟨z,its,n,r,hl,e⟩:=I.Cr hH;obtain⟨z2,its2,n2,r2,hl2,e2⟩:=I.Cr hB;have hsz:its.toArray.size+its2.toArray.size<=sizeLine:=by rw[aaB,aaB];lia
 have QB:¬(!its.toArray.isEmpty&&Builtin.List.listTooLong (its.toArray.size+its2.toArray.size))=true:=by
  rw[Fe hsz,Bool.and_false];exact aax
 refine call_meets F.slot_list_extend ⟨_,e,acg⟩ F.entry_list_extend (F.args_list_extend_2 _ _)
  (AutoSeq1.list_extend_list_list_0 l its.toArray n b its2.toArray n2 QB (by rw[aaB];lia) (by lia)) ⟨e,e2, ?_⟩
 refine⟨.non,_,I.Qs (its':=its++its2) hH e (by simp) (r.append r2) ?_,acg,q⟩;rw[aaD];lia
noncomputable def ad2:V->List V->Hp->VK->Prop:=λx vs H Q=>∃l xs y,x = .ref l/\vs=[]/\H l=some (.lst xs)/\xs[xs.length - 1]? = some y/\Q y (upd H l (.lst xs.dropLast))
theorem YJ:MtM X "list.pop" ad2:=by
 intro pins s σ H x vs v us Q I rx rv h;obtain⟨l,xs,y,rfl,rfl,hH,hy,q⟩:=h;cases rx;have hus:=rv.zero;subst hus;obtain⟨z,its,n,r,hl,e⟩:=I.Cr hH;obtain⟨u,hu,ru⟩:=r.get hy
 have hy':its.toArray[its.toArray.size - 1]? = some u:=by
  show its.toArray[its.length - 1]? = some u;rw[←Array.getElem?_toList,←hl];exact hu
 refine call_meets F.slot_list_pop ⟨_,e,acg⟩ F.entry_list_pop (F.args_list_pop_1 _) (MeetsSeq.list_pop_last l its.toArray n u hy' (by rw[aaB];lia)) ⟨e, ?_⟩;refine⟨y,_,I.Qs (its':=its.dropLast) hH e ?_ r.dropLast ?_,ru,q⟩
 .show its.toArray.eraseIdxIfInBounds (its.toArray.size - 1)=its.dropLast.toArray
  rw[aaB,List.eraseIdxIfInBounds_toArray,Ij]
 .rw[List.length_dropLast]
  lia
noncomputable def Eu:V->List V->Hp->VK->Prop:=λx vs H Q=>∃l xs,x = .ref l/\vs=[]/\H l=some (.lst xs)/\Q .non (upd H l (.lst xs.reverse))
theorem HB:MtM X "list.reverse" Eu:=by
 intro pins s σ H x vs v us Q I rx rv h;obtain⟨l,xs,rfl,rfl,hH,q⟩:=h;cases rx;have hus:=rv.zero;subst hus;obtain⟨z,its,n,r,hl,e⟩:=I.Cr hH;refine call_meets F.slot_list_reverse ⟨_,e,acg⟩ F.entry_list_reverse (F.args_list_reverse_1 _) (AutoSeq1.list_reverse_list_0 l its.toArray n (by rw[aaB];lia)) ⟨e, ?_⟩;refine⟨.non,_,I.Qs (its':=its.reverse) hH e (by simp) r.reverse ?_,acg,q⟩;rw[List.length_reverse];lia
noncomputable def XS:V->List V->Hp->VK->Prop:=λx vs H Q=>∃l xs,x = .ref l/\vs=[]/\H l=some (.lst xs)/\Q .non (upd H l (.lst []))
theorem Fj:MtM X "list.clear" XS:=by
 intro pins s σ H x vs v us Q I rx rv h;obtain⟨l,xs,rfl,rfl,hH,q⟩:=h;cases rx;have hus:=rv.zero;subst hus;obtain⟨z,its,n,r,hl,e⟩:=I.Cr hH;refine call_meets F.slot_list_clear ⟨_,e,acg⟩ F.entry_list_clear (F.args_list_clear_1 _) (AutoSeq1.list_clear_list_0 l its.toArray n (by rw[aaB];lia)) ⟨e, ?_⟩;exact⟨.non,_,I.Qs (its':=[]) (ys:=[]) hH e rfl .nil (Nat.zero_le _),acg,q⟩
noncomputable def ad8:R2:=λx y H Q=>∃l b xs zs,x = .ref l/\y = .ref b/\H l=some (.lst xs)/\H b=some (.lst zs)/\xs.length+zs.length<=sizeLine /\ ∀p,H p=none->Q (.ref p) (upd H p (.lst (xs++zs)))
theorem PB:qx X (binaryOp .Add) ad8:=by
 intro pins s σ H x y v u Q I rx ry h;obtain⟨l,b,xs,zs,rfl,rfl,hH,hB,hz,q⟩:=h;cases rx;cases ry;obtain⟨z,its,n,r,hl,e⟩:=I.Cr hH;obtain⟨z2,its2,n2,r2,hl2,e2⟩:=I.Cr hB;refine PySem.P.add_list e e2 ?_ (by rw[aaB,aaB];lia);have ea:its.toArray++its2.toArray=(its++its2).toArray:=by simp
 rw[ea];exact⟨.ref _,_,I.aa' (t':=s.toks) (r.append r2) (by rw[aaD];lia),acg,q _ I.fresh⟩
noncomputable def ad1:R2:=λx y H Q=>∃l k xs,x = .ref l/\y = .int k/\H l=some (.lst xs) /\ -(2 ^ 63)<=k/\k<2 ^ 63/\xs.length*k.toNat<=sizeLine /\
 ∀p,H p=none->Q (.ref p) (upd H p (.lst (List.replicate k.toNat xs).flatten))
theorem len_rep{α:Type}(xs:List α)(k:Nat):(List.replicate k xs).flatten.length=k*xs.length:=by
 induction k with
 | zero=>simp
 | succ k ih=>rw[List.replicate_succ,List.flatten_cons,aaD,ih,Nat.succ_mul,Nat.add_comm]
theorem Ht:qx X (binaryOp .Mult) ad1:=by
 intro pins s σ H x y v u Q I rx ry h;obtain⟨l,k,xs,rfl,rfl,hH,h1,h2,hz,q⟩:=h;cases rx;obtain⟨t,rfl⟩:=ry;obtain⟨z,its,n,r,hl,e⟩:=I.Cr hH;have hlen:its.toArray.size*k.toNat<=sizeLine:=by rw[aaB,←hl];exact hz
 have hcap:¬its.toArray.size*k.toNat>(2 ^ 63 - 1) / 8:=by
  have:(sizeLine:Nat)<=(2 ^ 63 - 1) / 8:=by decide
  lia
 have hfit:¬(!Builtin.List.listFitsIndex k)=true:=by
  rw[fitsIndex_both h1 h2];exact aax
 have QB:¬Builtin.List.listTooLong (its.toArray.size*k.toNat)=true:=by
  rw[Fe hlen];exact aax
 have hnew:List.foldl (λx1 x2=>x1++x2) #[] (List.replicate (if its.toArray.isEmpty=true then 0 else k.toNat) its.toArray)=(List.replicate k.toNat its).flatten.toArray:=by
  have f0:∀m:Nat,List.foldl (λx1 x2=>x1++x2) #[] (List.replicate m its.toArray)=(List.replicate m its).flatten.toArray:=λm=>by
   have:=foldl_rep its m [];rw[List.nil_append] at this;exact this
  rw[f0];cases its with
  | nil=>simp
  | cons a r'=>rw[ab' (by simp)]
 refine wpAny_binaryOp_repeat_ref (T:= "list") (U:= "int") (by decide) ⟨_,e,acg⟩ (λs'=>typeIs_int s' k t) noFill_list_mul F.fills_int_mul F.slot_int_rmul repeat_list F.slot_int_index.lookup
  (call_meets F.slot_int_rmul (typeIs_int s k t) F.entry_int_rmul (F.args_int_rmul_2 _ _) (int___rmul___int_list k t l its.toArray n)
    ⟨e,acg,⟨_,e,acg⟩,call_meets F.slot_list_mul ⟨_,e,acg⟩ F.entry_list_mul (F.args_list_mul_2 _ _) (AutoListH.list___mul___list_int_3 l its.toArray n k t hfit hcap QB) ⟨e, ?_⟩⟩)
 rw[hnew];exact⟨.ref _,_,I.aa' (t':=s.toks) (r.rep k.toNat) (by rw[len_rep,Nat.mul_comm];exact hz),acg,q _ I.fresh⟩
end
section
variable{prog:Program}{w:World}{A:Around}{E:Value->Shared->Prop}{s:Shared}
end
section
variable{X:Cx}
end
section
variable{κ:Type}[DecidableEq κ]
noncomputable def fH(kvs:List (κ×V))(k:κ):Option V:=(kvs.find? λkv=>decide (kv.1=k)).map (·.2)
noncomputable def putK(kvs:List (κ×V))(k:κ)(v:V):List (κ×V):=
 if (kvs.any λkv=>decide (kv.1=k))=true then kvs.map (λkv=>if kv.1=k then (kv.1,v) else kv) else kvs++[(k,v)]
theorem fW{p:κ×V}{r:List (κ×V)}{k:κ}(e:p.1=k):fH (p::r) k=some p.2:=by simp[fH,List.find?_cons,e]
theorem fX{p:κ×V}{r:List (κ×V)}{k:κ}(e:¬p.1=k):fH (p::r) k=fH r k:=by simp[fH,List.find?_cons,e]
theorem rP(k:κ):∀kvs:List (κ×V),(kvs.any λkv=>decide (kv.1=k))=(fH kvs k).isSome
 | []=>rfl
 | p::r=>by
   rw[List.any_cons]
   by_cases e:p.1=k
   .simp only[fW e,aaq e,Bool.true_or,Option.isSome_some]
   .rw[fX e,aar e,Bool.false_or];exact rP k r
theorem DY(k j:κ)(y:V):∀kvs:List (κ×V),fH (kvs.map λkv=>if kv.1=k then (kv.1,y) else kv) j=(fH kvs j).map λx=>if j=k then y else x
 | []=>rfl
 | p::r=>by
   have ih:=DY k j y r;rw[List.map_cons]
   by_cases h:p.1=k
   .rw[acd h]
    by_cases e:p.1=j
    .rw[fW (p:=(p.1,y)) e,fW e,Option.map_some,acd (e.symm.trans h)]
    .rw[fX (p:=(p.1,y)) e,fX e,ih]
   .rw[ab' h]
    by_cases e:p.1=j
    .rw[fW (p:=p) e,fW e,Option.map_some,ab' (λz=>h (e.trans z))]
    .rw[fX (p:=p) e,fX e,ih]
theorem zO(k j:κ)(y:V):∀kvs:List (κ×V),fH kvs k=none->fH (kvs++[(k,y)]) j=if j=k then some y else fH kvs j
 | [],_=>by
   by_cases e:k=j
   .rw[acd e.symm];exact fW (p:=(k,y)) e
   .rw[ab' (λz=>e z.symm)];exact fX (p:=(k,y)) e
 | p::r,hn=>by
   rw[List.cons_append];have hk:¬p.1=k:=λz=>by rw[fW z] at hn;cases hn
   rw[fX hk] at hn;have ih:=zO k j y r hn
   by_cases e:p.1=j
   .rw[fW e,fW e,ab' (λz=>hk (e.trans z))]
   .rw[fX e,fX e,ih]
theorem wL(kvs:List (κ×V))(k j:κ)(y:V):fH (putK kvs k y) j=if j=k then some y else fH kvs j:=by
 unfold putK
 by_cases a:(kvs.any λkv=>decide (kv.1=k))=true
 .rw[acd a,DY]
  rw[rP] at a
  by_cases e:j=k
  .obtain⟨x,hx⟩:=Option.isSome_iff_exists.mp a
   rw[acd e,e,hx,Option.map_some,acd rfl]
  .rw[ab' e]
   cases fH kvs j with
   | none=>rfl
   | some x=>rw[Option.map_some,ab' e]
 .rw[ab' a]
  refine zO k j y kvs ?_;rw[rP] at a;cases q:fH kvs k with
  | none=>rfl
  | some x=>rw[q] at a;exact(a rfl).elim
theorem vA(kvs:List (κ×V))(k:κ)(v:V):(putK kvs k v).length<=kvs.length+1:=by
 unfold putK;split
 .rw[aac];lia
 .rw[aaD,ab0,List.length_nil];lia
theorem oH.Ly{o:Option V}{u:Option Value}(r:oH o u):o.isSome=u.isSome:=by
 cases o with
 | none=>cases u with
   | none=>rfl
   | some _=>exact(show False from r).elim
 | some _=>cases u with
   | none=>exact(show False from r).elim
   | some _=>rfl
theorem oH.getD{o:Option V}{u:Option Value}{d:V}{d':Value}(r:oH o u)(rd:RelV d d'):RelV (o.getD d) (u.getD d'):=by
 cases o with
 | none=>cases u with
   | none=>exact rd
   | some _=>exact(show False from r).elim
 | some _=>cases u with
   | none=>exact(show False from r).elim
   | some _=>exact r
theorem KV.val{kvs:List (κ×V)}{vs:List (κ×Value)}(r:KV kvs vs)(k:κ):oH (fH kvs k) (valueAt vs k):=by
 unfold KV at r
 induction r with
 | nil=>exact True.intro
 | @cons p q ps qs h t ih=>
   obtain⟨h1,h2⟩:=h
   by_cases e:p.1=k
   .have e':q.1=k:=h1.symm.trans e
    have b:valueAt (q::qs) k=some q.2:=by simp[valueAt,List.find?_cons,e']
    rw[fW e,b];exact h2
   .have e':¬q.1=k:=λz=>e (h1.trans z)
    have b:valueAt (q::qs) k=valueAt qs k:=by simp[valueAt,List.find?_cons,e']
    rw[fX e,b];exact ih
end
theorem Ww{P:Program}{w:World}{k:Key}{u:Value}(r:RelV (kV k) u):(fu P w).is k u=true:=by
 cases k with
 | inl i=>obtain⟨t,e⟩:=(show ∃t,u=Value.int i t from r);subst e;exact Fp P w i t
 | inr x=>obtain⟨t,e⟩:=(show ∃t,u=Value.str x t from r);subst e;exact Fo P w x t
theorem Ae{P:Program}{w:World}:∀{ks:List Key}{us:List Value},Vals (ks.map kV) us->ItemsAre (fu P w) ks us
 | [],_,r=>by rw[List.map_nil] at r;cases r;exact .nil
 | k::ks,_,r=>by
   rw[List.map_cons] at r;cases r with
   | cons h t=>exact .cons (Ww h) (Ae t)
noncomputable abbrev KT(H:Hp):List (List Key×V)->List (List Key×Addr×Value)->Prop:=Paired λp q=>p.1=q.1/\H q.2.1=some (.tup (p.1.map kV))/\RelV p.2 q.2.2
theorem KT.val{H:Hp}{kvs:List (List Key×V)}{xs:List (List Key×Addr×Value)}(r:KT H kvs xs)(k:List Key):oH (fH kvs k) ((atKey xs k).map (·.2)):=by
 induction r with
 | nil=>exact True.intro
 | @cons p q ps qs h t ih=>
   obtain⟨h1,_,h2⟩:=h
   by_cases e:p.1=k
   .have e':q.1=k:=h1.symm.trans e
    have b:atKey (q::qs) k=some q.2:=by simp[atKey,List.find?_cons,e']
    rw[fW e,b];exact h2
   .have e':¬q.1=k:=λz=>e (h1.trans z)
    have b:atKey (q::qs) k=atKey qs k:=by simp[atKey,List.find?_cons,e']
    rw[fX e,b];exact ih
theorem KT.repl{H:Hp}{kvs:List (List Key×V)}{xs:List (List Key×Addr×Value)}(r:KT H kvs xs)(k:List Key){y:V}{u:Value}(ry:RelV y u):
 KT H (kvs.map λkv=>if kv.1=k then (kv.1,y) else kv) (xs.map (putAt k u)):=by
 induction r with
 | nil=>exact .nil
 | @cons p q ps qs h t ih=>
   rw[List.map_cons,List.map_cons];refine .cons ?_ ih;obtain⟨h1,h2,h3⟩:=h;unfold putAt
   by_cases e:p.1=k
   .rw[acd e,acd (h1.symm.trans e)];exact⟨h1,h2,ry⟩
   .rw[ab' e,ab' (λz=>e (h1.trans z))];exact⟨h1,h2,h3⟩
theorem KT.put{H:Hp}{kvs:List (List Key×V)}{xs:List (List Key×Addr×Value)}(r:KT H kvs xs)(k:List Key){b:Addr}{y:V}{u:Value}(hb:H b=some (.tup (k.map kV)))(ry:RelV y u):
 KT H (putK kvs k y) (storedH xs k b u):=by
 have e:(kvs.any λkv=>decide (kv.1=k))=(atKey xs k).isSome:=by
  rw[rP,(r.val k).Ly,Option.isSome_map]
 unfold putK storedH;rw[e]
 by_cases q:(atKey xs k).isSome=true
 .rw[acd q,acd q];exact r.repl k ry
 .rw[ab' q,ab' q];exact Paired.snoc r ⟨acg,hb,ry⟩
theorem KT.keeps{H H':Hp}{kvs:List (List Key×V)}{xs:List (List Key×Addr×Value)}(r:KT H kvs xs)(ht:∀b ys,H b=some (.tup ys)->H' b=some (.tup ys)):KT H' kvs xs:=
 Paired.aa_ r λ_ _ z=>⟨z.1,ht _ _ z.2.1,z.2.2⟩
section
variable{P:Program}{w:World}{H:Hp}{h:Heap}{a:Addr}
theorem Wj{u:HO}(ok:qz P w H h)(e:Rd H a u):eF P w H h a u:=e.ok ok
theorem WT{kvs:List (Key×V)}(ok:qz P w H h)(e:Rd H a (.dK kvs)):kvs.length<=sizeLine/\(a==sysModules)=false /\ ∃vs,KV kvs vs/\h.DictOf (fu P w) a vs:=
 show eF P w H h a (.dK kvs) from Wj ok e
theorem HX{ks:List Key}(ok:qz P w H h)(e:H a=some (.tup (ks.map kV))):(tupleKind (fu P w)).is h ks a:=by
 obtain⟨_,its,r,o,h1,h2,n,h3⟩:=(show eF P w H h a (.tup (ks.map kV)) from ok a _ e);exact⟨o,its.toArray,n,h1,h2,h3,by simpa using Ae r⟩
theorem Q0{kvs:List (List Key×V)}(ok:qz P w H h)(e:Rd H a (.dT kvs)):kvs.length<=sizeLine/\(a==sysModules)=false /\
 ∃xs,KT H kvs xs/\h.DictOfH (tupleKind (fu P w)) a xs:=by
 obtain⟨z,y,xs,r,o,es,ep,h1,h2,h3,h4,h5⟩:=(show eF P w H h a (.dT kvs) from Wj ok e);refine⟨z,y,xs,r,o,es,ep,h1,h2,h3,h4,λx hx=>?_,h5⟩
 have all:∀{l:List (List Key×V)}{m:List (List Key×Addr×Value)},KT H l m -> ∀x∈m,(tupleKind (fu P w)).is h x.1 x.2.1:=by
  intro l m q
  induction q with
  | nil=>intro x hx;exact nomatch hx
  | @cons p q ps qs hq t ih=>
    intro x hx;rcases List.mem_cons.mp hx with e|hx
    .subst e
     exact HX ok (by rw[←hq.1];exact hq.2.1)
    .exact ih x hx
 exact all r x hx
theorem abG{kvs:List (List Key×V)}(ok:qz P w H h)(e:H a=some (.dT kvs)):kvs.length<=sizeLine/\(a==sysModules)=false /\
 ∃xs,KT H kvs xs/\h.DictOfH (tupleKind (fu P w)) a xs:=Q0 ok (.inl e)
end
noncomputable def RQ(H:Hp)(a:Addr)(y:V)(r:Option V):Prop:=
 (∃kvs k,Rd H a (.dK kvs)/\y=kV k/\r=fH kvs k) \/ ∃kvs k b,Rd H a (.dT kvs)/\y = .ref b/\H b=some (.tup (k.map kV))/\r=fH kvs k
theorem RQ.t{H:Hp}{a b:Addr}{kvs:List (List Key×V)}{k:List Key}(e:H a=some (.dT kvs))(eb:H b=some (.tup (k.map kV))):RQ H a (.ref b) (fH kvs k):= .inr ⟨kvs,k,b,.inl e,acg,eb,acg⟩
section
variable{X:Cx}{pins:List (Addr×Obj)}{σ:St}{H:Hp}{s:Shared}{a:Addr}{y v:V}{u r:Value}{o:Option V}{A:Around}{E:Value->Shared->Prop}
theorem Inv.big(I:Inv X pins σ H s):sysModules<s.heap.objs.size:=by
 have h:mainGlobals<s.heap.objs.size:=(I.mod.glob.keeps I.bk).lt;exact Nat.lt_trans (by decide) h
theorem Vy{h':Heap}{t':Nat}{ob:HO}(I:Inv X pins σ H s)(mu:Mut (H a))(hs:Heap.SameBut a s.heap h')(he:∃q,h'.get? a=some q)(new:eF X.prog X.w (upd H a ob) h' a ob):
 Inv X pins σ (upd H a ob) {s with heap:=h',toks:=t'}:=
 I.write (x:=a) (e:=a) mu (.inl rfl) (λb q hb z=>(hs.2 b hb).trans z) he new
end
section
variable{X:Cx}{pins:List (Addr×Obj)}{σ:St}{H:Hp}{s:Shared}{a:Addr}{kvs:List (Key×V)}{k:Key}{u:Value}{A:Around}{E:Value->Shared->Prop}
end
section
variable{X:Cx}{o i e value:Expr}{pos pos' tpos:Pos}{td ty tv:TE}
end
theorem Q5{P:Program}{w:World}{H:Hp}(h:Heap)(hb:sysModules<h.objs.size):eF P w H (h.push {cls:= .type "dict",data:= .dict #[]}) h.objs.size (.dT []):=
 ⟨Nat.zero_le _,beq_eq_false_iff_ne.mpr (Ne.symm (aaP hb)),[],.nil,_, #[],0,aah _ rfl,⟨acg,acg,acg⟩,acg,acg,List.nodup_nil⟩
noncomputable def Xn:TE:=λ_ H Q=>∀p,H p=none->Q (.ref p) (upd H p (.dT []))
section
variable{X:Cx}{pos:Pos}
theorem Pu:PE X (.Dict [] [] pos) Xn:=λpins s σ H Q I h=>
 wpAny_Dict_empty ⟨.ref s.heap.objs.size,_,I.laid (a:=s.heap.objs.size) (o:= .dT []) (t':=s.toks) (λ_ _ q=>aag _ q) (aaj _) (Q5 s.heap I.big),acg,h _ (I.hok.fresh (aaj _))⟩
end
structure M1(X:Cx)(o:Expr)(m:Str)(apos:Pos)(e:Expr)(cpos:Pos):Prop where
 base:attributeBase o m X.env (eval o X.env)=eval o X.env
 few:((backTo cpos (starEach [e] X.env)).all (λx=> !x.1)&&(backToKw cpos (keywordEach [] X.env)).all (λx=>x.1.isSome)
  && decide (([e]:List Expr).length+([]:List Keyword).length+(if ([]:List Keyword).isEmpty then 0 else 1)<30))=true
 line:(apos.endLine==cpos.line)=true
 trees:backTo cpos (starEach [e] X.env)=[(false,eval e X.env)]
structure M2(X:Cx)(o:Expr)(m:Str)(apos:Pos)(e f:Expr)(cpos:Pos):Prop where
 base:attributeBase o m X.env (eval o X.env)=eval o X.env
 few:((backTo cpos (starEach [e,f] X.env)).all (λx=> !x.1)&&(backToKw cpos (keywordEach [] X.env)).all (λx=>x.1.isSome)
  && decide (([e,f]:List Expr).length+([]:List Keyword).length+(if ([]:List Keyword).isEmpty then 0 else 1)<30))=true
 line:(apos.endLine==cpos.line)=true
 trees:backTo cpos (starEach [e,f] X.env)=[(false,eval e X.env),(false,eval f X.env)]
noncomputable def IsD(H:Hp)(a:Addr):Prop:=(∃kvs,Rd H a (.dK kvs)) \/ ∃kvs,Rd H a (.dT kvs)
theorem Qz{X:Cx}{pins:List (Addr×Obj)}{σ:St}{H:Hp}{s:Shared}{a:Addr}(I:Inv X pins σ H s)(d:IsD H a):
 s.TypeIs (.ref a) "dict" /\ (∀b,Value.ref a = .ref b -> ∃ob,s.heap.get? b=some ob/\ob.dict=none)/\(a==sysModules)=false:=by
 rcases d with ⟨kvs,e⟩|⟨kvs,e⟩
 .obtain⟨_,hd,vs,_,dd⟩:=WT I.hok e
  refine⟨dd.typeIs,λb q=>?_,hd⟩;cases q;obtain⟨ob,_,_,h1,h2,_⟩:=dd;exact⟨ob,h1,h2.2.1⟩
 .obtain⟨_,hd,xs,_,dd⟩:=Q0 I.hok e
  refine⟨dd.typeIs,λb q=>?_,hd⟩;cases q;obtain⟨ob,_,_,h1,h2,_⟩:=dd;exact⟨ob,h1,h2.2.1⟩
section
variable{X:Cx}{pins:List (Addr×Obj)}{σ:St}{H:Hp}{s:Shared}{a:Addr}{y d:V}{u r:Value}{o:Option V}{A:Around}{E:Value->Shared->Prop}
theorem Zt{Q:Value->Shared->Prop}(hu:A.units+1<cLine)(I:Inv X pins σ H s)(g:RQ H a y o)(ry:RelV y u)(rd:RelV d r)(h:∀w' s',Inv X pins σ H s'->RelV (o.getD d) w'->Q w' s'):
 wpAny (model X.prog X.w) A (call (.builtin "dict.get") [.ref a,u,r]) Q E s:=by
 rcases g with ⟨kvs,k,e,ey,l⟩|⟨kvs,k,b,e,ey,eb,l⟩
 .subst ey
  obtain⟨z,hd,vs,rel,dd⟩:=WT I.hok e;refine call_meetsIn PySem.F.slot_dict_get dd.typeIs PySem.F.entry_dict_get (PySem.F.args_dict_get_3 _ _ _) (meets_dict_get_default (fu X.prog X.w) a (Ww ry) hd r) ⟨_,dd.mapOf,h _ _ (I.tok _) ?_⟩;rw[l];exact(rel.val k).getD rd
 .subst ey
  cases (show u=Value.ref b from ry);obtain⟨z,hd,xs,rel,dd⟩:=Q0 I.hok e;refine call_meetsIn PySem.F.slot_dict_get dd.typeIs PySem.F.entry_dict_get (PySem.F.args_dict_get_3 _ _ _) (meetsH_dict_get_default (tupleKind (fu X.prog X.w)) a b hd r) ⟨tupleKind_room_in1 hu,k,xs,HX I.hok eb,dd,h _ _ (I.tok _) ?_⟩;rw[l];exact(rel.val k).getD rd
end
noncomputable def Xp(td ty tx:TE):TE:=λσ H Q=>td σ H λx H1=>∃a,x = .ref a/\IsD H1 a/\ty σ H1 λy H2=>tx σ H2 λz H3=>∃o,RQ H3 a y o/\Q (o.getD z) H3
section
variable{X:Cx}{o e f:Expr}{apos cpos:Pos}{td ty tx:TE}
theorem Px(hu:X.A.units+1<cLine)(ho:PE X o td)(he:PE X e ty)(hf:PE X f tx)(m:M2 X o "get" apos e f cpos):PE X (.Call (.Attribute o "get" apos) [e,f] [] cpos) (Xp td ty tx):=by
 intro pins s σ H Q I h;refine wpAny_Call_method m.base m.few m.line PySem.F.plainAttrs_dict PySem.F.slot_dict_get PySem.F.type_dict_get (dG (ho pins s σ H _ I h) λu s1 gO=>?_);obtain⟨x,H1,I1,rx,a,ex,d,q1⟩:=gO;subst ex;obtain rfl:u=Value.ref a:=rx;obtain⟨t1,t2,_⟩:=Qz I1 d;refine⟨t1,t2, ?_⟩;rw[m.trees]
 refine Calls.callWith_builtin rfl (Calls.evalArgs_plain (Calls.spliced_cons (dG (he pins s1 σ H1 _ I1 q1) λiv s2 ⟨y,H2,I2,ry,q2⟩=>
  Calls.spliced_cons (dG (hf pins s2 σ H2 _ I2 q2) λfv s3 ⟨z,H3,I3,rz,ov,g,q3⟩=>Calls.spliced_nil ?_))))
 exact Zt hu I3 g ry rz λw' s4 I4 rw'=>⟨_,H3,I4,rw',q3⟩
end
section
variable{X:Cx}{pins:List (Addr×Obj)}{σ:St}{H:Hp}{s:Shared}{a:Addr}{kvs:List (Key×V)}{A:Around}{E:Value->Shared->Prop}
end
section
variable{X:Cx}{pins:List (Addr×Obj)}{σ:St}{H:Hp}{s:Shared}{a:Addr}{y:V}{u:Value}{A:Around}{E:Value->Shared->Prop}
end
end L2
namespace Att
open PySem PySem.W PySem.Calls PyProof.Rows
theorem vR{P:Params}{h:Heap}:∀(ns:List Int)(vs:List Value),WellAll P h vs (ns.map WData.int)->IntsAre vs ns:=by
 intro ns
 induction ns with
 | nil=>
   intro vs w;rw[List.map_nil] at w;cases w;exact .nil
 | cons n ns ih=>
   intro vs w;rw[List.map_cons] at w;cases w with
   | cons a b=>
     cases a;exact .cons _ _ (ih _ b)
theorem K6{l:OpenLaw}{n:Nat}(hn:l.most=some n){P:Params}{h:Heap}{args:List WData}{vals:List Value}(hpre:l.row.toRowW.claim.pre args=true)(hwl:WellAll P h vals args):
 ∃a vs ns,vals=[Value.ref a]/\args=[WData.list (ns.map WData.int)]/\h.get? a=some {cls:= .type "list",data:= .seq vs.toArray}/\IntsAre vs ns/\ns.length<=n:=by
 have hsh:WShape.hasAll [] args [.list .int]=true:=(pre_splitW hpre).1;have hc:l.pre.holds [] {args:=args}=true:=(pre_splitW hpre).2;obtain⟨d,r,rfl,h1,h2⟩:=hasAllW_cons hsh;obtain rfl:=hasAllW_nil h2;obtain⟨xs,rfl,h3⟩:=hasW_list h1;obtain⟨ns,rfl⟩:=items_int h3
 have hlen:ns.length<=n:=by
  unfold OpenLaw.pre at hc
  have h4:(WTm.not (.lt (.lit (.int (n:Int))) (.len (.arg 0)))).holds [] {args:=[.list (ns.map .int)]}=true:=by
   have h4:=(holds_andW hc).1;rw[hn] at h4;exact h4
  have h5:=condW_of h4 (w_not (w_lt w_lit (w_len_list (w_arg rfl))));rw[aac] at h5;refine Nat.le_of_not_lt λq=>?_;have q':(n:Int)<((ns.length:Nat):Int):=by lia
  first
   | (rw[aaq q'] at h5;exact ace h5 (by decide))
   | (simp at h5;lia)
 cases hwl with
 | cons w1 w2=>
   cases w2;cases w1 with
   | list ho hall=>exact⟨_,_,ns,acg,acg,ho,vR ns _ hall,hlen⟩
theorem K_(l:OpenLaw)(args:List WData):l.row.toRowW.claim.post args (.bool true) args=true:=
 postW_of (r:=l.row.toRowW) (X:=(true==true))
  (show WShape.has [] (.bool true) .bool=true by first |rfl|decide|simp[WShape.has,WShape.arms,WShape.armsAll])
  (show (WTm.eq .res (.lit (.bool true))).value [] {args:=args,res:=some (.bool true),after:=args}=some (.bool (true==true)) from w_eq_bool (w_res rfl) w_lit) rfl
theorem Gq{l:OpenLaw}{n:Nat}{q:Program}{loose:List Str}{XP:(Str->Option Value)->Heap->Prop}{YP:World->Heap->Prop}{d:DefRec}(hn:l.most=some n)(hdf:d.params.defaults=[])(call:∀(w:World)(s₀ s₁:Shared)(mg mb:Str->Option Value)(fa:Addr)(o:Obj)(pm cd doc:Value)(a:Addr)(vs:List Value)(ns:List Int),
   Ground q loose [] XP w s₀ mg mb s₁.heap->YP w s₁.heap ->
   s₁.heap.get? fa=some o->o.data = .func (docDef d.name d.params d.body d.scope pm cd doc)->s₁.heap.CodeRec cd d.name->mg d.name=some (.ref fa) ->
   s₁.heap.get? a=some {cls:= .type "list",data:= .seq vs.toArray}->IntsAre vs ns->ns.length<=n->s₁.gens = #[] ->
   codeAny (model l.prog w) callerA (.call (.ref fa) ⟨[.ref a],[]⟩) (λr s'=>r = .ok (.ret (.bool true))/\OldK s₁.heap s'.heap/\s'.os=s₁.os/\AllBare s'.gens) s₁):
 WalkO q loose XP YP l.row.toRowW d [] (λf vs=>PySem.call f vs):=by
 intro w s₀ s₁ mg mb G Y fa o pm cd doc dV kV ho hd hcd hD hmg hg args vals as hpre hlay hrd hwl hlo;obtain rfl:dV = .none:=Dflts.none hD hdf;obtain rfl:kV = .none:=Dflts.noKw hD;obtain⟨a,vs,ns,rfl,rfl,hobj,hints,hlen⟩:=K6 hn hpre hwl;refine enter_call (codeAny_mono (call w s₀ s₁ mg mb fa o pm cd doc a vs ns G Y ho (fd_plain hd) hcd hmg hobj hints hlen hg) λr s' hq=>?_);obtain⟨rfl,h2,h3,h4⟩:=hq;exact⟨.inl ⟨.bool true,.bool true,[],acg,λ_=>rfl,.bool true,K_ l _,λ_=>⟨List.Pairwise.nil,λ_ hm=>(nomatch hm)⟩⟩,h2,h3,h4⟩
section
variable{prog:Program}{w:World}{A:Around}{E:Value->Shared->Prop}{s:Shared}{K:Frag}
noncomputable def ledger(h:Heap)(L d:Addr):List (Addr×Obj):=(List.range h.objs.size).filterMap λa=>if a=L\/a=d then none else (h.get? a).map λo=>(a,o)
end
end Att
namespace L2
open PySem PySem.Spec PyProof.Rows
theorem Ky{vs:List Value}{ns:List Int}(h:IntsAre vs ns):Vals (ns.map V.int) vs:=by
 induction h with
 | nil=>exact .nil
 | cons n t h ih=>exact .cons ⟨t,acg⟩ ih
noncomputable def Only(H:Hp):Prop:=∀b,H b=none \/ ∃o xs,H b=some (.FP o (.lst xs))
theorem Qw{P:Program}{w:World}{K:PySem.W.Frag}{mg mb:Str->Option Value}{CX:Nk}{k:Nat}{fa a:Addr}{fd:FuncData}{x:Str}{sp:Sp}{s₁:Shared}{vs:List Value}{ns:List Int}(KX:K.In s₁.heap)(hns:s₁.heap.Ns mainGlobals mg)(hb:s₁.heap.Ns builtinsNs mb)(hbb:∀x:Str,x ≠ "__name__" -> mb x=bootBuiltins x)(hlim:s₁.heap.NoLimit)(hg:s₁.gens = #[])(ha:s₁.heap.get? a=some {cls:= .type "list",data:= .seq vs.toArray})(hi:IntsAre vs ns)(hl:ns.length<=sizeLine)(hr:eG k callerA)(F:∀base:Heap,K.In base->base.Ns mainGlobals mg->bR P w K mg base CX k fa fd [x] sp)(hbind:∀(s:Shared)(u:Value),BindsTo s fd ⟨[u],[]⟩ [(x,u)])(hsp:∀H:Hp,Only H->bI K H a (ns.map V.int)->sp [.ref a] H (λv _=>v = .bl true) λ_ _ _=>False)(hCX:∀H e s',CX [] H s₁ (λ_ _ _=>False) e s'->False):
 codeAny (model P w) callerA (.call (.ref fa) ⟨[.ref a],[]⟩) (λr s'=>r = .ok (.ret (.bool true))/\OldK s₁.heap s'.heap/\s'.os=s₁.os/\AllBare s'.gens) s₁:=by
 have rv:=Ky hi;have lenV:=hi.length
 have core:∀H:Hp,Only H->bI K H a (ns.map V.int)->qz P w H s₁.heap->(∀b,H b≠none->b=a)->(H a≠none->K.lookup a=none) ->
  codeAny (model P w) callerA (.call (.ref fa) ⟨[.ref a],[]⟩) (λr s'=>r = .ok (.ret (.bool true))/\OldK s₁.heap s'.heap/\s'.os=s₁.os/\AllBare s'.gens) s₁:=by
  intro H hO hS hok hA hK;have Km:∀{b:Addr}{o:Obj},s₁.heap.get? b=some o->H b=none->(CK s₁.heap H).get? b=some o:=λe n=>QC e n
  have noA:∀{b:Addr}{o:Obj}{es:Array DictEntry}{ep:Nat},s₁.heap.get? b=some o->o.data = .dict es ep->H b=none:=fun {b o es ep} e d=>by
   cases q:H b with
   | none=>rfl
   | some u=>
     have e':b=a:=hA b (by rw[q];simp);subst e';rw[ha] at e;cases e;have d':Data.seq vs.toArray _=Data.dict es ep:=d;cases d'
  have nsK:∀{b:Addr}{m:Str->Option Value},s₁.heap.Ns b m->(CK s₁.heap H).Ns b m:=fun {b m} ⟨o,es,ep,e,d,r⟩=>⟨o,es,ep,Km e (noA e d),d,r⟩
  have hKb:K.In (CK s₁.heap H):=λb o e=>Km (KX b o e) (by
   cases q:H b with
   | none=>rfl
   | some u=>
     have e':b=a:=hA b (by rw[q];simp);subst e';rw[hK (by rw[q];simp)] at e;cases e)
  have hM:Mod K mg (CK s₁.heap H):=⟨hKb,nsK hns,⟨mb,nsK hb,hbb⟩,let ⟨mc,h1,h2⟩:=hlim;⟨mc,nsK h1,h2⟩⟩;have e0:zM P w K mg (CK s₁.heap H) callerA [] s₁ H:=⟨acg,hM,λb o e=>U0 e,Nat.le_of_eq (LK _ _),trivial,λb hb=>ace (show b∈([]:List Addr) from hb) (by simp),hok,.of_eq hg⟩;refine codeAny_mono ((F _ hKb (nsK hns)).run callerA [] s₁ H ⟨[.ref a],[]⟩ [.ref a] [.ref a] _ _ hr e0 (hbind s₁ (.ref a)) (.cons rfl .nil) (hsp H hO hS)) λr s' h=>?_;cases r with
  | error e=>exact(hCX H e s' h).elim
  | ok fl=>
    cases fl with
    | next=>exact False.elim h
    | brk=>exact False.elim h
    | cont=>exact False.elim h
    | ret u=>
      obtain⟨v,H',os,bare,un,hok',r',q⟩:=h;have q':v = .bl true:=q;subst q';obtain rfl:u=Value.bool true:=r';refine⟨acg,OldK.of_keep λb o e=>?_,os,bare⟩;cases q:H b with
      | none=>exact un.keep b o e q (by intro z;exact ace (show b∈([]:List Addr) from z) (by simp)) (by simp)
      | some u=>
        rcases hO b with z|⟨ob,xs,z⟩
        .rw[q] at z;cases z
        .have z2:=un.yD b ob _ z
         obtain⟨e1,_⟩:=hok b _ z;obtain⟨e2,_⟩:=hok' b _ z2;rw[e] at e1;cases e1;exact e2
 cases hk:K.lookup a with
 | some o=>
   have e:=KX a o hk;rw[ha] at e;cases e;refine core (λ_=>none) (λ_=> .inl rfl) (.inr ⟨_,vs.toArray,_,hk,acg,acg,acg,by rw[aaB,lenV];exact hl,by simpa using rv⟩) (λb u z=>by have z':(none:Option HO)=some u:=z;cases z') (λb z=>ace rfl z) λz=>ace rfl z
 | none=>
   refine core (λb=>if b=a then some (.FP {cls:= .type "list",data:= .seq vs.toArray} (.lst (ns.map V.int))) else none) (λb=>?_) (.inl (.inr ⟨{cls:= .type "list",data:= .seq vs.toArray},acd rfl⟩)) (λb u z=>?_) (λb z=>?_) λ_=>hk
   .by_cases hb:b=a
    .exact .inr ⟨_,_,acd hb⟩
    .exact .inl (ab' hb)
   .by_cases hb:b=a
    .have z':=(acd hb).symm.trans z
     cases z';subst hb;exact⟨ha,by rw[aac];exact hl,vs,_,rv,ha⟩
    .have z':=(ab' hb).symm.trans z
     cases z'
   .by_cases hb:b=a
    .exact hb
    .exact ace (ab' hb) z
noncomputable abbrev KOf{K:PySem.W.Frag}{h:Heap}(_:K.In h):PySem.W.Frag:=K
theorem SJ{l:PySem.W.OpenLaw}{n k:Nat}{q:Program}{loose:List Str}{XP:(Str->Option Value)->Heap->Prop}{YP:World->Heap->Prop}{d:DefRec}{K:Params->PySem.W.Frag}{CX:World->Nk}{sp:World->Sp}{x:Str}(hn:l.most=some n)(hn2:n<=sizeLine)(hdf:d.params.defaults=[])(hr:eG k callerA)(hY:∀(w:World)(h:Heap),YP w h->(K w.params).In h)(F:∀(w:World)(mg:Str->Option Value)(fa:Addr)(h:Heap),(K w.params).In h->h.Ns mainGlobals mg->mg d.name=some (.ref fa) ->
   ∃fd:FuncData,(∀(s:Shared)(u:Value),BindsTo s fd ⟨[u],[]⟩ [(x,u)]) /\
    ∀base:Heap,(K w.params).In base->base.Ns mainGlobals mg->bR l.prog w (K w.params) mg base (CX w) k fa fd [x] (sp w))(hsp:∀(w:World)(H:Hp)(a:Addr)(ns:List Int),ns.length<=n->Only H->bI (K w.params) H a (ns.map V.int)->sp w [.ref a] H (λv _=>v = .bl true) λ_ _ _=>False)(hCX:∀(w:World)(H:Hp)(s:Shared)(e:Value)(s':Shared),CX w [] H s (λ_ _ _=>False) e s'->False):
 PySem.W.WalkO q loose XP YP l.row.toRowW d [] (λf vs=>PySem.call f vs):=by
 refine Att.Gq hn hdf λw s₀ s₁ mg mb fa o pm cd doc a vs ns G Y ho hd hcd hmg hobj hints hlen hg=>?_;have KX:=hY w _ Y;obtain⟨fd,hb,hF⟩:=F w mg fa _ KX G.T.g hmg;exact Qw KX G.T.g G.T.b G.T.builtins G.T.nolimit hg hobj hints (ab9 hlen hn2) hr hF hb (λH hO hS=>hsp w H a ns hlen hO hS) λH e s'=>hCX w H s₁ e s'
noncomputable def inClass(s:Stmt)(j:Nat):Stmt:=match s with
 | .ClassDef _ _ _ body _ _ _ _ _ _ _=>body.getD j (.Pass ⟨0,0,0,0⟩)
 | _=> .Pass ⟨0,0,0,0⟩
noncomputable def dM(s:Stmt):Arguments:=match s with
 | .FunctionDef _ a _ _ _ _ _ _ _ _=>a
 | _=>{posonlyargs:=[],args:=[],vararg:=none,kwonlyargs:=[],kw_defaults:=[],kwarg:=none,defaults:=[]}
noncomputable def fU(s:Stmt):List Stmt:=match s with
 | .FunctionDef _ _ b _ _ _ _ _ _ _=>b
 | _=>[]
noncomputable def aM(s:Stmt):Scope:=match s with
 | .FunctionDef _ _ _ _ _ _ sc _ _ _=>sc
 | _=>{kind:= .function,names:=[],isGenerator:=false,isCoroutine:=false}
noncomputable abbrev ig:Nk:=λ_ _ _ _ _ _=>False
noncomputable abbrev E0:XK:=λ_ _ _=>False
theorem Ey{X:Cx}:Passes ig X E0:=λ_ _ _ _ _ _ _ h=>h.elim
structure fQ(K:PySem.W.Frag)(x qual:Str)(st:Stmt)(f:Addr)(fd:FuncData):Prop where
 ex:∃(oc:Value) (od:Option Addr) (kV doc pm:Value) (an:Option Addr) (cdv ct:Value) (osl:Array (Option Value)),
  fd=PySem.W.fnOf x qual (dM st) (fU st) (aM st) .none kV doc pm an cdv ct/\K.lookup f=some ⟨oc,od,.func fd,osl⟩/\PySem.W.codeIn K cdv qual=true
 kp:PySem.W.keepIn K (.ref f)=true
section
variable{P:Program}{w:World}{K:PySem.W.Frag}{mg:Str->Option Value}{base:Heap}
theorem fQ.ok{x qual:Str}{st:Stmt}{f:Addr}{fd:FuncData}{N ps:List Str}{k:Nat}{sp:Sp}(F:fQ K x qual st f fd)(S:aZ N ps (aM st))(len:∀vs H Q E,sp vs H Q E->vs.length=ps.length)(hbody:∀(cdv:Value)(A:Around)(outer:List Env)(s:Shared)(H:Hp)(vs:List V)(Q:VK)(E:XK),eG k (A.deeper (envOfC qual (aM st) s.heap.objs.size f cdv))->sp vs H Q E ->
   ∃t,IW (oG ig P w K mg base N qual (aM st) f cdv A outer s H E).nox (fU st) t/\t {nx:=λ_ H'=>Q .non H',rt:=Q} (start N vs) H):bR P w K mg base ig (k+1) f fd ps sp:=by
 obtain⟨oc,od,kV,doc,pm,an,cdv,ct,osl,rfl,lk,hcd⟩:=F.ex;refine QL lk hcd S len λA outer s H vs Q E hr hsp=>?_;obtain⟨t,h,q⟩:=hbody cdv A outer s H vs Q E hr hsp;exact⟨t,h.nox,q⟩
theorem fQ.binds{x qual:Str}{st:Stmt}{f:Addr}{fd:FuncData}{ps:List Str}(F:fQ K x qual st f fd)(h:∀(kV doc pm:Value)(an:Option Addr)(cdv ct:Value)(us:List Value),us.length=ps.length->bindArgs (PySem.W.fnOf x qual (dM st) (fU st) (aM st) .none kV doc pm an cdv ct) ⟨us,[]⟩=pure (ps.zip us)):Binds K fd ps []:=by
 obtain⟨oc,od,kV,doc,pm,an,cdv,ct,osl,rfl,lk,hcd⟩:=F.ex;exact .all (h kV doc pm an cdv ct)
theorem QJ{x qual:Str}{st:Stmt}{f:Addr}{oc:Value}{od an:Option Addr}{osl:Array (Option Value)}{kV doc pm cdv ct:Value}(l:K.lookup f=some ⟨oc,od,.func (PySem.W.fnOf x qual (dM st) (fU st) (aM st) .none kV doc pm an cdv ct),osl⟩)(c:PySem.W.codeIn K cdv qual=true)(k:PySem.W.keepIn K (.ref f)=true):fQ K x qual st f (PySem.W.fnOf x qual (dM st) (fU st) (aM st) .none kV doc pm an cdv ct):=⟨⟨oc,od,kV,doc,pm,an,cdv,ct,osl,acg,l,c⟩,k⟩
end
theorem Wz{A:Around}{k:Nat}(hr:eG k A):A.units+1<cLine:=Nat.lt_of_le_of_lt (Nat.add_le_add_left (by decide:1<=64) _) hr.units
section
variable{X:Cx}
theorem pv(i:Nat){x:Str}{pos:Pos}(hN:X.N[i]? = some x:=by rfl)(hv:Vis X.env.scope x:=by first |exact Or.inl rfl|exact Or.inr (Or.inl rfl)|exact Or.inr (Or.inr rfl))(hd:(x==("__debug__" :Str))=false:=by decide)(hcd:(x==("__classdict__" :Str))=false:=by decide):PE X (.Name x pos) (cW i):=Yd hN hv hd hcd
end
theorem cU{A B:Prop}(h:B):if false=true then A else B:=by
 rw[ab' aax];exact h
theorem eO{A B:Prop}(h:A):if true=true then A else B:=by
 rw[acd rfl];exact h
theorem cP{c A B:Prop}[Decidable c](h1:c->A)(h2:¬c->B):if c then A else B:=by
 by_cases h:c
 .rw[acd h]
  exact h1 h
 .rw[ab' h]
  exact h2 h
theorem tK{c A B:Prop}[Decidable c](hc:c)(h:B):if (!decide c)=true then A else B:=by
 rw[aaq hc];exact cU h
noncomputable def Same(H H':Hp):Prop:=∀b o,H b=some o->H' b=some o
theorem Same.refl(H:Hp):Same H H:=λ_ _ h=>h
theorem Same.trans{H H1 H2:Hp}(a:Same H H1)(b:Same H1 H2):Same H H2:=λc o h=>b c o (a c o h)
theorem Same.free{H H':Hp}(e:Same H H'){l:Addr}(h:H' l=Option.none):H l=Option.none:=by
 cases q:H l with
 | none=>rfl
 | some o=>
   rw[e l o q] at h;cases h
theorem Same.seq{K:PySem.W.Frag}{H H':Hp}{a:Addr}{xs:List V}(e:Same H H')(h:bI K H a xs):bI K H' a xs:=by
 rcases h with (h|⟨o,h⟩)|h
 .exact .inl (.inl (e _ _ h))
 .exact .inl (.inr ⟨o,e _ _ h⟩)
 .exact .inr h
section
variable{κ:Type}[DecidableEq κ]
end
end L2
set_option maxHeartbeats 4000000
namespace L2
open PySem PySem.Spec PyProof.Rows
theorem z_{a n:Addr}(h:a<n): @LT.lt Nat _ a n:=h
noncomputable def pO(env:Env):List (Str×NameKind)->List (Str×Addr)->List (Str×Addr)
 | [],acc=>acc
 | (n,k)::r,acc=>if k == .free then pO env r ((n,(env.cells.lookup n).getD 0)::acc) else pO env r acc
theorem Im{env:Env}{scope:Scope}(h:∀y∈scope.names,y.2 = .free->(env.cells.lookup y.1).isSome=true):closureFor scope env=pure (pO env scope.names []):=by
 have go:∀(ns:List (Str×NameKind))(acc:List (Str×Addr)),(∀y∈ns,y.2 = .free->(env.cells.lookup y.1).isSome=true) ->
  (forIn ns acc (λx cs=>match x with |(name,kind)=>if (kind == .free)=true then do let c ←cellOf env name;pure (ForInStep.yield ((name,c)::cs)) else pure (ForInStep.yield cs)):Sem (List (Str×Addr)))=pure (pO env ns acc):=by
  intro ns
  induction ns with
  | nil=>intro acc _;rfl
  | cons y r ih=>
    intro acc hy;obtain⟨n,k⟩:=y;rw[List.forIn_cons]
    by_cases hk:k = .free
    .subst hk
     have hs:=hy (n,.free) List.mem_cons_self rfl;obtain⟨c,hc⟩:=Option.isSome_iff_exists.mp hs;have e:cellOf env n=pure c:=by unfold cellOf;rw[hc]
     show _=pure (pO env r ((n,(env.cells.lookup n).getD 0)::acc));rw[←ih _ λy hm=>hy y (aa7 _ hm)];simp only[beq_self_eq_true,if_true,e,pure_bind,hc,Option.getD_some]
    .have hb:(k==NameKind.free)=false:=by simpa using hk
     have hc:pO env ((n,k)::r) acc=pO env r acc:=by
      show (if (k==NameKind.free)=true then _ else _)=_;rw[ab' (by rw[hb];decide)]
     rw[hc,←ih _ λy hm=>hy y (aa7 _ hm)];simp only[hb,Bool.false_eq_true,if_false,pure_bind]
 have q:=go scope.names [] h;unfold closureFor;show (forIn scope.names [] _ >>= λr=>pure r)=_;rw[bind_pure];exact q
theorem je{env:Env}:∀(ns:List (Str×NameKind))(acc:List (Str×Addr))(x:Str),(∀y∈ns,y.2 = .free->(env.cells.lookup y.1).isSome=true) ->
 (pO env ns acc).lookup x=if (x,NameKind.free)∈ns then env.cells.lookup x else acc.lookup x
 | [],acc,x,_=>by simp[pO]
 | (n,k)::r,acc,x,h=>by
   have hr:∀y∈r,y.2 = .free->(env.cells.lookup y.1).isSome=true:=λy hm=>h y (aa7 _ hm)
   by_cases hk:k = .free
   .subst hk
    show (pO env r ((n,(env.cells.lookup n).getD 0)::acc)).lookup x=_;rw[je r _ x hr];obtain⟨c,hc⟩:=Option.isSome_iff_exists.mp (h (n,.free) List.mem_cons_self rfl);have hc:env.cells.lookup n=some c:=hc
    by_cases hm:(x,NameKind.free)∈r
    .rw[acd hm,acd (aa7 _ hm)]
    .rw[ab' hm]
     by_cases e:x=n
     .subst e
      rw[acd List.mem_cons_self,List.lookup_cons,hc];simp
     .rw[ab' (λz=>(List.mem_cons.mp z).elim (λq=>e (congrArg Prod.fst q)) hm),List.lookup_cons]
      have:(x==n)=false:=by simpa using e
      rw[this]
   .have hb:(k==NameKind.free)=false:=by simpa using hk
    have hc:pO env ((n,k)::r) acc=pO env r acc:=by
     show (if (k==NameKind.free)=true then _ else _)=_;rw[ab' (by rw[hb];decide)]
    rw[hc,je r acc x hr]
    have:((x,NameKind.free)∈(n,k)::r)↔(x,NameKind.free)∈r:=by
     constructor
     .intro z
      rcases List.mem_cons.mp z with q|q
      .exact ace (congrArg Prod.snd q).symm hk
      .exact q
     .exact aa7 _
    simp only[this]
theorem jT(env:Env):∀(ns:List (Str×NameKind))(x:Str),
 (ns.map λ(n,k)=>if (k == .free&&env.scope.kind == .function&&env.kindOf n==some .cell) then (n,NameKind.cell) else (n,k)).lookup x =
   (ns.lookup x).map λk=>if (k == .free&&env.scope.kind == .function&&env.kindOf x==some .cell)=true then NameKind.cell else k
 | [],x=>rfl
 | (n,k)::r,x=>by
   show List.lookup x ((if (k==NameKind.free&&env.scope.kind == .function&&env.kindOf n==some .cell)=true then (n,NameKind.cell) else (n,k))::_)=_;cases hx:x==n with
   | true=>
     have e:x=n:=by simpa using hx
     subst e
     by_cases hc:(k==NameKind.free&&env.scope.kind == .function&&env.kindOf x==some .cell)=true
     .rw[acd hc];simp only[List.lookup_cons,hx,Option.map_some,acd hc]
     .rw[ab' hc];simp only[List.lookup_cons,hx,Option.map_some,ab' hc]
   | false=>
     have ih:=jT env r x
     by_cases hc:(k==NameKind.free&&env.scope.kind == .function&&env.kindOf n==some .cell)=true
     .rw[acd hc];simp only[List.lookup_cons,hx];exact ih
     .rw[ab' hc];simp only[List.lookup_cons,hx];exact ih
structure bB(N own:List Str)(caps:List Nat)(XN:List Str)(outer scope:Scope):Prop where
 kind:scope.kind = .function
 Qm:∀y∈scope.names,y.2 ≠ .cell
 names:∀y∈scope.names,y.2 = .local->scope.names.lookup y.1=some .local
 free:∀y∈scope.names,y.2 = .free->outer.names.lookup y.1=some .cell\/outer.names.lookup y.1=some .free
 nd:N.Nodup
 len:N.length=own.length+caps.length
 cap:∀(j:Nat),j<caps.length->N[own.length+j]? = XN[caps.getD j 0]? /\ ∃x,N[own.length+j]? = some x/\(x,NameKind.free)∈scope.names/\scope.names.lookup x=some .free
noncomputable def st0(own:List Str)(caps:List Nat)(σ:St):St:=own.map (λ_=>none)++caps.map (λi=>(σ[i]?).join)
noncomputable def fP(X:Cx)(scope:Scope)(C:Addr)(N:List Str)(s:Shared)(H:Hp)(fp:List Addr):Cx:=
 {X with N:=N,s₀:=s,H₀:=H,env:=compEnvC scope (pO X.env scope.names []) C X.env,outer:=X.stack,ex:=fp,fn:=λ_=>false,pn:=[],xe:=λ_ _=>False}
section
variable{X:Cx}{pins:List (Addr×Obj)}{σ:St}{H:Hp}{s:Shared}{scope:Scope}{N own:List Str}{caps:List Nat}{fp:List Addr}{C:Nat}
theorem bB.Rf(S:bB N own caps X.N X.env.scope scope)(ok:X.Ok):∀y∈scope.names,y.2 = .free->(X.env.cells.lookup y.1).isSome=true:=λy hy hf=>by
 obtain⟨c,e⟩:=ok.has y.1 (S.free y hy hf);rw[e];rfl
theorem bB.csub(S:bB N own caps X.N X.env.scope scope)(ok:X.Ok){x:Str}{c:Addr}(h:(pO X.env scope.names []).lookup x=some c):X.env.cells.lookup x=some c:=by
 rw[je _ _ _ (S.Rf ok)] at h;split at h
 .exact h
 .simp at h
theorem bB.Qt{S:bB N own caps X.N X.env.scope scope}{x:Str}(h:(relabel scope X.env).names.lookup x=some .cell\/(relabel scope X.env).names.lookup x=some .free):(x,NameKind.free)∈scope.names:=by
 have e:=jT X.env scope.names x;have e':(relabel scope X.env).names.lookup x=(scope.names.lookup x).map λk=>if (k == .free&&X.env.scope.kind == .function&&X.env.kindOf x==some .cell)=true then NameKind.cell else k:=e;rw[e'] at h;cases q:scope.names.lookup x with
 | none=>rw[q] at h;simp at h
 | some k=>
   have hm:=PySem.mem_of_lookup q
   by_cases hk:k = .free
   .subst hk;exact hm
   .rw[q] at h
    have hb:(k==NameKind.free)=false:=by simpa using hk
    simp only[Option.map_some,hb,Bool.false_and,Bool.false_eq_true,if_false] at h;rcases h with h|h
    .exact ace (aaC h) (S.Qm _ hm)
    .exact ace (aaC h) hk
theorem Inv.comp{h1:Heap}{D:Nat}(I:Inv X pins σ H s)(S:bB N own caps X.N X.env.scope scope)(hfp:∀b∈fp,pY X pins H b)(hfo:∀b∈fp,∃o,s.heap.get? b=some o)(hD:D=s.heap.objs.size)(hC:C=s.heap.objs.size+1)(old:∀b o,s.heap.get? b=some o->h1.get? b=some o)(hns:h1.Ns C (λ_=>none))(hl:h1.get? D=some {cls:= .type "list",data:= .seq #[]}){t:Nat}:
 Inv (fP X scope C N s H fp) [] (st0 own caps σ) (upd H D (.lst [])) {s with heap:=h1,toks:=t}:=by
 have some':=S.Rf I.ok;have sub:∀{x c},(pO X.env scope.names []).lookup x=some c->X.env.cells.lookup x=some c:=λh=>S.csub I.ok h;have freshD:H D=none:=I.hok.fresh (by rw[hD];exact aaj _);have Zh:H C=none:=I.hok.fresh (by rw[hC];exact Nat.le_succ _)
 have Zv:∀x c,X.env.cells.lookup x=some c->c<s.heap.objs.size:=λx c e=>by
  obtain⟨v,z⟩:=I.cell x c e;exact z.lt
 have afA:∀b∈fp,b<s.heap.objs.size:=λb hb=>by
  obtain⟨o,e⟩:=hfo b hb;exact aai e
 have DC:D≠C:=by lia
 refine⟨⟨I.ok.mod,S.kind,I.ok.glob,I.ok.blt,by show s.heap.objs.size<=C;lia,λx y c e1 e2=>I.ok.inj x y c (sub e1) (sub e2),λx h=>?_,λx c h=>(by cases h),I.ok.hd,I.ok.frames,Or.inl rfl,λb hb=>⟨?_,λx c e=>?_⟩,I.bs,ab9 I.ok.Rq I.sz,λb o e hb=>?_,λb hb z=>?_,I.stack,I.Bg⟩,
  acg,I.bare,Un.laid old (by show s.heap.objs.size<=D;lia) freshD,⟨_,hns,λj x v e1 e2 e3=>?_⟩,λx c e=>?_, ?_,λx c e=>?_,λp hp=>?_,I.hok.laid old (by lia) ?_, ?_⟩
 .have hm:=bB.Qt (S:=S) (X:=X) h
  obtain⟨c,e⟩:=Option.isSome_iff_exists.mp (some' _ hm rfl);exact⟨c,by show (pO X.env scope.names []).lookup x=_;rw[je _ _ _ some',acd hm];exact e⟩
 .exact aaP (show @LT.lt Nat _ b C by have:=z_ (afA b hb);lia)
 .exact(hfp b hb).2.2.2.2.1 x c (sub e)
 .rcases(hfp b hb).2.2.2.1 with z|z
  .exact I.ok.Ql b o e z
  .exact ace (aa1 (aai e) (ab9 I.ok.Rq z)) (ab5 _)
 .rcases List.mem_cons.mp (I.wR b z) with q|q
  .exact(hfp b hb).2.1 q
  .exact(hfp b hb).2.2.1 q
 .have e1:N[j]? = some x:=e1
  have hj:own.length<=j:=by
   by_cases q:own.length<=j
   .exact q
   .exfalso
    unfold st0 at e2;rw[aaO (by simp;lia),aaf] at e2;cases r:own[j]? with
    | none=>rw[r] at e2;cases e2
    | some a=>rw[r] at e2;cases e2
  have hjl:j<N.length:=(aae.mp e1).1;have hjc:j - own.length<caps.length:=by have:=S.len;lia
  obtain⟨c1,x',c2,c3,c4⟩:=S.cap (j - own.length) hjc;rw[show own.length+(j - own.length)=j by lia] at c1 c2;rw[e1] at c2;cases c2
  have e2':(σ[caps.getD (j - own.length) 0]?).join=some v:=by
   unfold st0 at e2;rw[aaL (by simp;lia),aaf,aac] at e2;rw[List.getD_eq_getElem?_getD];cases r:caps[j - own.length]? with
   | none=>rw[r] at e2;cases e2
   | some a=>rw[r] at e2;exact aaC e2
  have afJ:σ[caps.getD (j - own.length) 0]? = some (some v):=by
   cases r:σ[caps.getD (j - own.length) 0]? with
   | none=>rw[r] at e2';cases e2'
   | some a=>rw[r] at e2';exact congrArg Option.some e2'
  have kx:X.env.kindOf x=some .cell\/X.env.kindOf x=some .free:=S.free _ c3 rfl;obtain⟨m,hn,hl'⟩:=I.loc;obtain⟨u,r,l⟩:=hl' _ x v (by rw[←c1];exact e1) afJ (by rcases kx with z|z;exact .inr (.inl z);exact .inr (.inr z));refine⟨u,r,.inr ⟨?_, ?_⟩⟩
  .show (relabel scope X.env).names.lookup x=some .cell\/(relabel scope X.env).names.lookup x=some .free
   have e:(relabel scope X.env).names.lookup x=(scope.names.lookup x).map λk=>if (k == .free&&X.env.scope.kind == .function&&X.env.kindOf x==some .cell)=true then NameKind.cell else k:=jT X.env scope.names x;rw[e,c4,Option.map_some];split
   .exact .inl rfl
   .exact .inr rfl
  .rcases l with ⟨hk,_⟩|⟨_,c,hc,z⟩
   .rcases kx with q|q<;>rw[hk] at q<;>cases q
   .refine⟨c, ?_, ?_⟩
    .show (pO X.env scope.names []).lookup x=_
     rw[je _ _ _ some',acd c3];exact hc
    .obtain⟨o,ho,hd⟩:=z
     exact⟨o,old c o ho,hd⟩
 .obtain⟨v,o,ho,hd⟩:=I.cell x c (sub e)
  exact⟨v,o,old c o ho,hd⟩
 .show upd H D (.lst []) C=none
  rw[aF DC.symm];exact Zh
 .show upd H D (.lst []) c=none
  rw[aF (aaP (by have:=z_ (Zv x c (sub e));lia))];exact I.pL x c (sub e)
 .cases hp
 .exact⟨Nat.zero_le _,[],0,.nil,hl⟩
 .show (own.map (λ_=>none)++caps.map _).length=N.length
  rw[aaD,aac,aac,S.len]
theorem Inv.Nu{JL:List (Addr×Obj)}{σ':St}{H':Hp}{s':Shared}{h':Heap}(I:Inv X pins σ H s)(hfp:∀b∈fp,pY X pins H b)(hC:s.heap.objs.size<=C)(J:Inv (fP X scope C N s H fp) JL σ' H' s')(hs:Heap.SameBut C s'.heap h'):
 Inv X pins σ H' {s' with heap:=h'}:=by
 have nC:∀b o,s.heap.get? b=some o->b≠C:=λb o e=>aaP (by have:=z_ (aai e);lia);have u:=J.base;have frC:H' C=none:=J.free;refine I.call' (ch:=fp) (s':={s' with heap:=h'}) J.os ⟨λb o e n hb hx=>?_,λb o e n hb hx=>?_,u.free,λb o e hx=>?_,u.tups,u.yD,u.zm⟩ (λa o e=>(J.hok a o e).stay (λb v hb q=>?_) (λ_ q=>q) λ_ _ q=>q) J.bare λb hb=>?_
 .exact(hs.2 b (nC b o e)).trans (u.keep b o e n hb hx)
 .obtain⟨sl,q⟩:=u.slot b o e n hb hx
  exact⟨sl,(hs.2 b (nC b o e)).trans q⟩
 .obtain⟨o',q⟩:=u.there b o e hx
  exact⟨o',(hs.2 b (nC b o e)).trans q⟩
 .refine(hs.2 b ?_).trans q
  intro z;subst z;rcases hb with z|z
  .subst z;rw[frC] at e;cases e
  .rw[frC] at z;cases z
 .exact⟨(hfp b hb).2.2.2.1,(hfp b hb).2.1,(hfp b hb).2.2.2.2.1,(hfp b hb).2.2.2.2.2⟩
end
section
variable{prog:Program}{w:World}{A:Around}{R:Result->Shared->Prop}{s:Shared}
theorem Dg{elt target iter:Expr}{ifs:List Expr}{scope:Scope}{pos:Pos}{it acc:Value}{env:Env}(I:Nat->Shared->Prop)(turn:∀n s,I n s->wpAny (model prog w) A (pyNext it) (λr s1=>match r with
   | none=>R (.ok .next) s1
   | some v=>wpAny (model prog w) A (letOwnedTupleGo target it v) (λ_ s1'=>wpAny (model prog w) A (assign target env v) (λ_ s2=>
      wpAny (model prog w) A (forIn ifs true λc r=>if r=true then do let ok ←isTrue c env (eval c env);pure (ForInStep.yield ok) else pure (ForInStep.yield r)) (λok s3=>
       if ok=true then wpAny (model prog w) A (eval elt env) (λx s4=>
        wpAny (model prog w) A (call (.builtin "list.append") [acc,x]) (λ_ s5=>∃m,m<n/\I m s5) (λ_ _=>False) s4) (λ_ _=>False) s3
       else ∃m,m<n/\I m s3) (λ_ _=>False) s2) (λ_ _=>False) s1') (λ_ _=>False) s1) (λ_ _=>False) s)(n:Nat)(h:I n s):
 codeAny (model prog w) A (.compLoop (.ListComp elt [⟨target,iter,ifs,0⟩] scope pos) 0 it acc env) R s:=by
 refine codeAny_loop rfl I (λn s hI=>?_) n h;show wpAny _ A ((compTurn (.ListComp elt [⟨target,iter,ifs,0⟩] scope pos) 0 it acc env).onRaise (λx=>do noteFrame x env;theTreesLotGoes x)) _ _ s;refine wpAny_noted ?_;rw[compTurn_list];refine aak (wpAny_standAt (aak (wpAny_mono (turn n s hI) (λr s1 h1=>?_) λ_ _ h'=>h'.elim)));cases r with
 | none=>exact aal h1
 | some v=>
   refine aak (wpAny_mono h1 (λ_ s1' h1'=>?_) λ_ _ h'=>h'.elim);refine aak (wpAny_mono h1' (λ_ s2 h2=>aak (wpAny_mono h2 (λok s3 h3=>?_) λ_ _ h'=>h'.elim)) λ_ _ h'=>h'.elim);cases ok with
   | false=>exact aal ⟨acg,h3⟩
   | true=>
     exact aak (aak (wpAny_mono h3 (λx s4 h4=>aak (wpAny_mono h4 (λ_ s5 h5=>aal (aal ⟨acg,h5⟩)) λ_ _ h'=>h'.elim)) λ_ _ h'=>h'.elim))
end
noncomputable def PTs(X:Cx)(ifs:List Expr)(t:TT):Prop:=
 ∀(pins:List (Addr×Obj))(s:Shared)(σ:St)(H:Hp)(Q:Bool->Hp->Prop),Inv X pins σ H s->t σ H Q ->
  wpAny (model X.prog X.w) X.A (forIn ifs true λc r=>if r=true then do let ok ←isTrue c X.env (eval c X.env);pure (ForInStep.yield ok) else pure (ForInStep.yield r)) (TP X pins σ Q) X.xe s
noncomputable def qF:TT:=λ_ H Q=>Q true H
theorem cO{X:Cx}:PTs X [] qF:=λ_ _ _ H _ I h=>wpAny_tests_nil ⟨H,I,h⟩
theorem v9{X:Cx}{c:Expr}{t:TT}(h:PT X c t):PTs X [c] t:=λpins s σ H Q I q=>wpAny_tests_one (h pins s σ H Q I q)
noncomputable def fK(J:It)(g:TG)(tc:TT)(te:TE)(Q:VK)(D:Addr)(σ0:St)(H1:Hp):Prop:=
 ∃W:Nat->Nat->St->Hp->Prop,(∃m,W 0 m σ0 (upd H1 D (.lst []))) /\ ∀i m σ H,W i m σ H ->
  (J.stop i H/\Q (.ref D) H)\/(J.go i H /\ ∃N:St->Hp->Prop,(∀σ' H',N σ' H' -> ∃m',m'<m/\W (i+1) m' σ' H') /\ ∀x H',J.W8 i H x H'->g x σ H' λσ2 H2=>tc σ2 H2 λb H3=>
    if b=true then te σ2 H3 λy H4=>∃acc,H4 D=some (.lst acc)/\acc.length<sizeLine/\N σ2 (upd H4 D (.lst (acc++[y]))) else N σ2 H3)
noncomputable def N_(own:List Str)(caps:List Nat)(wi:TI)(g:TG)(tc:TT)(te:TE):TE:=λσ H Q=>wi σ H λJ H1=>∀D,H1 D=none->fK J g tc te Q D (st0 own caps σ) H1
section
variable{X:Cx}{elt tg iter:Expr}{ifs:List Expr}{scope:Scope}{pos:Pos}{N own:List Str}{caps:List Nat}{wi:TI}{g:TG}{tc:TT}{te:TE}
theorem Gf{use:Option (Value->Sem Unit)}{Qv:Value->Shared->Prop}{pins:List (Addr×Obj)}{σ:St}{H:Hp}{s:Shared}{Q:VK}(hc:X.calm=true)(S:bB N own caps X.N X.env.scope scope)(hg:∀C s H fp,PG (fP X scope C N s H fp) tg g)(hcs:∀C s H fp,PTs (fP X scope C N s H fp) ifs tc)(he:∀C s H fp,PE (fP X scope C N s H fp) elt te)(hi:PI X tg iter wi)(hs:∀x,foldedSetIterable iter X.env x=pure x)(I:Inv X pins σ H s)(h:N_ own caps wi g tc te σ H Q)(fin:∀(D C:Addr)(H':Hp)(s':Shared),(∃m,s'.heap.Ns C m)->Inv X pins σ H' s'->(∀h',Heap.SameBut C s'.heap h'->Inv X pins σ H' {s' with heap:=h'})->pY X pins H' C->Q (.ref D) H' ->
   compPost (model X.prog X.w) X.A X.xe use Qv (.ref D) C (.ok .next) s'):
 wpAny (model X.prog X.w) X.A (comprehension (.ListComp elt [⟨tg,iter,ifs,0⟩] scope pos) scope X.env (firstIterPos [⟨tg,iter,ifs,0⟩] pos) (newList []) false (eval iter X.env) use) Qv X.xe s:=by
 refine wpAny_comprehension_free (use:=use) rfl hs (Im (S.Rf I.ok)) S.kind S.names (dG (hi pins s σ H _ I h) λxv s1 h1=>dG h1 λitv s2 h2=>?_);obtain⟨it,fp,tn,J,H2,e,I2,T,st2,f2,q2⟩:=h2;subst e;refine wpAny_newList ?_;refine wpAny_newFunctionEnv S.Qm (by intro y hy;simp at hy) (λh1 abv hsb1=>?_) S.kind;dsimp only at abv hsb1 ⊢;have hD:H2 s2.heap.objs.size=none:=I2.hok.fresh (aaj _);have hsz:(s2.heap.push {cls:= .type "list",data:= .seq ([]:List Value).toArray}).objs.size=s2.heap.objs.size+1:=Heap.size_push ..
 have old:∀b o,s2.heap.get? b=some o->h1.get? b=some o:=λb o e=>by
  refine hsb1.extBut b o (aaP (by have:=z_ (aai e);rw[hsz];lia)) (aag _ (aag _ e))
 have hl:h1.get? s2.heap.objs.size=some {cls:= .type "list",data:= .seq #[]}:=
  hsb1.extBut _ _ (aaP (by rw[hsz];lia)) (aag _ (aah _ rfl))
 have hfo:∀b∈fp,∃o,s2.heap.get? b=some o:=λb hb=>let ⟨o,e,_⟩:=T.obj _ _ st2 b hb;⟨o,e⟩
 have I4:=Inv.comp (C:=(s2.heap.push {cls:= .type "list",data:= .seq ([]:List Value).toArray}).objs.size) (t:=s2.toks+([]:List (Str×Value)).length) I2 S f2 hfo rfl hsz old abv hl;obtain⟨W,⟨m0,w0⟩,turn⟩:=q2 _ hD;generalize hCe:(s2.heap.push {cls:= .type "list",data:= .seq ([]:List Value).toArray}).objs.size=C at *;generalize hDe:s2.heap.objs.size=D at *;have hDC:D≠C:=by lia
 have loop:∀s3:Shared,s3={s2 with heap:=h1,toks:=s2.toks+([]:List (Str×Value)).length} ->
  codeAny (model X.prog X.w) X.A (.compLoop (.ListComp elt [⟨tg,iter,ifs,0⟩] scope pos) 0 (.ref it) (.ref D) (fP X scope C N s2 H2 fp).env) (compPost (model X.prog X.w) X.A X.xe use Qv (.ref D) C) s3:=by
  rintro s3 rfl
  have FP:∀b∈fp,(upd H2 D (.lst [])) b=none:=λb hb=>by
   obtain⟨o,e⟩:=hfo b hb;rw[aF (aaP (by have:=z_ (aai e);lia))];exact(f2 b hb).1
  have stat:∀{H':Hp},(∀b∈fp,H' b=none) -> ∀b∈fp,pY (fP X scope C N s2 H2 fp) [] H' b:=λhn b hb=>by
   obtain⟨o,e⟩:=hfo b hb;have hlt:=z_ (aai e);refine⟨hn b hb, ?_,λz=>?_,.inl hb,λx c e'=>(f2 b hb).2.2.2.2.1 x c (S.csub I2.ok e'),λp hp=>(by cases hp)⟩
   .exact aaP (show @LT.lt Nat _ b C by lia)
   .rcases List.mem_cons.mp (I2.wR b z) with q|q
    .exact(f2 b hb).2.1 q
    .exact(f2 b hb).2.2.1 q
  refine Dg (λn s'=>∃i σ' H',Inv (fP X scope C N s2 H2 fp) [] σ' H' s'/\tn i s'.heap/\(∀b∈fp,H' b=none)/\W i n σ' H') ?_ m0
   ⟨0,_,_,I4,T.keep _ _ _ st2 λb _ o e=>old b o e,FP,w0⟩
  rintro n s3 ⟨i,σ3,H3,I3,st3,fr3,w3⟩;rcases turn i n σ3 H3 w3 with ⟨stop,qn⟩|⟨go,Nx,hNx,step⟩
  .refine dG (T.done (fP X scope C N s2 H2 fp) rfl rfl rfl hc i [] s3 σ3 H3 _ I3 (stat fr3) st3 stop) λr s4 ⟨hr,J4⟩=>?_
   subst hr;obtain⟨m4,hn4,_⟩:=J4.loc;exact fin D C H3 s4 ⟨m4,hn4⟩ (I2.Nu f2 (by lia) J4 (Heap.SameBut.refl _ _)) (λh' hs'=>I2.Nu f2 (by lia) J4 hs') (I2.yF (show s2.heap.objs.size<=C by lia) J4.free) qn
  .refine dG (T.item (fP X scope C N s2 H2 fp) rfl rfl rfl hc i [] s3 σ3 H3 _ I3 (stat fr3) st3 go) λr s4 ⟨u,hr,h4⟩=>?_
   subst hr;refine dG h4 λ_ s5 gO=>?_;obtain⟨x,H5,I5,r5,y5,Tp,fr5⟩:=gO;have I5':=I5.pinned (stat fr5) (T.obj _ _ Tp);refine dG (hg C s2 H2 fp _ s5 σ3 H5 x u _ I5' r5 (step x H5 y5)) λ_ s6 gO=>?_;obtain⟨σ6,H6,I6,q6⟩:=gO;refine dG (hcs C s2 H2 fp _ s6 σ6 H6 _ I6 q6) λok s7 ⟨H7,I7,q7⟩=>?_
   have again:∀{σ8:St}{H8:Hp}{s8:Shared},Inv (fP X scope C N s2 H2 fp) ([]++xZ fp s5.heap) σ8 H8 s8->Nx σ8 H8 -> ∃m,m<n /\ ∃i σ' H',Inv (fP X scope C N s2 H2 fp) [] σ' H' s8/\tn i s8.heap/\(∀b∈fp,H' b=none)/\W i m σ' H':=fun {σ8 H8 s8} I8 n8=>by
    obtain⟨m',hm,w8⟩:=hNx _ _ n8;refine⟨m',hm,i+1,σ8,H8,I8.rQ,T.keep _ _ _ Tp λb hb o e=>(I8.pin (b,o) (List.mem_append_right _ (List.mem_append_right _ (nP hb e)))).1,λb hb=>?_,w8⟩;obtain⟨o,e,d⟩:=T.obj _ _ Tp b hb;exact(I8.pin (b,o) (List.mem_append_right _ (List.mem_append_right _ (nP hb e)))).2.1
   cases ok with
   | false=>
     rw[ab' (by decide)] at q7;exact again I7 q7
   | true=>
     rw[acd rfl] at q7;refine dG (he C s2 H2 fp _ s7 σ6 H7 _ I7 q7) λy s8 gO=>?_;obtain⟨yv,H8,I8,r8,acc,ha,hlen,q8⟩:=gO;exact dG (Ab _ s8 σ6 H8 (.ref D) [yv] (.ref D) [y] (λv H9=>Nx σ6 H9) I8 rfl (.cons r8 .nil) ⟨D,acc,yv,acg,acg,ha,hlen,q8⟩) λ_ s9 ⟨_,H9,I9,_,q9⟩=>again I9 q9
 exact codeAny_compStart_list (loop _ rfl) (T.self _ 0 _ _ _ (T.keep _ _ _ st2 λb _ o e=>old b o e) (loop _ rfl))
theorem dI(hc:X.calm=true)(S:bB N own caps X.N X.env.scope scope)(hi:PI X tg iter wi)(hg:∀C s H fp,PG (fP X scope C N s H fp) tg g)(hcs:∀C s H fp,PTs (fP X scope C N s H fp) ifs tc)(he:∀C s H fp,PE (fP X scope C N s H fp) elt te)(hs:∀x,foldedSetIterable iter X.env x=pure x:=by intro _;rfl):PE X (.ListComp elt [⟨tg,iter,ifs,0⟩] scope pos) (N_ own caps wi g tc te):=by
 intro pins s σ H Q I h;rw[eval_ListComp];refine Gf (use:=none) hc S hg hcs he hi hs I h ?_;intro D C H' s' hn I' hk _ q;obtain⟨m,hn⟩:=hn;exact⟨m,hn,λh' hs'=>⟨.ref D,H',hk h' hs',acg,q⟩⟩
theorem kE{i:Nat}{x:Str}{px sp:Pos}(hc:X.calm=true)(hN:X.N.Nodup)(hx:X.N[i]? = some x)(hl:Loc X.env.scope x)(S:bB N own caps X.N X.env.scope scope)(hi:PI X tg iter wi)(hg:∀C s H fp,PG (fP X scope C N s H fp) tg g)(hcs:∀C s H fp,PTs (fP X scope C N s H fp) ifs tc)(he:∀C s H fp,PE (fP X scope C N s H fp) elt te)(hsw:swapsWith (.ListComp elt [⟨tg,iter,ifs,0⟩] scope pos) (some (.Name x px)) sp.line X.env=pure true:=by rfl)(hs:∀x,foldedSetIterable iter X.env x=pure x:=by intro _;rfl)(hf:X.fn x=true\/X.env.scope.names.lookup x=some .local:=by first |exact .inl rfl|exact .inr rfl|assumption):
 PS X (.Assign [.Name x px] (.ListComp elt [⟨tg,iter,ifs,0⟩] scope pos) sp) (Tf (N_ own caps wi g tc te) (cN i)):=by
 intro pins s σ H D I h;rw[exec_Assign_Name_used _ _ _ _ hsw];refine aak (wpAny_standAt (aak ?_));show wpAny _ X.A (do let _ ←comprehension (.ListComp elt [⟨tg,iter,ifs,0⟩] scope pos) scope X.env (firstIterPos [⟨tg,iter,ifs,0⟩] pos) (newList []) false (eval iter X.env) (some (assign (.Name x px) X.env))) _ _ s;refine aak (wpAny_mono (Gf (use:=some (assign (.Name x px) X.env)) (Qv:=λ_ s'=>SP X pins D .next s') hc S hg hcs he hi hs I h ?_) (λ_ s' hq=>aal (aal hq)) λ_ _ e=>e);intro E C H' s' hn I' hk fC q;obtain⟨m,hn⟩:=hn;obtain⟨f0,f1,f2,f3,f4,f5⟩:=fC;show wpAny _ X.A (assign (.Name x px) X.env (.ref E)) _ _ _;refine wpAny_assign_Name (zQ I' hN hx hl (v:= .ref E) rfl (λs2 I2 k=>?_) hf);refine⟨m, ?_,λh' hs'=>?_⟩
 .obtain⟨o,es,ep,ho,r⟩:=hn
  obtain⟨a,ks,ka⟩:=k
  have hCa:C≠a:=λz=>by
   rcases ka with q'|q'
   .exact f1 (z.trans q')
   .exact f4 x a q' z.symm
  exact⟨o,es,ep,(ks.2 C hCa).trans ho,r⟩
 .exact⟨_,H',I2.turned (t':=s2.toks) (λb o hb e=>(hs'.2 b hb).trans e) f0 f1 f3 f4 f5,q⟩
end
noncomputable def Rj(N own:List Str)(caps:List Nat)(XN:List Str)(outer scope:Scope):Bool:=
 decide (scope.kind = .function)&&scope.names.all (λy=>decide (y.2 ≠ .cell))&&scope.names.all (λy=>decide (y.2 ≠ .local)||decide (scope.names.lookup y.1=some .local)) &&
 scope.names.all (λy=>decide (y.2 ≠ .free)||decide (outer.names.lookup y.1=some .cell)||decide (outer.names.lookup y.1=some .free))&&decide N.Nodup&&decide (N.length=own.length+caps.length) &&
 (List.range caps.length).all (λj=>match N[own.length+j]? with |some x=>decide (XN[caps.getD j 0]? = some x)&&decide ((x,NameKind.free)∈scope.names)&&decide (scope.names.lookup x=some .free)|none=>false)
theorem bB.of{N own:List Str}{caps:List Nat}{XN:List Str}{outer scope:Scope}(h:Rj N own caps XN outer scope=true):bB N own caps XN outer scope:=by
 unfold Rj at h;simp only[aa6,decide_eq_true_eq,List.all_eq_true,Bool.or_eq_true] at h;obtain⟨⟨⟨⟨⟨⟨h1,h2⟩,h3⟩,h4⟩,h5⟩,h6⟩,h7⟩:=h;refine⟨h1,h2,λy hy e=>?_,λy hy e=>?_,h5,h6,λj hj=>?_⟩
 .rcases h3 y hy with z|z
  .exact ace e z
  .exact z
 .rcases h4 y hy with (z|z)|z
  .exact ace e z
  .exact .inl z
  .exact .inr z
 .have q:=h7 j (abY.mpr hj)
  cases e:N[own.length+j]? with
  | none=>rw[e] at q;cases q
  | some x=>
    rw[e] at q;simp only[aa6,decide_eq_true_eq] at q;exact⟨q.1.1.symm,x,acg,q.1.2,q.2⟩
mutual
noncomputable def Dat(H:Hp):V->PyData->Prop
 | v,.none=>v = .non
 | v,.bool b=>v = .bl b
 | v,.int i=>v = .int i
 | v,.str x=>v = .str x
 | v,.list ds=>∃a vs,v = .ref a/\H a=some (.lst vs)/\aQ H vs ds
 | v,.tuple ds=>∃a vs,v = .ref a/\H a=some (.tup vs)/\aQ H vs ds
 | _,.dict _=>False
noncomputable def aQ(H:Hp):List V->List PyData->Prop
 | [],[]=>True
 | v::vs,d::ds=>Dat H v d/\aQ H vs ds
 | [],_::_=>False
 | _::_,[]=>False
end
section
variable{H H':Hp}
theorem aQ.length:∀{vs:List V}{ds:List PyData},aQ H vs ds->vs.length=ds.length
 | [],[],_=>rfl
 | _::_,_::_,h=>by simp only[aQ] at h;simp[aQ.length h.2]
 | [],_::_,h=>by simp only[aQ] at h
 | _::_,[],h=>by simp only[aQ] at h
theorem aQ.get:∀{vs:List V}{ds:List PyData}{i:Nat}{v:V},aQ H vs ds->vs[i]? = some v -> ∃d,ds[i]? = some d/\Dat H v d
 | _::_,_::_,0,_,h,e=>by simp only[aQ] at h;simp at e;subst e;exact⟨_,acg,h.1⟩
 | _::_,_::_,i+1,_,h,e=>by simp only[aQ] at h;simp at e;obtain⟨d,q,r⟩:=aQ.get h.2 e;exact⟨d,by simpa using q,r⟩
 | [],[],_,_,_,e=>by simp at e
 | [],_::_,_,_,h,_=>by simp only[aQ] at h
 | _::_,[],_,_,h,_=>by simp only[aQ] at h
theorem aQ.getD:∀{vs:List V}{ds:List PyData}{i:Nat}{d:PyData},aQ H vs ds->ds[i]? = some d -> ∃v,vs[i]? = some v/\Dat H v d
 | _::_,_::_,0,_,h,e=>by simp only[aQ] at h;simp at e;subst e;exact⟨_,acg,h.1⟩
 | _::_,_::_,i+1,_,h,e=>by simp only[aQ] at h;simp at e;obtain⟨d,q,r⟩:=aQ.getD h.2 e;exact⟨d,by simpa using q,r⟩
 | [],[],_,_,_,e=>by simp at e
 | [],_::_,_,_,h,_=>by simp only[aQ] at h
 | _::_,[],_,_,h,_=>by simp only[aQ] at h
theorem aQ.append:∀{vs ws:List V}{ds es:List PyData},aQ H vs ds->aQ H ws es->aQ H (vs++ws) (ds++es)
 | [],_,[],_,_,g=>g
 | _::_,_,_::_,_,h,g=>by simp only[aQ,List.cons_append] at h ⊢;exact⟨h.1,aQ.append h.2 g⟩
 | [],_,_::_,_,h,_=>by simp only[aQ] at h
 | _::_,_,[],_,h,_=>by simp only[aQ] at h
theorem aQ.ints(ns:List Int):aQ H (ns.map V.int) (ns.map PyData.int):=by
 induction ns with
 | nil=>simp only[List.map_nil,aQ]
 | cons n r ih=>simp only[List.map_cons,aQ,Dat];exact⟨trivial,ih⟩
mutual
theorem Dat.mono(hl:∀a xs,H a=some (HO.lst xs)->H' a=some (HO.lst xs))(ht:∀a xs,H a=some (HO.tup xs)->H' a=some (HO.tup xs)):∀(d:PyData){v:V},Dat H v d->Dat H' v d
 | .none,_,h=>by simp only[Dat] at h ⊢;exact h
 | .bool _,_,h=>by simp only[Dat] at h ⊢;exact h
 | .int _,_,h=>by simp only[Dat] at h ⊢;exact h
 | .str _,_,h=>by simp only[Dat] at h ⊢;exact h
 | .list ds,_,h=>by simp only[Dat] at h ⊢;obtain⟨a,vs,e,q,r⟩:=h;exact⟨a,vs,e,hl _ _ q,aQ.mono hl ht ds r⟩
 | .tuple ds,_,h=>by simp only[Dat] at h ⊢;obtain⟨a,vs,e,q,r⟩:=h;exact⟨a,vs,e,ht _ _ q,aQ.mono hl ht ds r⟩
 | .dict _,_,h=>by simp only[Dat] at h
theorem aQ.mono(hl:∀a xs,H a=some (HO.lst xs)->H' a=some (HO.lst xs))(ht:∀a xs,H a=some (HO.tup xs)->H' a=some (HO.tup xs)):∀(ds:List PyData){vs:List V},aQ H vs ds->aQ H' vs ds
 | [],[],_=>by simp only[aQ]
 | d::ds,v::vs,h=>by simp only[aQ] at h ⊢;exact⟨Dat.mono hl ht d h.1,aQ.mono hl ht ds h.2⟩
 | _::_,[],h=>by simp only[aQ] at h
 | [],_::_,h=>by simp only[aQ] at h
end
mutual
noncomputable def za:PyData->Bool
 | .tuple ds=>pI ds
 | .list _ | .dict _=>false
 | .none | .bool _ | .int _ | .str _=>true
noncomputable def pI:List PyData->Bool
 | []=>true
 | d::ds=>za d&&pI ds
end
mutual
theorem Dat.keep(ht:∀a xs,H a=some (HO.tup xs)->H' a=some (HO.tup xs)):∀(d:PyData){v:V},za d=true->Dat H v d->Dat H' v d
 | .none,_,_,h=>by simp only[Dat] at h ⊢;exact h
 | .bool _,_,_,h=>by simp only[Dat] at h ⊢;exact h
 | .int _,_,_,h=>by simp only[Dat] at h ⊢;exact h
 | .str _,_,_,h=>by simp only[Dat] at h ⊢;exact h
 | .list ds,_,i,h=>by simp only[za] at i;cases i
 | .tuple ds,_,i,h=>by simp only[Dat] at h ⊢;simp only[za] at i;obtain⟨a,vs,e,q,r⟩:=h;exact⟨a,vs,e,ht _ _ q,aQ.keep ht ds i r⟩
 | .dict _,_,_,h=>by simp only[Dat] at h
theorem aQ.keep(ht:∀a xs,H a=some (HO.tup xs)->H' a=some (HO.tup xs)):∀(ds:List PyData){vs:List V},pI ds=true->aQ H vs ds->aQ H' vs ds
 | [],[],_,_=>by simp only[aQ]
 | d::ds,v::vs,i,h=>by simp only[aQ] at h ⊢;simp only[pI,aa6] at i;exact⟨Dat.keep ht d i.1 h.1,aQ.keep ht ds i.2 h.2⟩
 | _::_,[],_,h=>by simp only[aQ] at h
 | [],_::_,_,h=>by simp only[aQ] at h
end
theorem cj{α:Type}(f:α->PyData)(h:∀x,za (f x)=true):∀l:List α,pI (l.map f)=true
 | []=>rfl
 | a::l=>by simp only[List.map_cons,pI,h a,cj f h l,Bool.and_self]
end
section
variable{X:Cx}{pins:List (Addr×Obj)}{σ:St}{H:Hp}{s:Shared}
mutual
theorem Inv.reads(I:Inv X pins σ H s):∀(d:PyData){v:V}{u:Value},Dat H v d->RelV v u -> ∃as,Reads s.heap u d as
 | .none,v,u,h,r=>by
   simp only[Dat] at h;subst h;cases (show u=Value.none from r);exact⟨_,.none⟩
 | .bool b,v,u,h,r=>by
   simp only[Dat] at h;subst h;cases (show u=Value.bool b from r);exact⟨_,.bool b⟩
 | .int i,v,u,h,r=>by
   simp only[Dat] at h;subst h;obtain⟨t,q⟩:=(show ∃t,u=Value.int i t from r);cases q;exact⟨_,.int i t⟩
 | .str x,v,u,h,r=>by
   simp only[Dat] at h;subst h;obtain⟨t,q⟩:=(show ∃t,u=Value.str x t from r);cases q;exact⟨_,.str x t⟩
 | .list ds,v,u,h,r=>by
   simp only[Dat] at h;obtain⟨a,vs,rfl,q,g⟩:=h;cases (show u=Value.ref a from r);obtain⟨its,rv,p,hz⟩:=I.list (bI.of q);obtain⟨o,ho,hc,n,hd⟩:=p.isList;obtain⟨as,ra⟩:=Inv.readsAll I ds g rv;exact⟨_,.list ho hc hd (by simpa using ra)⟩
 | .tuple ds,v,u,h,r=>by
   simp only[Dat] at h;obtain⟨a,vs,rfl,q,g⟩:=h;cases (show u=Value.ref a from r);obtain⟨its,rv,p,hz⟩:=I.tuple (cD.of q);obtain⟨o,ho,hc,n,hd⟩:=p;obtain⟨as,ra⟩:=Inv.readsAll I ds g rv;exact⟨_,.tuple ho hc hd (by simpa using ra)⟩
 | .dict _,_,_,h,_=>by simp only[Dat] at h
theorem Inv.readsAll(I:Inv X pins σ H s):∀(ds:List PyData){vs:List V}{us:List Value},aQ H vs ds->Vals vs us -> ∃as,ReadsAll s.heap us ds as
 | [],[],_,_,.nil=>⟨_,.nil⟩
 | d::ds,v::vs,_,h,.cons r rs=>by
   simp only[aQ] at h;obtain⟨as,ra⟩:=Inv.reads I d h.1 r;obtain⟨bs,rb⟩:=Inv.readsAll I ds h.2 rs;exact⟨_,.cons ra rb⟩
 | _::_,[],_,h,_=>by simp only[aQ] at h
 | [],_::_,_,h,_=>by simp only[aQ] at h
end
noncomputable def OD(neg:Bool):R2:=λx y H Q=>∃d e,Dat H x d/\Dat H y e/\SeqAt.shaped d=true/\SeqAt.shaped e=true/\Q (.bl (if neg then !PyData.eqv d e else PyData.eqv d e)) H
theorem Yn(hu:X.A.units+64<cLine):qx X (compareOp .Eq) (OD false):=by
 intro pins s σ H x y v u Q I rx ry h;obtain⟨d,e,h1,h2,s1,s2,q⟩:=h;obtain⟨as,ra⟩:=I.reads d h1 rx;obtain⟨bs,rb⟩:=I.reads e h2 ry;exact SeqAt.compareEq_shaped ra rb s1 s2 hu ⟨.bl _,H,I,acg,q⟩
theorem Yl(hu:X.A.units+64<cLine):qx X (compareOp .NotEq) (OD true):=by
 intro pins s σ H x y v u Q I rx ry h;obtain⟨d,e,h1,h2,s1,s2,q⟩:=h;obtain⟨as,ra⟩:=I.reads d h1 rx;obtain⟨bs,rb⟩:=I.reads e h2 ry;exact SeqAt.compareNe_shaped ra rb s1 s2 hu ⟨.bl _,H,I,acg,q⟩
theorem Ro{c:Value}{cv:V}(rc:RelV cv c):jA X (.builtin "isinstance") (λxs H Q=>∃x t b,xs=[x,cv]/\rJ X.K H x t/\PySem.W.kitOne X.K t c=some b/\Q (.bl b) H):=by
 intro pins s σ H xs us Q I r h;obtain⟨x,t,b,rfl,ty,e,q⟩:=h;obtain⟨u,w',rfl,r1,r2⟩:=vals2 r
 have:w'=c:=by
  cases cv with
  | non=>exact(show w'=Value.none from r2).trans (show c=Value.none from rc).symm
  | bl b=>exact(show w'=Value.bool b from r2).trans (show c=Value.bool b from rc).symm
  | ref a=>exact(show w'=Value.ref a from r2).trans (show c=Value.ref a from rc).symm
  | ty n=>exact(show w'=Value.type n from r2).trans (show c=Value.type n from rc).symm
  | int i=>obtain⟨t1,rfl⟩:=(show ∃t,c=Value.int i t from rc);unfold PySem.W.kitOne at e;exact ace e (by cases ty<;>simp[PySem.W.kitCls])
  | str i=>obtain⟨t1,rfl⟩:=(show ∃t,c=Value.str i t from rc);unfold PySem.W.kitOne at e;exact ace e (by cases ty<;>simp[PySem.W.kitCls])
  | Iv i=>obtain⟨t1,rfl⟩:=(show ∃t,c=Value.bytes i t from rc);unfold PySem.W.kitOne at e;exact ace e (by cases ty<;>simp[PySem.W.kitCls])
  | flt i=>obtain⟨t1,rfl⟩:=(show ∃t,c=Value.float i t from rc);unfold PySem.W.kitOne at e;exact ace e (by cases ty<;>simp[PySem.W.kitCls])
 subst this;exact Lx I r1 ty e λtk=>⟨.bl b,H,I.tok _,acg,q⟩
end
section
variable{prog:Program}{w:World}{A:Around}
theorem GF(hh:A.handled=none)(it a:Addr)(hne:it≠a)(its:List Value):Walks prog w A it [it,a] [it] its.length (λi v=>its[i]? = some v) (λi h=>h.IsListIter it a i/\h.IsList a its.toArray) where
 sub:=by simp
 frame:=λi h h' ⟨s1,o,ho,hc⟩ k=>⟨s1.at λo e=>k it (by simp) o e,o,k a (by simp) o ho,hc⟩
 item:=λi s Q E hi ⟨s1,s2⟩ hQ=>wpAny_pyNext_list_item s1 s2 (x:=its[i]) (by simp[hi]) λh' st' sb=>
  hQ _ h' s.toks (by simp[hi]) ⟨st',s2.extBut sb.extBut hne.symm⟩ λb o hb e=>(sb.2 b (by simpa using hb)).trans e
 done:=λs Q E ⟨s1,s2⟩ hQ=>wpAny_pyNext_list_end hh s1 s2 (by simp) λh' eb=>hQ h' s.toks λb o hb e=>eb b o (by simpa using hb) e
 self:=λi s Q E ⟨s1,_⟩ hQ=>wpAny_pyIter_listiter s1 hQ
end
section
variable{X:Cx}
theorem zx(bs:List Bool):(List.range bs.length).all (λi=>(bs[i]?).getD false)=bs.all id:=by
 rw[Bool.eq_iff_iff,List.all_eq_true,List.all_eq_true];constructor
 .intro h b hb
  obtain⟨i,hi,rfl⟩:=List.getElem_of_mem hb;have:=h i (by simpa using hi);simpa [hi] using this
 .intro h i hi
  have hi':i<bs.length:=by simpa using hi
  simpa [hi'] using h bs[i] (List.getElem_mem hi')
theorem GJ{bs:List Bool}:∀{us:List Value},Vals (bs.map V.bl) us->us=bs.map Value.bool:=by
 induction bs with
 | nil=>intro us r;cases r;rfl
 | cons b bs ih=>
   intro us r;cases r with
   | cons r rs=>cases (show _=Value.bool b from r);rw[ih rs];rfl
theorem yL(hc:X.calm=true):jA X (.builtin "all") (λxs H Q=>∃(p:Addr) (bs:List Bool),xs=[.ref p]/\bI X.K H p (bs.map V.bl)/\Q (.bl (bs.all id)) H):=by
 intro pins s σ H xs us Q I r h;obtain⟨p,bs,rfl,hq,q⟩:=h;obtain⟨u,rfl,rx⟩:=vals1 r;cases rx;obtain⟨its,rv,pl,hz⟩:=I.list hq;have e:=GJ rv;have hlen:its.length=bs.length:=by rw[e,aac]
 refine call_all_walk (wpAny_pyIter_list pl.isList ⟨s.heap.objs.size,[s.heap.objs.size,p],[s.heap.objs.size],its.length,_,_,λi=>(bs[i]?).getD false,acg,
  GF (show X.A.in1.handled=none from I.ok.hd hc) s.heap.objs.size p ?_ its,⟨⟨_,aah _ rfl,acg,acg⟩, ?_⟩, ?_, ?_⟩)
 .intro z
  obtain⟨o,ho,_⟩:=pl.isList;have:=aai ho;rw[←z] at this;exact ab5 _ this
 .obtain⟨o,ho,hcl⟩:=pl.isList
  exact⟨o,aag _ ho,hcl⟩
 .intro i v s1 Q1 E1 hP hQ
  rw[e,aaf] at hP;cases r:bs[i]? with
  | none=>rw[r] at hP;cases hP
  | some b=>
    rw[r] at hP;cases hP;simp only[r,Option.getD_some] at hQ;exact wpAny_truthy_bool hQ
 .intro h' tk k
  rw[hlen,zx];have f:=I.yF (H':=H) (b:=s.heap.objs.size) (aaj _) (I.hok.fresh (aaj _));have I2:Inv X pins σ H {s with heap:=h',toks:=tk}:=I.turned (h':=h') (t':=tk) (it:=s.heap.objs.size) (λb o hb e=>k b o (by simpa using hb) (aag _ e)) f.1 f.2.1 f.2.2.2.1 f.2.2.2.2.1 f.2.2.2.2.2;exact⟨.bl _,H,I2,acg,q⟩
end
noncomputable def FnAt(P:Program)(w:World)(K:PySem.W.Frag)(mg:Str->Option Value)(base:Heap)(k:Nat)(x:Str)(ps:List Str)(sp:Sp):Prop:=
 ∃f fd,bR P w K mg base ig k f fd ps sp/\mg x=some (.ref f)/\PySem.W.keepIn K (.ref f)=true/\Binds K fd ps []
section
variable{X:Cx}{k j:Nat}{x:Str}{ps:List Str}{sp:Sp}{e:Expr}{es:List Expr}{t:TA}{p pos:Pos}
theorem bN(F:FnAt X.prog X.w X.K X.mg X.base k x ps sp)(hr:eG k X.A)(hg:Gl X x)(ha:PA X (e::es) t)(hd:(x==("__debug__" :Str))=false:=by decide)(he:starEach (e::es) X.env=(false,eval e X.env)::starEach es X.env:=by rfl)(hpl:(backTo pos (starEach es X.env)).any (·.1)=false:=by rfl):
 PE X (.Call (.Name x p) (e::es) [] pos) (Ed sp [] E0 t):=by
 obtain⟨f,fd,G,hm,hk,hb⟩:=F;exact Uk G hr hg hm hk hb .nil Ey ha (hdb:=hd) (he:=he) (hpl:=hpl)
end
theorem Dl:bootBuiltins "all" = some (.builtin "all"):=by kernel_rfl
theorem cM:bootBuiltins "len" = some (.builtin "len"):=by kernel_rfl
theorem Zx:bootBuiltins "min" = some (.builtin "min"):=by kernel_rfl
theorem Zy:bootBuiltins "max" = some (.builtin "max"):=by kernel_rfl
theorem MP:bootBuiltins "sorted" = some (.builtin "sorted"):=by kernel_rfl
theorem bM:bootBuiltins "isinstance" = some (.builtin "isinstance"):=by kernel_rfl
theorem yM:bootBuiltins "int" = some (.type "int"):=by kernel_rfl
theorem uh:bootBuiltins "bool" = some (.type "bool"):=by kernel_rfl
theorem eN:bootBuiltins "list" = some (.type "list"):=by kernel_rfl
theorem uc:bootBuiltins "tuple" = some (.type "tuple"):=by kernel_rfl
theorem Zw:bootBuiltins "str" = some (.type "str"):=by kernel_rfl
section
variable{X:Cx}
theorem JR:qx X (binaryOp .Mult) (rI IntMulOk λi j=> .int (i*j)):=opI λ_ _ _ _ _ _ _ hc q=>mul_int q hc
end
noncomputable def Kp(r:Addr)(H H':Hp):Prop:=∀b o,H b=some o->b≠r->H' b=some o
theorem Kp.of_same{r:Addr}{H H':Hp}(h:Same H H'):Kp r H H':=λb o e _=>h b o e
theorem Kp.trans{r:Addr}{H H1 H2:Hp}(a:Kp r H H1)(b:Kp r H1 H2):Kp r H H2:=λc o h n=>b c o (a c o h n) n
theorem Kp.set{r:Addr}{H:Hp}{o:HO}:Kp r H (upd H r o):=λb u e n=>by rw[aF n];exact e
theorem aG{H:Hp}{p:Addr}{o:HO}(h:H p=none):Same H (upd H p o):=λb u e=>by rw[aF (aB e h)];exact e
theorem Same.tups{H H':Hp}(e:Same H H'):∀a xs,H a=some (HO.tup xs)->H' a=some (HO.tup xs):=λa xs h=>e _ _ h
theorem Same.sqL{K:PySem.W.Frag}{H H':Hp}(e:Same H H'):∀a xs,bI K H a xs->bI K H' a xs:=λa xs h=>e.seq h
theorem Kp.tups{H H':Hp}{r:Addr}{ys:List V}(e:Kp r H H')(hr:H r=some (.lst ys)):∀a xs,H a=some (HO.tup xs)->H' a=some (HO.tup xs):=λa xs h=>e _ _ h (dg h hr (by intro z;cases z))
section
variable{X:Cx}{K:PySem.W.Frag}
theorem aP(h:X.K=K):IxR X (o_ K):=by subst h;exact U9
theorem aU(h:X.K=K):IxR X (Oz K):=by subst h;exact YZ
theorem mj(h:X.K=K):SlR X (TX K):=by subst h;exact Tq
theorem Jz(h:X.K=K):SlR X (aaS K):=by subst h;exact Xz
theorem yc(h:X.K=K):qx X (compareOp .In) (rIn K false):=by subst h;exact La
noncomputable def ad3(K:PySem.W.Frag):List V->Hp->VK->Prop:=λxs H Q=>∃(p:Addr) (ys:List V),xs=[.ref p]/\(bI K H p ys\/cD K H p ys)/\Q (.int ys.length) H
theorem aY(h:X.K=K):jA X (.builtin "len") (ad3 K):=by subst h;exact Di
noncomputable def JG(K:PySem.W.Frag):List V->Hp->VK->Prop:=λxs H Q=>∃(p:Addr) (ys:List V),xs=[.ref p]/\(bI K H p ys\/cD K H p ys) /\ ∀l,H l=none->Q (.ref l) (upd H l (.lst ys))
theorem cu(h:X.K=K):jA X (.type "list") (JG K):=by subst h;exact Dh
noncomputable def aaY(K:PySem.W.Frag):List V->Hp->VK->Prop:=λxs H Q=>∃(p:Addr) (bs:List Bool),xs=[.ref p]/\bI K H p (bs.map V.bl)/\Q (.bl (bs.all id)) H
theorem gR(h:X.K=K)(hc:X.calm=true):jA X (.builtin "all") (aaY K):=by subst h;exact yL hc
theorem sX(h:X.K=K)(hu:X.A.units+64<cLine):qx X (compareOp .Eq) (OD false):=by subst h;exact Yn hu
theorem Cg(h:X.K=K)(hu:X.A.units+64<cLine):qx X (compareOp .NotEq) (OD true):=by subst h;exact Yl hu
theorem dH{tg l:Expr}{tl:TE}(h:X.K=K)(hl:PE X l tl):PI X tg l (Wx K tl):=by subst h;exact Uh hl
theorem Ue{tg l:Expr}{tl:TE}(h:X.K=K)(hl:PE X l tl):PI X tg l (abh K tl):=by subst h;exact X_ hl
noncomputable def ad5(K:PySem.W.Frag)(c:Value)(cv:V):List V->Hp->VK->Prop:=λxs H Q=>∃x t b,xs=[x,cv]/\rJ K H x t/\PySem.W.kitOne K t c=some b/\Q (.bl b) H
theorem cL{c:Value}{cv:V}(h:X.K=K)(rc:RelV cv c):jA X (.builtin "isinstance") (ad5 K c cv):=by subst h;exact Ro rc
theorem eZ{o e:Expr}{to:TE}{t:TA}{apos cpos:Pos}(h:X.K=K)(ho:PE X o to)(ha:PA X [e] t)(hbase:attributeBase o "append" X.env (eval o X.env)=eval o X.env:=by rfl)(hfew:((backTo cpos (starEach [e] X.env)).all (λx=> !x.1)&&(backToKw cpos (keywordEach [] X.env)).all (λx=>x.1.isSome)
   && decide (([e]:List Expr).length+([]:List Keyword).length+(if ([]:List Keyword).isEmpty then 0 else 1)<30))=true:=by rfl)(hline:(apos.endLine==cpos.line)=true:=by rfl)(hs:starEach [e] X.env=(false,eval e X.env)::starEach [] X.env:=by rfl)(hplain:(backTo cpos (starEach [] X.env)).any (·.1)=false:=by rfl):
 PE X (.Call (.Attribute o "append" apos) [e] [] cpos) (V7 K "list" sV to t):=by
 subst h;exact Wo PySem.F.plainAttrs_list PySem.F.slot_list_append PySem.F.type_list_append Ab ho ha hbase hfew hline hs hplain
end
end L2
namespace L2
open PySem
section
variable{K:PySem.W.Frag}{a D:Addr}{xs:List V}{g:TG}{tc:TT}{te:TE}{Q:VK}{σ0:St}{H1:Hp}
theorem gA(Pv:Nat->St->Hp->Prop)(h0:Pv 0 σ0 (upd H1 D (.lst [])))(hl:∀i σ H,i<=xs.length->Pv i σ H->bI K H a xs)(hs:∀i x σ H,xs[i]? = some x->Pv i σ H->g x σ H λσ2 H2=>tc σ2 H2 λb H3=>
   if b=true then te σ2 H3 λy H4=>∃acc,H4 D=some (.lst acc)/\acc.length<sizeLine/\Pv (i+1) σ2 (upd H4 D (.lst (acc++[y]))) else Pv (i+1) σ2 H3)(hd:∀σ H,Pv xs.length σ H->Q (.ref D) H):fK (RL K a) g tc te Q D σ0 H1:=by
 refine⟨λi m σ H=>m=xs.length - i/\i<=xs.length/\Pv i σ H,⟨xs.length,by simp,Nat.zero_le _,h0⟩, ?_⟩;rintro i m σ H ⟨rfl,hi,p⟩;have q:=hl i σ H hi p
 by_cases hlt:i<xs.length
 .refine .inr ⟨⟨xs,xs[i],q,by simp[hlt]⟩,Pv (i+1),λσ' H' p'=>⟨xs.length - (i+1),by lia,acg,hlt,p'⟩,λx H' y=>?_⟩
  obtain⟨e,y⟩:=y;subst e;exact hs i x σ _ (y xs q) p
 .have e:i=xs.length:=by lia
  subst e;exact .inl ⟨⟨xs,q,aaj _⟩,hd σ H p⟩
theorem Ri(Pv:Nat->St->Hp->Prop)(h0:Pv 0 σ0 (upd H1 D (.lst [])))(hl:∀i σ H,i<=xs.length->Pv i σ H->cD K H a xs)(hs:∀i x σ H,xs[i]? = some x->Pv i σ H->g x σ H λσ2 H2=>tc σ2 H2 λb H3=>
   if b=true then te σ2 H3 λy H4=>∃acc,H4 D=some (.lst acc)/\acc.length<sizeLine/\Pv (i+1) σ2 (upd H4 D (.lst (acc++[y]))) else Pv (i+1) σ2 H3)(hd:∀σ H,Pv xs.length σ H->Q (.ref D) H):fK (Itt K a) g tc te Q D σ0 H1:=by
 refine⟨λi m σ H=>m=xs.length - i/\i<=xs.length/\Pv i σ H,⟨xs.length,by simp,Nat.zero_le _,h0⟩, ?_⟩;rintro i m σ H ⟨rfl,hi,p⟩;have q:=hl i σ H hi p
 by_cases hlt:i<xs.length
 .refine .inr ⟨⟨xs,xs[i],q,by simp[hlt]⟩,Pv (i+1),λσ' H' p'=>⟨xs.length - (i+1),by lia,acg,hlt,p'⟩,λx H' y=>?_⟩
  obtain⟨e,y⟩:=y;subst e;exact hs i x σ _ (y xs q) p
 .have e:i=xs.length:=by lia
  subst e;exact .inl ⟨⟨xs,q,aaj _⟩,hd σ H p⟩
theorem gj{lo:Int}{n:Nat}(Pv:Nat->St->Hp->Prop)(h0:Pv 0 σ0 (upd H1 D (.lst [])))(hs:∀i σ H,i<n->Pv i σ H->g (.int (lo+i)) σ H λσ2 H2=>tc σ2 H2 λb H3=>
   if b=true then te σ2 H3 λy H4=>∃acc,H4 D=some (.lst acc)/\acc.length<sizeLine/\Pv (i+1) σ2 (upd H4 D (.lst (acc++[y]))) else Pv (i+1) σ2 H3)(hd:∀σ H,Pv n σ H->Q (.ref D) H):fK (RK lo n) g tc te Q D σ0 H1:=by
 refine⟨λi m σ H=>m=n - i/\i<=n/\Pv i σ H,⟨n,by simp,Nat.zero_le _,h0⟩, ?_⟩;rintro i m σ H ⟨rfl,hi,p⟩
 by_cases hlt:i<n
 .refine .inr ⟨hlt,Pv (i+1),λσ' H' p'=>⟨n - (i+1),by lia,acg,hlt,p'⟩,λx H' y=>?_⟩
  obtain⟨e,y⟩:=y;subst e y;exact hs i σ _ hlt p
 .have e:i=n:=by lia
  subst e;exact .inl ⟨aaj _,hd σ H p⟩
end
end L2
namespace L2
open PySem PySem.Spec PyProof.Rows
section
variable{α:Type}(f:α->PyData)
theorem gZ:∀(l:List α),(∀x∈l,(f x).canLay0=true)->PyData.canLayAll0 (l.map f)=true
 | [],_=>rfl
 | a::l,h=>by
   show (PyData.canLay0 (f a)&&PyData.canLayAll0 (l.map f))=true;rw[h a List.mem_cons_self,gZ l λx hx=>h x (aa7 _ hx)];rfl
theorem fB(k:Nat):∀(l:List α),(∀x∈l,(f x).depth<=k)->PyData.depthAll (l.map f)<=k
 | [],_=>Nat.zero_le _
 | a::l,h=>by
   show max (PyData.depth (f a)) (PyData.depthAll (l.map f))<=k;exact Nat.max_le.mpr ⟨h a List.mem_cons_self,fB k l λx hx=>h x (aa7 _ hx)⟩
theorem vp{l:List α}(k:Nat)(hk:k<64)(h1:∀x∈l,(f x).canLay0=true)(h2:∀x∈l,(f x).depth<=k):SeqAt.shaped (.list (l.map f))=true:=by
 unfold SeqAt.shaped;have e1:PyData.canLay0 (.list (l.map f))=true:=gZ f l h1
 have e2:PyData.depth (.list (l.map f))<=64:=by
  show PyData.depthAll (l.map f)+1<=64;have:=fB f k l h2;lia
 rw[e1,aaq e2];rfl
theorem yH[DecidableEq α](h:∀x y,PyData.eqv (f x) (f y)=decide (x=y)):∀(l m:List α),PyData.eqvAll (l.map f) (m.map f)=decide (l=m)
 | [],[]=>rfl
 | [],_::_=>by simp only[List.map_nil,List.map_cons,PyData.eqvAll];exact(aar (by intro z;cases z)).symm
 | _::_,[]=>by simp only[List.map_nil,List.map_cons,PyData.eqvAll];exact(aar (by intro z;cases z)).symm
 | a::l,b::m=>by
   simp only[List.map_cons,PyData.eqvAll];rw[h a b,yH h l m]
   by_cases e1:a=b
   .subst e1
    by_cases e2:l=m
    .subst e2;simp
    .simp[e2]
   .simp[e1]
theorem mL[DecidableEq α](h:∀x y,PyData.eqv (f x) (f y)=decide (x=y))(l m:List α):PyData.eqv (.list (l.map f)) (.list (m.map f))=decide (l=m):=by
 simp only[PyData.eqv];exact yH f h l m
end
theorem mO{H:Hp}{a:Addr}{vs:List V}{ds:List PyData}(h:H a=some (.lst vs))(d:aQ H vs ds):Dat H (.ref a) (.list ds):=by
 simp only[Dat];exact⟨a,vs,acg,h,d⟩
theorem vC(K:PySem.W.Frag):PySem.W.kitOne K (.type "int") (.type "int")=some true:=acg
theorem nR(K:PySem.W.Frag):PySem.W.kitOne K (.type "int") (.type "bool")=some false:=by kernel_rfl
theorem i_(K:PySem.W.Frag):PySem.W.kitOne K (.type "list") (.type "list")=some true:=acg
theorem gQ(K:PySem.W.Frag):PySem.W.kitOne K (.type "tuple") (.type "tuple")=some true:=acg
theorem lR(K:PySem.W.Frag):PySem.W.kitOne K (.type "bool") (.type "bool")=some true:=acg
end L2
namespace L2
open PySem
theorem yJ(xs:List V)(k:Nat):j5 xs none (some (k:Int))=xs.take k:=by
 unfold j5;rw[HT.xQ,HT.BW,List.drop_zero,Nat.sub_zero]
 by_cases h:k<=xs.length
 .rw[Nat.min_eq_left h]
 .rw[Nat.min_eq_right (by lia),List.take_of_length_le (aaj _),List.take_of_length_le (by lia)]
theorem Ge(xs:List V)(k:Nat):j5 xs (some (k:Int)) none=xs.drop k:=by
 unfold j5;rw[HT.xQ,HT.BW]
 by_cases h:k<=xs.length
 .rw[Nat.min_eq_left h,List.take_of_length_le (by rw[List.length_drop];exact aaj _)]
 .rw[Nat.min_eq_right (by lia),Nat.sub_self,List.take_zero,List.drop_of_length_le (by lia)]
end L2
namespace PySem.W
open PySem PySem.Spec PySem.Calls PyProof.Rows
section
variable{prog:Program}{w:World}{A:Around}{E:Value->Shared->Prop}{s:Shared}{K:Frag}{x D:Addr}{ox:Obj}{odo:Option Obj}{name:Str}
end
structure afX(K:Frag)(D:Addr):Prop where
 hga:findIn K (.ref D) "__getattribute__" = some (some (.builtin "BaseException.__getattribute__"))
 hk:findIn K (.ref D) "__getattr__" = some none
 hB:mroIn K D (.type "BaseException")=some true
 hc:(clsIn K D).isSome=true
 ha:findIn K (.ref D) "__class__" = some (some (.builtin "object.__class__"))
 hn:specialIn K (.builtin "object.__class__") "__get__" = some (some (.builtin "getset_descriptor.__get__"))
 htk:takesIn K (.builtin "object.__class__")=some true
 hm:mroIn K D (.type "object")=some true
end PySem.W
namespace L2
open PySem PySem.Spec PyProof.Rows
noncomputable def zF(h:Heap)(e:Addr)(cls:Value)(dx:Option Addr)(lo:Addr->Prop):Option Value->Prop
 | none=>∃oe vs,h.get? e=some oe/\oe.cls=cls/\oe.dict=dx/\oe.data = .fields vs/\vs[1]? = some .none
 | some f=>∃oe vs T oT ts,h.get? e=some oe/\oe.cls=cls/\oe.dict=dx/\oe.data = .fields vs/\vs[1]? = some (.ref T)/\lo T/\T≠e/\h.get? T=some oT/\oT.data = .fields ts/\ts[3]? = some f
section
variable{M:Model}{A:Around}{E:Value->Shared->Prop}{s:Shared}{base:Heap}{env:Env}{outer:List Env}{L e:Addr}
structure um(fr:List Addr)(e:Addr)(lo:Addr->Prop)(h h':Heap):Prop where
 keep:∀b o,h.get? b=some o->b∉fr->b≠e -> ¬lo b->h'.get? b=some o
 slot:∀b o,h.get? b=some o->b∈fr->b≠e -> ¬lo b -> ∃sl,h'.get? b=some {o with slots:=sl}
 there:∀b o,h.get? b=some o -> ∃o',h'.get? b=some o'
theorem um.trans{fr:List Addr}{lo:Addr->Prop}{h h1 h2:Heap}(a:um fr e lo h h1)(b:um fr e lo h1 h2):um fr e lo h h2 where
 keep:=λc o q n1 n2 n3=>b.keep c o (a.keep c o q n1 n2 n3) n1 n2 n3
 slot:=λc o q n1 n2 n3=>by
  obtain⟨sl,q1⟩:=a.slot c o q n1 n2 n3;obtain⟨sl2,q2⟩:=b.slot c _ q1 n1 n2 n3;exact⟨sl2,q2⟩
 there:=λc o q=>by
  obtain⟨o1,q1⟩:=a.there c o q;exact b.there c o1 q1
theorem mZ{h:Heap}{a:Addr}{o:Obj}{vs:Array Value}(q:h.get? a=some o)(d:o.data = .fields vs)(i:Nat)(v:Value):
 (h.update a (Obj.mapFields (·.setIfInBounds i v))).get? a=some (Obj.mapFields (·.setIfInBounds i v) o)/\(Obj.mapFields (·.setIfInBounds i v) o).data = .fields (vs.setIfInBounds i v) /\
   (Obj.mapFields (·.setIfInBounds i v) o).cls=o.cls/\(Obj.mapFields (·.setIfInBounds i v) o).dict=o.dict:=by
 have d2:=Obj.data_mapFields d (·.setIfInBounds i v);refine⟨Heap.get?_update_self _ q (Obj.isFreed_of_fields d2),d2,Obj.cls_mapFields _ _, ?_⟩;obtain⟨c,dd,dt,sl⟩:=o;simp only at d;subst d;rfl
theorem Np{oe:Obj}{vs:Array Value}{head:Value}{hadNext:Bool}{cls:Value}{dx:Option Addr}{lo:Addr->Prop}{Q:Unit->Shared->Prop}(hfr:A.frames=some (env::outer))(hl:s.heap.FunFrames base (env::outer))(hf:env.frame=some L)(he:s.heap.get? e=some oe)(hd:oe.data = .fields vs)(hsz:1<vs.size)(hc:oe.cls=cls)(hdx:oe.dict=dx)(hlo:∀T,s.heap.get? T=none->lo T)(h:∀h',um (frs (env::outer)) e lo s.heap h'->zF h' e cls dx lo (some (rawInt L))->Q () {s with heap:=h'}):
 wpAny M A (do let a ←frameOf env;let pl ←entryPlaceOf L hadNext;let b ←EntryCells.newEntry head a .none (rawInt L) .none pl;setField (.ref e) 1 b) Q E s:=by
 have nfr:e∉frs (env::outer):=λhm=>by
  obtain⟨_,o,q,nf⟩:=hl.mem hm;rw[he] at q;cases q;exact nf vs hd
 refine aak (wpAny_frameOf_fun hfr hl hf λh1 hs1=>?_);refine aak (wpAny_entryPlaceOf λpl hpl=>?_);unfold EntryCells.newEntry newFields;refine aak (wpAny_newObj_type ?_ (hpl.sizeOk5 _ _ _ _ _));generalize hob:({cls:= .type "traceback",dict:=none,data:= .fields ([head,.ref L,.none,rawInt L,.none]++(if pl.isEmpty then List.replicate 6 Value.none else pl)).toArray}:Obj)=ob;have q1:h1.get? e=some oe:=(hs1.2.1 e nfr).trans he;have q2:=aag (h:=h1) ob q1;have nTe:h1.objs.size≠e:=Nat.ne_of_gt (aai q1);have sizes:h1.objs.size=s.heap.objs.size:=hs1.1;have newT:s.heap.get? h1.objs.size=none:=Heap.get?_none_of_le (by rw[sizes];exact aaj _);refine wpAny_setField q2 hd hsz (h _ ⟨λb o q n1 n2 n3=>?_,λb o q n1 n2 n3=>?_,λb o q=>?_⟩ ?_)
 .rw[Heap.get?_update_other _ _ (Ne.symm n2)]
  exact aag _ ((hs1.2.1 b n1).trans q)
 .obtain⟨sl,q3⟩:=hs1.2.2 b o q
  refine⟨sl, ?_⟩;rw[Heap.get?_update_other _ _ (Ne.symm n2)];exact aag _ q3
 .obtain⟨sl,q3⟩:=hs1.2.2 b o q
  by_cases hb:b=e
  .subst hb
   exact⟨_,(mZ q2 hd 1 _).1⟩
  .refine⟨{o with slots:=sl}, ?_⟩
   rw[Heap.get?_update_other _ _ (Ne.symm hb)];exact aag _ q3
 .obtain⟨u1,u2,u3,u4⟩:=mZ q2 hd 1 (Value.ref h1.objs.size)
  refine⟨_,_,h1.objs.size,ob,_,u1,u3.trans hc,u4.trans hdx,u2,by simp[hsz],hlo _ newT,nTe, ?_,by rw[←hob], ?_⟩
  .rw[Heap.get?_update_other _ _ (Ne.symm nTe)]
   exact aah _ (by rw[←hob];rfl)
  .first |(simp;done)|(rcases hpl with rfl|⟨_,_,_,_,_,_,_,rfl⟩<;>simp)
theorem aau{cls:Value}{dx:Option Addr}{lo:Addr->Prop}{Q:Unit->Shared->Prop}{fl:Option Value}(hfl:fl=none\/fl=some .none)(hfr:A.frames=some (env::outer))(hl:s.heap.FunFrames base (env::outer))(hf:env.frame=some L)(x:zF s.heap e cls dx lo fl)(hlo:∀T,s.heap.get? T=none->lo T)(h:∀h',um (frs (env::outer)) e lo s.heap h'->zF h' e cls dx lo (some (rawInt L))->Q () {s with heap:=h'}):wpAny M A (noteFrame (.ref e) env) Q E s:=by
 unfold noteFrame;simp only[hf];rcases hfl with rfl|rfl
 .obtain⟨oe,vs,he,hc,hdx,hd,h1⟩:=x
  refine aak (wpAny_field he hd h1 ?_);rw[ab' (by decide)];exact Np hfr hl hf he hd (Array.getElem?_eq_some_iff.mp h1).1 hc hdx hlo h
 .obtain⟨oe,vs,T,oT,ts,he,hc,hdx,hd,h1,hT,nT,Sg,hdT,h3⟩:=x
  refine aak (wpAny_field he hd h1 ?_);rw[acd (show (Value.ref T != Value.none)=true from by simp)];refine aak (wpAny_field Sg hdT h3 ?_);rw[ab' (show ¬((Value.none==rawInt L)=true) from by simp[rawInt])];have hs3:3<ts.size:=(Array.getElem?_eq_some_iff.mp h3).1;refine aak (wpAny_setField Sg hdT hs3 ?_);have oth:∀b,b≠T->(s.heap.update T (Obj.mapFields (·.setIfInBounds 3 Value.none))).get? b=s.heap.get? b:=λb hb=>Heap.get?_update_other _ _ (Ne.symm hb);obtain⟨u1,u2,u3,u4⟩:=mZ Sg hdT 3 Value.none
  have n0:um (frs (env::outer)) e lo s.heap (s.heap.update T (Obj.mapFields (·.setIfInBounds 3 Value.none))):=by
   have nb:∀b,¬lo b->b≠T:=λb hb z=>hb (by rw[z];exact hT);refine⟨λb o q _ _ n3=>(oth b (nb b n3)).trans q,λb o q _ _ n3=>⟨o.slots,(oth b (nb b n3)).trans q⟩,λb o q=>?_⟩
   by_cases hb:b=T
   .subst hb;exact⟨_,u1⟩
   .exact⟨o,(oth b hb).trans q⟩
  have ffs:(s.heap.update T (Obj.mapFields (·.setIfInBounds 3 Value.none))).FunFrames base (env::outer):=hl.of_keeps λb o q nf=>by
   by_cases hb:b=T
   .subst hb;rw[Sg] at q;cases q;exact ace hdT (nf ts)
   .exact⟨o,(oth b hb).trans q,acg⟩
  refine Np (s:={s with heap:=s.heap.update T (Obj.mapFields (·.setIfInBounds 3 Value.none))}) hfr ffs hf ((oth e (Ne.symm nT)).trans he) hd (Array.getElem?_eq_some_iff.mp h1).1 hc hdx (λT' z=>?_) λh' n1 x1=>h h' (n0.trans n1) x1
  by_cases hb:T'=T
  .rw[hb];exact hT
  .exact hlo T' ((oth T' hb).symm.trans z)
theorem aav{cls:Value}{dx:Option Addr}{lo:Addr->Prop}{Q:Unit->Shared->Prop}{fr:List Addr}{f:Value}(x:zF s.heap e cls dx lo (some f))(h:∀h',um fr e lo s.heap h'->zF h' e cls dx lo (some .none)->Q () {s with heap:=h'}):wpAny M A (setFlight (.ref e) none) Q E s:=by
 obtain⟨oe,vs,T,oT,ts,he,hc,hdx,hd,h1,hT,nT,Sg,hdT,h3⟩:=x;have hs3:3<ts.size:=(Array.getElem?_eq_some_iff.mp h3).1;unfold setFlight;refine aak (wpAny_field he hd h1 ?_);rw[acd (show (Value.ref T != Value.none)=true from by simp)];have oth:∀b,b≠T->(s.heap.update T (Obj.mapFields (·.setIfInBounds 3 Value.none))).get? b=s.heap.get? b:=λb hb=>Heap.get?_update_other _ _ (Ne.symm hb);obtain⟨u1,u2,u3,u4⟩:=mZ Sg hdT 3 Value.none;have nb:∀b,¬lo b->b≠T:=λb hb z=>hb (by rw[z];exact hT);refine wpAny_setField Sg hdT hs3 (h _ ⟨λb o q _ _ n3=>(oth b (nb b n3)).trans q,λb o q _ _ n3=>⟨o.slots,(oth b (nb b n3)).trans q⟩,λb o q=>?_⟩ ?_)
 .by_cases hb:b=T
  .subst hb;exact⟨_,u1⟩
  .exact⟨o,(oth b hb).trans q⟩
 .exact⟨oe,vs,T,_,_,(oth e (Ne.symm nT)).trans he,hc,hdx,hd,h1,hT,nT,u1,u2,by simp[hs3]⟩
end
section
variable{X:Cx}{pins:List (Addr×Obj)}{σ:St}{H:Hp}{s:Shared}{e:Addr}
theorem eF.there{P:Program}{w:World}{H:Hp}{h:Heap}{a:Addr}{o:HO}(x:eF P w H h a o):∃ob,h.get? a=some ob:=by
 induction o with
 | lst xs=>obtain⟨_,_,_,_,q⟩:=x;exact⟨_,q⟩
 | tup xs=>obtain⟨_,_,_,ob,q,_⟩:=x;exact⟨ob,q⟩
 | dK kvs=>obtain⟨_,_,_,_,ob,_,_,q,_⟩:=x;exact⟨ob,q⟩
 | dT kvs=>obtain⟨_,_,_,_,ob,_,_,q,_⟩:=x;exact⟨ob,q⟩
 | set S n=>obtain⟨ob,_,_,_,q,_⟩:=x;exact⟨ob,q⟩
 | ins C dx fs=>obtain⟨_,_,_,q,_⟩:=x;exact⟨_,q⟩
 | own y=>exact x
 | xd fs=>obtain⟨_,⟨ob,_,_,q,_⟩,_⟩:=x;exact⟨ob,q⟩
 | rng lo hi=>obtain⟨_,_,_,q⟩:=x;exact⟨_,q⟩
 | FP ob u ih=>exact⟨ob,x.1⟩
 | V4 ps=>exact⟨_,x⟩
 | met f y=>exact⟨_,x⟩
 | ext φ=>exact x.2.1
noncomputable def Nh(X:Cx)(pins:List (Addr×Obj))(H:Hp)(b:Addr):Prop:=
 H b=none/\b≠X.env.locals/\b∉X.fs/\X.s₀.heap.get? b=none/\(∀x c,X.env.cells.lookup x=some c->c≠b) /\ ∀p∈X.pn++pins,p.1≠b
theorem Inv.xfp(I:Inv X pins σ H s)(hx:X.ex=[]){b:Addr}(hb:s.heap.get? b=none):Nh X pins H b:=by
 refine⟨?_,λz=>?_,λz=>?_, ?_,λx c q z=>?_,λp hp z=>?_⟩
 .cases q:H b with
  | none=>rfl
  | some o=>
    obtain⟨ob,r⟩:=(I.hok b o q).there;rw[hb] at r;cases r
 .obtain⟨m,⟨o,_,_,r,_⟩,_⟩:=I.loc
  rw[←z,hb] at r;cases r
 .obtain⟨_,o,r,_⟩:=I.tQ.mem z
  rw[hb] at r;cases r
 .cases q:X.s₀.heap.get? b with
  | none=>rfl
  | some o=>
    obtain⟨o',r⟩:=I.base.there b o q (by rw[hx];simp);rw[hb] at r;cases r
 .obtain⟨v,o,r,_⟩:=I.cell x c q
  rw[z,hb] at r;cases r
 .obtain⟨r,_⟩:=I.pin p hp
  rw[z,hb] at r;cases r
theorem Inv.noted{lo:Addr->Prop}{h':Heap}(I:Inv X pins σ H s)(n:um (frs X.stack) e lo s.heap h')(hlo:∀b,(b=e\/lo b)->Nh X pins H b\/s.heap.get? b=none):Inv X pins σ H {s with heap:=h'}:=by
 have off:∀b o,s.heap.get? b=some o->(¬Nh X pins H b)->b≠e /\ ¬lo b:=λb o q nx=>
  ⟨λz=>(hlo b (.inl z)).elim nx λr=>(by rw[r] at q;cases q),λz=>(hlo b (.inr z)).elim nx λr=>(by rw[r] at q;cases q)⟩
 have any:∀b o,s.heap.get? b=some o->(¬Nh X pins H b) -> ∃sl,h'.get? b=some {o with slots:=sl}:=λb o q nx=>by
  obtain⟨n1,n2⟩:=off b o q nx
  by_cases hb:b∈frs X.stack
  .exact n.slot b o q hb n1 n2
  .exact⟨o.slots,n.keep b o q hb n1 n2⟩
 have s0:∀b o,X.s₀.heap.get? b=some o -> ¬Nh X pins H b:=λb o q x=>by rw[x.2.2.2.1] at q;cases q
 have neL:∀b o,X.s₀.heap.get? b=some o->b≠X.env.locals:=λb o q=>aaP (aa1 (aai q) I.ok.above);have nst:∀b,b≠X.env.locals->b∉X.fs->b∉frs X.stack:=λb n1 n2 z=>(List.mem_cons.mp (I.wR b z)).elim n1 n2;have Xc:∀b o,H b=some o -> ¬Nh X pins H b:=λb o q x=>by rw[x.1] at q;cases q
 have aaz:∀b o,H b=some o->b∉frs X.stack:=λb o q z=>by rw[I.Bg b z] at q;cases q
 have cl:∀x c,X.env.cells.lookup x=some c -> ∀v,s.heap.IsCell c v->h'.IsCell c v:=λx c q v ⟨o,ho,hd⟩=>by
  obtain⟨sl,r⟩:=any c o ho λz=>z.2.2.2.2.1 x c q rfl;exact⟨_,r,hd⟩
 refine⟨I.ok,I.os,I.bare,⟨λb o q nn hb hx=>?_,λb o q nn hb hx=>?_,I.base.free,λb o q hx=>?_,I.base.tups,I.base.yD,I.base.zm⟩, ?_,λx c q=>?_,I.free,I.pL,λp hp=>?_,λa o q=>?_,I.len⟩
 .have q1:=I.base.keep b o q nn hb hx
  obtain⟨n1,n2⟩:=off b o q1 (s0 b o q);exact n.keep b o q1 (nst b (neL b o q) hb) n1 n2
 .obtain⟨sl,q1⟩:=I.base.slot b o q nn hb hx
  obtain⟨sl2,q2⟩:=any b _ q1 (s0 b o q);exact⟨sl2,q2⟩
 .obtain⟨o1,q1⟩:=I.base.there b o q hx
  exact n.there b o1 q1
 .obtain⟨m,⟨ob,es,ep,ho,r⟩,hl⟩:=I.loc
  obtain⟨sl,q1⟩:=any _ ob ho λz=>z.2.1 rfl;refine⟨m,⟨_,es,ep,q1,r⟩,λi x v e1 e2 e3=>?_⟩;obtain⟨u,ru,l⟩:=hl i x v e1 e2 e3;refine⟨u,ru, ?_⟩;rcases l with l|⟨k,c,hc,z⟩
  .exact .inl l
  .exact .inr ⟨k,c,hc,cl x c hc _ z⟩
 .obtain⟨v,z⟩:=I.cell x c q
  exact⟨v,cl x c q v z⟩
 .obtain⟨q,nn,n1,n2,d⟩:=I.pin p hp
  obtain⟨m1,m2⟩:=off p.1 p.2 q λz=>z.2.2.2.2.2 p hp rfl;exact⟨n.keep p.1 p.2 q (nst p.1 n1 n2) m1 m2,nn,n1,n2,d⟩
 .refine(I.hok a o q).stay (λb u hb r=>?_) (λ_ z=>z) λ_ _ z=>z
  rcases hb with rfl|hb
  .obtain⟨m1,m2⟩:=off b u r (Xc b o q)
   exact n.keep b u r (aaz b o q) m1 m2
  .obtain⟨m1,m2⟩:=off b u r (Xc b _ hb)
   exact n.keep b u r (aaz b _ hb) m1 m2
noncomputable def qJ(P:Program)(w:World):Nk:=λouter H s E ev s'=>∃(e:Addr) (cls:Value) (dx:Option Addr) (H':Hp),ev = .ref e/\s'.os=s.os/\AllBare s'.gens/\Un (frs outer) [] H H' s.heap s'.heap/\qz P w H' s'.heap /\
 s.heap.get? e=none/\H' e=none/\zF s'.heap e cls dx (λT=>s.heap.get? T=none/\H' T=none) (some .none)/\E cls dx H'
noncomputable def Rz(X:Cx)(E:St->XK):Prop:=∀(pins:List (Addr×Obj))(σ:St)(H:Hp)(s:Shared)(e:Addr)(cls:Value)(dx:Option Addr)(fl:Option Value),(fl=none\/fl=some .none)->Inv X pins σ H s->Nh X pins H e ->
 zF s.heap e cls dx (Nh X pins H) fl->E σ cls dx H->X.xe (.ref e) s
theorem zF.imp{h:Heap}{e:Addr}{cls:Value}{dx:Option Addr}{lo lo':Addr->Prop}{f:Option Value}(x:zF h e cls dx lo f)(k:∀T,(∃o,h.get? T=some o)->lo T->lo' T):zF h e cls dx lo' f:=by
 cases f with
 | none=>exact x
 | some f=>
   obtain⟨oe,vs,T,oT,ts,he,hc,hdx,hd,h1,hT,nT,Sg,r⟩:=x;exact⟨oe,vs,T,oT,ts,he,hc,hdx,hd,h1,k T ⟨oT,Sg⟩ hT,nT,Sg,r⟩
theorem JM{E:St->XK}{σ:St}(hx:X.ex=[])(R:Rz X E){pins:List (Addr×Obj)}{H:Hp}{s s':Shared}{ev:Value}(I:Inv X pins σ H s)(c:qJ X.prog X.w X.stack H s (E σ) ev s'):X.xe ev s':=by
 obtain⟨e,cls,dx,H',rfl,ho,hg,u,hok,ne,he,x,q⟩:=c;have I':Inv X pins σ H' s':=I.call' (ch:=[]) ho u hok hg (λb hb=>by cases hb)
 have fp:∀T,s.heap.get? T=none->H' T=none->Nh X pins H' T:=λT h1 h2=>by
  obtain⟨_,a2,a3,a4,a5,a6⟩:=I.xfp hx h1;exact⟨h2,a2,a3,a4,a5,a6⟩
 exact R pins σ H' s' e cls dx _ (.inr rfl) I' (fp e ne he) (x.imp λT _ z=>fp T z.1 z.2) q
theorem Eo{P:Program}{w:World}{K:PySem.W.Frag}{mg:Str->Option Value}{base:Heap}{N:List Str}{qual:Str}{scope:Scope}{f:Addr}{cd:Value}{A:Around}{outer:List Env}{s:Shared}{H:Hp}{E:XK}:
 Rz (oG (qJ P w) P w K mg base N qual scope f cd A outer s H E) (λ_=>E):=by
 intro pins σ H1 s1 e cls dx fl hfl I fe x q;show wpAny (model P w) _ (leaving _ (.ref e)) _ _ s1;unfold leaving;have lo1:∀b,(b=e\/(Nh (oG (qJ P w) P w K mg base N qual scope f cd A outer s H E) pins H1 b\/s1.heap.get? b=none))->Nh (oG (qJ P w) P w K mg base N qual scope f cd A outer s H E) pins H1 b\/s1.heap.get? b=none:=λb z=>z.elim (λz=> .inl (by rw[z];exact fe)) λz=>z;have stk:(oG (qJ P w) P w K mg base N qual scope f cd A outer s H E).A.frames=some ((oG (qJ P w) P w K mg base N qual scope f cd A outer s H E).env::outer):=I.ok.frames;refine aak (aau (base:=base) (lo:=λT=>Nh (oG (qJ P w) P w K mg base N qual scope f cd A outer s H E) pins H1 T\/s1.heap.get? T=none) hfl stk I.stack rfl (x.imp λT _ z=> .inl z) (λT z=> .inr z) λh1 n1 x1=>?_);refine aav (fr:=frs ((oG (qJ P w) P w K mg base N qual scope f cd A outer s H E).env::outer)) x1 λh2 n2 x2=>?_;have I2:Inv (oG (qJ P w) P w K mg base N qual scope f cd A outer s H E) pins σ H1 {s1 with heap:=h2}:=I.noted (n1.trans n2) lo1;refine⟨e,cls,dx,H1,acg,I2.os,I2.bare,I2.base,I2.hok,fe.2.2.2.1,fe.1,x2.imp λT _ z=>?_,q⟩;rcases z with z|z
 .exact⟨z.2.2.2.1,z.1⟩
 .have y:=I.xfp rfl z
  exact⟨y.2.2.2.1,y.1⟩
end
noncomputable def RM(P:Program)(w:World)(K:PySem.W.Frag)(mg:Str->Option Value)(base:Heap)(k:Nat)(x:Str)(ps:List Str)(sp:Sp):Prop:=
 ∃f fd,bR P w K mg base (qJ P w) k f fd ps sp/\mg x=some (.ref f)/\PySem.W.keepIn K (.ref f)=true/\Binds K fd ps []
noncomputable def Xu(sp:Sp)(E:St->XK)(t:TA):TE:=λσ H Q=>t σ H λvs H1=>sp vs H1 Q (E σ)
section
variable{X:Cx}{k:Nat}{x:Str}{ps:List Str}{sp:Sp}{e:Expr}{es:List Expr}{t:TA}{p pos:Pos}{E:St->XK}
theorem Ye(F:RM X.prog X.w X.K X.mg X.base k x ps sp)(hx:X.ex=[])(R:Rz X E)(hr:eG k X.A)(hg:Gl X x)(ha:PA X (e::es) t)(hd:(x==("__debug__" :Str))=false:=by decide)(he:starEach (e::es) X.env=(false,eval e X.env)::starEach es X.env:=by rfl)(hpl:(backTo pos (starEach es X.env)).any (·.1)=false:=by rfl):
 PE X (.Call (.Name x p) (e::es) [] pos) (Xu sp E t):=by
 obtain⟨f,fd,G,hm,hk,hb⟩:=F;intro pins s σ H Q I h;refine wpAny_Call_Name_kw (tH I hg hm ?_ hd);refine PySem.W.callWith_K (h₀:=X.base) I.ok.mod.R_ hk (dG (ha pos pins s σ H _ I h) λus s1 ⟨vs,H1,I1,r,q⟩=>⟨I1.rN, ?_⟩) he hpl;have hlen:us.length=ps.length:=by rw[←r.length];exact G.len _ _ _ _ q
 have hbd:=hb s1 us I1.rN (by rw[List.append_nil];exact hlen);rw[List.append_nil] at hbd;refine wpAny_call (codeAny_mono (G.run X.A X.stack s1 H1 ⟨us,[]⟩ us vs Q (E σ) hr I1.env0 hbd r q) λres s' hq=>?_)
 match res,hq with
 | .error ev,hq=>exact JM hx R I1 hq
 | .ok (.ret u),hq=>exact I1.after hq
end
section
variable{P:Program}{w:World}{K:PySem.W.Frag}{mg:Str->Option Value}{base:Heap}
theorem fQ.RZ{x qual:Str}{st:Stmt}{f:Addr}{fd:FuncData}{N ps:List Str}{k:Nat}{sp:Sp}(F:fQ K x qual st f fd)(S:aZ N ps (aM st))(len:∀vs H Q E,sp vs H Q E->vs.length=ps.length)(hbody:∀(cdv:Value)(A:Around)(outer:List Env)(s:Shared)(H:Hp)(vs:List V)(Q:VK)(E:XK),eG k (A.deeper (envOfC qual (aM st) s.heap.objs.size f cdv))->sp vs H Q E ->
   Rz (oG (qJ P w) P w K mg base N qual (aM st) f cdv A outer s H E) (λ_=>E) ->
   ∃t,IW (oG (qJ P w) P w K mg base N qual (aM st) f cdv A outer s H E) (fU st) t/\t {nx:=λ_ H'=>Q .non H',rt:=Q} (start N vs) H):bR P w K mg base (qJ P w) (k+1) f fd ps sp:=by
 obtain⟨oc,od,kV,doc,pm,an,cdv,ct,osl,rfl,lk,hcd⟩:=F.ex;exact QL lk hcd S len λA outer s H vs Q E hr hsp=>hbody cdv A outer s H vs Q E hr hsp Eo
end
theorem Vp{K:PySem.W.Frag}{h:Heap}{C:Addr}{bmB:List Value}{newId:String}(X:K.In h)(q:PySem.W.excIn K C bmB newId=true):
 ∃bm N nm qn bs hdct sn sub ab col dd k0 k1 k2 k3 k5 mN,h.get? C=some (excClassObj nm qn C N bs bm hdct sn sub ab col dd k0 k1 k2 k3 k5 newId)/\h.Ns N mN/\mN "__init__" = none/\OwnTail h bmB bm:=by
 unfold PySem.W.excIn at q;split at q
 .rename_i d0 c0 s0 lk
  split at q
  .rename_i C1 tl a0 a1 a2 a3 nn a5 em es
   simp only[aa6,beq_iff_eq,Bool.not_eq_true'] at q;obtain⟨⟨⟨⟨⟨e1,e2⟩,e3⟩,e4⟩,e5⟩,e6⟩:=q;subst e1 e2;obtain⟨f1,f2,f3,f4,f5,f6,f7,f8,f9,f10,f11⟩:=c0;dsimp only at em e3 e5 e6;subst em e3
   have ez:s0 = #[a0,a1,a2,a3,some (.builtin nn),a5]:=by
    obtain⟨l⟩:=s0;simp only at es;rw[es]
   subst ez;exact⟨tl,f4,_,_,_,_,_,_,_,_,_,_,_,_,_,_,_,X _ _ lk,.of_isNs (PySem.W.isNs_of_in X e5),PySem.W.nsMap_none_of_in X e5 e6,PySem.W.tail_of_in X e4⟩
  .cases q
 .cases q
noncomputable def Xi(cls:Value)(E:St->XK)(ta:TA):TS:=λ_ σ H=>ta σ H λvs H1=>vs.length<=sizeLine/\E σ cls none H1
section
variable{X:Cx}{E:St->XK}{x:Str}{C:Addr}{B newId initId:String}{bmB:List Value}{e0:Expr}{rest:List Expr}{ta:TA}{np cpos pos:Pos}
theorem jW(FB:ExcBaseFacts B newId initId bmB)(q:PySem.W.excIn X.K C bmB newId=true)(hm:X.mg x=some (.ref C))(hg:Gl X x)(hc:X.calm=true)(hx:X.ex=[])(R:Rz X E)(ha:PA X (e0::rest) ta)(he:starEach (e0::rest) X.env=(false,eval e0 X.env)::starEach rest X.env:=by rfl)(hplain:(backTo cpos (starEach rest X.env)).any (·.1)=false:=by rfl)(hd:(x==("__debug__" :Str))=false:=by decide):
 PS X (.Raise (some (.Call (.Name x np) (e0::rest) [] cpos)) none pos) (Xi (.ref C) E ta):=by
 intro pins s σ H D I h;obtain⟨bm,N,nm,qn,bs,hdct,sn,sub,ab,col,dd,k0,k1,k2,k3,k5,mN,hC,hN,hni,T⟩:=Vp I.ok.mod.R_ q
 refine wpAny_Raise_call_subT (k5:=k5) (k3:=k3) (k2:=k2) (k1:=k1) (k0:=k0) (dd:=dd) (col:=col) (ab:=ab) (sub:=sub) (sn:=sn) (hdct:=hdct) (bs:=bs) (q:=qn) (nm:=nm)
  (C:=C) (N:=N) (bm:=bm) (mN:=mN) FB (T.hasType FB.hasBase) (I.ok.hd hc) (by rw[he];show (false||(backTo cpos (starEach rest X.env)).any (·.1))=false;rw[hplain];rfl) hni (tH I hg hm ⟨acg, ?_⟩ hd)
 have h2:=ha cpos pins s σ H _ I h;rw[he] at h2 ⊢;refine Calls.evalArgs_plain (dG h2 λus s1 ⟨vs,H1,I1,r,hl,hE⟩=>⟨acg,by rw[←r.length];exact hl,I1.bk _ _ hC,hN.keeps I1.bk,T.keeps I1.bk,λh' e mk=>?_⟩);obtain⟨t,ht,_,_⟩:=mk.there;have I2:Inv X pins σ H1 {s1 with heap:=h'}:=I1.kept (t':=s1.toks) mk.keeps;exact R pins σ H1 _ e (.ref C) none none (.inl rfl) I2 (I1.xfp hx mk.new) ⟨_,_,ht,acg,acg,acg,acg⟩ hE
end
section
variable{X:Cx}{pins:List (Addr×Obj)}{σ:St}{H:Hp}{s:Shared}
end
section
variable{M:Model}{A:Around}{Er:Value->Shared->Prop}{s:Shared}{K:PySem.W.Frag}{e C D:Addr}
end
section
variable{X:Cx}{pins:List (Addr×Obj)}{σ:St}{H:Hp}{s:Shared}
end
structure XHd(K:PySem.W.Frag)(D:Addr):Prop where
 cl:(PySem.W.clsIn K D).isSome=true
 ty:PySem.W.typeIn K (.ref D)=some (.type "type")
 bs:PySem.W.subIn K (.ref D) (.type "BaseException")=some true
section
variable{X:Cx}{body suite:List Stmt}{b0:Stmt}{n cn:Str}{i:Nat}{Dc:Addr}{tb:(St->XK)->TS}{th:TS}{cp hpos pos:Pos}
end
section
variable{X:Cx}{K:PySem.W.Frag}
end
section
variable{X:Cx}{K:PySem.W.Frag}
end
structure Gu(K:PySem.W.Frag)(C D:Addr)(b:Bool):Prop where
 ne:(Value.ref C==Value.ref D)=false
 sub:PySem.W.subIn K (.ref C) (.ref D)=some b
end L2
namespace L2
open PySem
structure Xr(K:PySem.W.Frag)(mg:Str->Option Value)(C:Addr)(nm:Str):Prop where
 bd:mg nm=some (.ref C)
 hd:XHd K C
 xc:PySem.W.afX K C
 ex:PySem.W.excIn K C [.type "ValueError",.type "Exception",.type "BaseException",.type "object"] "ValueError.__new__" = true
 ve:PySem.W.subIn K (.ref C) (.type "ValueError")=some true
structure Xo(K:PySem.W.Frag)(mg:Str->Option Value)(C D:Addr)(nm:Str)(b:Bool):Prop where
 bd:mg nm=some (.ref D)
 hd:XHd K D
 pr:Gu K C D b
end L2
namespace L2
open PySem PySem.Spec PyProof.Rows
section
variable{X:Cx}{pins:List (Addr×Obj)}{σ:St}{H:Hp}{s:Shared}{h':Heap}
theorem Inv.p7{t':Nat}{fp:List Addr}(I:Inv X pins σ H s)(hf:∀b∈fp,pY X pins H b)(k:∀b o,b∉fp->s.heap.get? b=some o->h'.get? b=some o):Inv X pins σ H {s with heap:=h',toks:=t'}:=by
 have nit:∀b u,H b=some u->b∉fp:=λb u e z=>by rw[(hf b z).1] at e;cases e
 refine I.step (g':=s.gens) (d':=s.drawn) (ch:=fp) (λb hb=>?_) (λb o _ _ hc e _=>k b o hc e) (λb o _ _ hc e _=>⟨o.slots,k b o hc e⟩) (λ_ _ _ _ n=>n)
  (λb o hc e=>⟨o,k b o hc e⟩) (λ_ _ e=>e) (λ_ _ _ e=>e) (λb ps e=>⟨#[],by rw[e];simp⟩) (λm hm=>?_) (λb u e=>?_) I.bare
 .obtain⟨f0,f1,f2,f3,f4,f5⟩:=hf b hb
  exact⟨f3,f1,f4,f5⟩
 .obtain⟨o,es,ep,ho,r⟩:=hm
  exact⟨o,es,ep,k _ o (λz=>(hf _ z).2.1 rfl) ho,r⟩
 .refine(I.hok b u e).stay (λc v hc q=>k c v ?_ q) (λ_ q=>q) λ_ _ q=>q
  rcases hc with z|z
  .rw[z];exact nit b u e
  .exact nit c _ z
theorem pY.upd{b p:Addr}{o:HO}(h:pY X pins H b)(n:b≠p):pY X pins (upd H p o) b:=by
 obtain⟨f0,r⟩:=h;exact⟨by rw[aF n];exact f0,r⟩
theorem yx{h:Heap}{o u:Obj}{b:Addr}(ho:o.isFreed=false)(e:(h.push o).get? b=some u):(b=h.objs.size/\u=o)\/h.get? b=some u:=by
 by_cases hb:b=h.objs.size
 .subst hb
  rw[aah _ ho] at e;exact .inl ⟨acg,(aaC e).symm⟩
 .refine .inr ?_
  have lt:=aai e
  have lt2:b<h.objs.size:=by
   have:(h.push o).objs.size=h.objs.size+1:=by simp[Heap.push]
   rw[this] at lt;exact Nat.lt_of_le_of_ne (Nat.le_of_lt_succ lt) hb
  have:(h.push o).get? b=h.get? b:=by
   simp only[Heap.get?,Heap.push];rw[Array.getElem?_push_lt lt2,Array.getElem?_eq_getElem lt2]
  rw[←this];exact e
end
noncomputable def Ite(K:PySem.W.Frag)(l:Addr):It:=
 ⟨λi H=>∃xs x,bI K H l xs/\xs[i]? = some x,λi H x H'=>∃(p:Addr) (y:V),x = .ref p/\H p=none/\(∀xs,bI K H l xs->xs[i]? = some y)/\H'=upd H p (.tup [.int i,y]),λi H=>∃xs,bI K H l xs/\xs.length<=i⟩
theorem KJ{P:Program}{w:World}{K:PySem.W.Frag}{elts:List Expr}{x1:Nat}{pos:Pos}(l e it:Addr)(hne:e≠it):Turn P w K (.Tuple elts x1 pos) (Ite K l) [e,it] e (λi h=>(∃old,IsEnum h e it i old)/\h.IsListIter it l i) where
 mem:=by simp
 obj:=λi h st b hb=>by
  obtain⟨⟨old,he⟩,o,ho,c,d⟩:=st;have hb':b=e\/b=it:=by simpa using hb
  rcases hb' with rfl|rfl
  .exact⟨_,he,λv z=>by cases z⟩
  .exact⟨o,ho,λv z=>by rw[d] at z;cases z⟩
 keep:=λi h h' st k=>by
  obtain⟨⟨old,he⟩,o,ho,c,d⟩:=st;exact⟨⟨old,k e (by simp) _ he⟩,o,k it (by simp) _ ho,c,d⟩
 item:=by
  intro X hP hw hK hc i pins s σ H E I hf st hg;subst hP hw hK;obtain⟨xs,x,hq,hx⟩:=hg;obtain⟨its,rv,p,hz⟩:=I.list hq;obtain⟨u,hu,ru⟩:=rv.get hx;obtain⟨⟨old,he⟩,hi⟩:=st;have elt:=aai he;have ilt:it<s.heap.objs.size:=by obtain⟨o,ho,_⟩:=id hi;exact aai ho
  refine wpAny_pyNext_enum_item he hi p.isList (x:=u) (by simpa using hu) hne λh' hout hit htup hsz hk=>?_;refine⟨_,acg, ?_⟩;refine wpAny_letOwnedTupleGo_enum hout λh2 he2 sb=>?_;have hfr:H s.heap.objs.size=none:=I.hok.fresh (aaj _)
  have I0:Inv X pins σ (upd H s.heap.objs.size (.tup [.int i,x])) {s with heap:=s.heap.push {cls:= .type "tuple",data:= .seq #[.int i s.toks,u]}}:=
   I.laid (t':=s.toks) (λb u e=>aag _ e) (aaj _) ⟨by show 2<=sizeLine;decide,[.int i s.toks,u],.cons ⟨_,acg⟩ (.cons ru .nil),⟨_,aah _ rfl,acg,_,acg⟩⟩
  have ne1:e≠s.heap.objs.size:=aaP elt;have ne2:it≠s.heap.objs.size:=aaP ilt
  have WM:∀b∈[e,it],pY X pins (upd H s.heap.objs.size (.tup [.int i,x])) b:=λb hb=>by
   have hb':b=e\/b=it:=by simpa using hb
   rcases hb' with rfl|rfl
   .exact(hf _ (by simp)).upd ne1
   .exact(hf _ (by simp)).upd ne2
  have I1:=I0.p7 (h':=h2) (t':=s.toks+1) WM (λb o hb eb=>by
   have b1:b≠e:=λz=>hb (by simp[z]);have b2:b≠it:=λz=>hb (by simp[z]);rw[sb.2 b b1];rcases yx rfl eb with ⟨rfl,rfl⟩|eb
   .exact htup
   .exact hk b o b1 b2 eb)
  refine⟨.ref s.heap.objs.size,_,I1,acg,⟨s.heap.objs.size,x,acg,hfr,λys hy=>by rw[I.tE hy hq];exact hx,acg⟩,⟨⟨u,he2⟩, ?_⟩,λb hb=>(WM b hb).1⟩;obtain⟨o,ho,c,d⟩:=hit;exact⟨o,(sb.2 it (Ne.symm hne)).trans ho,c,d⟩
 done:=by
  intro X hP hw hK hc i pins s σ H E I hf st hg;subst hP hw hK;obtain⟨xs,hq,hx⟩:=hg;obtain⟨its,rv,p,hz⟩:=I.list hq;obtain⟨⟨old,he⟩,hi⟩:=st;have hl:=rv.length;exact wpAny_pyNext_enum_end (I.ok.hd hc) he hi p.isList (by simp;lia) λh' eb=>⟨acg,I.p7 (t':=s.toks) hf (λb o hb e=>eb b o (λz=>hb (by simp[z])) e)⟩
 self:=λ_ _ _ _ _ st h=>by
  obtain⟨⟨old,he⟩,_⟩:=st;exact wpAny_pyIter_enum he h
section
variable{X:Cx}
noncomputable def abm(K:PySem.W.Frag)(ta:TA):TI:=λσ H R=>ta σ H λvs H1=>∃l xs,vs=[.ref l]/\bI K H1 l xs/\R (Ite K l) H1
theorem Dk:bootBuiltins "enumerate" = some (.type "enumerate"):=by kernel_rfl
theorem Pj{K:PySem.W.Frag}{a:Expr}{ta:TA}{p pos:Pos}{elts:List Expr}{x1:Nat}{tpos:Pos}(hK:X.K=K)(hg:Gl X "enumerate")(hm:X.mg "enumerate" = none)(ha:PA X [a] ta)(hs:starEach [a] X.env=[(false,eval a X.env)]:=by rfl):PI X (.Tuple elts x1 tpos) (.Call (.Name "enumerate" p) [a] [] pos) (abm K ta):=by
 subst hK;intro pins s σ H R I h;refine Call_ (nQ I hg hm Dk (PyProof.Rows.callWith_type1 (dG (ha pos pins s σ H _ I h) λus s1 ⟨vs,H1,I1,r1,q1⟩=>?_) hs rfl));obtain⟨l,xs,e,hq,q⟩:=q1;subst e;cases r1 with
 | cons r rr=>
   cases rr;cases r;obtain⟨its,rv,pl,hz⟩:=I1.list hq;refine call_enumerate_list pl.isList λh' hE hI hsz hk=>?_;refine wpAny_pyIter_enum hE ?_;have I2:Inv X pins σ H1 {s1 with heap:=h'}:=I1.kept (t':=s1.toks) hk;refine⟨s1.heap.objs.size+1,[s1.heap.objs.size+1,s1.heap.objs.size],_,_,H1,acg,I2,KJ l _ _ (by simp),⟨⟨_,hE⟩,hI⟩,λb hb=>?_,q⟩;have hb':b=s1.heap.objs.size+1\/b=s1.heap.objs.size:=by simpa using hb
   rcases hb' with rfl|rfl
   .exact I1.yF (Nat.le_succ _) (I1.hok.fresh (Nat.le_succ _))
   .exact I1.yF (aaj _) (I1.hok.fresh (aaj _))
end
noncomputable def Itz(K:PySem.W.Frag)(l1 l2:Addr):It:=
 ⟨λi H=>∃xs ys x y,bI K H l1 xs/\bI K H l2 ys/\xs[i]? = some x/\ys[i]? = some y,
  λi H x H'=>∃(p:Addr) (y z:V),x = .ref p/\H p=none/\(∀xs,bI K H l1 xs->xs[i]? = some y)/\(∀ys,bI K H l2 ys->ys[i]? = some z)/\H'=upd H p (.tup [y,z]),
  λi H=>∃xs ys,bI K H l1 xs/\bI K H l2 ys/\(xs.length<=i\/ys.length<=i)⟩
theorem Nz{P:Program}{w:World}{K:PySem.W.Frag}{elts:List Expr}{x1:Nat}{pos:Pos}(z TI TO i1 i2 l1 l2:Addr)(ap:ZipApart z TI TO i1 i2 l1 l2):Turn P w K (.Tuple elts x1 pos) (Itz K l1 l2) [z,TI,TO,i1,i2] z
 (λi h=>IsZip h z TI TO .none/\IsPair h TI (.ref i1) (.ref i2)/\(∃a b,IsPair h TO a b)/\h.IsListIter i1 l1 i/\h.IsListIter i2 l2 i) where
 mem:=by simp
 obj:=λi h st b hb=>by
  obtain⟨hz,hTI,⟨a,c,hTO⟩,⟨o1,h1,c1,d1⟩,⟨o2,h2,c2,d2⟩⟩:=st;have hb':b=z\/b=TI\/b=TO\/b=i1\/b=i2:=by simpa using hb
  rcases hb' with rfl|rfl|rfl|rfl|rfl
  .exact⟨_,hz,λv z=>by cases z⟩
  .exact⟨_,hTI,λv z=>by cases z⟩
  .exact⟨_,hTO,λv z=>by cases z⟩
  .exact⟨_,h1,λv z=>by rw[d1] at z;cases z⟩
  .exact⟨_,h2,λv z=>by rw[d2] at z;cases z⟩
 keep:=λi h h' st k=>by
  obtain⟨hz,hTI,⟨a,c,hTO⟩,⟨o1,h1,c1,d1⟩,⟨o2,h2,c2,d2⟩⟩:=st;exact⟨k z (by simp) _ hz,k TI (by simp) _ hTI,⟨a,c,k TO (by simp) _ hTO⟩,⟨o1,k i1 (by simp) _ h1,c1,d1⟩,⟨o2,k i2 (by simp) _ h2,c2,d2⟩⟩
 item:=by
  intro X hP hw hK hc i pins s σ H E I hf st hg;subst hP hw hK;obtain⟨xs,ys,x,y,hq1,hq2,hx,hy⟩:=hg;obtain⟨Fw,Tw,p1,hz1⟩:=I.list hq1;obtain⟨its2,Wh,p2,hz2⟩:=I.list hq2;obtain⟨u1,hu1,ru1⟩:=Tw.get hx;obtain⟨u2,hu2,ru2⟩:=Wh.get hy;obtain⟨hz,hTI,⟨a,c,hTO⟩,hi1,hi2⟩:=st;have Z2:=aai hz;have ZK:=aai hTI;have ZJ:=aai hTO;have Y6:i1<s.heap.objs.size:=by obtain⟨o,ho,_⟩:=id hi1;exact aai ho
  have Y5:i2<s.heap.objs.size:=by obtain⟨o,ho,_⟩:=id hi2;exact aai ho
  refine wpAny_pyNext_zip_item ap hz hTI hTO hi1 hi2 p1.isList p2.isList (x:=u1) (y:=u2) (by simpa using hu1) (by simpa using hu2) λh' hz' Za Y_ hi2' hnew hsz hk=>?_;refine⟨_,acg, ?_⟩;refine wpAny_letOwnedTupleGo_zip hz' λh2 Y7 sb=>?_;have hfr:H s.heap.objs.size=none:=I.hok.fresh (aaj _)
  have I0:Inv X pins σ (upd H s.heap.objs.size (.tup [x,y])) {s with heap:=s.heap.push {cls:= .type "tuple",data:= .seq #[u1,u2]}}:=
   I.laid (t':=s.toks) (λb u e=>aag _ e) (aaj _) ⟨by show 2<=sizeLine;decide,[u1,u2],.cons ru1 (.cons ru2 .nil),⟨_,aah _ rfl,acg,_,acg⟩⟩
  have WM:∀b∈[z,TI,TO,i1,i2],pY X pins (upd H s.heap.objs.size (.tup [x,y])) b:=λb hb=>by
   refine(hf b hb).upd ?_;have hb':b=z\/b=TI\/b=TO\/b=i1\/b=i2:=by simpa using hb
   rcases hb' with rfl|rfl|rfl|rfl|rfl
   .exact aaP Z2
   .exact aaP ZK
   .exact aaP ZJ
   .exact aaP Y6
   .exact aaP Y5
  have I1:=I0.p7 (h':=h2) (t':=s.toks) WM (λb o hb eb=>by
   have b1:b≠z:=λe=>hb (by simp[e]);have b2:b≠TO:=λe=>hb (by simp[e]);have b3:b≠i1:=λe=>hb (by simp[e]);have b4:b≠i2:=λe=>hb (by simp[e]);rw[sb.2 b b1];rcases yx rfl eb with ⟨rfl,rfl⟩|eb
   .exact hnew
   .exact hk b o b1 b2 b3 b4 eb)
  refine⟨.ref s.heap.objs.size,_,I1,acg,⟨s.heap.objs.size,x,y,acg,hfr,λys hy=>by rw[I.tE hy hq1];exact hx,λys' hy'=>by rw[I.tE hy' hq2];exact hy,acg⟩, ?_,λb hb=>(WM b hb).1⟩;obtain⟨o1,ho1,c1,d1⟩:=Y_;obtain⟨o2,ho2,c2,d2⟩:=hi2';exact⟨Y7,(sb.2 TI ap.TIz).trans (hk TI _ ap.TIz ap.TITO ap.TIi1 ap.TIi2 hTI),⟨_,_,(sb.2 TO ap.TOz).trans Za⟩,⟨o1,(sb.2 i1 ap.i1z).trans ho1,c1,d1⟩,⟨o2,(sb.2 i2 ap.i2z).trans ho2,c2,d2⟩⟩
 done:=by
  intro X hP hw hK hc i pins s σ H E I hf st hg;subst hP hw hK;obtain⟨xs,ys,hq1,hq2,hx⟩:=hg;obtain⟨Fw,Tw,p1,hz1⟩:=I.list hq1;obtain⟨its2,Wh,p2,hz2⟩:=I.list hq2;obtain⟨hz,hTI,⟨a,c,hTO⟩,hi1,hi2⟩:=st;have hl1:=Tw.length;have hl2:=Wh.length;refine wpAny_pyNext_zip_end (I.ok.hd hc) ap hz hTI hTO hi1 hi2 p1.isList p2.isList ?_ λh' eb=>⟨acg,I.p7 (t':=s.toks) hf (λb o hb e=>eb b o (λz=>hb (by simp[z])) (λz=>hb (by simp[z])) (λz=>hb (by simp[z])) (λz=>hb (by simp[z])) e)⟩;rcases hx with hx|hx
  .exact .inl (by simp;lia)
  .exact .inr (by simp;lia)
 self:=λ_ _ _ _ _ st h=>wpAny_pyIter_zip st.1 h
section
variable{X:Cx}
end
section
variable{K:PySem.W.Frag}{a l1 l2 D:Addr}{xs ys:List V}{g:TG}{tc:TT}{te:TE}{Q:VK}{σ0:St}{H1:Hp}
theorem Rh{n:Nat}(hn1:xs.length=n)(hn2:ys.length=n)(Pv:Nat->St->Hp->Prop)(h0:Pv 0 σ0 (upd H1 D (.lst [])))(hl:∀i σ H,i<=n->Pv i σ H->bI K H l1 xs/\bI K H l2 ys)(hs:∀i x y σ H p,xs[i]? = some x->ys[i]? = some y->Pv i σ H->H p=none->g (.ref p) σ (upd H p (.tup [x,y])) λσ2 H2=>tc σ2 H2 λb H3=>
   if b=true then te σ2 H3 λy H4=>∃acc,H4 D=some (.lst acc)/\acc.length<sizeLine/\Pv (i+1) σ2 (upd H4 D (.lst (acc++[y]))) else Pv (i+1) σ2 H3)(hd:∀σ H,Pv n σ H->Q (.ref D) H):fK (Itz K l1 l2) g tc te Q D σ0 H1:=by
 refine⟨λi m σ H=>m=n - i/\i<=n/\Pv i σ H,⟨n,by simp,Nat.zero_le _,h0⟩, ?_⟩;rintro i m σ H ⟨rfl,hi,p⟩;obtain⟨q1,q2⟩:=hl i σ H hi p
 by_cases hlt:i<n
 .refine .inr ⟨⟨xs,ys,xs[i],ys[i],q1,q2,by simp[hn1,hlt],by simp[hn2,hlt]⟩,Pv (i+1),λσ' H' p'=>⟨n - (i+1),by lia,acg,hlt,p'⟩,λx H' y=>?_⟩
  obtain⟨t,z,u,rfl,ht,hz,hu,rfl⟩:=y;exact hs i z u σ _ t (hz xs q1) (hu ys q2) p ht
 .have e:i=n:=by lia
  subst e;exact .inl ⟨⟨xs,ys,q1,q2,.inl (by lia)⟩,hd σ H p⟩
end
section
variable{K:PySem.W.Frag}{a l1 l2:Addr}{xs ys:List V}{g:TG}{tb:TS}{D:Ends}{σ:St}{H:Hp}
theorem QK(Pv:Nat->St->Hp->Prop)(h0:Pv 0 σ H)(hl:∀i σ H,i<=xs.length->Pv i σ H->bI K H a xs)(hs:∀i x σ H p,xs[i]? = some x->Pv i σ H->H p=none->g (.ref p) σ (upd H p (.tup [.int i,x])) λσ2 H2=>tb {D with nx:=Pv (i+1),ct:=Pv (i+1),bk:=D.nx} σ2 H2)(hd:∀σ H,Pv xs.length σ H->D.nx σ H):
 ∃W:Nat->Nat->St->Hp->Prop,(∃m,W 0 m σ H) /\ ∀i m σ H,W i m σ H ->
  ((Ite K a).stop i H/\D.nx σ H)\/((Ite K a).go i H /\ ∃N:St->Hp->Prop,(∀σ' H',N σ' H' -> ∃m',m'<m/\W (i+1) m' σ' H') /\ ∀x H',(Ite K a).W8 i H x H'->g x σ H' λσ2 H2=>tb {D with nx:=N,ct:=N,bk:=D.nx} σ2 H2):=by
 refine⟨λi m σ H=>m=xs.length - i/\i<=xs.length/\Pv i σ H,⟨xs.length,by simp,Nat.zero_le _,h0⟩, ?_⟩;rintro i m σ H ⟨rfl,hi,p⟩;have q:=hl i σ H hi p
 by_cases hlt:i<xs.length
 .refine .inr ⟨⟨xs,xs[i],q,by simp[hlt]⟩,Pv (i+1),λσ' H' p'=>⟨xs.length - (i+1),by lia,acg,hlt,p'⟩,λx H' y=>?_⟩
  obtain⟨t,z,rfl,ht,hz,rfl⟩:=y;exact hs i z σ _ t (hz xs q) p ht
 .have e:i=xs.length:=by lia
  subst e;exact .inl ⟨⟨xs,q,aaj _⟩,hd σ H p⟩
end
section
variable{X:Cx}
theorem DX:∀{ns:List Int}{us:List Value},Vals (ns.map V.int) us->IntsAre us ns
 | [],us,r=>by cases r;exact .nil
 | n::ns,us,r=>by
   cases r with
   | cons r rs=>
     obtain⟨t,rfl⟩:=r;exact .cons n t (DX rs)
noncomputable def T_:V->List V->Hp->VK->Prop:=λx vs H Q=>∃(l:Addr) (ns:List Int) (i:Int),x = .ref l/\vs=[.int i]/\bI X.K H l (ns.map V.int)/\Q (.int (ns.count i)) H
theorem Qo:ZS X "list.count" (T_ (X:=X)):=by
 intro pins s σ H x vs v us Q I rx rv h;obtain⟨l,ns,i,rfl,rfl,hq,q⟩:=h;cases rx;obtain⟨u,rfl,ru⟩:=rv.one;obtain⟨t,rfl⟩:=ru;obtain⟨its,r',pl,hz⟩:=I.list hq;exact count_list_ints pl.isList (DX r') ⟨.int _,H,I.tok _,⟨_,acg⟩,q⟩
theorem q_{K:PySem.W.Frag}{T name id:String}{r:V->List V->Hp->VK->Prop}{o e:Expr}{es:List Expr}{to:TE}{t:TA}{apos cpos:Pos}(h:X.K=K)(pa:PlainAttrs T)(slot:Slot T name id)(hty:typeOf (.builtin id)=pure (.type "method_descriptor"))(hm:ZS X id r)(ho:PE X o to)(ha:PA X (e::es) t)(hbase:attributeBase o name X.env (eval o X.env)=eval o X.env:=by rfl)(hfew:((backTo cpos (starEach (e::es) X.env)).all (λx=> !x.1)&&(backToKw cpos (keywordEach [] X.env)).all (λx=>x.1.isSome)
   && decide ((e::es).length+([]:List Keyword).length+(if ([]:List Keyword).isEmpty then 0 else 1)<30))=true:=by rfl)(hline:(apos.endLine==cpos.line)=true:=by rfl)(hs:starEach (e::es) X.env=(false,eval e X.env)::starEach es X.env:=by rfl)(hplain:(backTo cpos (starEach es X.env)).any (·.1)=false:=by rfl):
 PE X (.Call (.Attribute o name apos) (e::es) [] cpos) (V7 K T r to t):=by
 subst h;exact Wo pa slot hty hm ho ha hbase hfew hline hs hplain
noncomputable def Ho(K:PySem.W.Frag):V->List V->Hp->VK->Prop:=λx vs H Q=>∃(l:Addr) (ns:List Int) (i:Int),x = .ref l/\vs=[.int i]/\bI K H l (ns.map V.int)/\Q (.int (ns.count i)) H
theorem ql{K:PySem.W.Frag}(h:X.K=K):ZS X "list.count" (Ho K):=by subst h;exact Qo
theorem Ce{K:PySem.W.Frag}{es:List Expr}{k:Nat}{t:WY}{n:Nat}{pos:Pos}(hK:X.K=K)(hc:X.calm=true)(h:PGs X es t)(hn:(assignEach es X.env).length=n:=by rfl)(hst:(assignEach es X.env).findIdx? (·.1)=none:=by rfl):PG X (.Tuple es k pos) (Vm K n t):=by subst hK;exact Yc hc h hn hst
end
end L2
namespace L2
open PySem
section
variable{K:PySem.W.Frag}{a D:Addr}{xs:List V}{tc:TT}{te:TE}{Q:VK}{rest:St}{H1:Hp}
theorem dJ{α:Type}(f:Nat->Option α)(n:Nat):(List.range (n+1)).filterMap f=(List.range n).filterMap f++(f n).toList:=by
 rw[List.range_succ,List.filterMap_append];cases h:f n<;>simp[h]
theorem rG{α:Type}(f:Nat->Option α)(n:Nat):((List.range n).filterMap f).length<=n:=by
 have:=List.length_filterMap_le f (List.range n);simpa using this
theorem Same.newly{H H1:Hp}{D:Addr}{o:HO}(h:Same H H1)(n:H D=none):Same H (upd H1 D o):=λb u e=>by rw[aF (aB e n)];exact h b u e
theorem pN(f:Nat->Option V)(hD:H1 D=none)(hq:bI K H1 a xs)(hx:xs.length<=100000)(hs:∀i x H (G:Hp->Prop) (F:VK),xs[i]? = some x->Same H1 H->(∀H',Same H H'->f i=none->G H')->(∀y H',Same H H'->f i=some y->F y H')->tc (some x::rest) H λb H3=>if b=true then te (some x::rest) H3 F else G H3)(hd:∀H,Same H1 H->H D=some (.lst ((List.range xs.length).filterMap f))->Q (.ref D) H):fK (RL K a) (cN 0) tc te Q D (none::rest) H1:=by
 refine gA (K:=K) (xs:=xs) (λi σ H=>(∃v,σ=v::rest)/\Same H1 H/\H D=some (.lst ((List.range i).filterMap f))) ⟨⟨none,acg⟩,aG hD,ak⟩ (λi σ H _ ⟨_,sm,_⟩=>sm.sqL _ _ hq) ?_ (λσ H ⟨_,sm,e⟩=>hd H sm e);rintro i x σ H hi ⟨⟨v,rfl⟩,sm,e⟩;have hil:i<xs.length:=(aae.mp hi).1;refine hs i x H _ _ hi sm (λH3 s3 ef=>⟨⟨_,acg⟩,sm.trans s3,by rw[s3 _ _ e,dJ,ef];simp⟩) (λy H4 s4 ef=>?_);refine⟨_,s4 _ _ e, ?_,⟨_,acg⟩,(sm.trans s4).newly hD, ?_⟩
 .have:=rG f i
  rw[sizeLine_eq];lia
 .rw[ak,dJ,ef];rfl
theorem Mu(f:Nat->Option V)(hD:H1 D=none)(hq:H1 a=some (.tup xs))(hx:xs.length<=100000)(hs:∀i x H (G:Hp->Prop) (F:VK),xs[i]? = some x->Same H1 H->(∀H',Same H H'->f i=none->G H')->(∀y H',Same H H'->f i=some y->F y H')->tc (some x::rest) H λb H3=>if b=true then te (some x::rest) H3 F else G H3)(hd:∀H,Same H1 H->H D=some (.lst ((List.range xs.length).filterMap f))->Q (.ref D) H):fK (Itt K a) (cN 0) tc te Q D (none::rest) H1:=by
 refine Ri (K:=K) (xs:=xs) (λi σ H=>(∃v,σ=v::rest)/\Same H1 H/\H D=some (.lst ((List.range i).filterMap f))) ⟨⟨none,acg⟩,aG hD,ak⟩ (λi σ H _ ⟨_,sm,_⟩=>cD.of (sm.tups _ _ hq)) ?_ (λσ H ⟨_,sm,e⟩=>hd H sm e);rintro i x σ H hi ⟨⟨v,rfl⟩,sm,e⟩;have hil:i<xs.length:=(aae.mp hi).1;refine hs i x H _ _ hi sm (λH3 s3 ef=>⟨⟨_,acg⟩,sm.trans s3,by rw[s3 _ _ e,dJ,ef];simp⟩) (λy H4 s4 ef=>?_);refine⟨_,s4 _ _ e, ?_,⟨_,acg⟩,(sm.trans s4).newly hD, ?_⟩
 .have:=rG f i
  rw[sizeLine_eq];lia
 .rw[ak,dJ,ef];rfl
theorem qm{n:Nat}(f:Nat->Option V)(hD:H1 D=none)(hx:n<=100000)(hs:∀i H (G:Hp->Prop) (F:VK),i<n->Same H1 H->(∀H',Same H H'->f i=none->G H')->(∀y H',Same H H'->f i=some y->F y H')->tc (some (.int (0+i))::rest) H λb H3=>if b=true then te (some (.int (0+i))::rest) H3 F else G H3)(hd:∀H,Same H1 H->H D=some (.lst ((List.range n).filterMap f))->Q (.ref D) H):fK (RK 0 n) (cN 0) tc te Q D (none::rest) H1:=by
 refine gj (lo:=0) (n:=n) (λi σ H=>(∃v,σ=v::rest)/\Same H1 H/\H D=some (.lst ((List.range i).filterMap f))) ⟨⟨none,acg⟩,aG hD,ak⟩ ?_ (λσ H ⟨_,sm,e⟩=>hd H sm e);rintro i σ H hi ⟨⟨v,rfl⟩,sm,e⟩;refine hs i H _ _ hi sm (λH3 s3 ef=>⟨⟨_,acg⟩,sm.trans s3,by rw[s3 _ _ e,dJ,ef];simp⟩) (λy H4 s4 ef=>?_);refine⟨_,s4 _ _ e, ?_,⟨_,acg⟩,(sm.trans s4).newly hD, ?_⟩
 .have:=rG f i
  rw[sizeLine_eq];lia
 .rw[ak,dJ,ef];rfl
theorem Mt{l1 l2:Addr}{ys:List V}{n:Nat}(hn1:xs.length=n)(hn2:ys.length=n)(f:Nat->Option V)(hD:H1 D=none)(hq1:bI K H1 l1 xs)(hq2:bI K H1 l2 ys)(hx:n<=100000)(hs:∀i x y H (G:Hp->Prop) (F:VK),xs[i]? = some x->ys[i]? = some y->Same H1 H->(∀H',Same H H'->f i=none->G H')->(∀y H',Same H H'->f i=some y->F y H')->tc (some x::some y::rest) H λb H3=>if b=true then te (some x::some y::rest) H3 F else G H3)(hd:∀H,Same H1 H->H D=some (.lst ((List.range n).filterMap f))->Q (.ref D) H):fK (Itz K l1 l2) (Vm K 2 (FN (cN 0) (FN (cN 1) Ze))) tc te Q D (none::none::rest) H1:=by
 refine Rh (K:=K) (xs:=xs) (ys:=ys) hn1 hn2 (λi σ H=>(∃u v,σ=u::v::rest)/\Same H1 H/\H D=some (.lst ((List.range i).filterMap f))) ⟨⟨none,none,acg⟩,aG hD,ak⟩ (λi σ H _ ⟨_,sm,_⟩=>⟨sm.sqL _ _ hq1,sm.sqL _ _ hq2⟩) ?_ (λσ H ⟨_,sm,e⟩=>hd H sm e);rintro i x y σ H p hix hiy ⟨⟨u,v,rfl⟩,sm,e⟩ hp;have sp:=aG (o:=HO.tup [x,y]) hp;refine⟨p,[x,y],acg,cD.of ak,acg,_,_,acg,_,_,acg,acg, ?_⟩;have hil:i<xs.length:=(aae.mp hix).1;refine hs i x y _ _ _ hix hiy (sm.trans sp) (λH3 s3 ef=>⟨⟨_,_,acg⟩,(sm.trans sp).trans s3,by rw[s3 _ _ (sp _ _ e),dJ,ef];simp⟩) (λy H4 s4 ef=>?_);refine⟨_,s4 _ _ (sp _ _ e), ?_,⟨_,_,acg⟩,((sm.trans sp).trans s4).newly hD, ?_⟩
 .have:=rG f i
  rw[sizeLine_eq];lia
 .rw[ak,dJ,ef];rfl
theorem FQ{α β:Type}{f g:α->Option β}:∀(l:List α)(_:True)(h:∀x∈l,f x=g x),l.filterMap f=l.filterMap g
 | [],_,_=>rfl
 | x::l,_,h=>by
   rw[List.filterMap_cons,List.filterMap_cons,h x (by simp),FQ l trivial λy hy=>h y (by simp[hy])]
theorem snocInd{α:Type}{P:List α->Prop}(h0:P [])(hs:∀xs x,P xs->P (xs++[x]))(xs:List α):P xs:=by
 rw[←List.reverse_reverse xs]
 induction xs.reverse with
 | nil=>exact h0
 | cons x l ih=>rw[List.reverse_cons];exact hs _ _ ih
theorem J9{α β:Type}(xs:List α)(g:α->β):(List.range xs.length).filterMap (λi=>(xs[i]?).map g)=xs.map g:=by
 refine snocInd (P:=λxs=>(List.range xs.length).filterMap (λi=>(xs[i]?).map g)=xs.map g) rfl (λxs x ih=>?_) xs
 .show (List.range (xs++[x]).length).filterMap (λi=>((xs++[x])[i]?).map g)=(xs++[x]).map g
  rw[aaD,List.length_singleton,dJ,aa3];congr 1
  .rw[←ih]
   refine FQ _ trivial λi hi=>?_;have:i<xs.length:=by simpa using hi
   rw[aaO this]
  .simp
end
section
variable{X:Cx}{K:PySem.W.Frag}
end
theorem sE{a b:TS}{D:Ends}{σ:St}{H:Hp}(h:∀R:St->Hp->Prop,(∀σ' H',b D σ' H'->R σ' H')->a {D with nx:=R} σ H):GQ a b D σ H:=h _ (λ_ _ x=>x)
theorem Bw{a b:TS}{D:Ends}{σ:St}{H:Hp}(P:St->Hp->Prop)(h1:∀D':Ends,(∀σ' H',P σ' H'->D'.nx σ' H')->D'.rt=D.rt->a D' σ H)(h2:∀σ' H',P σ' H'->b D σ' H'):GQ a b D σ H:=h1 _ h2 rfl
end L2
namespace L2
open PySem PySem.Spec PyProof.Rows
section
variable{X:Cx}{K:PySem.W.Frag}{a:Expr}{ta:TE}{pos:Pos}
noncomputable def adB(K:PySem.W.Frag)(ta:TE):TT:=λσ H Q=>ta σ H λx H'=>∃k,ZG K x H' k/\Q k H'
theorem zY(h:X.K=K)(ha:PE X a ta)(he:∀whole,isTrue a X.env whole=(do let v ←whole;standAt a.pos;holding [v] (truthy v)):=by intro _;rfl):PT X a (adB K ta):=by
 subst h;exact O8 ha he
end
section
variable{X:Cx}{K:PySem.W.Frag}
noncomputable def aaT:R2:=λx y H Q=>∃a b,x = .bl a/\y = .bl b/\Q (.bl (!(a==b))) H
theorem JQ:qx X (compareOp .IsNot) aaT:=by
 intro pins s σ H x y v u Q I rx ry h;obtain⟨a,b,rfl,rfl,q⟩:=h;cases rx;cases ry;exact isnot_bool (cF I q rfl)
theorem wg{T name id:String}{r:V->List V->Hp->VK->Prop}{o:Expr}{to:TE}{apos cpos:Pos}(h:X.K=K)(pa:PlainAttrs T)(slot:Slot T name id)(hty:typeOf (.builtin id)=pure (.type "method_descriptor"))(hm:ZS X id r)(ho:PE X o to)(hbase:attributeBase o name X.env (eval o X.env)=eval o X.env:=by rfl)(hline:(apos.endLine==cpos.line)=true:=by rfl):PE X (.Call (.Attribute o name apos) [] [] cpos) (Xw K T r to):=by
 subst h;exact Yh pa slot hty hm ho hbase hline
end
section
variable{K:PySem.W.Frag}{a D:Addr}{xs:List V}{te:TE}{Q:VK}{rest:St}{H1:Hp}
theorem fM{H:Hp}{vs:List V}{ds:List PyData}{v:V}{d:PyData}(h:aQ H vs ds)(hd:Dat H v d):aQ H (vs++[v]) (ds++[d]):=aQ.append h (by simp only[aQ,and_true];exact hd)
end
end L2
namespace L2
open PySem
noncomputable def Gv(mg:Str->Option Value)(x:Str)(v:V):Prop:=∃u,mg x=some u/\RelV v u
end L2
namespace L2
open PySem PySem.Spec PyProof.Rows
section
variable{prog:Program}{w:World}{K:Type}[DecidableEq K]{knd:HeapKind prog w K}
theorem IK{xs:List (K×Addr×Value)}{k:K}(h:∀(j:Nat)(p:Addr×Value),xs[j]? ≠ some (k,p)):atKey xs k=none:=by
 unfold atKey;rw[Option.map_eq_none_iff,List.find?_eq_none];intro x hx e;obtain⟨j,hj⟩:=List.getElem?_of_mem hx;have e':x.1=k:=aaw e;exact h j x.2 (by rw[hj,←e'])
theorem Iz{xs:List (K×Addr×Value)}{k:K}{j:Nat}{p:Addr×Value}(hn:(xs.map (·.1)).Nodup)(h:xs[j]? = some (k,p)):atKey xs k=some p:=by
 unfold atKey
 induction xs generalizing j with
 | nil=>cases h
 | cons x xs ih=>
   rw[List.find?_cons];cases j with
   | zero=>
     have:x=(k,p):=by simpa using h
     subst this;simp
   | succ j=>
     have hj:xs[j]? = some (k,p):=by simpa using h
     have hn':=List.nodup_cons.mp (by simpa using hn:(x.1::xs.map (·.1)).Nodup);have ne:¬x.1=k:=λz=>hn'.1 (by rw[z];exact abn.mpr ⟨(k,p),aap hj,acg⟩);rw[aar ne];exact ih hn'.2 hj
theorem qH{A:Around}{E:Value->Shared->Prop}{s:Shared}{d a:Addr}{xs:List (K×Addr×Value)}{k:K}{dflt:Value}{Q:Value->Shared->Prop}(hr:knd.room A)(hk:knd.is s.heap k a)(dd:Heap.DictOfH knd s.heap d xs)(hz:xs.length<=sizeLine)(h1:∀p,atKey xs k=some p->Q p.2 {s with toks:=s.toks+knd.draws k})(h2:atKey xs k=none -> ∀h',Heap.DictOfH knd h' d (xs++[(k,a,dflt)])->Heap.SameBut d s.heap h'->Q dflt {s with heap:=h',toks:=s.toks+knd.draws k}):
 wpAny (model prog w) A (dictSetDefault d (.ref a) dflt) Q E s:=by
 unfold dictSetDefault;refine wpAny_holding (aak (knd.pyHash hr hk ?_));obtain⟨o,es,ep,ho,hx,hd,he,hi,hn⟩:=id dd;have hl:es.size=xs.length:=by rw[←aao,he,aac]
 refine aak (wpAny_dictFind_heap (s:={s with toks:=s.toks+knd.draws k}) hr hk ho hd he hi hn (λhno=>?_) (λj p hj=>?_))
 .refine aak (wpAny_rule ?_)
  have an:=IK hno;refine aak (wpAny_updateDictKeys (s:={s with toks:=s.toks+knd.draws k}) ho hd ?_ (by lia) (by simp));refine aal ?_;have sb:=Heap.SameBut.update s.heap d (Obj.mapDictKeys λx=>x.push {hash:=knd.hash k,key:= .ref a,val:=dflt});refine h2 an _ ?_ sb;obtain⟨oc,od,ah4,osl⟩:=o;simp only at hd;subst hd;refine⟨_,es.push {hash:=knd.hash k,key:= .ref a,val:=dflt},ep+1,Heap.get?_update_self _ ho ?_,hx,acg, ?_, ?_, ?_⟩
  .obtain⟨c1,c2,c3⟩:=hx
   simp only at c1;subst c1;rfl
  .rw[Array.toList_push,he,aa3];rfl
  .intro x hxm
   rcases abb.mp hxm with hxm|hxm
   .exact knd.keeps (hi x hxm) ho rfl sb
   .have:x=(k,a,dflt):=by simpa using hxm
    subst this;exact knd.keeps hk ho rfl sb
  .rw[aa3]
   refine List.nodup_append.mpr ⟨hn,by simp, ?_⟩;intro y hy z hz' e;have:z=k:=by simpa using hz'
   subst this;subst e;obtain⟨x,hx',rfl⟩:=abn.mp hy;obtain⟨j,hj⟩:=List.getElem?_of_mem hx';exact hno j x.2 hj
 .refine aak (wpAny_dictEntries (s:={s with toks:=s.toks+knd.draws k}) ho hd ?_)
  have ej:es[j]? = some (entryOfKey knd (k,p)):=by
   rw[←Array.getElem?_toList,he,aaf,hj];rfl
  rw[ej];exact aak (wpAny_rule (aal (h1 p (Iz hn hj))))
theorem sZ(knd:HeapKind prog w K)(d a:Addr)(hd:(d==sysModules)=false)(dflt:Value):MeetsIn prog w (Builtin.«dict.setdefault» {pos:=[.ref d,.ref a,dflt]}) λA R s=>
 knd.room A.in1 /\ ∃k xs,knd.is s.heap k a/\Heap.DictOfH knd s.heap d xs/\xs.length<=sizeLine/\(∀p,atKey xs k=some p->R (.ok (.ret p.2)) {s with toks:=s.toks+knd.draws k}) /\
  (atKey xs k=none -> ∀h',Heap.DictOfH knd h' d (xs++[(k,a,dflt)])->Heap.SameBut d s.heap h'->R (.ok (.ret dflt)) {s with heap:=h',toks:=s.toks+knd.draws k}):=by
 rintro A R s ⟨hr,k,xs,hk,dd,hz,h1,h2⟩;obtain⟨o,es,ep,ho,hx,hdat,_⟩:=id dd;unfold Builtin.«dict.setdefault»;have ht:s.TypeIs (.ref d) "dict" :=⟨o,ho,hx.1⟩;refine aak ?_;unfold Builtin.Dict.keyAndDefault;refine aak ?_;unfold Builtin.Dict.notOrdered;rw[acd (by decide)];refine aak (wpAny_typeOf ht ?_);rw[ab' (by decide)];refine aal ?_;refine aak ?_;unfold Builtin.Dict.nameIsSure;rw[ab' (by show ¬(false=true);decide)];refine aal ?_;refine aak ?_;unfold selfAndSome noKeywords;refine aak ?_;rw[acd (by rfl)];refine aal ?_;show wpAny (model prog w) A.in1 (checkCount "setdefault" 1 2 2 >>= λ_=>pure (Value.ref d,[Value.ref a,dflt])) _ _ s;refine aak ?_;have ck:checkCount "setdefault" 1 2 2=pure ():=acg;rw[ck];refine aal (aal ?_);show wpAny (model prog w) A.in1 (Builtin.Dict.addrOf (.ref d) >>= λx=>pure (x,Value.ref a,some dflt)) _ _ s;refine aak (aal (aal ?_));show wpAny (model prog w) A.in1 (if (d==sysModules)=true then _ else (dictSetDefault d (.ref a) dflt >>= λv=>ret v)) _ _ s;rw[ab' (by rw[hd];decide)];refine aak (qH hr hk dd hz (λp hp=>aal (h1 p hp)) (λhn h' dd' sb=>aal (h2 hn h' dd' sb)))
end
section
variable{X:Cx}{o e f:Expr}{td ty tx:TE}{apos cpos:Pos}
noncomputable def Xm(td ty tx:TE):TE:=λσ H Q=>td σ H λx H1=>∃a,x = .ref a/\IsD H1 a/\ty σ H1 λy H2=>tx σ H2 λz H3=>∃kvs k b,H3 a=some (.dT kvs)/\y = .ref b/\H3 b=some (.tup (k.map kV))/\kvs.length<sizeLine /\
 (∀v,fH kvs k=some v->Q v H3)/\(fH kvs k=none->Q z (upd H3 a (.dT (putK kvs k z))))
theorem Pr(hu:X.A.units+1<cLine)(ho:PE X o td)(he:PE X e ty)(hf:PE X f tx)(m:M2 X o "setdefault" apos e f cpos):PE X (.Call (.Attribute o "setdefault" apos) [e,f] [] cpos) (Xm td ty tx):=by
 intro pins s σ H Q I h;refine wpAny_Call_method m.base m.few m.line PySem.F.plainAttrs_dict PySem.F.slot_dict_setdefault PySem.F.type_dict_setdefault (dG (ho pins s σ H _ I h) λu s1 gO=>?_);obtain⟨x,H1,I1,rx,a,ex,d,q1⟩:=gO;subst ex;obtain rfl:u=Value.ref a:=rx;obtain⟨t1,t2,_⟩:=Qz I1 d;refine⟨t1,t2, ?_⟩;rw[m.trees]
 refine Calls.callWith_builtin rfl (Calls.evalArgs_plain (Calls.spliced_cons (dG (he pins s1 σ H1 _ I1 q1) λiv s2 ⟨y,H2,I2,ry,q2⟩=>
  Calls.spliced_cons (dG (hf pins s2 σ H2 _ I2 q2) λfv s3 ⟨z,H3,I3,rz,kvs,k,b,ea,ey,eb,hl,q3,q4⟩=>Calls.spliced_nil ?_))))
 subst ey;cases (show iv=Value.ref b from ry);obtain⟨hz,hd,xs,rel,dd⟩:=abG I3.hok ea;have hz':xs.length<=sizeLine:=by rw[←Paired.length rel];exact hz
 have rv:=rel.val k;refine call_meetsIn PySem.F.slot_dict_setdefault dd.typeIs PySem.F.entry_dict_setdefault (PySem.F.args_dict_setdefault_3 _ _ _) (sZ (tupleKind (fu X.prog X.w)) a b hd fv) ⟨tupleKind_room_in1 hu,k,xs,HX I3.hok eb,dd,hz',λp hp=>?_,λhn h' dd' sb=>?_⟩
 .rw[hp] at rv
  cases lv:fH kvs k with
  | none=>rw[lv] at rv;exact ace rv (by simp[oH])
  | some v=>
    rw[lv] at rv;exact⟨v,H3,I3.tok _,rv,q3 v lv⟩
 .rw[hn] at rv
  have lv:fH kvs k=none:=by
   cases lv:fH kvs k with
   | none=>rfl
   | some v=>rw[lv] at rv;exact ace rv (by simp[oH])
  have hl':(putK kvs k z).length<=sizeLine:=by have:=vA kvs k z;lia
  obtain⟨q,es,ep,hq,h2,h3,h4,_,h5⟩:=dd';have est:storedH xs k b fv=xs++[(k,b,fv)]:=by unfold storedH;rw[hn];rfl
  have rp:=rel.put k eb rz;rw[est] at rp;refine⟨z,upd H3 a (.dT (putK kvs k z)),Vy (ob:= .dT (putK kvs k z)) I3 (by rw[ea];exact True.intro) sb ⟨q,hq⟩ ⟨hl',hd,_,rp.keeps λc ys ec=>?_,q,es,ep,hq,h2,h3,h4,h5⟩,rz,q4 lv⟩;rw[aF (dg ec ea (λz=>nomatch z))];exact ec
end
section
variable{X:Cx}{K:PySem.W.Frag}
noncomputable def aaW(K:PySem.W.Frag):V->V->Hp->VK->Prop:=λx y H Q=>∃p xs i v,x = .ref p/\y = .int i/\bI K H p xs/\0<=i/\xs[i.toNat]? = some v/\Q v H
theorem Hs(h:X.K=K):ab1 X (aaW K):=by
 subst h;intro pins s σ H o i ov iv Q I ro ri h;obtain⟨p,xs,k,v,rfl,rfl,hq,k0,he,q⟩:=h;cases ro;obtain⟨t,rfl⟩:=ri;obtain⟨its,r,pl,hz⟩:=I.list hq;obtain⟨w,ew,rw'⟩:=r.get he;have hl:=r.length;have hn:=rA;have:k.toNat<xs.length:=(aae.mp he).1;exact getItem_listL pl.isList k0 (by lia) ew ⟨v,H,I,rw',q⟩
end
end L2
namespace L2
open PySem
theorem FZ{K:PySem.W.Frag}{T:String}{r:V->List V->Hp->VK->Prop}{to:TE}{t:TA}{D:Ends}{σ:St}{H:Hp}(P:V->Hp->Prop)(h1:∀Q':VK,(∀v H',P v H'->Q' v H')->to σ H Q')(h2:∀v H',P v H'->tyV K T v H'/\t σ H' λxs H2=>r v xs H2 λ_ H3=>D.nx σ H3):Ec (V7 K T r to t) D σ H:=h1 _ h2
end L2
namespace L2
open PySem PySem.Spec PyProof.Rows
section
variable{X:Cx}{K:PySem.W.Frag}
end
noncomputable def cat:List Str->Str
 | []=>Str.empty
 | x::xs=>x++cat xs
section
variable{X:Cx}{body suite:List Stmt}{b0:Stmt}{cn:Str}{Dc:Addr}{tb:(St->XK)->TS}{th:TS}{cp hpos pos:Pos}
end
section
variable{X:Cx}
noncomputable def ab8(i j:Int):Prop:=0<j/\j<1329227995784915872903807060280344576
theorem Ez:qx X (binaryOp .FloorDiv) (rI ab8 λi j=> .int (i / j)):=opI λi j _ _ _ _ _ hc q=>by
 have h1:(0:Int)<j:=hc.1;have h2:j<1329227995784915872903807060280344576:=hc.2;refine floordiv_int (by lia) (by rw[Int.fdiv_eq_ediv_of_nonneg i (by lia)];exact q) (.inl ?_);unfold Builtin.divisionGoesByPylong;have hn:j.natAbs<2 ^ 120:=by lia
 have hl:j.natAbs.log2<120:=(Nat.log2_lt (by lia)).mpr hn
 have hz:(j==0)=false:=by
  rw[beq_eq_false_iff_ne];lia
 simp only[hz,Bool.false_eq_true,if_false];have:¬j.natAbs.log2 / 30+1>300:=by lia
 rw[aar this,Bool.false_and]
end
section
variable{X:Cx}{pins:List (Addr×Obj)}{σ:St}{H:Hp}{s:Shared}{d:Addr}{u u':HO}
end
section
variable{X:Cx}{tg:Expr}
end
section
variable{d D:Addr}{o:Obj}{kvs:List (Key×V)}{tc:TT}{te:TE}{Q:VK}{rest:St}{H1:Hp}
end
noncomputable def RJ(hi:Int)(n:Nat):It:=⟨λi _=>i<n,λi H x H'=>H'=H/\x = .int (hi - i),λi _=>n<=i⟩
theorem D_{P:Program}{w:World}{K:PySem.W.Frag}{tg:Expr}(it:Addr)(hi:Int)(n:Nat):Turn P w K tg (RJ hi n) [it] it (λi h=>IsRangeIter h it (hi+(i:Nat)*(-1)) ((n:Int) - (i:Nat)) (-1)) where
 mem:=by simp
 obj:=λi h st b hb=>by
  have e:b=it:=by simpa using hb
  subst e
  exact⟨_,st,λv z=>by
   have z':Data.fields _=Data.cell v:=z;cases z'⟩
 keep:=λi h h' st k=>k it (by simp) _ st
 item:=by
  intro X hP hw hK hc i pins s σ H E I hf st hg;subst hP hw hK;obtain⟨f0,f1,f2,f3,f4,f5⟩:=hf it (by simp);have W:=Walks.range (prog:=X.prog) (w:=X.w) (I.ok.hd hc) it hi (-1) n;refine W.item i s _ _ hg st λv h' tk hv st' kk=>?_;obtain⟨t,rfl⟩:=hv;have I1:Inv X pins σ H {s with heap:=h',toks:=tk}:=I.turned (λb o hb e=>kk b o (by simpa using hb) e) f0 f1 f3 f4 f5;refine⟨_,acg,Ai (s:={s with heap:=h',toks:=tk}) (n:= "range_iterator") st' rfl rfl (by decide) ⟨.int (hi - i),H,I1,⟨t, ?_⟩,⟨acg,acg⟩,st',λb hb=>(hf b hb).1⟩⟩;congr 1;lia
 done:=by
  intro X hP hw hK hc i pins s σ H E I hf st hg;subst hP hw hK;obtain⟨f0,f1,f2,f3,f4,f5⟩:=hf it (by simp);exact wpAny_pyNext_range_end (I.ok.hd hc) st (by have:n<=i:=hg;lia) λh' eb=>⟨acg,I.turned (t':=s.toks) (λb o hb e=>eb b o hb e) f0 f1 f3 f4 f5⟩
 self:=λ_ _ _ _ _ st h=>wpAny_pyIter_rangeiter st h
section
variable{X:Cx}{tg:Expr}
theorem Ii{hi:Int}{n:Nat}{g:TG}{tb:TS}{D:Ends}{σ:St}{H:Hp}(Pv:Nat->St->Hp->Prop)(h0:Pv 0 σ H)(hs:∀i σ H,i<n->Pv i σ H->g (.int (hi - i)) σ H λσ2 H2=>tb {D with nx:=Pv (i+1),ct:=Pv (i+1),bk:=D.nx} σ2 H2)(hd:∀σ H,Pv n σ H->D.nx σ H):
 ∃W:Nat->Nat->St->Hp->Prop,(∃m,W 0 m σ H) /\ ∀i m σ H,W i m σ H ->
  ((RJ hi n).stop i H/\D.nx σ H)\/((RJ hi n).go i H /\ ∃N:St->Hp->Prop,(∀σ' H',N σ' H' -> ∃m',m'<m/\W (i+1) m' σ' H') /\ ∀x H',(RJ hi n).W8 i H x H'->g x σ H' λσ2 H2=>tb {D with nx:=N,ct:=N,bk:=D.nx} σ2 H2):=by
 refine⟨λi m σ H=>m=n - i/\i<=n/\Pv i σ H,⟨n,by simp,Nat.zero_le _,h0⟩, ?_⟩;rintro i m σ H ⟨rfl,hi',p⟩
 by_cases hlt:i<n
 .refine .inr ⟨hlt,Pv (i+1),λσ' H' p'=>⟨n - (i+1),by lia,acg,hlt,p'⟩,λx H' y=>?_⟩
  obtain⟨e,y⟩:=y;subst e y;exact hs i σ _ hlt p
 .have e:i=n:=by lia
  subst e;exact .inl ⟨aaj _,hd σ H p⟩
end
section
variable{X:Cx}{tg:Expr}
theorem Gk:bootBuiltins "reversed" = some (.type "reversed"):=by kernel_rfl
end
section
variable{X:Cx}
end
section
variable{H H':Hp}
mutual
theorem Dat.same(k:Same H H'):∀(d:PyData){v:V},Dat H v d->Dat H' v d
 | .none,_,h=>by simp only[Dat] at h ⊢;exact h
 | .bool _,_,h=>by simp only[Dat] at h ⊢;exact h
 | .int _,_,h=>by simp only[Dat] at h ⊢;exact h
 | .str _,_,h=>by simp only[Dat] at h ⊢;exact h
 | .list ds,_,h=>by simp only[Dat] at h ⊢;obtain⟨a,vs,e,q,r⟩:=h;exact⟨a,vs,e,k _ _ q,aQ.same k ds r⟩
 | .tuple ds,_,h=>by simp only[Dat] at h ⊢;obtain⟨a,vs,e,q,r⟩:=h;exact⟨a,vs,e,k _ _ q,aQ.same k ds r⟩
 | .dict _,_,h=>by simp only[Dat] at h
theorem aQ.same(k:Same H H'):∀(ds:List PyData){vs:List V},aQ H vs ds->aQ H' vs ds
 | [],[],_=>by simp only[aQ]
 | d::ds,v::vs,h=>by simp only[aQ] at h ⊢;exact⟨Dat.same k d h.1,aQ.same k ds h.2⟩
 | _::_,[],h=>by simp only[aQ] at h
 | [],_::_,h=>by simp only[aQ] at h
end
end
section
variable{X:Cx}{K:PySem.W.Frag}
theorem pH(K:PySem.W.Frag):PySem.W.kitOne K (.type "tuple") (.type "list")=some false:=by kernel_rfl
theorem j4(K:PySem.W.Frag):PySem.W.kitOne K (.type "list") (.type "tuple")=some false:=by kernel_rfl
end
section
variable{K:PySem.W.Frag}{a D:Addr}{xs:List V}{tc:TT}{te:TE}{Q:VK}{rest:St}{H1:Hp}
theorem Cz{f:Nat->Option PyData}(hf:∀i d,f i=some d->za d=true):∀l:List Nat,pI (l.filterMap f)=true
 | []=>rfl
 | i::l=>by
   rw[List.filterMap_cons];cases e:f i with
   | none=>exact Cz hf l
   | some d=>simp only[pI,hf i d e,Cz hf l,Bool.and_self]
theorem MJ(f:Nat->Option PyData)(hf:∀i d,f i=some d->za d=true)(hD:H1 D=none)(hq:bI K H1 a xs)(hx:xs.length<=100000)(hs:∀i x H (G:Hp->Prop) (F:VK),xs[i]? = some x->Same H1 H->(∀H',Same H H'->f i=none->G H')->(∀y d H',Same H H'->f i=some d->Dat H' y d->F y H')->tc (some x::rest) H λb H3=>if b=true then te (some x::rest) H3 F else G H3)(hd:∀H vs,Same H1 H->H D=some (.lst vs)->aQ H vs ((List.range xs.length).filterMap f)->Q (.ref D) H):fK (RL K a) (cN 0) tc te Q D (none::rest) H1:=by
 refine gA (K:=K) (xs:=xs) (λi σ H=>(∃v,σ=v::rest)/\Same H1 H /\ ∃vs,H D=some (.lst vs)/\aQ H vs ((List.range i).filterMap f)) ⟨⟨none,acg⟩,aG hD,[],ak,by simp[aQ]⟩ (λi σ H _ ⟨_,sm,_⟩=>sm.sqL _ _ hq) ?_ (λσ H ⟨_,sm,vs,e,d⟩=>hd H vs sm e d);rintro i x σ H hi ⟨⟨v,rfl⟩,sm,vs,e,d⟩;have hil:i<xs.length:=(aae.mp hi).1;have im:=Cz hf (List.range i);refine hs i x H _ _ hi sm (λH3 s3 ef=>⟨⟨_,acg⟩,sm.trans s3,vs,s3 _ _ e, ?_⟩) (λy dd H4 s4 ef dy=>?_)
 .rw[dJ,ef]
  simpa using aQ.keep s3.tups _ im d
 .have hl:vs.length<=i:=by rw[d.length];exact rG f i
  have kp:Kp D H4 (upd H4 D (.lst (vs++[y]))):=Kp.set;have tp:=kp.tups (s4 _ _ e);refine⟨vs,s4 _ _ e, ?_,⟨_,acg⟩,(sm.trans s4).newly hD,vs++[y],ak, ?_⟩
  .rw[sizeLine_eq];lia
  .rw[dJ,ef]
   exact fM (aQ.keep (λa xs h=>tp _ _ (s4.tups _ _ h)) _ im d) (Dat.keep tp _ (hf i dd ef) dy)
end
section
variable{X:Cx}
noncomputable def X3:R2:=λx y H Q=>∃a b xs ys,x = .ref a/\y = .ref b/\H a=some (.tup xs)/\H b=some (.tup ys)/\xs.length+ys.length<=sizeLine /\ ∀p H',H' p=some (.tup (xs++ys))->Same H H'->Q (.ref p) H'
theorem Pz:qx X (binaryOp .Add) X3:=by
 intro pins s σ H x y v u Q I rx ry h;obtain⟨a,b,xs,ys,rfl,rfl,ha,hb,hz,q⟩:=h;cases rx;cases ry;obtain⟨its,r1,p1,_⟩:=I.tuple (cD.of ha);obtain⟨its2,r2,p2,_⟩:=I.tuple (cD.of hb)
 by_cases hv:its=[]
 .obtain⟨⟨cls,dd,data,sl⟩,ho,hc,n,hd⟩:=id p1
  obtain⟨⟨cls2,dd2,data2,sl2⟩,ho2,hc2,n2,hd2⟩:=id p2;simp only at hc hd hc2 hd2;subst hc hd hc2 hd2
  exact concat_meets ⟨_,ho,acg⟩ ⟨_,ho2,acg⟩ noFill_tuple_add seq_tuple_add PySem.F.slot_tuple_add PySem.F.entry_tuple_add (PySem.F.args_tuple_add_2 _ _)
   (tuple_addW0 a b its.toArray its2.toArray n n2 dd dd2 sl sl2 (by simp[hv])) ⟨ho,ho2,⟨.ref b,H,I,acg,q b H (by rw[hb,r1.JZ.mp hv];rfl) (Same.refl _)⟩⟩
 refine HT.VD p1 p2 hv (λz=>⟨.ref a,H,I,acg,q a H (by rw[ha,r2.JZ.mp z,List.append_nil]) (Same.refl _)⟩) (λz=>?_) (by rw[←r1.length,←r2.length];exact hz);have fr:=I.hok.fresh (aaj s.heap.objs.size);refine⟨.ref s.heap.objs.size,_,I.laid (t':=s.toks) (o:= .tup (xs++ys)) (λb ob q=>aag _ q) (aaj _) ?_,acg,q _ _ ak (aG fr)⟩;exact⟨by rw[aaD];exact hz,_,r1.append r2,IsTup.new _ _⟩
end
section
variable{X:Cx}{K:PySem.W.Frag}{e st:Expr}{te tk:TE}{pos p2:Pos}
end
section
variable{H:Hp}
mutual
theorem Dat.fn:∀(d e:PyData){v:V},Dat H v d->Dat H v e->d=e
 | .none,e,v,h,g=>by cases e<;>simp only[Dat] at h g<;>first |rfl|(subst h;first |(obtain⟨_,_,z,_⟩:=g;cases z;done)|(cases g;done))
 | .bool _,e,v,h,g=>by cases e<;>simp only[Dat] at h g<;>first |(subst h;first |(injection g with g;rw[g];done)|(obtain⟨_,_,z,_⟩:=g;cases z;done)|(cases g;done))
 | .int _,e,v,h,g=>by cases e<;>simp only[Dat] at h g<;>first |(subst h;first |(injection g with g;rw[g];done)|(obtain⟨_,_,z,_⟩:=g;cases z;done)|(cases g;done))
 | .str _,e,v,h,g=>by cases e<;>simp only[Dat] at h g<;>first |(subst h;first |(injection g with g;rw[g];done)|(obtain⟨_,_,z,_⟩:=g;cases z;done)|(cases g;done))
 | .list ds,.list es,v,h,g=>by
   simp only[Dat] at h g;obtain⟨a,vs,rfl,ha,da⟩:=h;obtain⟨b,ws,e,hb,db⟩:=g;injection e with e
   subst e;rw[ha] at hb;injection hb with hb
   injection hb with hb
   subst hb;rw[aQ.fn ds es da db]
 | .tuple ds,.tuple es,v,h,g=>by
   simp only[Dat] at h g;obtain⟨a,vs,rfl,ha,da⟩:=h;obtain⟨b,ws,e,hb,db⟩:=g;injection e with e
   subst e;rw[ha] at hb;injection hb with hb
   injection hb with hb
   subst hb;rw[aQ.fn ds es da db]
 | .list ds,.tuple es,v,h,g=>by
   simp only[Dat] at h g;obtain⟨a,vs,rfl,ha,da⟩:=h;obtain⟨b,ws,e,hb,db⟩:=g;injection e with e
   subst e;rw[ha] at hb;injection hb with hb
   cases hb
 | .tuple ds,.list es,v,h,g=>by
   simp only[Dat] at h g;obtain⟨a,vs,rfl,ha,da⟩:=h;obtain⟨b,ws,e,hb,db⟩:=g;injection e with e
   subst e;rw[ha] at hb;injection hb with hb
   cases hb
 | .list ds,.none,v,h,g=>by simp only[Dat] at h g;obtain⟨a,vs,rfl,_⟩:=h;cases g
 | .list ds,.bool _,v,h,g=>by simp only[Dat] at h g;obtain⟨a,vs,rfl,_⟩:=h;cases g
 | .list ds,.int _,v,h,g=>by simp only[Dat] at h g;obtain⟨a,vs,rfl,_⟩:=h;cases g
 | .list ds,.str _,v,h,g=>by simp only[Dat] at h g;obtain⟨a,vs,rfl,_⟩:=h;cases g
 | .tuple ds,.none,v,h,g=>by simp only[Dat] at h g;obtain⟨a,vs,rfl,_⟩:=h;cases g
 | .tuple ds,.bool _,v,h,g=>by simp only[Dat] at h g;obtain⟨a,vs,rfl,_⟩:=h;cases g
 | .tuple ds,.int _,v,h,g=>by simp only[Dat] at h g;obtain⟨a,vs,rfl,_⟩:=h;cases g
 | .tuple ds,.str _,v,h,g=>by simp only[Dat] at h g;obtain⟨a,vs,rfl,_⟩:=h;cases g
 | .list ds,.dict _,v,h,g=>by simp only[Dat] at g
 | .tuple ds,.dict _,v,h,g=>by simp only[Dat] at g
 | .dict _,_,v,h,g=>by simp only[Dat] at h
theorem aQ.fn:∀(ds es:List PyData){vs:List V},aQ H vs ds->aQ H vs es->ds=es
 | [],[],_,_,_=>rfl
 | d::ds,e::es,v::vs,h,g=>by
   simp only[aQ] at h g;rw[Dat.fn d e h.1 g.1,aQ.fn ds es h.2 g.2]
 | [],_::_,[],_,g=>by simp only[aQ] at g
 | [],_::_,_::_,h,_=>by simp only[aQ] at h
 | _::_,[],[],h,_=>by simp only[aQ] at h
 | _::_,[],_::_,_,g=>by simp only[aQ] at g
 | _::_,_::_,[],h,_=>by simp only[aQ] at h
end
end
section
variable{X:Cx}
end
section
variable{X:Cx}{K:PySem.W.Frag}{e e1 e2 l:Expr}{te t1 t2 tl:TE}{pos:Pos}{tg:Expr}
end
section
variable{X:Cx}
end
end L2
namespace L2
open PySem PySem.Spec PyProof.Rows PySem.Builtin PySem.Builtin.Str
section
variable{X:Cx}{K:PySem.W.Frag}
noncomputable def Its(x:Str):It:=⟨λi _=>i<x.cps.size,λi H v H'=>H'=H /\ ∃c,x.cps[i]? = some c/\v = .str ⟨#[c]⟩,λi _=>x.cps.size<=i⟩
theorem NK{P:Program}{w:World}{K:PySem.W.Frag}{tg:Expr}(x:Str)(t:Tok)(it:Addr):Turn P w K tg (Its x) [it] it (λi h=>i<=x.cps.size/\(h.IsStrIter it "str_ascii_iterator" x t i\/h.IsStrIter it "str_iterator" x t i)) where
 mem:=by simp
 obj:=λi h st b hb=>by
  have e:b=it:=by simpa using hb
  subst e;rcases st.2 with ⟨o,e,c,d⟩|⟨o,e,c,d⟩
  .exact⟨o,e,λv z=>by rw[d] at z;cases z⟩
  .exact⟨o,e,λv z=>by rw[d] at z;cases z⟩
 keep:=λi h h' st k=>⟨st.1,st.2.imp (λ⟨o,e,r⟩=>⟨o,k it (by simp) o e,r⟩) (λ⟨o,e,r⟩=>⟨o,k it (by simp) o e,r⟩)⟩
 item:=by
  intro X hP hw hK hc i pins s σ H E I hf st hg;subst hP hw hK;have hi:i<x.cps.size:=hg;have hx:x.cps[i]? = some x.cps[i]:=by simp[hi]
  obtain⟨f0,f1,f2,f3,f4,f5⟩:=hf it (by simp);rcases st.2 with st|st
  .refine wpAny_pyNext_ascii_item st hx λh' st' sb=>?_
   have I1:Inv X pins σ H {s with heap:=h',toks:=s.toks+1}:=I.turned (t':=s.toks+1) (λb o hb e=>(sb.2 b hb).trans e) f0 f1 f3 f4 f5;obtain⟨o,e,c,d⟩:=id st';exact⟨_,acg,Ai (s:={s with heap:=h',toks:=s.toks+1}) e c d (by decide) ⟨.str ⟨#[x.cps[i]]⟩,H,I1,⟨_,acg⟩,⟨acg,_,hx,acg⟩,⟨hi,.inl st'⟩,λb hb=>(hf b hb).1⟩⟩
  .refine wpAny_pyNext_wide_item st hx λh' st' sb=>?_
   have I1:Inv X pins σ H {s with heap:=h',toks:=s.toks+1}:=I.turned (t':=s.toks+1) (λb o hb e=>(sb.2 b hb).trans e) f0 f1 f3 f4 f5;obtain⟨o,e,c,d⟩:=id st';exact⟨_,acg,Ai (s:={s with heap:=h',toks:=s.toks+1}) e c d (by decide) ⟨.str ⟨#[x.cps[i]]⟩,H,I1,⟨_,acg⟩,⟨acg,_,hx,acg⟩,⟨hi,.inr st'⟩,λb hb=>(hf b hb).1⟩⟩
 done:=by
  intro X hP hw hK hc i pins s σ H E I hf st hg;subst hP hw hK;have hx:x.cps[i]? = none:=by simpa using (show x.cps.size<=i from hg)
  obtain⟨f0,f1,f2,f3,f4,f5⟩:=hf it (by simp);rcases st.2 with st|st
  .exact wpAny_pyNext_ascii_end (I.ok.hd hc) st hx λh' eb=>⟨acg,I.turned (t':=s.toks) (λb o hb e=>eb b o hb e) f0 f1 f3 f4 f5⟩
  .exact wpAny_pyNext_wide_end (I.ok.hd hc) st hx λh' eb=>⟨acg,I.turned (t':=s.toks) (λb o hb e=>eb b o hb e) f0 f1 f3 f4 f5⟩
 self:=λ_ _ _ _ _ st h=>st.2.elim (λst=>wpAny_pyIter_striter_ascii st h) (λst=>wpAny_pyIter_striter_wide st h)
noncomputable def afj(tl:TE):TI:=λσ H R=>tl σ H λx H1=>∃a,x = .str a/\R (Its a) H1
theorem Yb{tg l:Expr}{tl:TE}(hl:PE X l tl):PI X tg l (afj tl):=by
 intro pins s σ H R I h;refine dG (hl pins s σ H _ I h) λv s1 gO=>?_;obtain⟨x,H1,I1,r1,q1⟩:=gO;obtain⟨a,rfl,q⟩:=q1;obtain⟨t,rfl⟩:=r1
 have fin:∀o,(s1.heap.push o).IsStrIter s1.heap.objs.size "str_ascii_iterator" a t 0\/(s1.heap.push o).IsStrIter s1.heap.objs.size "str_iterator" a t 0->PIE X pins σ tg R (.ref s1.heap.objs.size) {s1 with heap:=s1.heap.push o}:=by
  intro o st;refine⟨s1.heap.objs.size,[s1.heap.objs.size],_,_,H1,acg,I1.kept (t':=s1.toks) λb o e=>aag _ e,NK a t _,⟨Nat.zero_le _,st⟩,λb hb=>?_,q⟩;have e:b=s1.heap.objs.size:=by simpa using hb
  subst e;exact I1.yF (aaj _) (I1.hok.fresh (aaj _))
 cases ha:a.cps.all (· < 128)
 .exact wpAny_pyIter_wide ha (fin _ (.inr ⟨_,aah _ rfl,acg,acg⟩))
 .exact wpAny_pyIter_ascii ha (fin _ (.inl ⟨_,aah _ rfl,acg,acg⟩))
end
section
variable{K:PySem.W.Frag}{D:Addr}{tc:TT}{te:TE}{Q:VK}{rest:St}{H1:Hp}
theorem Mx{x:Str}{g:TG}{σ0:St}(Pv:Nat->St->Hp->Prop)(h0:Pv 0 σ0 (upd H1 D (.lst [])))(hs:∀i c σ H,x.cps[i]? = some c->Pv i σ H->g (.str ⟨#[c]⟩) σ H λσ2 H2=>tc σ2 H2 λb H3=>
   if b=true then te σ2 H3 λy H4=>∃acc,H4 D=some (.lst acc)/\acc.length<sizeLine/\Pv (i+1) σ2 (upd H4 D (.lst (acc++[y]))) else Pv (i+1) σ2 H3)(hd:∀σ H,Pv x.cps.size σ H->Q (.ref D) H):fK (Its x) g tc te Q D σ0 H1:=by
 refine⟨λi m σ H=>m=x.cps.size - i/\i<=x.cps.size/\Pv i σ H,⟨x.cps.size,by simp,Nat.zero_le _,h0⟩, ?_⟩;rintro i m σ H ⟨rfl,hi,p⟩
 by_cases hlt:i<x.cps.size
 .refine .inr ⟨hlt,Pv (i+1),λσ' H' p'=>⟨x.cps.size - (i+1),by lia,acg,hlt,p'⟩,λy H' e=>?_⟩
  obtain⟨e,c,hc,rfl⟩:=e;subst e;exact hs i c σ _ hc p
 .have e:i=x.cps.size:=by lia
  subst e;exact .inl ⟨aaj _,hd σ H p⟩
theorem Mw{x:Str}(f:Nat->Option V)(hD:H1 D=none)(hx:x.cps.size<=100000)(hs:∀i c H (G:Hp->Prop) (F:VK),x.cps[i]? = some c->Same H1 H->(∀H',Same H H'->f i=none->G H')->(∀y H',Same H H'->f i=some y->F y H')->tc (some (.str ⟨#[c]⟩)::rest) H λb H3=>if b=true then te (some (.str ⟨#[c]⟩)::rest) H3 F else G H3)(hd:∀H,Same H1 H->H D=some (.lst ((List.range x.cps.size).filterMap f))->Q (.ref D) H):fK (Its x) (cN 0) tc te Q D (none::rest) H1:=by
 refine Mx (λi σ H=>(∃v,σ=v::rest)/\Same H1 H/\H D=some (.lst ((List.range i).filterMap f))) ⟨⟨none,acg⟩,aG hD,ak⟩ ?_ (λσ H ⟨_,sm,e⟩=>hd H sm e);rintro i c σ H hi ⟨⟨v,rfl⟩,sm,e⟩;have hil:i<x.cps.size:=(Array.getElem?_eq_some_iff.mp hi).1;refine hs i c H _ _ hi sm (λH3 s3 ef=>⟨⟨_,acg⟩,sm.trans s3,by rw[s3 _ _ e,dJ,ef];simp⟩) (λy H4 s4 ef=>?_);refine⟨_,s4 _ _ e, ?_,⟨_,acg⟩,(sm.trans s4).newly hD, ?_⟩
 .have:=rG f i
  rw[sizeLine_eq];lia
 .rw[ak,dJ,ef];rfl
end
section
variable{X:Cx}
end
end L2
namespace L2
open PySem PySem.Spec PyProof.Rows
section
variable(P:Program)(w:World)(K:PySem.W.Frag)(mg:Str->Option Value)(base:Heap)
noncomputable def MethAt(k:Nat)(C:Addr)(m:Str)(ps:List Str)(sp:Sp):Prop:=∃f fd,bR P w K mg base ig k f fd ps sp/\Meth K C m f/\Binds K fd ps []
noncomputable def jD(k:Nat)(C:Addr)(m:Str)(ps:List Str)(sp:Sp):Prop:=∃f fd,bR P w K mg base (qJ P w) k f fd ps sp/\Meth K C m f/\Binds K fd ps []
noncomputable def pW(k:Nat)(C:Addr)(x:Str)(ps:List Str)(qO:List V)(sp:Sp):Prop:=∃f fd ds,bR P w K mg base ig k f fd ps sp/\Mk K C f/\mg x=some (.ref C)/\Binds K fd ps ds/\Vals qO ds
noncomputable def uo(k:Nat)(C:Addr)(x:Str)(ps:List Str)(qO:List V)(sp:Sp):Prop:=∃f fd ds,bR P w K mg base (qJ P w) k f fd ps sp/\Mk K C f/\mg x=some (.ref C)/\Binds K fd ps ds/\Vals qO ds
noncomputable def V0(k:Nat)(C:Addr)(x:Str)(ps:List Str)(kn:Str)(sp:Sp):Prop:=∃f fd,bR P w K mg base (qJ P w) k f fd ps sp/\Mk K C f/\mg x=some (.ref C) /\
 ∀(s:Shared)(us:List Value)(z:Value),K.In s.heap->(us++[z]).length=ps.length->BindsTo s fd ⟨us,[(kn,z)]⟩ (ps.zip (us++[z]))
end
section
variable{P:Program}{w:World}{K:PySem.W.Frag}{mg:Str->Option Value}{base:Heap}{k:Nat}{C:Addr}{m x:Str}{ps:List Str}{sp:Sp}{qO:List V}
theorem bR.calm{f:Addr}{fd:FuncData}(G:bR P w K mg base (qJ P w) k f fd ps sp):bR P w K mg base ig k f fd ps (λvs H Q _=>sp vs H Q λ_ _ _=>False):=by
 refine⟨λvs H Q E q=>G.len vs H Q _ q,λA outer s H args us vs Q E hr he hbd hv hs=>?_⟩;refine codeAny_mono (G.run A outer s H args us vs Q (λ_ _ _=>False) hr he hbd hv hs) λres s' hq=>?_
 match res,hq with
 | .error ev,hq=>
   obtain⟨e,cls,dx,H',_,_,_,_,_,_,_,_,z⟩:=hq;exact z.elim
 | .ok (.ret u),hq=>exact hq
theorem jD.calm(F:jD P w K mg base k C m ps sp):MethAt P w K mg base k C m ps (λvs H Q _=>sp vs H Q λ_ _ _=>False):=by
 obtain⟨f,fd,G,r⟩:=F;exact⟨f,fd,G.calm,r⟩
theorem uo.calm(F:uo P w K mg base k C x ps qO sp):pW P w K mg base k C x ps qO (λvs H Q _=>sp vs H Q λ_ _ _=>False):=by
 obtain⟨f,fd,ds,G,r⟩:=F;exact⟨f,fd,ds,G.calm,r⟩
end
section
variable{X:Cx}{k:Nat}{C:Addr}{x m:Str}{ps:List Str}{sp:Sp}{qO:List V}{e o:Expr}{es:List Expr}{ta:TE}{t:TA}{p pos apos:Pos}{E:St->XK}
theorem b_{pl:Sem Bool}(M:MethAt X.prog X.w X.K X.mg X.base k C m ps sp)(c:Cls X.K C)(hr:eG k X.A)(he:PE X o ta)(ha:PA X (e::es) t)(hst:starEach (e::es) X.env=(false,eval e X.env)::starEach es X.env:=by rfl)(hpl:(backTo pos (starEach es X.env)).any (·.1)=false:=by rfl)(ht:eval (.Call (.Attribute o m apos) (e::es) [] pos) X.env=(do
   let ov ←eval o X.env
   standAt apos.atName
   let (f,first) ←holding [ov] (getMethod ov m pl)
   callWith pos f first (backTo pos (starEach (e::es) X.env)) (backToKw pos (keywordEach [] X.env))):=by rfl):
 PE X (.Call (.Attribute o m apos) (e::es) [] pos) (Eb C m sp [] E0 ta t):=by
 obtain⟨f,fd,G,hm,hb⟩:=M;exact Ui he c hm G hr hb .nil Ey ha hst hpl ht
theorem cC{pl:Sem Bool}(M:MethAt X.prog X.w X.K X.mg X.base k C m ps sp)(c:Cls X.K C)(hr:eG k X.A)(he:PE X o ta)(ht:eval (.Call (.Attribute o m apos) [] [] pos) X.env=(do
   let ov ←eval o X.env
   standAt apos.atName
   let (f,first) ←holding [ov] (getMethod ov m pl)
   callWith pos f first (backTo pos (starEach [] X.env)) (backToKw pos (keywordEach [] X.env))):=by rfl):
 PE X (.Call (.Attribute o m apos) [] [] pos) (Eb C m sp [] E0 ta qC):=by
 obtain⟨f,fd,G,hm,hb⟩:=M;exact Pq he c hm G hr hb .nil Ey ht
noncomputable def Xk(C:Addr)(m:Str)(sp:Sp)(E:St->XK)(ta:TE)(t:TA):TE:=λσ H Q=>ta σ H λx H1=>∃a dx fs,x = .ref a/\H1 a=some (.ins C dx fs)/\fs.lookup m=none/\t σ H1 λvs H2=>sp (x::vs) H2 Q (E σ)
theorem TF{pins:List (Addr×Obj)}{σ:St}{H:Hp}{s:Shared}{Q:VK}{us:List Value}{vs:List V}{f:Addr}{fd:FuncData}(G:bR X.prog X.w X.K X.mg X.base (qJ X.prog X.w) k f fd ps sp)(hx:X.ex=[])(R:Rz X E)(hr:eG k X.A)(hb:Binds X.K fd ps [])(I:Inv X pins σ H s)(r:Vals vs us)(q:sp vs H Q (E σ)):wpAny (model X.prog X.w) X.A (call (.ref f) us) (EP X pins σ Q) X.xe s:=by
 have hlen:us.length=ps.length:=by rw[←r.length];exact G.len _ _ _ _ q
 have hbd:=hb s us I.rN (by rw[List.append_nil];exact hlen);rw[List.append_nil] at hbd;refine wpAny_call (codeAny_mono (G.run X.A X.stack s H ⟨us,[]⟩ us vs Q (E σ) hr I.env0 hbd r q) λres s' hq=>?_)
 match res,hq with
 | .error ev,hq=>exact JM hx R I hq
 | .ok (.ret u),hq=>exact I.after hq
theorem pA{pl:Sem Bool}(M:jD X.prog X.w X.K X.mg X.base k C m ps sp)(c:Cls X.K C)(hx:X.ex=[])(R:Rz X E)(hr:eG k X.A)(he:PE X o ta)(ha:PA X (e::es) t)(hst:starEach (e::es) X.env=(false,eval e X.env)::starEach es X.env:=by rfl)(hpl:(backTo pos (starEach es X.env)).any (·.1)=false:=by rfl)(ht:eval (.Call (.Attribute o m apos) (e::es) [] pos) X.env=(do
   let ov ←eval o X.env
   standAt apos.atName
   let (f,first) ←holding [ov] (getMethod ov m pl)
   callWith pos f first (backTo pos (starEach (e::es) X.env)) (backToKw pos (keywordEach [] X.env))):=by rfl):
 PE X (.Call (.Attribute o m apos) (e::es) [] pos) (Xk C m sp E ta t):=by
 obtain⟨f,fd,G,hm,hb⟩:=M;intro pins s σ H Q I h;refine PySem.W.methodCall_KW (pl:=pl) (dG (he pins s σ H _ I h) λu s1 ⟨x,H1,I1,rx,a,dx,fs,ex,ea,l,q⟩=>?_) ht;subst ex;obtain rfl:u=Value.ref a:=rx;refine rF I1 ea c hm l ?_;refine PySem.W.callWith_K (first:=[.ref a]) (h₀:=X.base) I.ok.mod.R_ hm.kp (dG (ha pos pins s1 σ H1 _ I1 q) λus s2 ⟨vs,H2,I2,r,q2⟩=>⟨I2.rN, ?_⟩) hst hpl;exact TF (us:= .ref a::us) (vs:= .ref a::vs) G hx R hr hb I2 (.cons rfl r) q2
theorem mF(M:pW X.prog X.w X.K X.mg X.base k C x ps qO sp)(hr:eG (k+1) X.A)(hg:Gl X x)(ha:PA X (e::es) t)(hdb:(x==("__debug__" :Str))=false:=by decide)(he:starEach (e::es) X.env=(false,eval e X.env)::starEach es X.env:=by rfl)(hpl:(backTo pos (starEach es X.env)).any (·.1)=false:=by rfl):
 PE X (.Call (.Name x p) (e::es) [] pos) (V5 C sp qO E0 t):=by
 obtain⟨f,fd,ds,G,mk,hm,hb,hd⟩:=M;exact Uj mk G hr hg hm hb hd Ey ha hdb he hpl
end
end L2
namespace L2
open PySem PySem.Spec PyProof.Rows PySem.Builtin PySem.Builtin.Str
section
variable{X:Cx}{K:PySem.W.Frag}{o e value:Expr}{f:Str}{pos pos' tpos:Pos}{ta tv:TE}
theorem aX(hK:X.K=K)(he:PE X e ta)(hb:attributeBase e f X.env (eval e X.env)=eval e X.env):PE X (.Attribute e f pos) (aaK K ta f):=by subst hK;exact Yg he hb
theorem cT(hK:X.K=K)(ha:PE X o ta)(hv:PE X value tv)(hs:swapsWith value (some (.Attribute o f pos')) pos.line X.env=pure false):PS X (.Assign [.Attribute o f pos'] value pos) (aaR K ta tv f):=by subst hK;exact X7 ha hv hs
theorem xY{op:Operator}{rd:V->V->Hp->VK->Prop}(hK:X.K=K)(ha:PE X o ta)(hv:PE X value tv)(hop:ab6 X op rd):PS X (.AugAssign (.Attribute o f tpos) op value pos) (JB K ta tv rd f):=by subst hK;exact K9 ha hv hop
noncomputable def aaV:V->List V->Hp->VK->Prop:=λx vs H Q=>∃(a y:Str) (i:Nat) (r:List Nat),x = .str a/\vs=[.str y]/\occurrences a y 0 a.length 1=i::r/\Q (.int i) H
theorem Aa:ZS X "str.index" aaV:=by
 intro pins s σ H x vs v us Q I rx rv h;obtain⟨a,y,i,r,rfl,rfl,ho,q⟩:=h;obtain⟨t,rfl⟩:=rx;obtain⟨u,rfl,ru⟩:=rv.one;obtain⟨t2,rfl⟩:=ru;exact call_meets PySem.F.slot_str_index (typeIs_str _ _ _) PySem.F.entry_str_index (PySem.F.args_str_index_2 _ _) (gives_str_index a y t t2 i r ho).meets ⟨.int i,H,I.tok _,⟨_,acg⟩,q⟩
end
structure V1(K:PySem.W.Frag)(x qual:Str)(st:Stmt)(ds:List Value)(f:Addr)(fd:FuncData):Prop where
 ex:∃(oc:Value) (od:Option Addr) (T:Addr) (kV doc pm:Value) (an:Option Addr) (cdv ct:Value) (osl:Array (Option Value)) (tc:Value) (td:Option Addr) (tn:Nat) (M_:Array (Option Value)),
  fd=PySem.W.fnOf x qual (dM st) (fU st) (aM st) (.ref T) kV doc pm an cdv ct/\K.lookup f=some ⟨oc,od,.func fd,osl⟩/\PySem.W.codeIn K cdv qual=true/\K.lookup T=some ⟨tc,td,.seq ds.toArray tn,M_⟩
 kp:PySem.W.keepIn K (.ref f)=true
section
variable{P:Program}{w:World}{K:PySem.W.Frag}{mg:Str->Option Value}{base:Heap}
theorem V1.RZ{x qual:Str}{st:Stmt}{ds:List Value}{f:Addr}{fd:FuncData}{N ps:List Str}{k:Nat}{sp:Sp}(F:V1 K x qual st ds f fd)(S:aZ N ps (aM st))(len:∀vs H Q E,sp vs H Q E->vs.length=ps.length)(hbody:∀(cdv:Value)(A:Around)(outer:List Env)(s:Shared)(H:Hp)(vs:List V)(Q:VK)(E:XK),eG k (A.deeper (envOfC qual (aM st) s.heap.objs.size f cdv))->sp vs H Q E ->
   Rz (oG (qJ P w) P w K mg base N qual (aM st) f cdv A outer s H E) (λ_=>E) ->
   ∃t,IW (oG (qJ P w) P w K mg base N qual (aM st) f cdv A outer s H E) (fU st) t/\t {nx:=λ_ H'=>Q .non H',rt:=Q} (start N vs) H):bR P w K mg base (qJ P w) (k+1) f fd ps sp:=by
 obtain⟨oc,od,T,kV,doc,pm,an,cdv,ct,osl,tc,td,tn,M_,rfl,lk,hcd,_⟩:=F.ex;exact QL lk hcd S len λA outer s H vs Q E hr hsp=>hbody cdv A outer s H vs Q E hr hsp Eo
end
section
variable{X:Cx}{k:Nat}{C:Addr}{x kn:Str}{ps:List Str}{sp:Sp}{e ke:Expr}{es:List Expr}{te:TE}{t:TA}{p pos kpos:Pos}{E:St->XK}
end
end L2
namespace L2
open PySem PySem.Spec PyProof.Rows
section
variable{prog:Program}{w:World}{A:Around}{E:Value->Shared->Prop}{s:Shared}{it d:Addr}{ep:Nat}{od:Obj}{es:Array DictEntry}
end
section
variable{X:Cx}{pins:List (Addr×Obj)}{σ:St}{H:Hp}{s:Shared}{d:Addr}
end
section
variable{X:Cx}{tg:Expr}
end
section
variable{d D:Addr}{o:Obj}{kvs:List (List Key×V)}{tc:TT}{te:TE}{Q:VK}{rest:St}{H1:Hp}
end
section
variable{prog:Program}{w:World}{A:Around}{E:Value->Shared->Prop}{s:Shared}
end
section
variable{X:Cx}{pos:Pos}
end
end L2
namespace L2
open PySem
noncomputable abbrev Tg:=Addr->List Nat
noncomputable def aR(τ:Tg)(x:Addr)(t:List Nat):Tg:=λy=>if y=x then t else τ y
theorem bK{τ:Tg}{x:Addr}{t:List Nat}:aR τ x t x=t:=acd rfl
theorem aV{τ:Tg}{x y:Addr}{t:List Nat}(h:y≠x):aR τ x t y=τ y:=ab' h
noncomputable def qw(τ:Tg)(H:Hp):Prop:=∀x,H x=none->τ x=[]
theorem qw.dom{τ:Tg}{H H':Hp}(u:qw τ H)(d:∀x,H' x=none->H x=none):qw τ H':=λx e=>u x (d x e)
theorem qw.same{τ:Tg}{H H':Hp}(u:qw τ H)(k:Same H H'):qw τ H':=u.dom λ_ e=>k.free e
theorem qw.claim{τ:Tg}{H H':Hp}{p:Addr}{t:List Nat}(u:qw τ H)(k:Same H H')(hp:∃o,H' p=some o):qw (aR τ p t) H':=λx e=>by
 have n:x≠p:=λz=>by
  obtain⟨o,ho⟩:=hp;rw[z,ho] at e;cases e
 rw[aV n];exact u.same k x e
theorem dX{τ:Tg}{a b:Addr}{s t:List Nat}(ha:τ a=s)(hb:τ b=t)(h:s≠t):a≠b:=λe=>h (by rw[←ha,←hb,e])
structure mQ(i:Nat)(τ:Tg)(H H':Hp):Prop where
 keep:∀x o,H x=some o->(τ x).head?≠some i->H' x=some o
 tup:∀x xs,H x=some (.tup xs)->H' x=some (.tup xs)
 dom:∀x,H' x=none->H x=none
theorem mQ.of_same{i:Nat}{τ:Tg}{H H':Hp}(k:Same H H'):mQ i τ H H':=⟨λx o e _=>k _ _ e,λx xs e=>k _ _ e,λx e=>k.free e⟩
theorem mQ.trans{i:Nat}{τ:Tg}{H H1 H2:Hp}(a:mQ i τ H H1)(b:mQ i τ H1 H2):mQ i τ H H2:=⟨λx o e n=>b.keep _ _ (a.keep _ _ e n) n,λx xs e=>b.tup _ _ (a.tup _ _ e),λx e=>a.dom _ (b.dom _ e)⟩
theorem mQ.set{i:Nat}{τ:Tg}{H:Hp}{x:Addr}{o u:HO}(ht:(τ x).head?=some i)(hx:H x=some o)(hn:∀xs,o ≠ .tup xs):mQ i τ H (upd H x u):=by
 refine⟨λy v e n=>?_,λy xs e=>?_,λy e=>?_⟩
 .have z:y≠x:=λz=>n (by rw[z];exact ht)
  rw[aF z];exact e
 .rw[aF (dg e hx λz=>hn xs z.symm)];exact e
 .by_cases z:y=x
  .rw[z,ak] at e;cases e
  .rw[aF z] at e;exact e
theorem mQ.un{i:Nat}{τ:Tg}{H H':Hp}(a:mQ i τ H H')(u:qw τ H):qw τ H':=u.dom a.dom
structure Mv(i:Nat)(τ:Tg)(H:Hp)(τ':Tg)(H':Hp):Prop where
 keep:∀x o,H x=some o->τ x=[0]\/(τ x).head?=some i->H' x=some o/\τ' x=τ x
 tup:∀x xs,H x=some (.tup xs)->H' x=some (.tup xs)
theorem Mv.of_same{i:Nat}{τ:Tg}{H H':Hp}(k:Same H H'):Mv i τ H τ H':=⟨λx o e _=>⟨k _ _ e,acg⟩,λx xs e=>k _ _ e⟩
theorem Mv.tags{i:Nat}{τ τ':Tg}{H H':Hp}(k:Same H H')(t:∀x o,H x=some o->τ' x=τ x):Mv i τ H τ' H':=⟨λx o e _=>⟨k _ _ e,t x o e⟩,λx xs e=>k _ _ e⟩
theorem Mv.claim{i:Nat}{τ:Tg}{H H':Hp}{p:Addr}{t:List Nat}(k:Same H H')(hp:H p=none):Mv i τ H (aR τ p t) H':= .tags k λx o e=>aV (aB e hp)
theorem Mv.nO{i j:Nat}{τ:Tg}{H H':Hp}(k:mQ j τ H H')(h:j≠i)(h0:j≠0):Mv i τ H τ H':=⟨λx o e t=>⟨k.keep _ _ e (by
 rcases t with t|t
 .rw[t];intro z;exact h0 (aaC z).symm
 .rw[t];intro z;exact h (aaC z).symm),acg⟩,k.tup⟩
end L2
namespace Prf
open PySem L2
inductive Nj where
 | num (n:Int)
 | box (b:Nat)
 deriving DecidableEq
inductive Gz where
 | one (x:Nj)
 | two (p:Bool) (x y:Nj)
 deriving DecidableEq
inductive Rw where
 | load (b c:Nat)
 | store (c:Nat) (e:Gz)
 | swap (b c:Nat) (e:Gz)
 | vQ (b:Nat) (e:Gz)
 | say (e:Gz)
 | go (k:Nat)
 | zj (q:Bool) (e f:Gz) (k:Nat)
 deriving DecidableEq
noncomputable def t_(b:Nat):Str:=⟨#[97+b]⟩
noncomputable def zN:Nj->PyData
 | .num n=> .tuple [.str "number",.int n]
 | .box b=> .tuple [.str "box",.str (t_ b)]
noncomputable def mW:Gz->PyData
 | .one x=>zN x
 | .two p x y=> .tuple [.str (if p then "plus" else "minus"),zN x,zN y]
noncomputable def mC:Rw->PyData
 | .load b c=> .tuple [.str "load",.str (t_ b),.int c]
 | .store c e=> .tuple [.str "store",.int c,mW e]
 | .swap b c e=> .tuple [.str "swap",.str (t_ b),.int c,mW e]
 | .vQ b e=> .tuple [.str "let",.str (t_ b),mW e]
 | .say e=> .tuple [.str "say",mW e]
 | .go k=> .tuple [.str "go",.int k]
 | .zj q e f k=> .tuple [.str "unless",.str (if q then "=" else "<"),mW e,mW f,.int k]
noncomputable def Nq:Nj->Prop
 | .num n=>0<=n/\n<1000
 | .box b=>b<8
noncomputable def u5:Gz->Prop
 | .one x=>Nq x
 | .two _ x y=>Nq x/\Nq y
noncomputable def Ep(m:Nat):Rw->Prop
 | .load b c=>b<8/\c<m
 | .store c e=>c<m/\u5 e
 | .swap b c e=>b<8/\c<m/\u5 e
 | .vQ b e=>b<8/\u5 e
 | .say e=>u5 e
 | .go _=>True
 | .zj _ e f _=>u5 e/\u5 f
theorem Ib:∀x:Nj,za (zN x)=true
 | .num _=>rfl
 | .box _=>rfl
theorem uY:∀e:Gz,za (mW e)=true
 | .one x=>Ib x
 | .two p x y=>by simp only[mW,za,pI,Ib,Bool.and_self]
theorem CG:∀r:Rw,za (mC r)=true
 | .load _ _=>rfl
 | .store _ e=>by simp only[mC,za,pI,uY,Bool.and_self]
 | .swap _ _ e=>by simp only[mC,za,pI,uY,Bool.and_self]
 | .vQ _ e=>by simp only[mC,za,pI,uY,Bool.and_self]
 | .say e=>by simp only[mC,za,pI,uY,Bool.and_self]
 | .go _=>rfl
 | .zj _ e f _=>by simp only[mC,za,pI,uY,Bool.and_self]
section
variable{H:Hp}{v:V}
theorem fG{vs:List V}{d:PyData}{ds:List PyData}(h:aQ H vs (d::ds)):∃v ws,vs=v::ws/\Dat H v d/\aQ H ws ds:=by
 cases vs with
 | nil=>exact h.elim
 | cons v ws=>exact⟨v,ws,acg,h.1,h.2⟩
theorem jC{vs:List V}(h:aQ H vs []):vs=[]:=by
 cases vs with
 | nil=>rfl
 | cons v ws=>exact h.elim
theorem WW{x:Nj}(h:Dat H v (zN x)):∃t,v = .ref t/\H t=some (.tup (match x with | .num n=>[.str "number",.int n] | .box b=>[.str "box",.str (t_ b)])):=by
 cases x<;>simp only[zN,Dat] at h<;>obtain⟨t,vs,rfl,e,d⟩:=h<;>refine⟨t,acg, ?_⟩<;>rw[e] <;>
 .obtain⟨_,_,rfl,e1,d11⟩:=fG d
  obtain⟨_,_,rfl,e2,Rc⟩:=fG d11;cases jC Rc;cases e1;cases e2;rfl
theorem ZD{p:Bool}{x y:Nj}(h:Dat H v (mW (.two p x y))):∃t a b,v = .ref t/\H t=some (.tup [.str (if p then "plus" else "minus"),a,b])/\Dat H a (zN x)/\Dat H b (zN y):=by
 simp only[mW,Dat] at h;obtain⟨t,vs,rfl,e,d⟩:=h;obtain⟨_,_,rfl,e1,d11⟩:=fG d;obtain⟨_,_,rfl,e2,Rc⟩:=fG d11;obtain⟨_,_,rfl,e3,Dz⟩:=fG Rc;cases jC Dz;cases e1;exact⟨t,_,_,acg,e,e2,e3⟩
noncomputable def Parts(H:Hp)(vs:List V):Rw->Prop
 | .load b c=>vs=[.str "load",.str (t_ b),.int c]
 | .store c e=>∃x,vs=[.str "store",.int c,x]/\Dat H x (mW e)
 | .swap b c e=>∃x,vs=[.str "swap",.str (t_ b),.int c,x]/\Dat H x (mW e)
 | .vQ b e=>∃x,vs=[.str "let",.str (t_ b),x]/\Dat H x (mW e)
 | .say e=>∃x,vs=[.str "say",x]/\Dat H x (mW e)
 | .go k=>vs=[.str "go",.int k]
 | .zj q e f k=>∃x y,vs=[.str "unless",.str (if q then "=" else "<"),x,y,.int k]/\Dat H x (mW e)/\Dat H y (mW f)
theorem Kq{r:Rw}(h:Dat H v (mC r)):∃t vs,v = .ref t/\H t=some (.tup vs)/\Parts H vs r:=by
 cases r<;>simp only[mC,Dat] at h<;>obtain⟨t,vs,rfl,e,d⟩:=h<;>refine⟨t,vs,acg,e, ?_⟩<;>obtain⟨_,_,rfl,e1,d11⟩:=fG d<;>cases e1<;>obtain⟨_,_,rfl,e2,Rc⟩:=fG d11
 .obtain⟨_,_,rfl,e3,Dz⟩:=fG Rc
  cases jC Dz;cases e2;cases e3;rfl
 .obtain⟨_,_,rfl,e3,Dz⟩:=fG Rc
  cases jC Dz;cases e2;exact⟨_,acg,e3⟩
 .obtain⟨_,_,rfl,e3,Dz⟩:=fG Rc
  obtain⟨_,_,rfl,e4,d14⟩:=fG Dz;cases jC d14;cases e2;cases e3;exact⟨_,acg,e4⟩
 .obtain⟨_,_,rfl,e3,Dz⟩:=fG Rc
  cases jC Dz;cases e2;exact⟨_,acg,e3⟩
 .cases jC Rc
  exact⟨_,acg,e2⟩
 .cases jC Rc
  cases e2;rfl
 .obtain⟨_,_,rfl,e3,Dz⟩:=fG Rc
  obtain⟨_,_,rfl,e4,d14⟩:=fG Dz;obtain⟨_,_,rfl,e5,d15⟩:=fG d14;cases jC d15;cases e2;cases e5;exact⟨_,_,acg,e3,e4⟩
end
noncomputable def v1(bs:List Int):Nj->Int
 | .num n=>n % 1000
 | .box b=>(bs[b]?).getD 0
noncomputable def vx(bs:List Int):Gz->Int
 | .one x=>v1 bs x
 | .two true x y=>(v1 bs x+v1 bs y) % 1000
 | .two false x y=>(v1 bs x - v1 bs y) % 1000
structure bG where
 (rws:List Rw) (pos:Nat) (bs sy:List Int) (st:Str)
noncomputable def touch:Rw->Bool
 | .load _ _=>true
 | .store _ _=>true
 | .swap _ _ _=>true
 | _=>false
noncomputable def uZ(bs:List Int):Rw->Bool
 | .zj true e f _=>decide (vx bs e=vx bs f)
 | .zj false e f _=>decide (vx bs e<vx bs f)
 | _=>false
noncomputable def vD(s:bG):Rw->bG
 | .vQ b e=>{s with pos:=s.pos+1,bs:=s.bs.set b (vx s.bs e)}
 | .say e=>{s with pos:=s.pos+1,sy:=s.sy++[vx s.bs e]}
 | .go k=>{s with pos:=k}
 | .zj q e f k=>{s with pos:=if uZ s.bs (.zj q e f k) then s.pos+1 else k}
 | _=>s
noncomputable def led:Nat->bG->bG
 | 0,s=>match s.rws[s.pos]? with
   | none=>{s with st:= "ends" }
   | some r=>if touch r then {s with st:= "waits" } else {s with st:= "lost" }
 | n+1,s=>match s.rws[s.pos]? with
   | none=>{s with st:= "ends" }
   | some r=>if touch r then {s with st:= "waits" } else led n (vD s r)
noncomputable def lead(s:bG):bG:=led 60 s
theorem Ak(s:bG)(r:Rw):(vD s r).rws=s.rws:=by cases r<;>rfl
theorem Ga(s:bG)(r:Rw):(vD s r).sy.length<=s.sy.length+1:=by cases r<;>simp[vD]
theorem tG:∀(n:Nat)(s:bG),(led n s).rws=s.rws
 | 0,s=>by
   unfold led;split
   .rfl
   .split<;>rfl
 | n+1,s=>by
   unfold led;split
   .rfl
   .split
    .rfl
    .rw[tG,Ak]
theorem HS:∀(n:Nat)(s:bG),(led n s).sy.length<=s.sy.length+n
 | 0,s=>by
   unfold led;split
   .simp
   .split<;>simp
 | n+1,s=>by
   unfold led;split
   .simp
   .split
    .simp
    .rename_i r _ _
     have:=HS n (vD s r);have:=Ga s r;lia
noncomputable def qz(s:bG):Prop:=s.st = "waits" -> ∃r,s.rws[s.pos]? = some r/\touch r=true
theorem J_:(Str.ofString "ends")≠Str.ofString "waits" :=by decide +kernel
theorem U6:(Str.ofString "lost")≠Str.ofString "waits" :=by decide +kernel
theorem HW:∀(n:Nat)(s:bG),qz (led n s)
 | 0,s=>by
   unfold led qz;split
   .intro z;exact ace z J_
   .rename_i r e
    split
    .intro _;exact⟨r,e,by assumption⟩
    .intro z;exact ace z U6
 | n+1,s=>by
   unfold led;split
   .intro z;exact ace z J_
   .rename_i r e
    split
    .intro _;exact⟨r,e,by assumption⟩
    .exact HW n _
noncomputable def new(rws:List Rw):bG:=⟨rws,0,List.replicate 8 0,[],"waits"⟩
structure dR where
 (m:Nat) (ns:List Int) (hs:List bG) (ts:List Int)
noncomputable def iB:Rw->Nat
 | .load _ c=>c
 | .store c _=>c
 | .swap _ c _=>c
 | _=>0
noncomputable def qK:Rw->Str
 | .load _ _=> "load"
 | .store _ _=> "store"
 | .swap _ _ _=> "swap"
 | .vQ _ _=> "let"
 | .say _=> "say"
 | .go _=> "go"
 | .zj _ _ _ _=> "unless"
noncomputable def xT(ns:List Int):Rw->Option Int
 | .load _ c=>ns[c]?
 | .swap _ c _=>ns[c]?
 | _=>none
noncomputable def Jf(bs:List Int):Rw->Option Int
 | .store _ e=>some (vx bs e)
 | .swap _ _ e=>some (vx bs e)
 | _=>none
noncomputable def oV:Option Int->V
 | none=> .non
 | some i=> .int i
noncomputable def oD:Option Int->PyData
 | none=> .none
 | some i=> .int i
noncomputable def wM(ns bs:List Int)(r:Rw):List V:=[.str (qK r),.int (iB r),oV (xT ns r),oV (Jf bs r)]
noncomputable def rH(ns bs:List Int):Rw->List Int
 | .load b c=>bs.set b ((ns[c]?).getD 0)
 | .swap b c _=>bs.set b ((ns[c]?).getD 0)
 | _=>bs
noncomputable def dD(ns bs:List Int):Rw->List Int
 | .store c e=>ns.set c (vx bs e)
 | .swap _ c e=>ns.set c (vx bs e)
 | _=>ns
noncomputable def kZ(ns:List Int)(s:bG)(r:Rw):bG:=lead {s with pos:=s.pos+1,bs:=rH ns s.bs r}
noncomputable def cJ(S:dR)(k:Nat):dR:=match S.hs[k]? with
 | none=>S
 | some s=>match s.rws[s.pos]? with
   | none=>S
   | some r=>{S with ns:=dD S.ns s.bs r,hs:=S.hs.set k (kZ S.ns s r),ts:=S.ts++[(k:Int)]}
noncomputable def vV(m:Nat)(ns:List Int)(rws:List (List Rw)):dR:=⟨m,ns,rws.map λr=>lead (new r),[]⟩
end Prf
namespace L2
open PySem Prf
theorem aQ.kp{H H':Hp}{vs:List V}{rws:List Rw}(d:aQ H vs (rws.map mC))(t:∀x xs,H x=some (.tup xs)->H' x=some (.tup xs)):aQ H' vs (rws.map mC):=d.keep t _ (cj mC CG rws)
end L2
namespace L2
open PySem PySem.Spec PyProof.Rows
section
variable{X:Cx}{k:Nat}{C:Addr}{sp:Sp}
theorem Tz{pins:List (Addr×Obj)}{σ:St}{H:Hp}{s:Shared}{Q:VK}{us:List Value}{vs:List V}{f:Addr}{fd:FuncData}{ps:List Str}(G:bR X.prog X.w X.K X.mg X.base ig k f fd ps sp)(hr:eG (k+1) X.A)(hb:Binds X.K fd ps [])(I:Inv X pins σ H s)(r:Vals vs us)(q:sp vs H Q E0):wpAny (model X.prog X.w) X.A.in1 (call (.ref f) us) (EP X pins σ Q) X.xe s:=by
 have hlen:us.length=ps.length:=by rw[←r.length];exact G.len _ _ _ _ q
 have hbd:=hb s us I.rN (by rw[List.append_nil];exact hlen);rw[List.append_nil] at hbd;refine wpAny_call (codeAny_mono (G.run X.A.in1 X.stack s H ⟨us,[]⟩ us vs Q E0 hr.in1 I.env0.in1 hbd r q) λres s' hq=>?_)
 match res,hq with
 | .error ev,hq=>exact False.elim hq
 | .ok (.ret u),hq=>exact I.after hq
noncomputable def aaU(C:Addr)(sp:Sp):List V->Hp->VK->Prop:=λxs H Q=>∃(a dx:Addr) (fs:List (Str×V)),xs=[.ref a]/\H a=some (.ins C dx fs)/\sp [.ref a] H (λv H'=>∃n:Int,v = .int n/\0<=n/\n<2 ^ 62/\Q (.int n) H') E0
theorem u_(M:MethAt X.prog X.w X.K X.mg X.base k C "__len__" ["self"] sp)(hr:eG (k+1) X.A):jA X (.builtin "len") (aaU C sp):=by
 intro pins s σ H xs us Q I rv h;obtain⟨f,fd,G,hm,hb⟩:=M;obtain⟨a,dx,fs,rfl,ea,q⟩:=h;obtain⟨u,rfl,ru⟩:=rv.one;obtain rfl:u=Value.ref a:=ru;obtain⟨mm,Fm⟩:=I.fr;obtain⟨mA,O,_⟩:=nU I.hok ea;obtain⟨od,J,_⟩:=O.look;refine PySem.W.len_K Fm I.mod.R_ J hm.at_ hm.fn (dG (Tz (us:=[.ref a]) (vs:=[.ref a]) G hr hb I (.cons rfl .nil) q) λv s' hv=>?_)
 obtain⟨x,H',I',rx,n,rfl,n0,n1,q'⟩:=hv;obtain⟨t,rfl⟩:=rx;exact⟨⟨n0,by lia⟩,.int n,H',I'.tok _,⟨_,acg⟩,q'⟩
noncomputable def ad6(C:Addr)(sp:Sp):R2:=λx y H Q=>∃(a b dx dy:Addr) (fs gs:List (Str×V)),x = .ref a/\y = .ref b/\H a=some (.ins C dx fs)/\H b=some (.ins C dy gs)/\sp [.ref a,.ref b] H (λv H'=>∃t:Bool,v = .bl t/\Q (.bl t) H') E0
theorem Ym(M:MethAt X.prog X.w X.K X.mg X.base k C "__eq__" ["self","other"] sp)(hr:eG (k+1) X.A):qx X (compareOp .Eq) (ad6 C sp):=by
 intro pins s σ H x y u v Q I rx ry h;obtain⟨f,fd,G,hm,hb⟩:=M;obtain⟨a,b,dx,dy,fs,gs,rfl,rfl,ea,eb,q⟩:=h;obtain rfl:u=Value.ref a:=rx;obtain rfl:v=Value.ref b:=ry;obtain⟨mA,O,_⟩:=nU I.hok ea;obtain⟨od,J,_⟩:=O.look;obtain⟨mB,O2,_⟩:=nU I.hok eb;obtain⟨od2,J2,_⟩:=O2.look;obtain⟨mm,Fm⟩:=I.fr;refine PySem.W.cmp_ofEq (PySem.W.cmp_K hr.W_ Fm I.mod.R_ J J2.type (by simp[PySem.W.notFirst]) hm.at_ hm.fn (dG (B_ (us:=[.ref a,.ref b]) (vs:=[.ref a,.ref b]) (qO:=[]) (ds:=[]) G (hr.mono (Nat.le_succ _)) hb .nil Ey I (.cons rfl (.cons rfl .nil)) q) λv s' hv=>?_));obtain⟨x,H',I',rx,t,rfl,q'⟩:=hv;obtain rfl:v=Value.bool t:=rx;exact⟨.bl t,H',I',acg,q'⟩
end
structure IsO(K:PySem.W.Frag)(mg:Str->Option Value)(C:Addr)(nm:Str):Prop where
 bd:mg nm=some (.ref C)
 ha:PySem.W.findIn K (.ref C) "__class__" = some (some (.builtin "object.__class__"))
 hn:PySem.W.specialIn K (.builtin "object.__class__") "__get__" = some (some (.builtin "getset_descriptor.__get__"))
 ht:PySem.W.takesIn K (.builtin "object.__class__")=some true
 hm:PySem.W.mroIn K C (.type "object")=some true
theorem IsO.ty{K:PySem.W.Frag}{mg:Str->Option Value}{C:Addr}{nm:Str}(o:IsO K mg C nm){H:Hp}{a dx:Addr}{fs:List (Str×V)}(e:H a=some (.ins C dx fs))(c:Cls K C):rJ K H (.ref a) (.ref C):= .ins e c o.ha o.hn o.ht o.hm
section
variable{prog:Program}{w:World}{A:Around}{E:Value->Shared->Prop}{s:Shared}
theorem nxT{it t:Addr}{i:Nat}{its:Array Value}{x:Value}{Q:Value->Shared->Prop}(hi:s.heap.IsTupleIter it t i)(ht:s.heap.IsTuple t its)(hx:its[i]? = some x)(k:∀h',h'.IsTupleIter it t (i+1)->Heap.SameBut it s.heap h'->Q x {s with heap:=h'}):wpAny (model prog w) A (Builtin.SmallTypes.nextOf (.ref it)) Q E s:=by
 obtain⟨ob,e1,e2,e3⟩:=id hi;obtain⟨ot,f1,_,nn,f3⟩:=ht;unfold Builtin.SmallTypes.nextOf;refine aak (wpAny_callSpecial?_slot (name:=Str.ofString "__next__") hi.typeIs PySem.F.slot_tuple_iterator_next (wpAny_call_entry PySem.F.slot_tuple_iterator_next hi.typeIs PySem.F.entry_tuple_iterator_next ?_ (PySem.F.args_tuple_iterator_next_1 _)));show wpAny _ _ (field (.ref it) 0 >>= _) _ _ s;refine aak (wpAny_field e1 e3 (x:= .ref t) rfl ?_);show wpAny _ _ (if (Value.ref t==Value.none)=true then _ else _) _ _ s;rw[ab' (show ¬((Value.ref t==Value.none)=true) from aax)];show wpAny _ _ (field (.ref it) 1 >>= _) _ _ s;refine aak (wpAny_field e1 e3 (x:= .int i 0) rfl ?_);show wpAny _ _ (seqItems? (.ref t) >>= _) _ _ s;refine aak (wpAny_seqItems f1 f3 ?_);simp only[aa5,hx];refine aak (wpAny_setField e1 e3 (by simp) (aal ⟨x,acg,aal (k _ ?_ (Heap.SameBut.update ..))⟩));refine⟨_,Heap.get?_update_self _ e1 (Obj.isFreed_of_fields (Obj.data_mapFields e3 _)),(Obj.cls_mapFields ..).trans e2, ?_⟩;rw[Obj.data_mapFields e3];simp[rawInt]
theorem aeT{it t:Addr}{i:Nat}{its:Array Value}{Q:Value->Shared->Prop}(hh:A.handled=none)(hi:s.heap.IsTupleIter it t i)(ht:s.heap.IsTuple t its)(hx:its[i]? = none)(k:∀h' e,Heap.ExtBut it s.heap h'->(∃o,h'.get? e=some o/\o.cls = .type "StopIteration")->E (.ref e) {s with heap:=h'}):wpAny (model prog w) A (Builtin.SmallTypes.nextOf (.ref it)) Q E s:=by
 obtain⟨ob,e1,e2,e3⟩:=id hi;obtain⟨ot,f1,_,nn,f3⟩:=ht;unfold Builtin.SmallTypes.nextOf;refine aak (wpAny_callSpecial?_slot (name:=Str.ofString "__next__") hi.typeIs PySem.F.slot_tuple_iterator_next (wpAny_call_entry PySem.F.slot_tuple_iterator_next hi.typeIs PySem.F.entry_tuple_iterator_next ?_ (PySem.F.args_tuple_iterator_next_1 _)));show wpAny _ _ (field (.ref it) 0 >>= _) _ _ s;refine aak (wpAny_field e1 e3 (x:= .ref t) rfl ?_);show wpAny _ _ (if (Value.ref t==Value.none)=true then _ else _) _ _ s;rw[ab' (show ¬((Value.ref t==Value.none)=true) from aax)];show wpAny _ _ (field (.ref it) 1 >>= _) _ _ s;refine aak (wpAny_field e1 e3 (x:= .int i 0) rfl ?_);show wpAny _ _ (seqItems? (.ref t) >>= _) _ _ s;refine aak (wpAny_seqItems f1 f3 ?_);simp only[aa5,hx];refine aak (wpAny_rule (aak (wpAny_setField e1 e3 (by simp) ?_)));show wpAny _ _ (newExc (.type "StopIteration") [] >>= _) _ _ _;refine aak ?_;simp only[newExc,newTuple];refine aak (wpAny_newObj_type ?_ (by size_fits));refine aak (m:=firstArgMember _ _) (wpAny_of_eq (a:=Value.none) (by first |rfl|(simp only[firstArgMember];rfl)) ?_);refine wpAny_newObj_type ?_ (by size_fits);simp only[raiseNew];refine aak (wpAny_handled ?_)
 first |rw[show A.in1.handled=none from hh]|rw[hh]
 refine aak (aal (wpAny_throw (k _ _ (((Heap.SameBut.update ..).extBut.push _).push _) ⟨_,aah _ rfl,acg⟩)))
theorem W6{z TI TO i1 i2 l1 l2:Addr}{k1 k2:Nat}{xs ys:Array Value}{x y a b:Value}{Q:Option Value->Shared->Prop}(D:ZipApart z TI TO i1 i2 l1 l2)(hz:IsZip s.heap z TI TO .none)(hI:IsPair s.heap TI (.ref i1) (.ref i2))(hO:IsPair s.heap TO a b)(h1:s.heap.IsTupleIter i1 l1 k1)(h2:s.heap.IsTupleIter i2 l2 k2)(m1:s.heap.IsTuple l1 xs)(m2:s.heap.IsTuple l2 ys)(hx:xs[k1]? = some x)(hy:ys[k2]? = some y)(k:∀h',IsZip h' z TI TO (rawInt s.heap.objs.size)->IsPair h' TO x y->h'.IsTupleIter i1 l1 (k1+1)->h'.IsTupleIter i2 l2 (k2+1)->IsPair h' s.heap.objs.size x y->h'.objs.size=s.heap.objs.size+1->(∀c o,c≠z->c≠TO->c≠i1->c≠i2->s.heap.get? c=some o->h'.get? c=some o)->Q (some (.ref s.heap.objs.size)) {s with heap:=h'}):
 wpAny (model prog w) A (pyNext (.ref z)) Q E s:=by
 have tz:s.TypeIs (.ref z) "zip" :=⟨_,hz,acg⟩;unfold pyNext;refine aak (wpAny_attempt (wpAny_callSpecial?_slot (name:=Str.ofString "__next__") tz PySem.F.slot_zip_next (wpAny_call_entry PySem.F.slot_zip_next tz PySem.F.entry_zip_next ?_ (PySem.F.args_zip_next_1 _))));show wpAny _ _ (field (.ref z) 2 >>= _) _ _ _;refine aak (wpAny_field hz rfl (x:= .bool false) rfl ?_);show wpAny _ _ (field (.ref z) 3 >>= _) _ _ _;refine aak (wpAny_field hz rfl (x:= .ref TI) rfl ?_);refine aak (wpAny_seqItems hI rfl ?_);show wpAny _ _ (Builtin.SmallTypes.ownedTupleIsFree (.ref z) >>= _) _ _ _;refine aak ?_;unfold Builtin.SmallTypes.ownedTupleIsFree;refine aak (wpAny_field hz rfl (x:= .none) rfl (aal ?_));simp only[if_true];refine aak (wpAny_rule (aak (wpAny_field hz rfl (x:= .ref TO) rfl ?_)));refine aak (wpAny_setField_rec hz (by simp) λg1 z1 s1=>?_)
 replace z1:IsZip g1 z TI TO .ellipsis:=z1
 refine aak ?_;simp only[List.zipIdx_cons,List.zipIdx_nil,List.forIn_cons,List.forIn_nil];refine aak (aak (wpAny_onRaise ?_));show wpAny _ _ (Builtin.SmallTypes.nextOf (.ref i1) >>= _) _ _ _
 refine aak (nxT (h1.extBut s1.extBut D.i1z) (m1.extBut s1.extBut D.l1z) hx λg2 j1 s2=>aal ?_);have O2:IsPair g2 TO a b:=s2.extBut _ _ D.TOi1 (s1.extBut _ _ D.TOz hO);refine aak (wpAny_seqItems O2 rfl ?_);refine aak (wpAny_updateSeq_pair O2 λg3 O3 s3=>?_)
 replace O3:IsPair g3 TO x b:=O3
 refine aak (wpAny_letGo (aal (aak (aak (wpAny_onRaise ?_)))));show wpAny _ _ (Builtin.SmallTypes.nextOf (.ref i2) >>= _) _ _ _
 refine aak (nxT (((h2.extBut s1.extBut D.i2z).extBut s2.extBut D.i12.symm).extBut s3.extBut D.TOi2.symm) (((m2.extBut s1.extBut D.l2z).extBut s2.extBut D.l2i1).extBut s3.extBut D.l2TO) hy λg4 j2 s4=>aal ?_);have O4:IsPair g4 TO x b:=s4.extBut _ _ D.TOi2 O3;refine aak (wpAny_seqItems O4 rfl ?_);refine aak (wpAny_updateSeq_pair O4 λg5 O5 s5=>?_)
 replace O5:IsPair g5 TO x y:=O5
 refine aak (wpAny_letGo (aal (aal (aak (wpAny_seqItems O5 rfl (aak (wpAny_newTuple ?_)))))));have sz:g5.objs.size=s.heap.objs.size:=by rw[s5.1,s4.1,s3.1,s2.1,s1.1]
 have z5:IsZip g5 z TI TO .ellipsis:=s5.extBut _ _ D.TOz.symm (s4.extBut _ _ D.i2z.symm (s3.extBut _ _ D.TOz.symm (s2.extBut _ _ D.i1z.symm z1)));have k5:∀c o,c≠z->c≠TO->c≠i1->c≠i2->s.heap.get? c=some o->g5.get? c=some o:=λc o n1 n2 n3 n4 e=>s5.extBut _ _ n2 (s4.extBut _ _ n4 (s3.extBut _ _ n2 (s2.extBut _ _ n3 (s1.extBut _ _ n1 e))));have p1:g5.IsTupleIter i1 l1 (k1+1):=((j1.extBut s3.extBut D.TOi1.symm).extBut s4.extBut D.i12).extBut s5.extBut D.TOi1.symm;have p2:g5.IsTupleIter i2 l2 (k2+1):=j2.extBut s5.extBut D.TOi2.symm;have Z2:z<g5.objs.size:=aai z5;show wpAny _ _ (Builtin.SmallTypes.ownedTupleHandOut (.ref z) (.ref g5.objs.size) >>= _) _ _ _;refine aak ?_;unfold Builtin.SmallTypes.ownedTupleHandOut;have z6:IsZip (g5.push {cls:= .type "tuple",data:= .seq #[x,y]}) z TI TO .ellipsis:=aag _ z5;refine aak (wpAny_setField_rec z6 (by simp) λg7 z7 s7=>?_)
 replace z7:IsZip g7 z TI TO (rawInt g5.objs.size):=z7
 refine wpAny_setField_rec z7 (by simp) λg8 z8 s8=>?_
 replace z8:IsZip g8 z TI TO (rawInt g5.objs.size):=z8
 have up:∀c o,c≠z->g5.get? c=some o->g8.get? c=some o:=λc o n1 e=>s8.extBut _ _ n1 (s7.extBut _ _ n1 (aag _ e));have t8:IsPair g8 g5.objs.size x y:=s8.extBut _ _ (Nat.ne_of_gt Z2) (s7.extBut _ _ (Nat.ne_of_gt Z2) (aah _ rfl));have e8:g8.objs.size=g5.objs.size+1:=by rw[s8.1,s7.1,Heap.size_push]
 rw[sz] at z8 t8 e8;refine aal ⟨_,acg,aal ?_⟩;show Q (some (.ref g5.objs.size)) _;rw[sz];refine k g8 z8 (up _ _ D.TOz O5) ?_ ?_ t8 e8 λc o n1 n2 n3 n4 e=>up c o n1 (k5 c o n1 n2 n3 n4 e)
 .obtain⟨o,e,r⟩:=p1;exact⟨o,up _ _ D.i1z e,r⟩
 .obtain⟨o,e,r⟩:=p2;exact⟨o,up _ _ D.i2z e,r⟩
theorem aat{z TI TO i1 i2 l1 l2:Addr}{k1 k2:Nat}{xs ys:Array Value}{a b:Value}{Q:Option Value->Shared->Prop}(hh:A.handled=none)(D:ZipApart z TI TO i1 i2 l1 l2)(hz:IsZip s.heap z TI TO .none)(hI:IsPair s.heap TI (.ref i1) (.ref i2))(hO:IsPair s.heap TO a b)(h1:s.heap.IsTupleIter i1 l1 k1)(h2:s.heap.IsTupleIter i2 l2 k2)(m1:s.heap.IsTuple l1 xs)(m2:s.heap.IsTuple l2 ys)(hx:xs[k1]? = none)(k:∀h',(∀c o,c≠z->c≠TO->c≠i1->c≠i2->s.heap.get? c=some o->h'.get? c=some o)->Q none {s with heap:=h'}):wpAny (model prog w) A (pyNext (.ref z)) Q E s:=by
 have tz:s.TypeIs (.ref z) "zip" :=⟨_,hz,acg⟩
 have stop:∀(h':Heap)(e:Addr),(∀c o,c≠z->c≠TO->c≠i1->c≠i2->s.heap.get? c=some o->h'.get? c=some o)->(∃o,h'.get? e=some o/\o.cls = .type "StopIteration")->wpAny (model prog w) A (do if ←isInstance (.ref e) (.type "StopIteration") then pure none else throw (.ref e)) Q E {s with heap:=h'}:=λh' e hk he=>by
  obtain⟨o,ho,hc⟩:=he;exact aak (wpAny_isInstance (T:= "StopIteration") (b:=true) ⟨o,ho,hc⟩ isSubtype_stop (aal (k _ hk)))
 unfold pyNext;refine aak (wpAny_attempt (wpAny_callSpecial?_slot (name:=Str.ofString "__next__") tz PySem.F.slot_zip_next (wpAny_call_entry PySem.F.slot_zip_next tz PySem.F.entry_zip_next ?_ (PySem.F.args_zip_next_1 _))));show wpAny _ _ (field (.ref z) 2 >>= _) _ _ _;refine aak (wpAny_field hz rfl (x:= .bool false) rfl ?_);show wpAny _ _ (field (.ref z) 3 >>= _) _ _ _;refine aak (wpAny_field hz rfl (x:= .ref TI) rfl ?_);refine aak (wpAny_seqItems hI rfl ?_);show wpAny _ _ (Builtin.SmallTypes.ownedTupleIsFree (.ref z) >>= _) _ _ _;refine aak ?_;unfold Builtin.SmallTypes.ownedTupleIsFree;refine aak (wpAny_field hz rfl (x:= .none) rfl (aal ?_));simp only[if_true];refine aak (wpAny_rule (aak (wpAny_field hz rfl (x:= .ref TO) rfl ?_)));refine aak (wpAny_setField_rec hz (by simp) λg1 z1 s1=>?_)
 replace z1:IsZip g1 z TI TO .ellipsis:=z1
 refine aak ?_;simp only[List.zipIdx_cons,List.zipIdx_nil,List.forIn_cons,List.forIn_nil];refine aak (aak (wpAny_onRaise ?_));show wpAny _ _ (Builtin.SmallTypes.nextOf (.ref i1) >>= _) _ _ _
 refine aak (aeT hh (h1.extBut s1.extBut D.i1z) (m1.extBut s1.extBut D.l1z) hx λg2 e s2 he=>?_);obtain⟨oe,hoe,hce⟩:=he;have z2:IsZip g2 z TI TO .ellipsis:=s2 _ _ D.i1z.symm z1;have nez:e≠z:=λq=>by subst q;rw[z2] at hoe;cases hoe;simp at hce
 refine wpAny_setField_rec z2 (by simp) λg3 _ s3=>?_;obtain st:=stop g3 e (λc o n1 _ n3 _ q=>s3.extBut _ _ n1 (s2 _ _ n3 (s1.extBut _ _ n1 q))) ⟨oe,s3.extBut _ _ nez hoe,hce⟩;exact st
end
noncomputable abbrev Nm(l:Addr):Obj:={cls:= .type "tuple_iterator",data:= .fields #[.ref l,.int 0 0]}
noncomputable abbrev zt3(h:Heap)(l1 l2:Addr):Heap:=((h.push (Nm l1)).push (Nm l2)).push {cls:= .type "tuple",data:= .seq #[.ref h.objs.size,.ref (h.push (Nm l1)).objs.size]}
noncomputable abbrev zt4(h:Heap)(l1 l2:Addr):Heap:=(zt3 h l1 l2).push {cls:= .type "tuple",data:= .seq #[.none,.none]}
noncomputable abbrev Z1(h:Heap)(l1 l2:Addr):Heap:=(zt4 h l1 l2).push {cls:= .type "zip",data:= .fields #[.none,.bool false,.bool false,.ref ((h.push (Nm l1)).push (Nm l2)).objs.size,.ref (zt3 h l1 l2).objs.size]}
theorem aas(l1 l2:Addr)(xs ys:Array Value):Meets (Builtin.«zip.__new__» ⟨[.type "zip",.ref l1,.ref l2],[]⟩) (λ_ R s=>s.heap.IsTuple l1 xs/\s.heap.IsTuple l2 ys/\R (.ok (.ret (.ref (zt4 s.heap l1 l2).objs.size))) {s with heap:=Z1 s.heap l1 l2}):=
 .of_wp λprog w A R s h=>by
  obtain⟨hp,g,d,tk,os⟩:=s;obtain⟨m1,m2,h⟩:=h;have sub:=sub_zip;have M1:Heap.IsTuple (Shared.heap ⟨hp,g,d,tk,os⟩) l1 xs:=m1;have M2:Heap.IsTuple (Shared.heap ⟨hp.push {cls:= .type "tuple_iterator",data:= .fields #[.ref l1,.int 0 0]},g,d,tk,os⟩) l2 ys:=Heap.IsTuple.push m2 _
  wp_walk using wpAny_pyIter_tuple M1,wpAny_pyIter_tuple M2
  exact⟨_,acg,h⟩
section
variable{prog:Program}{w:World}{A:Around}{E:Value->Shared->Prop}{s:Shared}
theorem W7{l1 l2:Addr}{xs ys:Array Value}{Q:Value->Shared->Prop}(m1:s.heap.IsTuple l1 xs)(m2:s.heap.IsTuple l2 ys)(k:∀h',IsZip h' (s.heap.objs.size+4) (s.heap.objs.size+2) (s.heap.objs.size+3) .none->IsPair h' (s.heap.objs.size+2) (.ref s.heap.objs.size) (.ref (s.heap.objs.size+1))->IsPair h' (s.heap.objs.size+3) .none .none->h'.IsTupleIter s.heap.objs.size l1 0->h'.IsTupleIter (s.heap.objs.size+1) l2 0 ->
   (∀c o,s.heap.get? c=some o->h'.get? c=some o)->Q (.ref (s.heap.objs.size+4)) {s with heap:=h'}):wpAny (model prog w) A (call (.type "zip") [.ref l1,.ref l2]) Q E s:=by
 refine callType_new PySem.F.called_zip (by decide) (PySem.F.typeCall_zip_2 _ _) (PySem.F.newCall_zip_2 _ _) (λobj=>PySem.F.args_object_init_3 obj _ _) PySem.F.entry_zip_new (aas l1 l2 xs ys) ⟨m1,m2, ?_⟩;have n1:(s.heap.push (Nm l1)).objs.size=s.heap.objs.size+1:=Heap.size_push ..;have n2:((s.heap.push (Nm l1)).push (Nm l2)).objs.size=s.heap.objs.size+2:=by rw[Heap.size_push,n1]
 have n3:(zt3 s.heap l1 l2).objs.size=s.heap.objs.size+3:=by rw[Heap.size_push,n2]
 have n4:(zt4 s.heap l1 l2).objs.size=s.heap.objs.size+4:=by rw[Heap.size_push,n3]
 have e5:(Z1 s.heap l1 l2).get? (zt4 s.heap l1 l2).objs.size=some _:=aah _ rfl;have e4:(Z1 s.heap l1 l2).get? (zt3 s.heap l1 l2).objs.size=some _:=aag _ (aah _ rfl);have e3:(Z1 s.heap l1 l2).get? ((s.heap.push (Nm l1)).push (Nm l2)).objs.size=some _:=aag _ (aag _ (aah _ rfl));have e2:(Z1 s.heap l1 l2).get? (s.heap.push (Nm l1)).objs.size=some _:=aag _ (aag _ (aag _ (aah _ rfl)));have e1:(Z1 s.heap l1 l2).get? s.heap.objs.size=some _:=aag _ (aag _ (aag _ (aag _ (aah _ rfl))));show _/\_;rw[n2,n3,n4] at e5;rw[n1,n2] at e3;rw[n3] at e4;rw[n1] at e2;rw[n4];refine⟨⟨_,e5,acg⟩,k _ e5 e3 e4 ⟨_,e1,acg,acg⟩ ⟨_,e2,acg,acg⟩ λc o q=>?_⟩
 iterate 5 refine aag _ ?_
 exact q
end
noncomputable def ZV(K:PySem.W.Frag)(l1 l2:Addr):It:=
 ⟨λi H=>∃xs ys x y,cD K H l1 xs/\cD K H l2 ys/\xs[i]? = some x/\ys[i]? = some y,
  λi H x H'=>∃(p:Addr) (y z:V),x = .ref p/\H p=none/\(∀xs,cD K H l1 xs->xs[i]? = some y)/\(∀ys,cD K H l2 ys->ys[i]? = some z)/\H'=upd H p (.tup [y,z]),
  λi H=>∃xs ys,cD K H l1 xs/\cD K H l2 ys/\xs.length<=i⟩
theorem Kz{P:Program}{w:World}{K:PySem.W.Frag}{elts:List Expr}{x1:Nat}{pos:Pos}(z TI TO i1 i2 l1 l2:Addr)(ap:ZipApart z TI TO i1 i2 l1 l2):Turn P w K (.Tuple elts x1 pos) (ZV K l1 l2) [z,TI,TO,i1,i2] z
 (λi h=>IsZip h z TI TO .none/\IsPair h TI (.ref i1) (.ref i2)/\(∃a b,IsPair h TO a b)/\h.IsTupleIter i1 l1 i/\h.IsTupleIter i2 l2 i) where
 mem:=by simp
 obj:=λi h st b hb=>by
  obtain⟨hz,hTI,⟨a,c,hTO⟩,⟨o1,h1,c1,d1⟩,⟨o2,h2,c2,d2⟩⟩:=st;have hb':b=z\/b=TI\/b=TO\/b=i1\/b=i2:=by simpa using hb
  rcases hb' with rfl|rfl|rfl|rfl|rfl
  .exact⟨_,hz,λv z=>by cases z⟩
  .exact⟨_,hTI,λv z=>by cases z⟩
  .exact⟨_,hTO,λv z=>by cases z⟩
  .exact⟨_,h1,λv z=>by rw[d1] at z;cases z⟩
  .exact⟨_,h2,λv z=>by rw[d2] at z;cases z⟩
 keep:=λi h h' st k=>by
  obtain⟨hz,hTI,⟨a,c,hTO⟩,⟨o1,h1,c1,d1⟩,⟨o2,h2,c2,d2⟩⟩:=st;exact⟨k z (by simp) _ hz,k TI (by simp) _ hTI,⟨a,c,k TO (by simp) _ hTO⟩,⟨o1,k i1 (by simp) _ h1,c1,d1⟩,⟨o2,k i2 (by simp) _ h2,c2,d2⟩⟩
 item:=by
  intro X hP hw hK hc i pins s σ H E I hf st hg;subst hP hw hK;obtain⟨xs,ys,x,y,hq1,hq2,hx,hy⟩:=hg;obtain⟨Fw,Tw,p1,hz1⟩:=I.tuple hq1;obtain⟨its2,Wh,p2,hz2⟩:=I.tuple hq2;obtain⟨u1,hu1,ru1⟩:=Tw.get hx;obtain⟨u2,hu2,ru2⟩:=Wh.get hy;obtain⟨hz,hTI,⟨a,c,hTO⟩,hi1,hi2⟩:=st;have Z2:=aai hz;have ZK:=aai hTI;have ZJ:=aai hTO;have Y6:i1<s.heap.objs.size:=by obtain⟨o,ho,_⟩:=id hi1;exact aai ho
  have Y5:i2<s.heap.objs.size:=by obtain⟨o,ho,_⟩:=id hi2;exact aai ho
  refine W6 ap hz hTI hTO hi1 hi2 (show s.heap.IsTuple l1 Fw.toArray from p1) (show s.heap.IsTuple l2 its2.toArray from p2) (x:=u1) (y:=u2) (by simpa using hu1) (by simpa using hu2) λh' hz' Za Y_ hi2' hnew hsz hk=>?_;refine⟨_,acg, ?_⟩;refine wpAny_letOwnedTupleGo_zip hz' λh2 Y7 sb=>?_;have hfr:H s.heap.objs.size=none:=I.hok.fresh (aaj _)
  have I0:Inv X pins σ (upd H s.heap.objs.size (.tup [x,y])) {s with heap:=s.heap.push {cls:= .type "tuple",data:= .seq #[u1,u2]}}:=
   I.laid (t':=s.toks) (λb u e=>aag _ e) (aaj _) ⟨by show 2<=sizeLine;decide,[u1,u2],.cons ru1 (.cons ru2 .nil),⟨_,aah _ rfl,acg,_,acg⟩⟩
  have WM:∀b∈[z,TI,TO,i1,i2],pY X pins (upd H s.heap.objs.size (.tup [x,y])) b:=λb hb=>by
   refine(hf b hb).upd ?_;have hb':b=z\/b=TI\/b=TO\/b=i1\/b=i2:=by simpa using hb
   rcases hb' with rfl|rfl|rfl|rfl|rfl
   .exact aaP Z2
   .exact aaP ZK
   .exact aaP ZJ
   .exact aaP Y6
   .exact aaP Y5
  have I1:=I0.p7 (h':=h2) (t':=s.toks) WM (λb o hb eb=>by
   have b1:b≠z:=λe=>hb (by simp[e]);have b2:b≠TO:=λe=>hb (by simp[e]);have b3:b≠i1:=λe=>hb (by simp[e]);have b4:b≠i2:=λe=>hb (by simp[e]);rw[sb.2 b b1];rcases yx rfl eb with ⟨rfl,rfl⟩|eb
   .exact hnew
   .exact hk b o b1 b2 b3 b4 eb)
  refine⟨.ref s.heap.objs.size,_,I1,acg,⟨s.heap.objs.size,x,y,acg,hfr,λys hy=>by rw[I.uG hy hq1];exact hx,λys' hy'=>by rw[I.uG hy' hq2];exact hy,acg⟩, ?_,λb hb=>(WM b hb).1⟩;obtain⟨o1,ho1,c1,d1⟩:=Y_;obtain⟨o2,ho2,c2,d2⟩:=hi2';exact⟨Y7,(sb.2 TI ap.TIz).trans (hk TI _ ap.TIz ap.TITO ap.TIi1 ap.TIi2 hTI),⟨_,_,(sb.2 TO ap.TOz).trans Za⟩,⟨o1,(sb.2 i1 ap.i1z).trans ho1,c1,d1⟩,⟨o2,(sb.2 i2 ap.i2z).trans ho2,c2,d2⟩⟩
 done:=by
  intro X hP hw hK hc i pins s σ H E I hf st hg;subst hP hw hK;obtain⟨xs,ys,hq1,hq2,hx⟩:=hg;obtain⟨Fw,Tw,p1,hz1⟩:=I.tuple hq1;obtain⟨its2,Wh,p2,hz2⟩:=I.tuple hq2;obtain⟨hz,hTI,⟨a,c,hTO⟩,hi1,hi2⟩:=st;have hl1:=Tw.length;refine aat (I.ok.hd hc) ap hz hTI hTO hi1 hi2 (show s.heap.IsTuple l1 Fw.toArray from p1) (show s.heap.IsTuple l2 its2.toArray from p2) (by simp;lia) λh' eb=>⟨acg,I.p7 (t':=s.toks) hf (λb o hb e=>eb b o (λz=>hb (by simp[z])) (λz=>hb (by simp[z])) (λz=>hb (by simp[z])) (λz=>hb (by simp[z])) e)⟩
 self:=λ_ _ _ _ _ st h=>wpAny_pyIter_zip st.1 h
section
variable{X:Cx}
noncomputable def abg(K:PySem.W.Frag)(ta:TA):TI:=λσ H R=>ta σ H λvs H1=>∃l1 l2 xs ys,vs=[.ref l1,.ref l2]/\((bI K H1 l1 xs/\bI K H1 l2 ys/\R (Itz K l1 l2) H1)\/(cD K H1 l1 xs/\cD K H1 l2 ys/\R (ZV K l1 l2) H1))
theorem Ud{K:PySem.W.Frag}{a b:Expr}{ta:TA}{p pos:Pos}{elts:List Expr}{x1:Nat}{tpos:Pos}(hK:X.K=K)(hg:Gl X "zip")(hm:X.mg "zip" = none)(ha:PA X [a,b] ta)(hs:starEach [a,b] X.env=[(false,eval a X.env),(false,eval b X.env)]:=by rfl)(hs2:starEach [b] X.env=[(false,eval b X.env)]:=by rfl):PI X (.Tuple elts x1 tpos) (.Call (.Name "zip" p) [a,b] [] pos) (abg K ta):=by
 subst hK;intro pins s σ H R I h;refine Call_ (nQ I hg hm boot_zip (PyProof.Rows.callWith_type1 (dG (ha pos pins s σ H _ I h) λus s1 ⟨vs,H1,I1,r1,q1⟩=>?_) (by rw[hs,hs2]) (by rw[hs2];rfl)));obtain⟨l1,l2,xs,ys,e,q1⟩:=q1;subst e
 obtain⟨u1,us',rfl,r,rr⟩:∃u1 us',us=u1::us'/\RelV (.ref l1) u1/\Vals [.ref l2] us':=by
  cases r1 with
  | cons r rr=>exact⟨_,_,acg,r,rr⟩
 obtain⟨u2,rfl,r'⟩:=rr.one;cases r;cases r'
 have U5:∀b∈[s1.heap.objs.size+4,s1.heap.objs.size+2,s1.heap.objs.size+3,s1.heap.objs.size,s1.heap.objs.size+1],s1.heap.objs.size<=b:=λb hb=>by
  have:b=s1.heap.objs.size+4\/b=s1.heap.objs.size+2\/b=s1.heap.objs.size+3\/b=s1.heap.objs.size\/b=s1.heap.objs.size+1:=by simpa using hb
  rcases this with rfl|rfl|rfl|rfl|rfl
  .exact Nat.le_add_right _ _
  .exact Nat.le_add_right _ _
  .exact Nat.le_add_right _ _
  .exact aaj _
  .exact Nat.le_add_right _ _
 rcases q1 with ⟨hq1,hq2,q⟩|⟨hq1,hq2,q⟩
 .obtain⟨Fw,Tw,Z6,hz1⟩:=I1.list hq1
  obtain⟨its2,Wh,pl2,hz2⟩:=I1.list hq2;have lt1:l1<s1.heap.objs.size:=by obtain⟨o,ho,_⟩:=Z6.isList;exact aai ho
  have lt2:l2<s1.heap.objs.size:=by obtain⟨o,ho,_⟩:=pl2.isList;exact aai ho
  refine call_zip_2 Z6.isList pl2.isList λh' hZ hTI hTO hi1 hi2 hsz hk=>?_;refine wpAny_pyIter_zip hZ ?_;have I2:Inv X pins σ H1 {s1 with heap:=h'}:=I1.kept (t':=s1.toks) hk;exact⟨s1.heap.objs.size+4,[s1.heap.objs.size+4,s1.heap.objs.size+2,s1.heap.objs.size+3,s1.heap.objs.size,s1.heap.objs.size+1],_,_,H1,acg,I2,Nz _ _ _ _ _ l1 l2 (zipApart_new lt1 lt2),⟨hZ,hTI,⟨_,_,hTO⟩,hi1,hi2⟩,λb hb=>I1.yF (U5 b hb) (I1.hok.fresh (U5 b hb)),q⟩
 .obtain⟨Fw,Tw,Z6,hz1⟩:=I1.tuple hq1
  obtain⟨its2,Wh,pl2,hz2⟩:=I1.tuple hq2;have m1:s1.heap.IsTuple l1 Fw.toArray:=Z6;have m2:s1.heap.IsTuple l2 its2.toArray:=pl2;have lt1:l1<s1.heap.objs.size:=by obtain⟨o,ho,_⟩:=id m1;exact aai ho
  have lt2:l2<s1.heap.objs.size:=by obtain⟨o,ho,_⟩:=id m2;exact aai ho
  refine W7 m1 m2 λh' hZ hTI hTO hi1 hi2 hk=>?_;refine wpAny_pyIter_zip hZ ?_;have I2:Inv X pins σ H1 {s1 with heap:=h'}:=I1.kept (t':=s1.toks) hk;exact⟨s1.heap.objs.size+4,[s1.heap.objs.size+4,s1.heap.objs.size+2,s1.heap.objs.size+3,s1.heap.objs.size,s1.heap.objs.size+1],_,_,H1,acg,I2,Kz _ _ _ _ _ l1 l2 (zipApart_new lt1 lt2),⟨hZ,hTI,⟨_,_,hTO⟩,hi1,hi2⟩,λb hb=>I1.yF (U5 b hb) (I1.hok.fresh (U5 b hb)),q⟩
end
section
variable{K:PySem.W.Frag}{D:Addr}{xs:List V}{tc:TT}{te:TE}{Q:VK}{rest:St}{H1:Hp}
theorem Il{l1 l2:Addr}{ys:List V}{n:Nat}(hn1:xs.length=n)(hn2:ys.length=n)(f:Nat->Option V)(hD:H1 D=none)(hq1:H1 l1=some (.tup xs))(hq2:H1 l2=some (.tup ys))(hx:n<=100000)(hs:∀i x y H (G:Hp->Prop) (F:VK),xs[i]? = some x->ys[i]? = some y->Same H1 H->(∀H',Same H H'->f i=none->G H')->(∀y H',Same H H'->f i=some y->F y H')->tc (some x::some y::rest) H λb H3=>if b=true then te (some x::some y::rest) H3 F else G H3)(hd:∀H,Same H1 H->H D=some (.lst ((List.range n).filterMap f))->Q (.ref D) H):fK (ZV K l1 l2) (Vm K 2 (FN (cN 0) (FN (cN 1) Ze))) tc te Q D (none::none::rest) H1:=by
 refine⟨λi m σ H=>m=n - i/\i<=n/\(∃u v,σ=u::v::rest)/\Same H1 H/\H D=some (.lst ((List.range i).filterMap f)),⟨n,by simp,Nat.zero_le _,⟨none,none,acg⟩,aG hD,ak⟩, ?_⟩;rintro i m σ H ⟨rfl,hi,⟨u,v,rfl⟩,sm,e⟩
 by_cases hlt:i<n
 .have q1:cD K H l1 xs:=cD.of (sm _ _ hq1)
  have q2:cD K H l2 ys:=cD.of (sm _ _ hq2);have hx1:xs[i]? = some (xs[i]'(by lia)):=aad _;have hy1:ys[i]? = some (ys[i]'(by lia)):=aad _;refine .inr ⟨⟨xs,ys,_,_,q1,q2,hx1,hy1⟩,λσ' H'=>(∃u v,σ'=u::v::rest)/\Same H1 H'/\H' D=some (.lst ((List.range (i+1)).filterMap f)),λσ' H' p'=>⟨n - (i+1),by lia,acg,hlt,p'⟩, ?_⟩;rintro x H' ⟨p,y,z,rfl,hp,e1,e2,rfl⟩;have sp:=aG (o:=HO.tup [y,z]) hp;refine⟨p,[y,z],acg,cD.of ak,acg,_,_,acg,_,_,acg,acg, ?_⟩;refine hs i y z _ _ _ (e1 _ q1) (e2 _ q2) (sm.trans sp) (λH3 s3 ef=>⟨⟨_,_,acg⟩,(sm.trans sp).trans s3,by rw[s3 _ _ (sp _ _ e),dJ,ef];simp⟩) (λy H4 s4 ef=>?_);refine⟨_,s4 _ _ (sp _ _ e), ?_,⟨_,_,acg⟩,((sm.trans sp).trans s4).newly hD, ?_⟩
  .have:=rG f i
   rw[sizeLine_eq];lia
  .rw[ak,dJ,ef];rfl
 .have ei:i=n:=by lia
  subst ei;exact .inl ⟨⟨xs,ys,cD.of (sm _ _ hq1),cD.of (sm _ _ hq2),by lia⟩,hd H sm e⟩
end
end L2
namespace Prf
open PySem L2
noncomputable def inR(x:Int):Prop:=0<=x/\x<1000
noncomputable def allR(l:List Int):Prop:=∀x∈l,inR x
theorem Gr{l:List Int}(h:allR l)(i:Nat):inR ((l[i]?).getD 0):=by
 cases e:l[i]? with
 | none=>exact⟨by decide,by decide⟩
 | some x=>exact h x (aap e)
theorem yS{l:List Int}(h:allR l)(i:Nat){x:Int}(hx:inR x):allR (l.set i x):=λy hy=>by
 rcases List.mem_or_eq_of_mem_set hy with m|e
 .exact h y m
 .rw[e];exact hx
theorem Cq(x:Int):inR (x % 1000):=⟨Int.emod_nonneg _ (by decide),Int.emod_lt_of_pos _ (by decide)⟩
theorem Nr{bs:List Int}(h:allR bs):∀e:Gz,inR (vx bs e)
 | .one (.num n)=>Cq n
 | .one (.box b)=>Gr h b
 | .two true x y=>Cq _
 | .two false x y=>Cq _
theorem Vs{s:bG}(h:allR s.bs)(r:Rw):allR (vD s r).bs:=by
 cases r<;>first |exact h|exact yS h _ (Nr h _)
theorem Qu:∀(n:Nat)(s:bG),allR s.bs->allR (led n s).bs
 | 0,s,h=>by
   unfold led;split
   .exact h
   .split<;>exact h
 | n+1,s,h=>by
   unfold led;split
   .exact h
   .split
    .exact h
    .exact Qu n _ (Vs h _)
noncomputable def Tn(x:Str):Prop:=x = "waits" \/ x = "ends" \/ x = "lost"
theorem yq:∀(n:Nat)(s:bG),Tn (led n s).st
 | 0,s=>by
   unfold led;split
   .exact .inr (.inl rfl)
   .split
    .exact .inl rfl
    .exact .inr (.inr rfl)
 | n+1,s=>by
   unfold led;split
   .exact .inr (.inl rfl)
   .split
    .exact .inl rfl
    .exact yq n _
structure j8(S:dR):Prop where
 n:allR S.ns
 b:∀s∈S.hs,allR s.bs
 t:∀s∈S.hs,Tn s.st
theorem VB{ns bs:List Int}(h:allR ns)(hb:allR bs)(r:Rw):allR (dD ns bs r):=by
 cases r<;>first |exact h|exact yS h _ (Nr hb _)
theorem VF{ns bs:List Int}(h:allR ns)(hb:allR bs)(r:Rw):allR (rH ns bs r):=by
 cases r<;>first |exact hb|exact yS hb _ (Gr h _)
theorem j8.turn{S:dR}(g:j8 S)(k:Nat):j8 (cJ S k):=by
 unfold cJ;split
 .exact g
 .rename_i s es
  split
  .exact g
  .rename_i r er
   have hb:=g.b s (aap es);refine⟨VB g.n hb r,λs' hs'=>?_,λs' hs'=>?_⟩
   .rcases List.mem_or_eq_of_mem_set hs' with m|e
    .exact g.b s' m
    .rw[e]
     exact Qu _ _ (VF g.n hb r)
   .rcases List.mem_or_eq_of_mem_set hs' with m|e
    .exact g.t s' m
    .rw[e]
     exact yq _ _
theorem Ma{m:Nat}{ns:List Int}{rws:List (List Rw)}(h:allR ns):j8 (vV m ns rws):=⟨h,λs hs=>by
 obtain⟨r,_,rfl⟩:=abn.mp hs;refine Qu _ _ λx hx=>?_;rw[(List.mem_replicate.mp hx).2];exact⟨by decide,by decide⟩,λs hs=>by
 obtain⟨r,_,rfl⟩:=abn.mp hs;exact yq _ _⟩
theorem Dj:∀b:Fin 8,PyData.strOk (t_ b.val)=true:=by decide +kernel
theorem Ip{x:Nj}(h:Nq x):(zN x).canLay0=true/\(zN x).depth<=1:=by
 cases x with
 | num n=>exact⟨by show (PyData.strOk (Str.ofString "number")&&(true&&true))=true;decide +kernel,by show (max 0 (max 0 0))+1<=1;decide⟩
 | box b=>
   refine⟨?_,by show (max 0 (max 0 0))+1<=1;decide⟩;show (PyData.strOk (Str.ofString "box")&&(PyData.strOk (t_ b)&&true))=true;rw[show PyData.strOk (t_ b)=true from Dj ⟨b,h⟩];decide +kernel
theorem u9{e:Gz}(h:u5 e):(mW e).canLay0=true/\(mW e).depth<=2:=by
 cases e with
 | one x=>obtain⟨a,b⟩:=Ip (x:=x) h;exact⟨a,by show (zN x).depth<=2;lia⟩
 | two p x y=>
   obtain⟨a1,b1⟩:=Ip h.1;obtain⟨a2,b2⟩:=Ip h.2;refine⟨?_, ?_⟩
   .show (PyData.strOk (if p then Str.ofString "plus" else Str.ofString "minus")&&(PyData.canLay0 (zN x)&&(PyData.canLay0 (zN y)&&true)))=true
    rw[a1,a2];cases p<;>decide +kernel
   .show max 0 (max (zN x).depth (max (zN y).depth 0))+1<=2
    lia
theorem Rm{m:Nat}{r:Rw}(h:Ep m r):(mC r).canLay0=true/\(mC r).depth<=3:=by
 cases r with
 | load b c=>
   refine⟨?_,by show max 0 (max 0 (max 0 0))+1<=3;decide⟩;show (PyData.strOk (Str.ofString "load")&&(PyData.strOk (t_ b)&&(true&&true)))=true;rw[show PyData.strOk (t_ b)=true from Dj ⟨b,h.1⟩];decide +kernel
 | store c e=>
   obtain⟨a,d⟩:=u9 h.2;refine⟨?_, ?_⟩
   .show (PyData.strOk (Str.ofString "store")&&(true&&(PyData.canLay0 (mW e)&&true)))=true
    rw[a];decide +kernel
   .show max 0 (max 0 (max (mW e).depth 0))+1<=3
    lia
 | swap b c e=>
   obtain⟨a,d⟩:=u9 h.2.2;refine⟨?_, ?_⟩
   .show (PyData.strOk (Str.ofString "swap")&&(PyData.strOk (t_ b)&&(true&&(PyData.canLay0 (mW e)&&true))))=true
    rw[a,show PyData.strOk (t_ b)=true from Dj ⟨b,h.1⟩];decide +kernel
   .show max 0 (max 0 (max 0 (max (mW e).depth 0)))+1<=3
    lia
 | vQ b e=>
   obtain⟨a,d⟩:=u9 h.2;refine⟨?_, ?_⟩
   .show (PyData.strOk (Str.ofString "let")&&(PyData.strOk (t_ b)&&(PyData.canLay0 (mW e)&&true)))=true
    rw[a,show PyData.strOk (t_ b)=true from Dj ⟨b,h.1⟩];decide +kernel
   .show max 0 (max 0 (max (mW e).depth 0))+1<=3
    lia
 | say e=>
   obtain⟨a,d⟩:=u9 (e:=e) h;refine⟨?_, ?_⟩
   .show (PyData.strOk (Str.ofString "say")&&(PyData.canLay0 (mW e)&&true))=true
    rw[a];decide +kernel
   .show max 0 (max (mW e).depth 0)+1<=3
    lia
 | go k=>exact⟨by show (PyData.strOk (Str.ofString "go")&&(true&&true))=true;decide +kernel,by show max 0 (max 0 0)+1<=3;decide⟩
 | zj q e f k=>
   obtain⟨a1,b1⟩:=u9 h.1;obtain⟨a2,b2⟩:=u9 h.2;refine⟨?_, ?_⟩
   .show (PyData.strOk (Str.ofString "unless")&&(PyData.strOk (if q then Str.ofString "=" else Str.ofString "<")&&(PyData.canLay0 (mW e)&&(PyData.canLay0 (mW f)&&(true&&true)))))=true
    rw[a1,a2];cases q<;>decide +kernel
   .show max 0 (max 0 (max (mW e).depth (max (mW f).depth (max 0 0))))+1<=3
    lia
noncomputable def eY(l:List Int):PyData:= .list (l.map PyData.int)
theorem jg(l:List Int):(eY l).canLay0=true/\(eY l).depth<=1:=⟨gZ PyData.int l λ_ _=>rfl,by
 have:=fB PyData.int 0 l λ_ _=>by show 0<=0;decide
 show PyData.depthAll (l.map PyData.int)+1<=1;lia⟩
noncomputable def uW(s:bG):PyData:= .tuple [.str s.st,if s.st = "waits" then .int s.pos else .none,eY s.bs,eY s.sy]
theorem V8{x:Str}(h:Tn x):PyData.strOk x=true:=by
 rcases h with rfl|rfl|rfl<;>decide +kernel
theorem Kg{s:bG}(h:Tn s.st):(uW s).canLay0=true/\(uW s).depth<=2:=by
 obtain⟨a1,b1⟩:=jg s.bs;obtain⟨a2,b2⟩:=jg s.sy;have a3:(if s.st = "waits" then PyData.int s.pos else .none).canLay0=true:=by split<;>rfl
 have b3:(if s.st = "waits" then PyData.int s.pos else .none).depth=0:=by split<;>rfl
 refine⟨?_, ?_⟩
 .show (PyData.strOk s.st&&(PyData.canLay0 (if s.st = "waits" then PyData.int s.pos else .none)&&(PyData.canLay0 (eY s.bs)&&(PyData.canLay0 (eY s.sy)&&true))))=true
  rw[a1,a2,a3,V8 h];rfl
 .show max 0 (max (PyData.depth (if s.st = "waits" then PyData.int s.pos else .none)) (max (eY s.bs).depth (max (eY s.sy).depth 0)))+1<=2
  lia
noncomputable def sU(rws:List Rw):PyData:= .list (rws.map mC)
noncomputable def JH(S:dR):PyData:= .tuple [.int S.m,.list (S.hs.map λs=>sU s.rws)]
noncomputable def Ku(S:dR)(cs:List Int):PyData:= .tuple [JH S,eY S.ns,.list (S.hs.map uW),eY cs]
theorem Gi{m:Nat}{rws:List Rw}(h:∀r∈rws,Ep m r):(sU rws).canLay0=true/\(sU rws).depth<=4:=⟨gZ mC rws λr hr=>(Rm (h r hr)).1,by
 have:=fB mC 3 rws λr hr=>(Rm (h r hr)).2;show PyData.depthAll (rws.map mC)+1<=4;lia⟩
theorem Ir{S:dR}{cs:List Int}(g:j8 S)(h:∀s∈S.hs,∀r∈s.rws,Ep S.m r):SeqAt.shaped (Ku S cs)=true:=by
 obtain⟨a1,b1⟩:=jg S.ns;obtain⟨a2,b2⟩:=jg cs;have a3:PyData.canLay0 (.list (S.hs.map uW))=true:=gZ uW S.hs λs hs=>(Kg (g.t s hs)).1;have b3:=fB uW 2 S.hs λs hs=>(Kg (g.t s hs)).2;have a4:PyData.canLay0 (.list (S.hs.map λs=>sU s.rws))=true:=gZ (λs:bG=>sU s.rws) S.hs λs hs=>(Gi (h s hs)).1;have b4:=fB (λs:bG=>sU s.rws) 4 S.hs λs hs=>(Gi (h s hs)).2
 have e1:PyData.canLay0 (Ku S cs)=true:=by
  show ((true&&(PyData.canLay0 (.list (S.hs.map λs=>sU s.rws))&&true))&&(PyData.canLay0 (eY S.ns)&&(PyData.canLay0 (.list (S.hs.map uW))&&(PyData.canLay0 (eY cs)&&true))))=true;rw[a1,a2,a3,a4];rfl
 have e2:PyData.depth (Ku S cs)<=64:=by
  show max (max 0 (max (PyData.depthAll (S.hs.map λs=>sU s.rws)+1) 0)+1) (max (eY S.ns).depth (max (PyData.depthAll (S.hs.map uW)+1) (max (eY cs).depth 0)))+1<=64;lia
 unfold SeqAt.shaped;rw[e1,aaq e2];rfl
mutual
theorem FW:∀d:PyData,d.canLay0=true->PyData.eqv d d=true
 | .none,_=>rfl
 | .bool b,_=>by simp[PyData.eqv]
 | .int i,_=>by simp[PyData.eqv]
 | .str x,_=>by simp[PyData.eqv]
 | .list ds,h=>by simp only[PyData.eqv];exact u6 ds (by simpa [PyData.canLay0] using h)
 | .tuple ds,h=>by simp only[PyData.eqv];exact u6 ds (by simpa [PyData.canLay0] using h)
 | .dict _,h=>by simp[PyData.canLay0] at h
theorem u6:∀ds:List PyData,PyData.canLayAll0 ds=true->PyData.eqvAll ds ds=true
 | [],_=>rfl
 | d::ds,h=>by
   simp only[PyData.canLayAll0,aa6] at h;simp only[PyData.eqvAll,aa6];exact⟨FW d h.1,u6 ds h.2⟩
end
theorem QT{d:PyData}(h:SeqAt.shaped d=true):PyData.eqv d d=true:=by
 unfold SeqAt.shaped at h;rw[aa6] at h;exact FW d h.1
noncomputable def isLoad:Rw->Bool
 | .load _ _=>true
 | _=>false
theorem tX{ns bs:List Int}{r:Rw}{c:Nat}(h:iB r≠c):(dD ns bs r)[c]? = ns[c]? :=by
 cases r<;>first |rfl|(simp only[iB] at h;simp only[dD];rw[List.getElem?_set_ne h])
theorem jf{ns bs:List Int}{r:Rw}(h:isLoad r=true):dD ns bs r=ns:=by
 cases r<;>first |rfl|cases h
noncomputable def apart(r q:Rw):Prop:=iB r≠iB q\/(isLoad r=true/\isLoad q=true)
theorem apart.symm{r q:Rw}(h:apart r q):apart q r:=by
 rcases h with h|⟨a,b⟩
 .exact .inl h.symm
 .exact .inr ⟨b,a⟩
theorem apart.boxes{ns bs cs:List Int}{r q:Rw}(h:apart r q):rH (dD ns bs r) cs q=rH ns cs q:=by
 rcases h with h|⟨a,_⟩
 .cases q<;>first |rfl|(simp only[rH];have h':=tX (ns:=ns) (bs:=bs) h;simp only[iB] at h';rw[h'])
 .rw[jf a]
theorem apart.read{ns bs:List Int}{r q:Rw}(h:apart r q):xT (dD ns bs r) q=xT ns q:=by
 rcases h with h|⟨a,_⟩
 .cases q<;>first |rfl|(simp only[xT];have h':=tX (ns:=ns) (bs:=bs) h;simp only[iB] at h';rw[h'])
 .rw[jf a]
theorem apart.cells{ns bs cs:List Int}{r q:Rw}(h:apart r q):dD (dD ns bs r) cs q=dD (dD ns cs q) bs r:=by
 rcases h with h|⟨a,b⟩
 .cases r<;>cases q<;>first |rfl|(simp only[iB] at h;simp only[dD];exact List.set_comm _ _ h)
 .rw[jf a,jf b,jf a]
theorem lY{S:dR}{k:Nat}{s:bG}{r:Rw}(es:S.hs[k]? = some s)(er:s.rws[s.pos]? = some r):cJ S k={S with ns:=dD S.ns s.bs r,hs:=S.hs.set k (kZ S.ns s r),ts:=S.ts++[(k:Int)]}:=by
 unfold cJ;simp only[es,er]
theorem lX{S:dR}{f g:Nat}{s t:bG}{r q:Rw}(n:f≠g)(es:S.hs[f]? = some s)(er:s.rws[s.pos]? = some r)(et:S.hs[g]? = some t)(eq:t.rws[t.pos]? = some q):
 (cJ S f).hs[g]? = some t/\cJ (cJ S f) g={S with ns:=dD (dD S.ns s.bs r) t.bs q,hs:=(S.hs.set f (kZ S.ns s r)).set g (kZ (dD S.ns s.bs r) t q),ts:=S.ts++[(f:Int)]++[(g:Int)]}:=by
 have e1:=lY es er;have e2:(cJ S f).hs[g]? = some t:=by rw[e1];show (S.hs.set f _)[g]? = _;rw[List.getElem?_set_ne n];exact et
 refine⟨e2, ?_⟩;rw[lY e2 eq,e1]
theorem KC{S:dR}{f g:Nat}{s t:bG}{r q:Rw}(n:f≠g)(es:S.hs[f]? = some s)(er:s.rws[s.pos]? = some r)(et:S.hs[g]? = some t)(eq:t.rws[t.pos]? = some q)(ap:apart r q):
 (cJ (cJ S f) g).ns=(cJ (cJ S g) f).ns/\(cJ (cJ S f) g).hs=(cJ (cJ S g) f).hs:=by
 rw[(lX n es er et eq).2,(lX n.symm et eq es er).2];refine⟨ap.cells, ?_⟩;show (S.hs.set f _).set g _=(S.hs.set g _).set f _;unfold kZ;rw[ap.boxes,ap.symm.boxes,List.set_comm _ _ n]
end Prf
namespace L2
open PySem
noncomputable def nw(H H':Hp):Hp:=λx=>match H x with
 | none=>H' x
 | some _=>none
theorem qN{H H':Hp}{x:Addr}{o:HO}(n:H x=none)(e:H' x=some o):nw H H' x=some o:=by
 unfold nw;rw[n];exact e
theorem Hz{H H':Hp}{x:Addr}{o:HO}(e:nw H H' x=some o):H x=none/\H' x=some o:=by
 unfold nw at e;cases q:H x with
 | none=>rw[q] at e;exact⟨acg,e⟩
 | some u=>rw[q] at e;cases e
theorem JV(H H':Hp):Same (nw H H') H':=λx o e=>(Hz e).2
section
variable{K:PySem.W.Frag}{a D:Addr}{xs:List V}{te:TE}{Q:VK}{rest:St}{H1:Hp}
noncomputable def nwB(H1:Hp)(D:Addr)(H:Hp):Hp:=λx=>if x=D then none else nw H1 H x
theorem JX{H H1:Hp}{x:Addr}{o:HO}(e:nwB H1 D H x=some o):x≠D/\H1 x=none/\H x=some o:=by
 unfold nwB at e
 by_cases z:x=D
 .rw[acd z] at e;cases e
 .rw[ab' z] at e;exact⟨z,Hz e⟩
theorem Qj{H H1:Hp}{x:Addr}{o:HO}(z:x≠D)(n:H1 x=none)(e:H x=some o):nwB H1 D H x=some o:=by
 unfold nwB;rw[ab' z];exact qN n e
theorem Fd{H H4:Hp}{o:HO}(s:Same H H4):Same (nwB H1 D H) (nwB H1 D (upd H4 D o)):=λx u e=>by
 obtain⟨z,n,h⟩:=JX e;exact Qj z n (by rw[aF z];exact s _ _ h)
theorem JW{H H4:Hp}{o u:HO}(s:Same H1 H)(e:H D=some u):Same (nw H H4) (nwB H1 D (upd H4 D o)):=λx v h=>by
 obtain⟨n,h⟩:=Hz h;have z:x≠D:=(aB e n).symm;exact Qj z (s.free n) (by rw[aF z];exact h)
theorem Qi{H:Hp}:Same (nwB H1 D H) (nw H1 H):=λx o e=>by
 obtain⟨_,n,h⟩:=JX e;exact qN n h
theorem Mz{n:Nat}(f:Nat->PyData)(hD:H1 D=none)(hx:n<=100000)(hs:∀i H (F:VK),i<n->Same H1 H->(∀y H',Same H H'->Dat (nw H H') y (f i)->F y H')->te (some (.int (0+i))::rest) H F)(hd:∀H,Same H1 H->Dat (nw H1 H) (.ref D) (.list ((List.range n).map f))->Q (.ref D) H):fK (RK 0 n) (cN 0) qF te Q D (none::rest) H1:=by
 refine gj (lo:=0) (n:=n) (λi σ H=>(∃v,σ=v::rest)/\Same H1 H /\ ∃vs,H D=some (.lst vs)/\aQ (nwB H1 D H) vs ((List.range i).map f)) ⟨⟨none,acg⟩,aG hD,[],ak,by simp[aQ]⟩ ?_ (λσ H ⟨_,sm,vs,e,d⟩=>hd H sm (mO (qN hD e) (d.same Qi _)));rintro i σ H hi ⟨⟨v,rfl⟩,sm,vs,e,d⟩;refine hs i H _ hi sm λy H4 s4 dy=>?_;have hl:vs.length=i:=by rw[d.length];simp
 refine⟨vs,s4 _ _ e, ?_,⟨_,acg⟩,(sm.trans s4).newly hD,vs++[y],ak, ?_⟩
 .rw[sizeLine_eq];lia
 .rw[List.range_succ,aa3]
  exact fM (d.same (Fd s4) _) (dy.same (JW sm e) _)
theorem MF(f:Nat->PyData)(hD:H1 D=none)(hq:bI K H1 a xs)(hx:xs.length<=100000)(hs:∀i x H (F:VK),xs[i]? = some x->Same H1 H->(∀y H',Same H H'->Dat (nw H H') y (f i)->F y H')->te (some x::rest) H F)(hd:∀H,Same H1 H->Dat (nw H1 H) (.ref D) (.list ((List.range xs.length).map f))->Q (.ref D) H):fK (RL K a) (cN 0) qF te Q D (none::rest) H1:=by
 refine gA (K:=K) (xs:=xs) (λi σ H=>(∃v,σ=v::rest)/\Same H1 H /\ ∃vs,H D=some (.lst vs)/\aQ (nwB H1 D H) vs ((List.range i).map f)) ⟨⟨none,acg⟩,aG hD,[],ak,by simp[aQ]⟩ (λi σ H _ ⟨_,sm,_⟩=>sm.sqL _ _ hq) ?_ (λσ H ⟨_,sm,vs,e,d⟩=>hd H sm (mO (qN hD e) (d.same Qi _)));rintro i x σ H hi ⟨⟨v,rfl⟩,sm,vs,e,d⟩;have hil:i<xs.length:=(aae.mp hi).1;refine hs i x H _ hi sm λy H4 s4 dy=>?_;have hl:vs.length=i:=by rw[d.length];simp
 refine⟨vs,s4 _ _ e, ?_,⟨_,acg⟩,(sm.trans s4).newly hD,vs++[y],ak, ?_⟩
 .rw[sizeLine_eq];lia
 .rw[List.range_succ,aa3]
  exact fM (d.same (Fd s4) _) (dy.same (JW sm e) _)
end
end L2
namespace Prf
open PySem L2
structure Tc where
 (k:Nat) (r:Rw) (rd wr:Option Int)
noncomputable def M9(S:dR)(t:Tc):Prop:=∃s,S.hs[t.k]? = some s/\s.st = "waits" /\ s.rws[s.pos]? = some t.r/\t.rd=xT S.ns t.r/\t.wr=Jf s.bs t.r
noncomputable def Run:dR->List Tc->dR->Prop
 | S,[],S'=>S'=S
 | S,t::l,S'=>M9 S t/\Run (cJ S t.k) l S'
structure Dy(S T:dR):Prop where
 m:S.m=T.m
 ns:S.ns=T.ns
 hs:S.hs=T.hs
 ts:S.ts.Perm T.ts
theorem Dy.refl(S:dR):Dy S S:=⟨acg,acg,acg,List.Perm.refl _⟩
theorem Dy.trans{S T U:dR}(a:Dy S T)(b:Dy T U):Dy S U:=⟨a.m.trans b.m,a.ns.trans b.ns,a.hs.trans b.hs,a.ts.trans b.ts⟩
theorem M9.alk{S T:dR}{t:Tc}(h:M9 S t)(a:Dy S T):M9 T t:=by
 obtain⟨s,h1,h2,h3,h4,h5⟩:=h;exact⟨s,by rw[←a.hs];exact h1,h2,h3,by rw[←a.ns];exact h4,h5⟩
theorem M9.turn{S:dR}{t:Tc}(h:M9 S t):∃s,S.hs[t.k]? = some s/\s.rws[s.pos]? = some t.r/\cJ S t.k={S with ns:=dD S.ns s.bs t.r,hs:=S.hs.set t.k (kZ S.ns s t.r),ts:=S.ts++[(t.k:Int)]}:=by
 obtain⟨s,h1,_,h3,_⟩:=h;exact⟨s,h1,h3,lY h1 h3⟩
theorem NP{S T:dR}{t:Tc}(h:M9 S t)(a:Dy S T):Dy (cJ S t.k) (cJ T t.k):=by
 obtain⟨s,h1,h3,e⟩:=h.turn;have h1':T.hs[t.k]? = some s:=by rw[←a.hs];exact h1
 rw[e,lY h1' h3];exact⟨a.m,by show dD _ _ _=dD _ _ _;rw[a.ns],by show List.set _ _ _=List.set _ _ _;rw[a.hs,a.ns],a.ts.append_right _⟩
theorem Run.alk:∀{l:List Tc}{S T S':dR},Run S l S'->Dy S T -> ∃T',Run T l T'/\Dy S' T'
 | [],S,T,S',h,a=>⟨T,acg,by have h:S'=S:=h;rw[h];exact a⟩
 | t::l,S,T,S',⟨h1,h2⟩,a=>by
   obtain⟨T',r,a'⟩:=Run.alk h2 (NP h1 a);exact⟨T',⟨h1.alk a,r⟩,a'⟩
theorem Run.det:∀{l:List Tc}{S T T':dR},Run S l T->Run S l T'->T=T'
 | [],S,T,T',h,h'=>by
   have h:T=S:=h;have h':T'=S:=h';rw[h,h']
 | t::l,S,T,T',h,h'=>Run.det h.2 h'.2
theorem Run.app:∀{p q:List Tc}{S S':dR},Run S (p++q) S' ↔ ∃T,Run S p T/\Run T q S'
 | [],q,S,S'=>⟨λh=>⟨S,acg,h⟩,λ⟨T,h1,h2⟩=>by have h1:T=S:=h1;rw[h1] at h2;exact h2⟩
 | t::p,q,S,S'=>by
   constructor
   .rintro⟨h1,h2⟩
    obtain⟨T,a,b⟩:=Run.app.mp h2;exact⟨T,⟨h1,a⟩,b⟩
   .rintro⟨T,⟨h1,a⟩,b⟩
    exact⟨h1,Run.app.mpr ⟨T,a,b⟩⟩
noncomputable def stepT(x y:Tc):Prop:=x.k=y.k \/ ¬apart x.r y.r
theorem Run.swap{S S':dR}{x y:Tc}{l:List Tc}(n:¬stepT x y)(h:Run S (x::y::l) S'):∃Ni,Run S (y::x::l) Ni/\Dy S' Ni:=by
 obtain⟨hx,hy,hl⟩:=h;have nk:x.k≠y.k:=λz=>n (.inl z);have ap:apart x.r y.r:=Classical.byContradiction λz=>n (.inr z);obtain⟨s,s1,s2,s3,s4,s5⟩:=id hx;obtain⟨t,t1,t2,t3,t4,t5⟩:=id hy;have ex:=lY s1 s3
 have t1':S.hs[y.k]? = some t:=by
  rw[ex] at t1;have t1:(S.hs.set x.k _)[y.k]? = some t:=t1;rwa [List.getElem?_set_ne nk] at t1
 have ey:=lY t1' t3
 have hy':M9 S y:=⟨t,t1',t2,t3,by
  rw[t4,ex];exact ap.read,t5⟩
 have s1':(cJ S y.k).hs[x.k]? = some s:=by
  rw[ey];show (S.hs.set y.k _)[x.k]? = some s;rw[List.getElem?_set_ne (Ne.symm nk)];exact s1
 have hx':M9 (cJ S y.k) x:=⟨s,s1',s2,s3,by
  rw[s4,ey];exact ap.symm.read.symm,s5⟩
 obtain⟨w1,w2⟩:=KC nk s1 s3 t1' t3 ap
 have al:Dy (cJ (cJ S x.k) y.k) (cJ (cJ S y.k) x.k):=by
  refine⟨?_,w1,w2, ?_⟩
  .rw[(lX nk s1 s3 t1' t3).2,(lX (Ne.symm nk) t1' t3 s1 s3).2]
  .rw[(lX nk s1 s3 t1' t3).2,(lX (Ne.symm nk) t1' t3 s1 s3).2]
   show (S.ts++[(x.k:Int)]++[(y.k:Int)]).Perm (S.ts++[(y.k:Int)]++[(x.k:Int)]);rw[List.append_assoc,List.append_assoc];exact List.Perm.append_left _ (List.Perm.swap _ _ _)
 obtain⟨Ni,r,a⟩:=hl.alk al;exact⟨Ni,⟨hy',hx',r⟩,a⟩
theorem Run.front:∀{pre:List Tc}{S S':dR}{x:Tc}{post:List Tc},(∀p∈pre,¬stepT p x)->Run S (pre++x::post) S' -> ∃Ni,Run S (x::(pre++post)) Ni/\Dy S' Ni
 | [],S,S',x,post,_,h=>⟨S',h,Dy.refl _⟩
 | p::pre,S,S',x,post,n,⟨h1,h2⟩=>by
   obtain⟨T,r,a⟩:=Run.front (λq hq=>n q (.tail _ hq)) h2;obtain⟨U,r',a'⟩:=Run.swap (n p (.head _)) (show Run S (p::x::(pre++post)) T from ⟨h1,r⟩);exact⟨U,r',a.trans a'⟩
inductive vI(l:List Tc):List Nat->Prop
 | nil:vI l []
 | snoc {o:List Nat} {a:Nat} {x:Tc} (h:vI l o) (e:l[a]? = some x) (n:a∉o) (q:∀m y,m<a->l[m]? = some y->stepT y x->m∈o):vI l (o++[a])
noncomputable def pick(l:List Tc)(o:List Nat):List Tc:=o.filterMap λi=>l[i]?
noncomputable def o9(l:List Tc)(o:List Nat):List Nat:=(List.range l.length).filter λi=> !o.contains i
theorem tU{p:Nat->Bool}{a:Nat}:∀n,a<n->p a=true->(List.range n).filter p=(List.range a).filter p++a::((List.range n).filter λi=>p i&&decide (a<i))
 | 0,h,_=>by lia
 | n+1,h,q=>by
   rw[List.range_succ,ab_,ab_];rcases Nat.lt_or_ge a n with l|l
   .have f:List.filter (λi=>p i&&decide (a<i)) [n]=List.filter p [n]:=by
     rw[abZ,abZ];cases p n<;>simp[l]
    rw[tU n l q,f];simp
   .have:a=n:=by lia
    subst this;have f1:List.filter p [a]=[a]:=by rw[abZ,acd q];rfl
    have f2:(List.range a).filter (λi=>p i&&decide (a<i))=[]:=List.filter_eq_nil_iff.mpr λi hi z=>by
     have:=abY.mp hi;simp at z;lia
    have f3:List.filter (λi=>p i&&decide (a<i)) [a]=[]:=by rw[abZ];simp
    rw[f1,f2,f3];simp
theorem zW{l:List Tc}{o:List Nat}{a:Nat}(ha:a<l.length)(n:a∉o):∃pre post,o9 l o=pre++a::post/\o9 l (o++[a])=pre++post /\ ∀m∈pre,m<a/\m∉o:=by
 have pa:(!o.contains a)=true:=by simpa using n
 have e:=tU (p:=λi=> !o.contains i) l.length ha pa;refine⟨_,_,e, ?_,λm hm=>?_⟩
 .unfold o9
  have c:∀i,(!(o++[a]).contains i)=((!o.contains i) && !decide (i=a)):=λi=>by
   rw[List.contains_append]
   by_cases q:i=a<;>simp[q]
  have e2:(List.range l.length).filter (λi=> !(o++[a]).contains i)=((List.range l.length).filter λi=> !o.contains i).filter λi=> !decide (i=a):=by
   rw[List.filter_filter];refine List.filter_congr λi _=>?_;rw[c,Bool.and_comm]
  rw[e2,e,ab_,abZ];simp only[decide_true,Bool.not_true,Bool.false_eq_true,if_false];congr 1
  .exact List.filter_eq_self.mpr λi hi=>by
    have:=abY.mp (abS.mp hi).1;simp;lia
  .exact List.filter_eq_self.mpr λi hi=>by
    have:=(abS.mp hi).2;simp at this ⊢;lia
 .obtain⟨h1,h2⟩:=abS.mp hm
  exact⟨abY.mp h1,by simpa using h2⟩
theorem jX(l:List Tc)(a b:List Nat):pick l (a++b)=pick l a++pick l b:=by unfold pick;rw[List.filterMap_append]
theorem jG{l:List Tc}{a:Nat}{x:Tc}(e:l[a]? = some x)(b:List Nat):pick l (a::b)=x::pick l b:=by
 unfold pick;rw[List.filterMap_cons,e]
theorem Ow(l:List Tc):pick l (o9 l [])=l:=by
 unfold pick o9;have:(List.range l.length).filter (λi=> !([]:List Nat).contains i)=List.range l.length:=List.filter_eq_self.mpr λi _=>by simp
 rw[this];refine List.ext_getElem? λi=>?_
 have gen:∀n,n<=l.length->(List.range n).filterMap (λi=>l[i]?)=l.take n:=by
  intro n
  induction n with
  | zero=>intro _;rfl
  | succ n ih=>
    intro hn;rw[List.range_succ,List.filterMap_append,ih (by lia),abB];congr 1
 rw[gen _ (aaj _),abA]
theorem Run.other{l:List Tc}{S S':dR}(h:Run S l S'){o:List Nat}(O:vI l o):∃T Ni,Run S (pick l o) T/\Run T (pick l (o9 l o)) Ni/\Dy S' Ni:=by
 induction O with
 | nil=>exact⟨S,S',acg,by rw[Ow];exact h,Dy.refl _⟩
 | @snoc o a x O e n q ih=>
   obtain⟨T,S1,r1,r2,al⟩:=ih;have ha:a<l.length:=(aae.mp e).1;obtain⟨pre,post,e1,e2,e3⟩:=zW ha n;rw[e1,jX,jG e] at r2
   have np:∀p∈pick l pre,¬stepT p x:=λp hp st=>by
    unfold pick at hp;obtain⟨m,hm,em⟩:=List.mem_filterMap.mp hp;obtain⟨lm,nm⟩:=e3 m hm;exact nm (q m p lm em st)
   obtain⟨S2,r3,al2⟩:=Run.front np r2;obtain⟨r3a,r3b⟩:=r3;refine⟨cJ T x.k,S2, ?_,by rw[e2,jX];exact r3b,al.trans al2⟩;rw[jX,jG e];exact Run.app.mpr ⟨T,r1,r3a,acg⟩
theorem Run.next{l:List Tc}{S S' T:dR}(h:Run S l S'){o:List Nat}{a:Nat}{x:Tc}(O:vI l (o++[a]))(e:l[a]? = some x)(r:Run S (pick l o) T):M9 T x:=by
 obtain⟨U,_,r1,_,_⟩:=h.other O;rw[jX,jG e] at r1;obtain⟨T',r2,r3,_⟩:=Run.app.mp r1;rw[r.det r2];exact r3
theorem Run.end{l:List Tc}{S S' T:dR}(h:Run S l S'){o:List Nat}(O:vI l o)(all:∀i,i<l.length->i∈o)(r:Run S (pick l o) T):Dy S' T:=by
 obtain⟨U,Ni,r1,r2,al⟩:=h.other O
 have:o9 l o=[]:=List.filter_eq_nil_iff.mpr λi hi=>by
  have:=all i (abY.mp hi);simpa using this
 rw[this] at r2;have r2:Ni=U:=r2;rw[r.det r1,←r2];exact al
end Prf
namespace L2
open PySem PySem.Spec PyProof.Rows PySem.W
section
variable{P:Program}{w:World}{H:Hp}{h h':Heap}{p:Addr}{ps:Array Value}
end
section
variable{X:Cx}
end
section
variable{X:Cx}{k:Nat}{N ps:List Str}{qual:Str}{params:Arguments}{body:Expr}{scope:Scope}{sp:List V->Hp->VK->Prop}{pm:Value}{f:Addr}
end
section
variable{X:Cx}{pins:List (Addr×Obj)}{σ:St}{H:Hp}{q l I S:Addr}{xs:List V}
end
section
variable{X:Cx}{a:Expr}{ta:TA}{tk:TE}{p pos kp air:Pos}{k:Nat}{N ps:List Str}{qual:Str}{params:Arguments}{body:Expr}{scope:Scope}{sp:List V->Hp->VK->Prop}{pm:Value}
end
section
variable{P:Program}{w:World}{K:PySem.W.Frag}{mg:Str->Option Value}{base:Heap}
end
end L2
namespace L2
open PySem PySem.Spec PyProof.Rows
section
variable{X:Cx}{K:PySem.W.Frag}
end
end L2
namespace L2
open PySem PyProof.Rows
theorem DN:∀{ps:List Str}{us:List Value},us.length=ps.length->ps.Nodup->(ps.filter λn=>((ps.zip us).lookup n).isNone)=[]/\(ps.filterMap λn=>((ps.zip us).lookup n).map (n,·))=ps.zip us
 | [],[],_,_=>⟨acg,acg⟩
 | p::ps,u::us,hl,nd=>by
   rw[List.nodup_cons] at nd;obtain⟨h1,h2⟩:=DN (ps:=ps) (us:=us) (by simpa using hl) nd.2
   have e:∀n∈ps,((p::ps).zip (u::us)).lookup n=(ps.zip us).lookup n:=λn hn=>by
    rw[List.zip_cons_cons,List.lookup_cons];rw[show (n==p)=false from beq_eq_false_iff_ne.mpr λz=>nd.1 (by rw[←z];exact hn)]
   have e0:((p::ps).zip (u::us)).lookup p=some u:=by rw[List.zip_cons_cons,List.lookup_cons];simp
   constructor
   .rw[abZ,e0,ab' (by simp)]
    rw[←h1];exact List.filter_congr λn hn=>by rw[e n hn]
   .rw[List.filterMap_cons,e0]
    refine congrArg ((p,u) :: ·) (Eq.trans ?_ h2);clear h1 h2 e0 hl;revert e;generalize ((p::ps).zip (u::us))=a;generalize ps.zip us=b;intro e
    induction ps with
    | nil=>rfl
    | cons q ps ih=>
      rw[List.filterMap_cons,List.filterMap_cons,e q (by simp),ih ⟨λz=>nd.1 (by simp[z]),(List.nodup_cons.mp nd.2).2⟩ λn hn=>e n (by simp[hn])]
 | [],_::_,hl,_=>by simp at hl
 | _::_,[],hl,_=>by simp at hl
noncomputable def lO(a:Arguments)(ps:List Str):Bool:=a.posonlyargs.isEmpty&&decide (a.args.map (·.arg)=ps)&&a.vararg.isNone&&a.kwonlyargs.isEmpty&&a.kwarg.isNone&&decide ps.Nodup
theorem yN{fd:FuncData}{ps:List Str}{us:List Value}(h:lO fd.params ps=true)(hd:fd.defaults = .none)(hl:us.length=ps.length):bindArgs fd ⟨us,[]⟩=pure (ps.zip us):=by
 unfold lO at h;simp only[aa6,decide_eq_true_eq,List.isEmpty_iff,Option.isNone_iff_eq_none] at h;obtain⟨⟨⟨⟨⟨h1,h2⟩,h3⟩,h4⟩,h5⟩,nd⟩:=h;obtain⟨z1,z2⟩:=DN hl nd;have e0:seqItems? Value.none=pure none:=acg;unfold bindArgs;simp only[h1,h2,h3,h4,h5,hd,e0,List.map_nil,List.nil_append,List.append_nil,pure_bind,Option.getD_none];rw[List.forIn_nil,pure_bind];dsimp only;rw[ab' (by rw[hl];simp)];simp only[List.length_nil,Nat.zero_sub,List.drop_nil,Nat.sub_zero,abA,z1,List.isEmpty_nil,Bool.not_true,Bool.false_eq_true,if_false,List.zip_nil_right,List.forIn_nil,pure_bind,z2,Array.toList_empty]
end L2
namespace L2
open PySem PySem.Spec PyProof.Rows PySem.W
theorem fQ.vf{K:PySem.W.Frag}{x qual:Str}{st:Stmt}{f:Addr}{fd:FuncData}{ps:List Str}(F:fQ K x qual st f fd)(h:lO (dM st) ps=true):Binds K fd ps []:=
 F.binds λ_ _ _ _ _ _ _ hl=>yN h rfl hl
theorem fQ.bind1{K:PySem.W.Frag}{x qual a:Str}{st:Stmt}{f:Addr}{fd:FuncData}(F:fQ K x qual st f fd)(h:lO (dM st) [a]=true)(s:Shared)(v:Value):BindsTo s fd ⟨[v],[]⟩ [(a,v)]:=by
 obtain⟨oc,od,kV,doc,pm,an,cdv,ct,osl,rfl,lk,hcd⟩:=F.ex;exact .of_eq (yN (ps:=[a]) h rfl rfl)
noncomputable def iH(K:PySem.W.Frag)(x:Str)(st:Stmt):Prop:=∃f fd,nsIn K mainGlobals x=some (some (.ref f))/\fQ K x x st f fd
noncomputable def gF(K:PySem.W.Frag)(C:Addr)(m q:Str)(st:Stmt):Prop:=∃f fd,(findIn K (.ref C) m=some (some (.ref f))/\isFn K (.ref f)=true)/\fQ K m q st f fd
section
variable{K:PySem.W.Frag}{x m q:Str}{st:Stmt}{f p C c:Addr}{oc:Value}{od an:Option Addr}{osl:Array (Option Value)}{kV doc pm cdv ct:Value}
theorem Ml(a:nsIn K mainGlobals x=some (some (.ref f)))(l:K.lookup f=some ⟨oc,od,.func (PySem.W.fnOf x x (dM st) (fU st) (aM st) .none kV doc pm an cdv ct),osl⟩)(c:PySem.W.codeIn K cdv x=true)(k:PySem.W.keepIn K (.ref f)=true):iH K x st:=⟨_,_,a,QJ l c k⟩
theorem Q6(a:findIn K (.ref C) m=some (some (.ref f)))(l:K.lookup f=some ⟨oc,od,.func (PySem.W.fnOf m q (dM st) (fU st) (aM st) .none kV doc pm an cdv ct),osl⟩)(c:PySem.W.codeIn K cdv q=true)(k:PySem.W.keepIn K (.ref f)=true)(n:isFn K (.ref f)=true):gF K C m q st:=⟨_,_,⟨a,n⟩,QJ l c k⟩
end
noncomputable def VR(K:PySem.W.Frag)(C:Addr):List Str->Prop
 | []=>True
 | a::l=>findIn K (.ref C) a=some none/\VR K C l
noncomputable def RD(K:PySem.W.Frag):List Str->Prop
 | []=>True
 | a::l=>nsIn K mainGlobals a=some none/\RD K l
noncomputable def ab3(mg:Str->Option Value):List Str->Prop
 | []=>True
 | a::l=>mg a=none/\ab3 mg l
theorem RD.mg{K:PySem.W.Frag}{h:Heap}{mg:Str->Option Value}(X:K.In h)(G:h.Ns mainGlobals mg):∀{l:List Str},RD K l->ab3 mg l
 | [],_=>trivial
 | _::_,z=>⟨mg_none_of X G z.1,RD.mg X G z.2⟩
structure Je(K:PySem.W.Frag)(x:Str)(C:Addr):Prop where
 a:nsIn K mainGlobals x=some (some (.ref C))
 pg:plainGet K C Str.empty=true
 hd:hasDictIn K C=true
 po:plainOver K C=true
 sa:findIn K (.ref C) "__setattr__" = some (some (.builtin "object.__setattr__"))
 ms:makesIn K C=true
 kp:keepIn K (.ref C)=true
theorem Je.cls{K:PySem.W.Frag}{x:Str}{C:Addr}(I:Je K x C):Cls K C:=⟨I.pg,I.hd,I.po,I.sa⟩
structure Sq(K:PySem.W.Frag)(x:Str)(C:Addr):Prop where
 a:nsIn K mainGlobals x=some (some (.ref C))
 cl:(clsIn K C).isSome=true
 ty:typeIn K (.ref C)=some (.type "type")
 bs:subIn K (.ref C) (.type "BaseException")=some true
structure XrI(K:PySem.W.Frag)(C:Addr):Prop where
 ga:findIn K (.ref C) "__getattribute__" = some (some (.builtin "BaseException.__getattribute__"))
 gk:findIn K (.ref C) "__getattr__" = some none
 mB:mroIn K C (.type "BaseException")=some true
 ca:findIn K (.ref C) "__class__" = some (some (.builtin "object.__class__"))
 mo:mroIn K C (.type "object")=some true
 ve:subIn K (.ref C) (.type "ValueError")=some true
 ex:excIn K C [.type "ValueError",.type "Exception",.type "BaseException",.type "object"] "ValueError.__new__" = true
structure XcI(K:PySem.W.Frag):Prop where
 cg:specialIn K (.builtin "object.__class__") "__get__" = some (some (.builtin "getset_descriptor.__get__"))
 ct:takesIn K (.builtin "object.__class__")=some true
structure W5(P:Program)(w:World)(K:PySem.W.Frag)(mg:Str->Option Value)(base:Heap):Prop where
 h:∃h,K.In h/\h.Ns mainGlobals mg
section
variable{P:Program}{w:World}{K:PySem.W.Frag}{mg:Str->Option Value}{base:Heap}{x m q:Str}{st:Stmt}{p C D:Addr}{k:Nat}{ps:List Str}{sp:Sp}{h:Heap}{b:Bool}
theorem Sq.o{R:Addr}(I:Sq K x C)(X:K.In h)(G:h.Ns mainGlobals mg)(Q:Gu K R C b):Xo K mg R C x b:=⟨mg_of X G I.a,⟨I.cl,I.ty,I.bs⟩,Q⟩
theorem Sq.r(I:Sq K x C)(X:K.In h)(G:h.Ns mainGlobals mg)(R:XrI K C)(c:XcI K):Xr K mg C x:=⟨mg_of X G I.a,⟨I.cl,I.ty,I.bs⟩,⟨R.ga,R.gk,R.mB,I.cl,R.ca,c.cg,c.ct,R.mo⟩,R.ex,R.ve⟩
variable(Y:W5 P w K mg base)
include Y
theorem W5.fn(D:iH K x st)(ok:∀{f:Addr}{fd:FuncData},fQ K x x st f fd->bR P w K mg base ig k f fd ps sp)(hp:lO (dM st) ps=true:=by kernel_rfl):FnAt P w K mg base k x ps sp:=by
 obtain⟨h,X,G⟩:=Y.h;obtain⟨f,fd,a,F⟩:=D;exact⟨f,fd,ok F,mg_of X G a,F.kp,F.vf hp⟩
theorem W5.fnX(D:iH K x st)(ok:∀{f:Addr}{fd:FuncData},fQ K x x st f fd->bR P w K mg base (qJ P w) k f fd ps sp)(hp:lO (dM st) ps=true:=by kernel_rfl):RM P w K mg base k x ps sp:=by
 obtain⟨h,X,G⟩:=Y.h;obtain⟨f,fd,a,F⟩:=D;exact⟨f,fd,ok F,mg_of X G a,F.kp,F.vf hp⟩
theorem W5.me(D:gF K C m q st)(ok:∀{f:Addr}{fd:FuncData},fQ K m q st f fd->bR P w K mg base ig k f fd ps sp)(hp:lO (dM st) ps=true:=by kernel_rfl):MethAt P w K mg base k C m ps sp:=by
 obtain⟨f,fd,⟨a,n⟩,F⟩:=D;exact⟨f,fd,ok F,⟨a,n,F.kp⟩,F.vf hp⟩
theorem W5.meX(D:gF K C m q st)(ok:∀{f:Addr}{fd:FuncData},fQ K m q st f fd->bR P w K mg base (qJ P w) k f fd ps sp)(hp:lO (dM st) ps=true:=by kernel_rfl):jD P w K mg base k C m ps sp:=by
 obtain⟨f,fd,⟨a,n⟩,F⟩:=D;exact⟨f,fd,ok F,⟨a,n,F.kp⟩,F.vf hp⟩
theorem W5.ma(I:Je K x C)(D:gF K C "__init__" q st)(ok:∀{f:Addr}{fd:FuncData},fQ K "__init__" q st f fd->bR P w K mg base ig k f fd ps sp)(hp:lO (dM st) ps=true:=by kernel_rfl):pW P w K mg base k C x ps [] sp:=by
 obtain⟨h,X,G⟩:=Y.h;obtain⟨f,fd,⟨a,n⟩,F⟩:=D;exact⟨f,fd,[],ok F,⟨I.ms,a,n,I.kp⟩,mg_of X G I.a,F.vf hp,.nil⟩
theorem W5.maX(I:Je K x C)(D:gF K C "__init__" q st)(ok:∀{f:Addr}{fd:FuncData},fQ K "__init__" q st f fd->bR P w K mg base (qJ P w) k f fd ps sp)(hp:lO (dM st) ps=true:=by kernel_rfl):uo P w K mg base k C x ps [] sp:=by
 obtain⟨h,X,G⟩:=Y.h;obtain⟨f,fd,⟨a,n⟩,F⟩:=D;exact⟨f,fd,[],ok F,⟨I.ms,a,n,I.kp⟩,mg_of X G I.a,F.vf hp,.nil⟩
end
end L2
namespace L2
open PySem PySem.Spec PyProof.Rows
theorem vM:isSubtype (.type "range_iterator") (.type "reversed")=pure false:=by rw[isSubtype_type];kernel_rfl
noncomputable def JC(j:Int):Obj:={cls:= .type "range_iterator",data:= .fields #[rawInt (0+(Builtin.Range.rangeSize 0 j 1 - 1)*1),rawInt (Builtin.Range.rangeSize 0 j 1),rawInt (-1)]}
section
variable{prog:Program}{w:World}{A:Around}{E:Value->Shared->Prop}{s:Shared}
theorem jJ{z:Int}(l1: -(2 ^ 63)<=z)(l2:z<2 ^ 63):Builtin.Range.rangeFitsLong z=true:=by
 unfold Builtin.Range.rangeFitsLong;rw[aaq l1,aaq l2];rfl
theorem tY{r:Addr}{j:Int}{t u v:Tok}{Q:Value->Shared->Prop}(hr:IsRange s.heap r 0 j 1 t u v)(h1: -(2 ^ 61)<=j)(h2:j<2 ^ 61)(h:Q (.ref s.heap.objs.size) {s with heap:=s.heap.push (JC j)}):wpAny (model prog w) A (call (.builtin "range.__reversed__") [.ref r]) Q E s:=by
 have hT:s.TypeIs (.ref r) "range" :=⟨_,hr,acg⟩;refine wpAny_call_entry F.slot_range_reversed hT F.entry_range_reversed ?_ (F.args_range_reversed_1 _);unfold Builtin.«range.__reversed__»;refine aak (wpAny_of_eq (a:=Value.ref r) rfl ?_);refine aak ?_;unfold Builtin.Range.rangeFields;refine aak (wpAny_field hr rfl (x:= .int 0 t) rfl ?_);refine aak (wpAny_of_eq (a:=some (0:Int)) rfl ?_);refine aak (wpAny_field hr rfl (x:= .int j u) rfl ?_);refine aak (wpAny_of_eq (a:=some j) rfl ?_);refine aak (wpAny_field hr rfl (x:= .int 1 v) rfl ?_);refine aak (wpAny_of_eq (a:=some (1:Int)) rfl ?_);refine wpAny_of_eq (a:=((0:Int),j,(1:Int))) rfl ?_
 have hs:(Builtin.Range.rangeFitsLong 0&&Builtin.Range.rangeFitsLong j&&Builtin.Range.rangeFitsLong 1&&Builtin.Range.rangeFitsLong (-1)&&Builtin.Range.rangeFitsLong (0 - 1)&&Builtin.Range.rangeFitsLong (Builtin.Range.rangeSize 0 j 1))=true:=by
  rw[jJ (by decide) (by decide),jJ (z:=j) (by lia) (by lia),jJ (z:=1) (by decide) (by decide),jJ (z:= -1) (by decide) (by decide),jJ (z:=0 - 1) (by decide) (by decide),jJ (z:=Builtin.Range.rangeSize 0 j 1) (by rw[rangeSize_one];split<;>lia) (by rw[rangeSize_one];split<;>lia)];rfl
 dsimp only;rw[hs];simp only[Bool.not_true,Bool.false_eq_true,if_false,if_true]
 first
 | exact aak (wpAny_newObj_type (aal ⟨_,acg,h⟩))
 | refine aak (wpAny_of_eq (a:=()) rfl ?_)
   exact aak (wpAny_newObj_type (aal ⟨_,acg,h⟩))
theorem tW{r:Addr}{j:Int}{t u v:Tok}{Q₁:Value->Shared->Prop}(hr:IsRange s.heap r 0 j 1 t u v)(h1: -(2 ^ 61)<=j)(h2:j<2 ^ 61)(h:Q₁ (.ref s.heap.objs.size) {s with heap:=s.heap.push (JC j)}):
 codeAny (model prog w) A (.call (.builtin "reversed.__new__") ⟨[.type "reversed",.ref r],[]⟩) (wants Q₁ E) s:=by
 have hT:s.TypeIs (.ref r) "range" :=⟨_,hr,acg⟩;refine codeAny_of_tree ?_;show wpAny _ A.in1 (do checkBuiltinCall "reversed.__new__" ⟨[.type "reversed",.ref r],[]⟩;again (.builtin "reversed.__new__" ⟨[.type "reversed",.ref r],[]⟩)) _ _ s;refine aak (wpAny_of_eq (F.newCall_reversed_1 _) (aal ⟨plainId_quiet F.plain_reversed_new _,codeAny_builtin F.entry_reversed_new ?_⟩));rw[Around.under_plainId F.plain_reversed_new _];unfold Builtin.«reversed.__new__»;refine aak (wpAny_of_eq (newClass_reversed _) ?_)
 try dsimp only
 refine aak (wpAny_of_eq (a:=()) (by first |rfl|kernel_rfl) ?_);refine aak (wpAny_of_eq (a:=()) (by first |rfl|kernel_rfl) ?_)
 try dsimp only
 refine aak (wpAny_specialOf hT F.slot_range_reversed.lookup ?_)
 try dsimp only
 refine aak (wpAny_of_eq (F.slot_range_reversed.bind _) ?_)
 try dsimp only
 first
 | rw[ab' (show ¬((Value.builtin "range.__reversed__" == Value.none)=true) from aax)]
 | (show wpAny _ _ (if (Value.builtin "range.__reversed__" == Value.none)=true then _ else _) _ _ _;rw[ab' (show ¬((Value.builtin "range.__reversed__" == Value.none)=true) from aax)])
 refine aak (wpAny_rule ?_);refine aak (m:=runValue (.call (.builtin "range.__reversed__") ⟨[.ref r],[]⟩)) (show wpAny _ _ (call (.builtin "range.__reversed__") [.ref r]) _ _ _ from tY hr h1 h2 ?_)
 first
 | exact aal h
 | exact aak (aal (aal h))
theorem tZ{r:Addr}{j:Int}{t u v:Tok}{Q:Value->Shared->Prop}(hr:IsRange s.heap r 0 j 1 t u v)(h1: -(2 ^ 61)<=j)(h2:j<2 ^ 61)(h:Q (.ref s.heap.objs.size) {s with heap:=s.heap.push (JC j)}):wpAny (model prog w) A (call (.type "reversed") [.ref r]) Q E s:=by
 refine callType_other (U:= "range_iterator") (Q₁:=λobj s₁=>obj = .ref s.heap.objs.size/\s₁={s with heap:=s.heap.push (JC j)}) (by decide +kernel) F.create_reversed ⟨_,_,F.mro_reversed⟩ F.made_reversed vM (F.typeCall_reversed_1 _) (tW hr h1 h2 ⟨acg,acg⟩) ?_;rintro obj s₁ ⟨rfl,rfl⟩;exact⟨⟨_,aah _ rfl,acg⟩,h⟩
end
section
variable{X:Cx}{tg:Expr}
noncomputable def abl(ta:TA):TI:=λσ H R=>ta σ H λvs H1=>∃j:Int,vs=[.int j]/\(0<=j/\j<2 ^ 61)/\R (RJ (j - 1) j.toNat) H1
theorem Ug{a:Expr}{ta:TA}{p p2 pos pos2:Pos}(hg:Gl X "reversed")(hm:X.mg "reversed" = none)(hgr:Gl X "range")(hmr:X.mg "range" = none)(ha:PA X [a] ta)(hs:starEach [a] X.env=[(false,eval a X.env)]:=by rfl)(hl:starEach [.Call (.Name "range" p2) [a] [] pos2] X.env=[(false,eval (.Call (.Name "range" p2) [a] [] pos2) X.env)]:=by rfl):
 PI X tg (.Call (.Name "reversed" p) [.Call (.Name "range" p2) [a] [] pos2] [] pos) (abl ta):=by
 intro pins s σ H R I h;refine Call_ (nQ I hg hm Gk (PyProof.Rows.callWith_type1 ?_ hl rfl));rw[hl];show wpAny _ _ (spliced ((false,eval (.Call (.Name "range" p2) [a] [] pos2) X.env)::backTo pos (starEach [] X.env))) _ _ s;refine Calls.spliced_cons (Call_ (nQ I hgr hmr boot_range (PyProof.Rows.callWith_type1 (dG (ha pos2 pins s σ H _ I h) λus s1 ⟨vs,H1,I1,r1,q1⟩=>?_) hs rfl)));obtain⟨j,e,⟨q1,q2⟩,q⟩:=q1;subst e;obtain⟨v,rfl,rx⟩:=vals1 r1;obtain⟨t,rfl⟩:=rx;refine call_range_1 ?_;refine Calls.spliced_nil ?_;refine tZ (IsRange.new ..) (by lia) q2 ?_;generalize hh1:s1.heap.push {cls:= .type "range",data:= .fields #[.int 0 s1.toks,.int j t,.int 1 (s1.toks+1)]}=hp1;have I2:Inv X pins σ H1 {s1 with heap:=hp1,toks:=s1.toks+1+1}:=by subst hh1;exact I1.kept λb o e=>aag _ e
 refine wpAny_pyIter_rangeiter (it:=hp1.objs.size) (x:=0+(Builtin.Range.rangeSize 0 j 1 - 1)*1) (left:=Builtin.Range.rangeSize 0 j 1) (step:= -1) (aah _ rfl) ?_;refine⟨hp1.objs.size,[hp1.objs.size],_,_,H1,acg,I2.kept (t':=s1.toks+1+1) λb o e=>aag _ e,D_ _ (j - 1) j.toNat, ?_,λb hb=>?_,q⟩
 .show IsRangeIter _ _ (j - 1+((0:Nat):Int)*(-1)) (((j.toNat:Nat):Int) - ((0:Nat):Int)) (-1)
  have e1:j - 1+((0:Nat):Int)*(-1)=0+(Builtin.Range.rangeSize 0 j 1 - 1)*1:=by rw[rangeSize_one];split<;>lia
  have e2:((j.toNat:Nat):Int) - ((0:Nat):Int)=Builtin.Range.rangeSize 0 j 1:=by rw[rangeSize_one];split<;>lia
  rw[e1,e2];exact aah _ rfl
 .have e:b=hp1.objs.size:=by simpa using hb
  subst e;exact I2.yF (aaj _) (I2.hok.fresh (aaj _))
end
end L2
namespace Prf
open PySem L2
inductive Ah(r:Nat->Nat->Prop):Nat->Nat->Prop
 | one {i j:Nat} (h:r i j):Ah r i j
 | more {i y j:Nat} (h:r i y) (q:Ah r y j):Ah r i j
theorem Ah.trans{r:Nat->Nat->Prop}:∀{i y j:Nat},Ah r i y->Ah r y j->Ah r i j
 | _,_,_,.one h,q=> .more h q
 | _,_,_,.more h p,q=> .more h (p.trans q)
theorem Ah.lt{r:Nat->Nat->Prop}(hr:∀i j,r i j->i<j):∀{i j:Nat},Ah r i j->i<j
 | _,_,.one h=>hr _ _ h
 | _,_,.more h q=>Nat.lt_trans (hr _ _ h) (q.lt hr)
theorem Ah.last{r:Nat->Nat->Prop}:∀{i j:Nat},Ah r i j->r i j \/ ∃y,Ah r i y/\r y j
 | _,_,.one h=> .inl h
 | _,_,.more h q=> .inr (match q.last with
   | .inl g=>⟨_,.one h,g⟩
   | .inr ⟨y,a,b⟩=>⟨y,.more h a,b⟩)
theorem Ah.first{r:Nat->Nat->Prop}:∀{i j:Nat},Ah r i j->r i j \/ ∃y,r i y/\Ah r y j
 | _,_,.one h=> .inl h
 | _,_,.more h q=> .inr ⟨_,h,q⟩
theorem Ah.down{r:Nat->Nat->Prop}{D:Nat->Prop}(cl:∀a b,r a b->D b->D a):∀{i j:Nat},Ah r i j->D j->D i
 | _,_,.one h,d=>cl _ _ h d
 | _,_,.more h q,d=>cl _ _ h (q.down cl d)
noncomputable def told(own meet:Nat->Nat->Prop)(few:Prop)(i j:Nat):Prop:=i<j/\meet i j /\ ¬(few /\ ∃x,i<x/\x<j/\Ah (λa b=>a<b/\(own a b\/meet a b)) x j/\Ah (λa b=>a<b/\(own a b\/meet a b)) i x)
theorem kh{own meet:Nat->Nat->Prop}{few:Prop}{D:Nat->Prop}(cl:∀a b,a<b->own a b\/meet a b->D b->D a){j:Nat}(ho:∀i,i<j->own i j->D i)(hn:∀i,told own meet few i j->D i):
 ∀n i,i<j->j - i<=n->meet i j->D i
 | 0,i,l,m,_=>by lia
 | n+1,i,l,m,h=>by
   have hr:∀a b,(a<b/\(own a b\/meet a b))->a<b:=λ_ _ z=>z.1;have cl':∀a b,(a<b/\(own a b\/meet a b))->D b->D a:=λa b z=>cl a b z.1 z.2;refine Classical.byContradiction λnd=>?_;have nt:¬told own meet few i j:=λz=>nd (hn i z);have:few /\ ∃x,i<x/\x<j/\Ah (λa b=>a<b/\(own a b\/meet a b)) x j/\Ah (λa b=>a<b/\(own a b\/meet a b)) i x:=Classical.byContradiction λz=>nt ⟨l,h,z⟩;obtain⟨_,x,l1,l2,a1,a2⟩:=this;rcases(a2.trans a1).last with q|⟨y,p,q⟩
   .rcases a1.last with g|⟨z,g1,g2⟩
    .rcases g.2 with g|g
     .exact nd (a2.down cl' (ho x l2 g))
     .exact nd (a2.down cl' (kh cl ho hn n x l2 (by lia) g))
    .have z1:=g1.lt hr
     rcases g2.2 with g|g
     .exact nd ((a2.trans g1).down cl' (ho z g2.1 g))
     .exact nd ((a2.trans g1).down cl' (kh cl ho hn n z g2.1 (by lia) g))
   .have:=p.lt hr
    rcases q.2 with g|g
    .exact nd (p.down cl' (ho y q.1 g))
    .exact nd (p.down cl' (kh cl ho hn n y q.1 (by lia) g))
theorem Ou{r:Nat->Nat->Prop}(hr:∀i j,r i j->i<j){i j:Nat}(l:i<j):Ah r i j↔r i j \/ ∃y,i<y/\y<j/\Ah r i y/\Ah r y j:=by
 constructor
 .intro h
  rcases h.first with q|⟨y,p,q⟩
  .exact .inl q
  .exact .inr ⟨y,hr _ _ p,q.lt hr,.one p,q⟩
 .rintro(h|⟨y,_,_,p,q⟩)
  .exact .one h
  .exact p.trans q
end Prf
namespace Tip
open PySem PyProof.Rows
noncomputable def k_:Bool->Keyed->Array Keyed->Nat->Nat->Nat->StateT SortSt Sem (Option Nat):=sortPriv% PySem.Builtin.gallop
noncomputable def qu(left:Bool)(key:Keyed)(arr:Array Keyed)(base i:Nat):StateT SortSt Sem (Option Bool):=do
 let x ←elem' arr (base+i)
 if left then lt' x key else return (←lt' key x).map (!·)
noncomputable def glB(left:Bool)(key:Keyed)(arr:Array Keyed)(base n lo hi:Nat):StateT SortSt Sem (Option Nat):=do
 let mut lo:=lo
 let mut hi:=hi
 for _ in [0:n] do
  if lo≥hi then break
  let m:=lo+(hi - lo) / 2
  let some more ←qu left key arr base m|return none
  if more then lo:=m+1 else hi:=m
 return some hi
theorem Ih(left:Bool)(key:Keyed)(arr:Array Keyed)(base n hint:Nat):k_ left key arr base n hint=(do
 let mut lastofs:=0
 let mut ofs:=1
 let some right ←qu left key arr base hint|return none
 if right then
  for _ in [0:n] do
   if ofs≥n - hint then break
   let some more ←qu left key arr base (hint+ofs)|return none
   if !more then break
   lastofs:=ofs
   ofs:=2*ofs+1
  glB left key arr base n (hint+lastofs+1) (hint+min ofs (n - hint))
 else
  for _ in [0:n] do
   if ofs≥hint+1 then break
   let some found ←qu left key arr base (hint - ofs)|return none
   if found then break
   lastofs:=ofs
   ofs:=2*ofs+1
  glB left key arr base n (hint+1 - min ofs (hint+1)) (hint - lastofs)):=acg
section
variable{prog:Program}{w:World}{A:Around}{E:Value->Shared->Prop}{s:Shared}{κ:SortKind}{a₀:Array Keyed}
structure vm(prog:Program)(w:World)(A:Around)(s:Shared)(κ:SortKind)(a₀:Array Keyed):Prop where
 ask:∀p∈a₀.toList,∀q∈a₀.toList,∀(E:Value->Shared->Prop)(Q:Bool->Shared->Prop),(∀b,Q b s)->wpAny (model prog w) A (keyLt' κ p.1 q.1) Q E s
theorem wK{st:SortSt}{p q:Keyed}{Q:Option Bool->SortSt->Prop}(C:vm prog w A s κ a₀)(hk:kindOf st=κ)(hp:p∈a₀.toList)(hq:q∈a₀.toList)(h:∀b,Q (some b) st):
 wpS (model prog w) A E s (lt' p q) Q st:=by
 rw[lt'_eq];refine aam (wpS_get ?_);rw[hk];exact aam (wpS_lift (wpAny_attempt (C.ask p hp q hq _ _ λb=>⟨acg,aan (h b)⟩)))
theorem bZ{st:SortSt}{arr:Array Keyed}{i:Nat}{Q:Keyed->SortSt->Prop}(hi:i<arr.size)(h:Q arr[i] st):wpS (model prog w) A E s (elem' arr i) Q st:=by
 rw[elem'_eq,getElem?_pos arr i hi];exact aan h
theorem bC{α:Type}{c:Prop}[Decidable c]{x y:StateT SortSt Sem α}{Q:α->SortSt->Prop}{st:SortSt}(h1:c->wpS (model prog w) A E s x Q st)(h2:¬c->wpS (model prog w) A E s y Q st):wpS (model prog w) A E s (if c then x else y) Q st:=by
 by_cases hc:c
 .rw[acd hc];exact h1 hc
 .rw[ab' hc];exact h2 hc
noncomputable def Of(a₀ a:Array Keyed):Prop:=∀p∈a.toList,p∈a₀.toList
theorem Of.get{a:Array Keyed}(h:Of a₀ a){i:Nat}(hi:i<a.size):a[i]∈a₀.toList:=h _ (by simp)
theorem mY{st:SortSt}{left:Bool}{key:Keyed}{arr:Array Keyed}{base i:Nat}{Q:Option Bool->SortSt->Prop}(C:vm prog w A s κ a₀)(hk:kindOf st=κ)(hkey:key∈a₀.toList)(zB:Of a₀ arr)(hi:base+i<arr.size)(h:∀b,Q (some b) st):wpS (model prog w) A E s (qu left key arr base i) Q st:=by
 unfold qu;refine aam (bZ hi ?_);cases left with
 | true=>exact wK C hk (zB.get hi) hkey h
 | false=>exact aam (wK C hk hkey (zB.get hi) λb=>aan (h _))
theorem Jp{st:SortSt}{left:Bool}{key:Keyed}{arr:Array Keyed}{base n lo hi:Nat}{Q:Option Nat->SortSt->Prop}(C:vm prog w A s κ a₀)(hk:kindOf st=κ)(hkey:key∈a₀.toList)(zB:Of a₀ arr)(hn:base+n<=arr.size)(hlh:lo<=hi)(hhn:hi<=n)(h:∀k,k<=n->Q (some k) st):wpS (model prog w) A E s (glB left key arr base n lo hi) Q st:=by
 unfold glB;refine aam (wpS_mono (wpS_forRange (I:=λ_ c st'=>st'=st /\ ∃lo hi,c=(none,lo,hi)/\lo<=hi/\hi<=n) (Q:=λc st'=>st'=st /\ ∃l k,c=(none,l,k)/\k<=n) ?_ ?_ ⟨acg,lo,hi,acg,hlh,hhn⟩) ?_)
 .rintro x c st' _ _ ⟨rfl,lo,hi,rfl,a1,a2⟩
  dsimp only;refine bC (λ_=>aan ⟨acg,_,_,acg,a2⟩) (λz=>?_);refine aam (mY C hk hkey zB (by lia) λb=>?_);dsimp only;exact bC (λ_=>aan ⟨acg,_,_,acg,by lia,a2⟩) (λ_=>aan ⟨acg,_,_,acg,by lia,by lia⟩)
 .rintro c st' ⟨rfl,l,k,rfl,_,a2⟩
  exact⟨acg,l,k,acg,a2⟩
 .rintro c st' ⟨rfl,l,k,rfl,a2⟩
  exact aan (h k a2)
theorem iI{st:SortSt}{left:Bool}{key:Keyed}{arr:Array Keyed}{base n hint:Nat}{Q:Option Nat->SortSt->Prop}(C:vm prog w A s κ a₀)(hk:kindOf st=κ)(hkey:key∈a₀.toList)(zB:Of a₀ arr)(hn:base+n<=arr.size)(hh:hint<n)(h:∀k,k<=n->Q (some k) st):
 wpS (model prog w) A E s (k_ left key arr base n hint) Q st:=by
 rw[Ih];refine aam (mY C hk hkey zB (by lia) λb=>?_);dsimp only;refine bC (λ_=>?_) (λ_=>?_)
 .refine aam (wpS_mono (wpS_forRange (I:=λ_ c st'=>st'=st /\ ∃l o,c=(none,l,o)/\l<o/\hint+l<n) (Q:=λc st'=>st'=st /\ ∃l o,c=(none,l,o)/\l<o/\hint+l<n) ?_ (λ_ _ z=>z) ⟨acg,0,1,acg,by lia,by lia⟩) ?_)
  .rintro x c st' _ _ ⟨rfl,l,o,rfl,a1,a2⟩
   dsimp only;refine bC (λ_=>aan ⟨acg,l,o,acg,a1,a2⟩) (λz=>?_);refine aam (mY C hk hkey zB (by lia) λb=>?_);dsimp only;exact bC (λ_=>aan ⟨acg,l,o,acg,a1,a2⟩) (λ_=>aan ⟨acg,_,_,acg,by lia,by lia⟩)
  .rintro c st' ⟨rfl,l,o,rfl,a1,a2⟩
   exact Jp C hk hkey zB hn (by dsimp only;lia) (by dsimp only;lia) h
 .refine aam (wpS_mono (wpS_forRange (I:=λ_ c st'=>st'=st /\ ∃l o,c=(none,l,o)/\l<o/\l<=hint) (Q:=λc st'=>st'=st /\ ∃l o,c=(none,l,o)/\l<o/\l<=hint) ?_ (λ_ _ z=>z) ⟨acg,0,1,acg,by lia,by lia⟩) ?_)
  .rintro x c st' _ _ ⟨rfl,l,o,rfl,a1,a2⟩
   dsimp only;refine bC (λ_=>aan ⟨acg,l,o,acg,a1,a2⟩) (λz=>?_);refine aam (mY C hk hkey zB (by lia) λb=>?_);dsimp only;exact bC (λ_=>aan ⟨acg,l,o,acg,a1,a2⟩) (λ_=>aan ⟨acg,_,_,acg,by lia,by lia⟩)
  .rintro c st' ⟨rfl,l,o,rfl,a1,a2⟩
   exact Jp C hk hkey zB hn (by dsimp only;lia) (by dsimp only;lia) h
structure qy(st st':SortSt):Prop where
 k:kindOf st'=kindOf st
 a:arrOf st'=arrOf st
 p:pendingOf st'=pendingOf st
 f:failedOf st'=failedOf st
theorem qy.refl(st:SortSt):qy st st:=⟨acg,acg,acg,acg⟩
theorem qy.trans{a b c:SortSt}(h:qy a b)(g:qy b c):qy a c:=⟨g.k.trans h.k,g.a.trans h.a,g.p.trans h.p,g.f.trans h.f⟩
noncomputable def fL:Nat->StateT SortSt Sem Unit:=sortPriv% PySem.Builtin.setMinGallop
theorem uM(g:Nat):fL g=modify λs=>SortSt.mk' (kindOf s) (arrOf s) (pendingOf s) g (failedOf s):=acg
theorem pZ{st:SortSt}{g:Nat}{Q:Unit->SortSt->Prop}(h:∀st',qy st st'->Q () st'):wpS (model prog w) A E s (fL g) Q st:=by
 rw[uM];exact wpS_modify (h _ ⟨acg,acg,acg,acg⟩)
theorem fZ(a:Array Keyed)(i j:Nat):(a.extract i j).toList=(a.toList.drop i).take (j - i):=by
 rw[Array.toList_extract,List.extract_eq_take_drop]
theorem yI(l:List Keyed)(i k:Nat):l.drop i=(l.drop i).take k++l.drop (i+k):=by
 rw[←List.drop_drop,List.take_append_drop]
end
noncomputable def yg:Array Keyed->Array Keyed->StateT SortSt Sem (Array Keyed):=sortPriv% PySem.Builtin.mergeLo
noncomputable def yh:Array Keyed->Array Keyed->StateT SortSt Sem (Array Keyed):=sortPriv% PySem.Builtin.mergeHi
noncomputable abbrev lQ(a b out:Array Keyed)(ia ib:Nat):Array Keyed:=out++a.extract ia a.size++b.extract ib b.size
noncomputable abbrev yp(a b out:Array Keyed)(ia ib:Nat):Array Keyed:=out++b.extract ib b.size++a.extract ia a.size
noncomputable abbrev S1:=Option (Array Keyed)×Array Keyed×Nat×Nat×Nat×Nat
noncomputable abbrev S2:=Option (Array Keyed)×Array Keyed×Nat×Nat×Nat×Nat×Nat
noncomputable def loC(a b:Array Keyed)(ia mg ac bc:Nat)(out:Array Keyed)(ib:Nat):StateT SortSt Sem (ForInStep S2):=do
 let out:=out.push (←elem' a ia)
 if ia+1+1==a.size then return .done (some (yp a b out (ia+1) ib),out,ia+1,ib,mg,ac,bc)
 if ac<7&&bc<7 then return .done (none,out,ia+1,ib,mg,ac,bc)
 return .yield (none,out,ia+1,ib,mg,ac,bc)
noncomputable def loB(a b:Array Keyed)(ib mg ac bc:Nat)(out:Array Keyed)(ia:Nat):StateT SortSt Sem (ForInStep S2):=do
 let out:=out.push (←elem' b ib)
 if ib+1==b.size then return .done (some (lQ a b out ia (ib+1)),out,ia,ib+1,mg,ac,bc)
 let some k ←k_ true (←elem' a ia) b (ib+1) (b.size - (ib+1)) 0|return .done (some (lQ a b out ia (ib+1)),out,ia,ib+1,mg,ac,bc)
 if k>0 then
  if ib+1+k==b.size then return .done (some (lQ a b (out++b.extract (ib+1) (ib+1+k)) ia (ib+1+k)),out++b.extract (ib+1) (ib+1+k),ia,ib+1+k,mg,ac,k)
  else loC a b ia mg ac k (out++b.extract (ib+1) (ib+1+k)) (ib+1+k)
 else loC a b ia mg ac k out (ib+1)
noncomputable def loA(a b out:Array Keyed)(ia ib ac bc mg:Nat):StateT SortSt Sem (ForInStep S2):=do
 fL mg
 let some k ←k_ false (←elem' b ib) a ia (a.size - ia) 0|return .done (some (lQ a b out ia ib),out,ia,ib,mg,ac,bc)
 if k>0 then
  if ia+k+1==a.size then return .done (some (yp a b (out++a.extract ia (ia+k)) (ia+k) ib),out++a.extract ia (ia+k),ia+k,ib,mg,k,bc)
  else if ia+k==a.size then return .done (some (lQ a b (out++a.extract ia (ia+k)) (ia+k) ib),out++a.extract ia (ia+k),ia+k,ib,mg,k,bc)
  else loB a b ib mg k bc (out++a.extract ia (ia+k)) (ia+k)
 else loB a b ib mg k bc out ia
noncomputable def lo1(a b:Array Keyed)(mg:Nat)(c:S1):StateT SortSt Sem (ForInStep S1):=
 let out:=c.2.1;let ia:=c.2.2.1;let ib:=c.2.2.2.1;let ac:=c.2.2.2.2.1;let bc:=c.2.2.2.2.2
 do
 let some bWins ←lt' (←elem' b ib) (←elem' a ia)|return .done (some (lQ a b out ia ib),out,ia,ib,ac,bc)
 if bWins then
  let out:=out.push (←elem' b ib)
  if ib+1==b.size then return .done (some (lQ a b out ia (ib+1)),out,ia,ib+1,0,bc+1)
  if bc+1≥mg then return .done (none,out,ia,ib+1,0,bc+1)
  return .yield (none,out,ia,ib+1,0,bc+1)
 else
  let out:=out.push (←elem' a ia)
  if ia+1+1==a.size then return .done (some (yp a b out (ia+1) ib),out,ia+1,ib,ac+1,0)
  if ac+1≥mg then return .done (none,out,ia+1,ib,ac+1,0)
  return .yield (none,out,ia+1,ib,ac+1,0)
noncomputable abbrev S0:=Option (Array Keyed)×Array Keyed×Nat×Nat×Nat
noncomputable def loO(a b:Array Keyed)(c:S0):StateT SortSt Sem (ForInStep S0):=do
 let s ←forIn [0:a.size+b.size] ((none,c.2.1,c.2.2.1,c.2.2.2.1,0,0):S1) λ_ s=>lo1 a b c.2.2.2.2 s
 match s.1 with
 | some r=>pure (.done (some r,s.2.1,s.2.2.1,s.2.2.2.1,c.2.2.2.2))
 | none=>do
   rule "list.sort.gallop"
   let s ←forIn [0:a.size+b.size] ((none,s.2.1,s.2.2.1,s.2.2.2.1,c.2.2.2.2+1,s.2.2.2.2.1,s.2.2.2.2.2):S2) λ_ c=>
    if c.2.2.2.2.1>1 then loA a b c.2.1 c.2.2.1 c.2.2.2.1 c.2.2.2.2.2.1 c.2.2.2.2.2.2 (c.2.2.2.2.1 - 1) else loA a b c.2.1 c.2.2.1 c.2.2.2.1 c.2.2.2.2.2.1 c.2.2.2.2.2.2 c.2.2.2.2.1
   match s.1 with
   | some r=>pure (.done (some r,s.2.1,s.2.2.1,s.2.2.2.1,s.2.2.2.2.1))
   | none=>do
     fL (s.2.2.2.2.1+1)
     pure (.yield (none,s.2.1,s.2.2.1,s.2.2.2.1,s.2.2.2.2.1+1))
theorem Fq(a b:Array Keyed):yg a b=(do
 rule "list.sort.merge-lo"
 let out:Array Keyed:= #[←elem' b 0]
 if 1==b.size then return lQ a b out 0 1
 if 0+1==a.size then return yp a b out 0 1
 let s ←forIn [0:a.size+b.size] ((none,out,0,1,gallopOf (←get)):S0) λ_ c=>loO a b c
 match s.1 with
 | some r=>pure r
 | none=>unsupported "internal:list.sort.merge-bound"):=by kernel_rfl
section
variable{a b out:Array Keyed}{ia ib k n:Nat}
noncomputable def Pm(a b out:Array Keyed)(ia ib:Nat):Prop:=(out.toList++(a.toList.drop ia++b.toList.drop ib)).Perm (a.toList++b.toList)
noncomputable def Mg(a b r:Array Keyed):Prop:=r.toList.Perm (a.toList++b.toList)
theorem Pm.swap(m:Pm a b out ia ib):Pm b a out ib ia:=(List.Perm.append_left _ List.perm_append_comm).trans (List.Perm.trans m List.perm_append_comm)
theorem Pm.pP(m:Pm a b out ia ib):Pm a b (out++b.extract ib (ib+k)) ia (ib+k):=by
 unfold Pm;rw[Array.toList_append,fZ,show ib+k - ib=k by lia,List.append_assoc];refine List.Perm.trans (List.Perm.append_left _ ?_) m;refine List.Perm.trans ?_ (List.Perm.of_eq (congrArg (a.toList.drop ia ++ ·) (yI b.toList ib k).symm));rw[←List.append_assoc];exact List.Perm.trans (List.Perm.append_right _ List.perm_append_comm) (List.Perm.of_eq (List.append_assoc _ _ _))
theorem Pm.pQ(m:Pm a b out ia ib):Pm a b (out++a.extract ia (ia+k)) (ia+k) ib:=m.swap.pP.swap
theorem O7(h:ib<b.size):out.push b[ib]=out++b.extract ib (ib+1):=by
 apply Array.toList_inj.mp;rw[Array.toList_push,Array.toList_append,fZ];congr 1;rw[show ib+1 - ib=1 by lia,List.drop_eq_getElem_cons (by rw[aao];exact h)];rfl
theorem Pm.xW(m:Pm a b out ia ib)(h:ib<b.size):Pm a b (out.push b[ib]) ia (ib+1):=by
 rw[O7 h];exact m.pP
theorem Pm.xX(m:Pm a b out ia ib)(h:ia<a.size):Pm a b (out.push a[ia]) (ia+1) ib:=(m.swap.xW h).swap
theorem Pm.done(m:Pm a b out ia ib):Mg a b (lQ a b out ia ib):=by
 unfold Mg lQ;rw[Array.toList_append,Array.toList_append,fZ,fZ,List.append_assoc,List.take_of_length_le (by rw[List.length_drop,aao];exact aaj _),List.take_of_length_le (by rw[List.length_drop,aao];exact aaj _)];exact m
theorem Pm.last(m:Pm a b out ia ib):Mg a b (yp a b out ia ib):=List.Perm.trans m.swap.done List.perm_append_comm
theorem Pm.size(m:Pm a b out ia ib)(h:ia<a.size):out.size<a.size+b.size:=by
 have:=List.Perm.length_eq m;simp only[aaD,List.length_drop,aao] at this;lia
noncomputable def LI(a b:Array Keyed)(n:Nat){γ:Type}:Option (Array Keyed)×Array Keyed×Nat×Nat×γ->Prop
 | (none,out,ia,ib,_)=>Pm a b out ia ib/\ia+2<=a.size/\ib+1<=b.size/\n<=out.size
 | _=>False
noncomputable def LP(a b:Array Keyed)(n:Nat){γ:Type}:Option (Array Keyed)×Array Keyed×Nat×Nat×γ->Prop
 | (some r,_)=>Mg a b r
 | c=>LI a b n c
noncomputable def LQ(a b:Array Keyed)(m n:Nat){γ:Type}:ForInStep (Option (Array Keyed)×Array Keyed×Nat×Nat×γ)->Prop
 | .done c=>LP a b m c
 | .yield c=>LI a b n c
noncomputable def LR(a b:Array Keyed)(n:Nat){γ:Type}:ForInStep (Option (Array Keyed)×Array Keyed×Nat×Nat×γ)->Prop
 | .done c=>∃r t,c=(some r,t)/\Mg a b r
 | .yield c=>LI a b n c
end
section
variable{prog:Program}{w:World}{A:Around}{E:Value->Shared->Prop}{s:Shared}{κ:SortKind}{a₀ a b out:Array Keyed}{ia ib n m mg ac bc:Nat}{st st0:SortSt}
theorem Ji(m2:Pm a b out ia ib)(h1:ia+2<=a.size)(h2:ib+1<=b.size)(hm:m<=out.size)(hn:n<=out.size+1)(kp:qy st0 st):
 wpS (model prog w) A E s (loC a b ia mg ac bc out ib) (λr st'=>qy st0 st'/\LQ a b m n r) st:=by
 unfold loC;refine aam (bZ (by lia) ?_);have p:=m2.xX (show ia<a.size by lia);dsimp only;refine bC (λe=>aan ⟨kp,p.last⟩) (λe=>?_);have e:¬ia+1+1=a.size:=by simpa using e
 have z:(out.push (a[ia]'(by lia))).size=out.size+1:=Array.size_push _;exact bC (λ_=>aan ⟨kp,p,by lia,h2,by lia⟩) (λ_=>aan ⟨kp,p,by lia,h2,by lia⟩)
theorem Jj(C:vm prog w A s κ a₀)(ha:Of a₀ a)(hb:Of a₀ b)(m2:Pm a b out ia ib)(h1:ia+2<=a.size)(h2:ib+1<=b.size)(hm:m<=out.size)(hn:n<=out.size+1)(kp:qy st0 st)(hk:kindOf st=κ):
 wpS (model prog w) A E s (loB a b ib mg ac bc out ia) (λr st'=>qy st0 st'/\LQ a b m n r) st:=by
 unfold loB;refine aam (bZ h2 ?_);have p:=m2.xW h2;have z:(out.push b[ib]).size=out.size+1:=Array.size_push _;dsimp only;generalize out.push b[ib]=aeQ at p z ⊢;refine bC (λe=>aan ⟨kp,p.done⟩) (λe=>?_);have e:¬ib+1=b.size:=by simpa using e
 refine aam (bZ (by lia) (aam (iI C hk (ha.get (by lia)) hb (by lia) (by lia) λk hk2=>?_)));dsimp only;refine bC (λ_=>bC (λe=>aan ⟨kp,p.pP.done⟩) (λe=>?_)) (λ_=>Ji p h1 (by lia) (by lia) (by lia) kp);have e:¬ib+1+k=b.size:=by simpa using e
 exact Ji p.pP h1 (by lia) (by rw[Array.size_append];lia) (by rw[Array.size_append];lia) kp
theorem Jk(C:vm prog w A s κ a₀)(ha:Of a₀ a)(hb:Of a₀ b)(m2:Pm a b out ia ib)(h1:ia+2<=a.size)(h2:ib+1<=b.size)(hm:m<=out.size)(hn:n<=out.size+1)(kp:qy st0 st)(hk:kindOf st0=κ):
 wpS (model prog w) A E s (loA a b out ia ib ac bc mg) (λr st'=>qy st0 st'/\LQ a b m n r) st:=by
 unfold loA;refine aam (pZ λrT k4=>?_);have kp:=kp.trans k4;have hk:=kp.k.trans hk;refine aam (bZ h2 (aam (iI C hk (hb.get h2) ha (by lia) (by lia) λk hk2=>?_)));dsimp only;refine bC (λ_=>bC (λe=>aan ⟨kp,m2.pQ.last⟩) (λe1=>bC (λe=>aan ⟨kp,m2.pQ.done⟩) (λe2=>?_))) (λ_=>Jj C ha hb m2 h1 h2 hm hn kp hk);have e1:¬ia+k+1=a.size:=by simpa using e1
 have e2:¬ia+k=a.size:=by simpa using e2
 exact Jj C ha hb m2.pQ (by lia) h2 (by rw[Array.size_append];lia) (by rw[Array.size_append];lia) kp hk
theorem Sw(C:vm prog w A s κ a₀)(ha:Of a₀ a)(hb:Of a₀ b)(m2:Pm a b out ia ib)(h1:ia+2<=a.size)(h2:ib+1<=b.size)(hm:m<=out.size+1)(hn:n<=out.size+1)(hk:kindOf st=κ):
 wpS (model prog w) A E s (lo1 a b mg (none,out,ia,ib,ac,bc)) (λr st'=>st'=st/\LQ a b m n r) st:=by
 unfold lo1;dsimp only;refine aam (bZ h2 (aam (bZ (by lia) (aam (wK C hk (hb.get h2) (ha.get (by lia)) λt=>?_)))));dsimp only;refine bC (λ_=>aam (bZ h2 ?_)) (λ_=>aam (bZ (by lia) ?_))
 .have p:=m2.xW h2
  have z:(out.push b[ib]).size=out.size+1:=Array.size_push _;refine bC (λe=>aan ⟨acg,p.done⟩) (λe=>?_);have e:¬ib+1=b.size:=by simpa using e
  exact bC (λ_=>aan ⟨acg,p,h1,by lia,by lia⟩) (λ_=>aan ⟨acg,p,h1,by lia,by lia⟩)
 .have p:=m2.xX (show ia<a.size by lia)
  have z:(out.push (a[ia]'(by lia))).size=out.size+1:=Array.size_push _;refine bC (λe=>aan ⟨acg,p.last⟩) (λe=>?_);have e:¬ia+1+1=a.size:=by simpa using e
  exact bC (λ_=>aan ⟨acg,p,by lia,h2,by lia⟩) (λ_=>aan ⟨acg,p,by lia,h2,by lia⟩)
theorem Sv(C:vm prog w A s κ a₀)(ha:Of a₀ a)(hb:Of a₀ b)(m2:Pm a b out ia ib)(h1:ia+2<=a.size)(h2:ib+1<=b.size)(hm:n<=out.size)(hk:kindOf st0=κ)(kp:qy st0 st):
 wpS (model prog w) A E s (loO a b (none,out,ia,ib,mg)) (λr st'=>qy st0 st'/\LR a b (n+1) r) st:=by
 unfold loO;dsimp only;refine aam (wpS_mono (wpS_forRange (I:=λy c st2=>st2=st/\LI a b (n+y) c) (Q:=λc st2=>st2=st/\LP a b (n+1) c) ?_ ?_ ⟨acg,m2,h1,h2,hm⟩) ?_)
 .rintro y ⟨_|r,out,ia,ib,ac,bc⟩ _ _ _ ⟨rfl,h⟩
  .obtain⟨p,q1,q2,q3⟩:=h
   refine wpS_mono (Sw (m:=n+1) (n:=n+(y+1)) C ha hb p q1 q2 (by lia) (by lia) (kp.k.trans hk)) λr st' h=>?_;cases r with
   | done c=>exact h
   | yield c=>exact h
  .exact h.elim
 .rintro⟨_|r,out,ia,ib,ac,bc⟩ _ ⟨rfl,h⟩
  .obtain⟨p,q1,q2,q3⟩:=h
   have:=p.size (by lia);lia
  .exact h.elim
 rintro⟨_|r,out,ia,ib,ac,bc⟩ _ ⟨rfl,h⟩
 .obtain⟨p,q1,q2,q3⟩:=h
  dsimp only;refine aam (wpS_lift (wpAny_rule ⟨acg, ?_⟩));refine aam (wpS_mono (wpS_forRange (I:=λy c st2=>qy st0 st2/\LI a b (n+1+y) c) (Q:=λc st2=>qy st0 st2/\LP a b (n+1) c) ?_ ?_ ⟨kp,p,q1,q2,q3⟩) ?_)
  .rintro y ⟨_|r,out,ia,ib,mg,ac,bc⟩ st2 _ _ ⟨k2,h⟩
   .obtain⟨p,q1,q2,q3⟩:=h
    dsimp only;refine wpS_mono (bC (λ_=>Jk (m:=n+1) (n:=n+1+(y+1)) C ha hb p q1 q2 (by lia) (by lia) k2 hk) (λ_=>Jk C ha hb p q1 q2 (by lia) (by lia) k2 hk)) λr st' h=>?_;cases r with
    | done c=>exact h
    | yield c=>exact h
   .exact h.elim
  .rintro⟨_|r,out,ia,ib,mg,ac,bc⟩ st2 ⟨k2,h⟩
   .obtain⟨p,q1,q2,q3⟩:=h
    have:=p.size (by lia);lia
   .exact h.elim
  rintro⟨_|r,out,ia,ib,mg,ac,bc⟩ st2 ⟨k2,h⟩
  .exact aam (pZ λrT k4=>aan ⟨k2.trans k4,h⟩)
  .exact aan ⟨k2,r,_,acg,h⟩
 .exact aan ⟨kp,r,_,acg,h⟩
theorem DP{Q:Array Keyed->SortSt->Prop}(C:vm prog w A s κ a₀)(hk:kindOf st=κ)(ha:Of a₀ a)(hb:Of a₀ b)(ha1:1<=a.size)(hb1:1<=b.size)(h:∀r st',qy st st'->Mg a b r->Q r st'):wpS (model prog w) A E s (yg a b) Q st:=by
 have p:Pm a b #[b[0]] 0 1:=Pm.xW (out:= #[]) (ib:=0) (ia:=0) (show Pm a b #[] 0 0 from .refl _) hb1;rw[Fq];refine aam (wpS_lift (wpAny_rule ⟨acg, ?_⟩));refine aam (bZ hb1 ?_);dsimp only;refine bC (λe=>aan (h _ _ (.refl _) p.done)) (λe1=>?_);refine bC (λe=>aan (h _ _ (.refl _) p.last)) (λe2=>?_);have e1:¬1=b.size:=by simpa using e1
 have e2:¬1=a.size:=by simpa using e2
 refine aam (wpS_get ?_);refine aam (wpS_mono (wpS_forRange (I:=λy c st2=>qy st st2/\LI a b y c) (Q:=λc st2=>qy st st2 /\ ∃r t,c=(some r,t)/\Mg a b r) ?_ ?_ ⟨.refl _,p,by lia,by lia,Nat.zero_le _⟩) ?_)
 .rintro y ⟨_|r,out,ia,ib,mg⟩ st2 _ _ ⟨k2,h⟩
  .obtain⟨p,q1,q2,q3⟩:=h
   refine wpS_mono (Sv (n:=y) C ha hb p q1 q2 q3 hk k2) λr st' h=>?_;cases r with
   | done c=>exact h
   | yield c=>exact h
  .exact h.elim
 .rintro⟨_|r,out,ia,ib,mg⟩ st2 ⟨k2,h⟩
  .obtain⟨p,q1,q2,q3⟩:=h
   have:=p.size (by lia);lia
  .exact h.elim
 rintro c st2 ⟨k2,r,t,rfl,hm⟩;exact aan (h _ _ k2 hm)
end
noncomputable abbrev lU(a b out:Array Keyed)(na nb:Nat):Array Keyed:=a.extract 0 na++b.extract 0 nb++out.reverse
noncomputable abbrev tM(a b out:Array Keyed)(na nb:Nat):Array Keyed:=b.extract 0 nb++a.extract 0 na++out.reverse
noncomputable abbrev H1:=Option (Array Keyed)×Nat×Nat×Array Keyed×Nat×Nat
noncomputable abbrev H2:=Option (Array Keyed)×Nat×Nat×Array Keyed×Nat×Nat×Nat
noncomputable abbrev H0:=Option (Array Keyed)×Nat×Nat×Array Keyed×Nat
noncomputable def hiC(a b:Array Keyed)(na mg ac bc:Nat)(out:Array Keyed)(nb:Nat):StateT SortSt Sem (ForInStep H2):=do
 let out:=out.push (←elem' a (na - 1))
 if na - 1==0 then return .done (some (lU a b out (na - 1) nb),na - 1,nb,out,mg,ac,bc)
 if ac<7&&bc<7 then return .done (none,na - 1,nb,out,mg,ac,bc)
 return .yield (none,na - 1,nb,out,mg,ac,bc)
noncomputable def hiB(a b:Array Keyed)(nb mg ac bc:Nat)(out:Array Keyed)(na:Nat):StateT SortSt Sem (ForInStep H2):=do
 let out:=out.push (←elem' b (nb - 1))
 if nb - 1==1 then return .done (some (tM a b out na (nb - 1)),na,nb - 1,out,mg,ac,bc)
 let some t ←k_ true (←elem' a (na - 1)) b 0 (nb - 1) (nb - 1 - 1)|return .done (some (lU a b out na (nb - 1)),na,nb - 1,out,mg,ac,bc)
 if nb - 1 - t>0 then
  if t==1 then return .done (some (tM a b (out++(b.extract t (nb - 1)).reverse) na t),na,t,out++(b.extract t (nb - 1)).reverse,mg,ac,nb - 1 - t)
  else if t==0 then return .done (some (lU a b (out++(b.extract t (nb - 1)).reverse) na t),na,t,out++(b.extract t (nb - 1)).reverse,mg,ac,nb - 1 - t)
  else hiC a b na mg ac (nb - 1 - t) (out++(b.extract t (nb - 1)).reverse) t
 else hiC a b na mg ac (nb - 1 - t) out (nb - 1)
noncomputable def hiA(a b out:Array Keyed)(na nb ac bc mg:Nat):StateT SortSt Sem (ForInStep H2):=do
 fL mg
 let some t ←k_ false (←elem' b (nb - 1)) a 0 na (na - 1)|return .done (some (lU a b out na nb),na,nb,out,mg,ac,bc)
 if na - t>0 then
  if t==0 then return .done (some (lU a b (out++(a.extract t na).reverse) t nb),t,nb,out++(a.extract t na).reverse,mg,na - t,bc)
  else hiB a b nb mg (na - t) bc (out++(a.extract t na).reverse) t
 else hiB a b nb mg (na - t) bc out na
noncomputable def hi1(a b:Array Keyed)(mg:Nat)(c:H1):StateT SortSt Sem (ForInStep H1):=
 let na:=c.2.1;let nb:=c.2.2.1;let out:=c.2.2.2.1;let ac:=c.2.2.2.2.1;let bc:=c.2.2.2.2.2
 do
 let some aWins ←lt' (←elem' b (nb - 1)) (←elem' a (na - 1))|return .done (some (lU a b out na nb),na,nb,out,ac,bc)
 if aWins then
  let out:=out.push (←elem' a (na - 1))
  if na - 1==0 then return .done (some (lU a b out (na - 1) nb),na - 1,nb,out,ac+1,0)
  if ac+1≥mg then return .done (none,na - 1,nb,out,ac+1,0)
  return .yield (none,na - 1,nb,out,ac+1,0)
 else
  let out:=out.push (←elem' b (nb - 1))
  if nb - 1==1 then return .done (some (tM a b out na (nb - 1)),na,nb - 1,out,0,bc+1)
  if bc+1≥mg then return .done (none,na,nb - 1,out,0,bc+1)
  return .yield (none,na,nb - 1,out,0,bc+1)
noncomputable def hiO(a b:Array Keyed)(c:H0):StateT SortSt Sem (ForInStep H0):=do
 let s ←forIn [0:a.size+b.size] ((none,c.2.1,c.2.2.1,c.2.2.2.1,0,0):H1) λ_ s=>hi1 a b c.2.2.2.2 s
 match s.1 with
 | some r=>pure (.done (some r,s.2.1,s.2.2.1,s.2.2.2.1,c.2.2.2.2))
 | none=>do
   rule "list.sort.gallop"
   let s ←forIn [0:a.size+b.size] ((none,s.2.1,s.2.2.1,s.2.2.2.1,c.2.2.2.2+1,s.2.2.2.2.1,s.2.2.2.2.2):H2) λ_ c=>
    if c.2.2.2.2.1>1 then hiA a b c.2.2.2.1 c.2.1 c.2.2.1 c.2.2.2.2.2.1 c.2.2.2.2.2.2 (c.2.2.2.2.1 - 1) else hiA a b c.2.2.2.1 c.2.1 c.2.2.1 c.2.2.2.2.2.1 c.2.2.2.2.2.2 c.2.2.2.2.1
   match s.1 with
   | some r=>pure (.done (some r,s.2.1,s.2.2.1,s.2.2.2.1,s.2.2.2.2.1))
   | none=>do
     fL (s.2.2.2.2.1+1)
     pure (.yield (none,s.2.1,s.2.2.1,s.2.2.2.1,s.2.2.2.2.1+1))
theorem Ft(a b:Array Keyed):yh a b=(do
 rule "list.sort.merge-hi"
 let out:Array Keyed:= #[←elem' a (a.size - 1)]
 if a.size - 1==0 then return lU a b out (a.size - 1) b.size
 if b.size==1 then return tM a b out (a.size - 1) b.size
 let s ←forIn [0:a.size+b.size] ((none,a.size - 1,b.size,out,gallopOf (←get)):H0) λ_ c=>hiO a b c
 match s.1 with
 | some r=>pure r
 | none=>unsupported "internal:list.sort.merge-bound"):=by kernel_rfl
section
variable{a b out:Array Keyed}{na nb k n t:Nat}
noncomputable def Ph(a b out:Array Keyed)(na nb:Nat):Prop:=(out.toList++(a.toList.take na++b.toList.take nb)).Perm (a.toList++b.toList)
theorem Ph.swap(m:Ph a b out na nb):Ph b a out nb na:=(List.Perm.append_left _ List.perm_append_comm).trans (List.Perm.trans m List.perm_append_comm)
theorem Ph.pQ(m:Ph a b out na nb)(h:t<=na):Ph a b (out++(a.extract t na).reverse) t nb:=by
 unfold Ph;rw[Array.toList_append,Array.toList_reverse,fZ,List.append_assoc];refine List.Perm.trans (List.Perm.append_left _ ?_) m
 have e:a.toList.take na=a.toList.take t++(a.toList.drop t).take (na - t):=by rw[List.take_drop,show t+(na - t)=na by lia];exact(show _=_ by
  have:=(List.take_append_drop t (a.toList.take na)).symm;rwa [List.take_take,Nat.min_eq_left h] at this)
 rw[e,←List.append_assoc];exact List.Perm.append_right _ ((List.Perm.append_right _ (List.reverse_perm _)).trans List.perm_append_comm)
theorem Ph.pP(m:Ph a b out na nb)(h:t<=nb):Ph a b (out++(b.extract t nb).reverse) na t:=(m.swap.pQ h).swap
theorem O6(h:na - 1<a.size)(h1:1<=na):out.push a[na - 1]=out++(a.extract (na - 1) na).reverse:=by
 apply Array.toList_inj.mp;rw[Array.toList_push,Array.toList_append,Array.toList_reverse,fZ];congr 1;rw[show na - (na - 1)=1 by lia,List.drop_eq_getElem_cons (by rw[aao];exact h)];rfl
theorem Ph.xX(m:Ph a b out na nb)(h:na - 1<a.size)(h1:1<=na):Ph a b (out.push a[na - 1]) (na - 1) nb:=by
 rw[O6 h h1];exact m.pQ (Nat.sub_le _ _)
theorem Ph.xW(m:Ph a b out na nb)(h:nb - 1<b.size)(h1:1<=nb):Ph a b (out.push b[nb - 1]) na (nb - 1):=(m.swap.xX h h1).swap
theorem Ph.done(m:Ph a b out na nb):Mg a b (lU a b out na nb):=by
 unfold Mg lU;rw[Array.toList_append,Array.toList_append,fZ,fZ,Array.toList_reverse];exact List.perm_append_comm.trans ((List.Perm.append_right _ (List.reverse_perm _)).trans m)
theorem Ph.first(m:Ph a b out na nb):Mg a b (tM a b out na nb):=List.Perm.trans m.swap.done List.perm_append_comm
theorem Ph.size(m:Ph a b out na nb)(h:1<=na)(h2:na<=a.size):out.size<a.size+b.size:=by
 have:=List.Perm.length_eq m;simp only[aaD,abI,aao] at this;lia
noncomputable def Hd(a b:Array Keyed)(na nb:Nat):Prop:=1<=na/\2<=nb/\na<=a.size/\nb<=b.size
noncomputable def HI(a b:Array Keyed)(n:Nat){γ:Type}:Option (Array Keyed)×Nat×Nat×Array Keyed×γ->Prop
 | (none,na,nb,out,_)=>Ph a b out na nb/\Hd a b na nb/\n<=out.size
 | _=>False
noncomputable def HP(a b:Array Keyed)(n:Nat){γ:Type}:Option (Array Keyed)×Nat×Nat×Array Keyed×γ->Prop
 | (some r,_)=>Mg a b r
 | c=>HI a b n c
noncomputable def HQ(a b:Array Keyed)(m n:Nat){γ:Type}:ForInStep (Option (Array Keyed)×Nat×Nat×Array Keyed×γ)->Prop
 | .done c=>HP a b m c
 | .yield c=>HI a b n c
noncomputable def HR(a b:Array Keyed)(n:Nat){γ:Type}:ForInStep (Option (Array Keyed)×Nat×Nat×Array Keyed×γ)->Prop
 | .done c=>∃r t,c=(some r,t)/\Mg a b r
 | .yield c=>HI a b n c
end
section
variable{prog:Program}{w:World}{A:Around}{E:Value->Shared->Prop}{s:Shared}{κ:SortKind}{a₀ a b out:Array Keyed}{na nb n m mg ac bc:Nat}{st st0:SortSt}
theorem Jl(p:Ph a b out na nb)(h:Hd a b na nb)(hm:m<=out.size)(hn:n<=out.size+1)(kp:qy st0 st):
 wpS (model prog w) A E s (hiC a b na mg ac bc out nb) (λr st'=>qy st0 st'/\HQ a b m n r) st:=by
 obtain⟨h1,h2,h3,h4⟩:=h;unfold hiC;have i:na - 1<a.size:=by lia
 refine aam (bZ i ?_);have p:=p.xX i h1;have z:(out.push a[na - 1]).size=out.size+1:=Array.size_push _;dsimp only;refine bC (λe=>aan ⟨kp,p.done⟩) (λe=>?_);have e:¬na - 1=0:=by simpa using e
 have hd:Hd a b (na - 1) nb:=⟨by lia,h2,by lia,h4⟩;exact bC (λ_=>aan ⟨kp,p,hd,by lia⟩) (λ_=>aan ⟨kp,p,hd,by lia⟩)
theorem Jm(C:vm prog w A s κ a₀)(ha:Of a₀ a)(hb:Of a₀ b)(p:Ph a b out na nb)(h:Hd a b na nb)(hm:m<=out.size)(hn:n<=out.size+1)(kp:qy st0 st)(hk:kindOf st=κ):
 wpS (model prog w) A E s (hiB a b nb mg ac bc out na) (λr st'=>qy st0 st'/\HQ a b m n r) st:=by
 obtain⟨h1,h2,h3,h4⟩:=h;unfold hiB;have i:nb - 1<b.size:=by lia
 have j:na - 1<a.size:=by lia
 refine aam (bZ i ?_);have p:=p.xW i (by lia);have z:(out.push b[nb - 1]).size=out.size+1:=Array.size_push _;dsimp only;generalize out.push b[nb - 1]=aeQ at p z ⊢;refine bC (λe=>aan ⟨kp,p.first⟩) (λe=>?_);have e:¬nb - 1=1:=by simpa using e
 refine aam (bZ j (aam (iI C hk (ha.get j) hb (by lia) (by lia) λt ht=>?_)));dsimp only;refine bC (λ_=>bC (λe=>aan ⟨kp,(p.pP ht).first⟩) (λe1=>bC (λe=>aan ⟨kp,(p.pP ht).done⟩) (λe2=>?_))) (λ_=>Jl p ⟨h1,by lia,h3,by lia⟩ (by lia) (by lia) kp);have e1:¬t=1:=by simpa using e1
 have e2:¬t=0:=by simpa using e2
 exact Jl (p.pP ht) ⟨h1,by lia,h3,by lia⟩ (by rw[Array.size_append];lia) (by rw[Array.size_append];lia) kp
theorem Jo(C:vm prog w A s κ a₀)(ha:Of a₀ a)(hb:Of a₀ b)(p:Ph a b out na nb)(h:Hd a b na nb)(hm:m<=out.size)(hn:n<=out.size+1)(kp:qy st0 st)(hk:kindOf st0=κ):
 wpS (model prog w) A E s (hiA a b out na nb ac bc mg) (λr st'=>qy st0 st'/\HQ a b m n r) st:=by
 have h':=h;obtain⟨h1,h2,h3,h4⟩:=h';unfold hiA;have i:nb - 1<b.size:=by lia
 refine aam (pZ λrT k4=>?_);have kp:=kp.trans k4;have hk:=kp.k.trans hk;refine aam (bZ i (aam (iI C hk (hb.get i) ha (by lia) (by lia) λt ht=>?_)));dsimp only;refine bC (λ_=>bC (λe=>aan ⟨kp,(p.pQ ht).done⟩) (λe1=>?_)) (λ_=>Jm C ha hb p h hm hn kp hk);have e1:¬t=0:=by simpa using e1
 exact Jm C ha hb (p.pQ ht) ⟨by lia,h2,by lia,h4⟩ (by rw[Array.size_append];lia) (by rw[Array.size_append];lia) kp hk
theorem Sy(C:vm prog w A s κ a₀)(ha:Of a₀ a)(hb:Of a₀ b)(p:Ph a b out na nb)(h:Hd a b na nb)(hm:m<=out.size+1)(hn:n<=out.size+1)(hk:kindOf st=κ):
 wpS (model prog w) A E s (hi1 a b mg (none,na,nb,out,ac,bc)) (λr st'=>st'=st/\HQ a b m n r) st:=by
 obtain⟨h1,h2,h3,h4⟩:=h;unfold hi1;dsimp only;have i:nb - 1<b.size:=by lia
 have j:na - 1<a.size:=by lia
 refine aam (bZ i (aam (bZ j (aam (wK C hk (hb.get i) (ha.get j) λt=>?_)))));dsimp only;refine bC (λ_=>aam (bZ j ?_)) (λ_=>aam (bZ i ?_))
 .have p:=p.xX j h1
  have z:(out.push a[na - 1]).size=out.size+1:=Array.size_push _;refine bC (λe=>aan ⟨acg,p.done⟩) (λe=>?_);have e:¬na - 1=0:=by simpa using e
  have hd:Hd a b (na - 1) nb:=⟨by lia,h2,by lia,h4⟩;exact bC (λ_=>aan ⟨acg,p,hd,by lia⟩) (λ_=>aan ⟨acg,p,hd,by lia⟩)
 .have p:=p.xW i (by lia)
  have z:(out.push b[nb - 1]).size=out.size+1:=Array.size_push _;refine bC (λe=>aan ⟨acg,p.first⟩) (λe=>?_);have e:¬nb - 1=1:=by simpa using e
  have hd:Hd a b na (nb - 1):=⟨h1,by lia,h3,by lia⟩;exact bC (λ_=>aan ⟨acg,p,hd,by lia⟩) (λ_=>aan ⟨acg,p,hd,by lia⟩)
theorem Sx(C:vm prog w A s κ a₀)(ha:Of a₀ a)(hb:Of a₀ b)(p:Ph a b out na nb)(h:Hd a b na nb)(hm:n<=out.size)(hk:kindOf st0=κ)(kp:qy st0 st):
 wpS (model prog w) A E s (hiO a b (none,na,nb,out,mg)) (λr st'=>qy st0 st'/\HR a b (n+1) r) st:=by
 unfold hiO;dsimp only;refine aam (wpS_mono (wpS_forRange (I:=λy c st2=>st2=st/\HI a b (n+y) c) (Q:=λc st2=>st2=st/\HP a b (n+1) c) ?_ ?_ ⟨acg,p,h,hm⟩) ?_)
 .rintro y ⟨_|r,na,nb,out,ac,bc⟩ _ _ _ ⟨rfl,h⟩
  .obtain⟨p,q,q3⟩:=h
   refine wpS_mono (Sy (m:=n+1) (n:=n+(y+1)) C ha hb p q (by lia) (by lia) (kp.k.trans hk)) λr st' h=>?_;cases r with
   | done c=>exact h
   | yield c=>exact h
  .exact h.elim
 .rintro⟨_|r,na,nb,out,ac,bc⟩ _ ⟨rfl,h⟩
  .obtain⟨p,q,q3⟩:=h
   have:=p.size q.1 q.2.2.1;lia
  .exact h.elim
 rintro⟨_|r,na,nb,out,ac,bc⟩ _ ⟨rfl,h⟩
 .obtain⟨p,q,q3⟩:=h
  dsimp only;refine aam (wpS_lift (wpAny_rule ⟨acg, ?_⟩));refine aam (wpS_mono (wpS_forRange (I:=λy c st2=>qy st0 st2/\HI a b (n+1+y) c) (Q:=λc st2=>qy st0 st2/\HP a b (n+1) c) ?_ ?_ ⟨kp,p,q,q3⟩) ?_)
  .rintro y ⟨_|r,na,nb,out,mg,ac,bc⟩ st2 _ _ ⟨k2,h⟩
   .obtain⟨p,q,q3⟩:=h
    dsimp only;refine wpS_mono (bC (λ_=>Jo (m:=n+1) (n:=n+1+(y+1)) C ha hb p q (by lia) (by lia) k2 hk) (λ_=>Jo C ha hb p q (by lia) (by lia) k2 hk)) λr st' h=>?_;cases r with
    | done c=>exact h
    | yield c=>exact h
   .exact h.elim
  .rintro⟨_|r,na,nb,out,mg,ac,bc⟩ st2 ⟨k2,h⟩
   .obtain⟨p,q,q3⟩:=h
    have:=p.size q.1 q.2.2.1;lia
   .exact h.elim
  rintro⟨_|r,na,nb,out,mg,ac,bc⟩ st2 ⟨k2,h⟩
  .exact aam (pZ λrT k4=>aan ⟨k2.trans k4,h⟩)
  .exact aan ⟨k2,r,_,acg,h⟩
 .exact aan ⟨kp,r,_,acg,h⟩
theorem DQ{Q:Array Keyed->SortSt->Prop}(C:vm prog w A s κ a₀)(hk:kindOf st=κ)(ha:Of a₀ a)(hb:Of a₀ b)(ha1:1<=a.size)(hb1:1<=b.size)(h:∀r st',qy st st'->Mg a b r->Q r st'):wpS (model prog w) A E s (yh a b) Q st:=by
 have i:a.size - 1<a.size:=by lia
 have p:Ph a b #[a[a.size - 1]] (a.size - 1) b.size:=by
  refine Ph.xX (out:= #[]) (na:=a.size) ?_ i ha1;unfold Ph;rw[List.take_of_length_le (by rw[aao];exact aaj _),List.take_of_length_le (by rw[aao];exact aaj _)];exact .refl _
 rw[Ft];refine aam (wpS_lift (wpAny_rule ⟨acg, ?_⟩));refine aam (bZ i ?_);dsimp only;refine bC (λe=>aan (h _ _ (.refl _) p.done)) (λe1=>?_);refine bC (λe=>aan (h _ _ (.refl _) p.first)) (λe2=>?_);have e1:¬a.size - 1=0:=by simpa using e1
 have e2:¬b.size=1:=by simpa using e2
 refine aam (wpS_get ?_);refine aam (wpS_mono (wpS_forRange (I:=λy c st2=>qy st st2/\HI a b y c) (Q:=λc st2=>qy st st2 /\ ∃r t,c=(some r,t)/\Mg a b r) ?_ ?_ ⟨.refl _,p,⟨by lia,by lia,by lia,aaj _⟩,Nat.zero_le _⟩) ?_)
 .rintro y ⟨_|r,na,nb,out,mg⟩ st2 _ _ ⟨k2,h⟩
  .obtain⟨p,q,q3⟩:=h
   refine wpS_mono (Sx (n:=y) C ha hb p q q3 hk k2) λr st' h=>?_;cases r with
   | done c=>exact h
   | yield c=>exact h
  .exact h.elim
 .rintro⟨_|r,na,nb,out,mg⟩ st2 ⟨k2,h⟩
  .obtain⟨p,q,q3⟩:=h
   have:=p.size q.1 q.2.2.1;lia
  .exact h.elim
 rintro c st2 ⟨k2,r,t,rfl,hm⟩;exact aan (h _ _ k2 hm)
end
noncomputable def crL(lo nrem a:Nat):StateT SortSt Sem (Option (Option Nat)×Nat):=
 forIn [a:nrem] ((none,a):Option (Option Nat)×Nat) λ_ c=>do
  match ←ltAt' (lo+c.2) (lo+c.2 - 1) with
  | some t=>if t=true then pure (.done (none,c.2)) else pure (.yield (none,c.2+1))
  | _=>pure (.done (some none,c.2))
noncomputable def crR(lo nrem n:Nat):StateT SortSt Sem (Option Nat):=do
 reverseSlice' lo (lo+n)
 let s ←crL lo nrem n
 match s.1 with
 | some r=>pure r
 | none=>pure (some s.2)
noncomputable def crB(lo n q:Nat):StateT SortSt Sem (ForInStep (Option (Option Nat)×Nat×Nat)):=do
 match ←ltAt' (lo+n) (lo+n - 1) with
 | some t=>
   if t=true then
    if q>0 then do
     reverseSlice' (lo+n - (q+1)) (lo+n)
     pure (.yield (none,n+1,0))
    else pure (.yield (none,n+1,0))
   else do
    match ←ltAt' (lo+n - 1) (lo+n) with
    | some t=>if t=true then pure (.done (none,n,q)) else pure (.yield (none,n+1,q+1))
    | _=>pure (.done (some none,n,q))
 | _=>pure (.done (some none,n,q))
noncomputable def crD(lo nrem n:Nat):StateT SortSt Sem (Option Nat):=do
 rule "list.sort.descending-run"
 let s ←forIn [n+1:nrem] ((none,n+1,0):Option (Option Nat)×Nat×Nat) λ_ c=>crB lo c.2.1 c.2.2
 match s.1 with
 | some r=>pure r
 | none=>
   if s.2.2>0 then do
    reverseSlice' (lo+s.2.1 - (s.2.2+1)) (lo+s.2.1)
    crR lo nrem s.2.1
   else crR lo nrem s.2.1
theorem countRun'_eq(lo nrem:Nat):countRun' lo nrem=(do
 let s ←crL lo nrem 1
 match s.1 with
 | some r=>pure r
 | none=>
   if (s.2==nrem)=true then pure (some s.2) else
   if s.2>1 then do
    match ←ltAt' lo (lo+s.2 - 1) with
    | some t=>if t=true then pure (some s.2) else do
      reverseSlice' lo (lo+s.2)
      crD lo nrem s.2
    | _=>pure none
   else crD lo nrem s.2):=by kernel_rfl
noncomputable def bsB(lo k:Nat):StateT SortSt Sem (ForInStep (Option Bool×Unit)):=do
 let s ←forIn [0:k] ((none,0,k):Option Bool×Nat×Nat) λ_ c=>
  if c.2.1≥c.2.2 then pure (.done (none,c.2.1,c.2.2)) else do
   match ←ltAt' (lo+k) (lo+(c.2.1+c.2.2) / 2) with
   | some t=>if t=true then pure (.yield (none,c.2.1,(c.2.1+c.2.2) / 2)) else pure (.yield (none,(c.2.1+c.2.2) / 2+1,c.2.2))
   | _=>pure (.done (some false,c.2.1,c.2.2))
 match s.1 with
 | some r=>pure (.done (some r,()))
 | none=>do
   moveDown' (lo+k) (lo+s.2.1)
   pure (.yield (none,()))
theorem Gm(lo n ok:Nat):binarySort' lo n ok=(do
 let s ←forIn [max ok 1:n] ((none,()):Option Bool×Unit) λk _=>bsB lo k
 match s.1 with
 | some r=>pure r
 | none=>pure true):=by kernel_rfl
theorem Fv(i:Nat):mergeAt' i=(do
 let s ←get
 match (pendingOf s)[i]?,(pendingOf s)[i+1]? with
 | some (sa,na,power),some (sb,nb,_)=>do
   set (SortSt.mk' (kindOf s) (arrOf s) (((pendingOf s).setIfInBounds i (sa,na+nb,power)).eraseIdxIfInBounds (i+1)) (gallopOf s) (failedOf s))
   match ←k_ false (←elem' (arrOf s) sb) (arrOf s) sa na 0 with
   | some k=>
     if (na - k==0)=true then pure true else do
      match ←k_ true (←elem' (arrOf s) (sa+k+(na - k) - 1)) (arrOf s) sb nb (nb - 1) with
      | some n2=>
        if (n2==0)=true then pure true else do
         let merged ←if na - k<=n2 then yg ((arrOf s).extract (sa+k) sb) ((arrOf s).extract sb (sb+n2)) else yh ((arrOf s).extract (sa+k) sb) ((arrOf s).extract sb (sb+n2))
         modify λs=>setArr s (merged.toList.zipIdx.foldl (λa x=>a.setIfInBounds (sa+k+x.2) x.1) (arrOf s))
         return (failedOf (←get)).isNone
      | _=>pure false
   | _=>pure false
 | _,_=>unsupported "internal:list.sort.pending"):=by kernel_rfl
section
variable{prog:Program}{w:World}{A:Around}{E:Value->Shared->Prop}{s:Shared}{κ:SortKind}{a₀:Array Keyed}{pd:Array (Nat×Nat×Nat)}{st:SortSt}
structure SB(κ:SortKind)(a₀:Array Keyed)(pd:Array (Nat×Nat×Nat))(st:SortSt):Prop where
 perm:(arrOf st).Perm a₀
 kind:kindOf st=κ
 failed:failedOf st=none
 pend:pendingOf st=pd
theorem SB.size(h:SB κ a₀ pd st):(arrOf st).size=a₀.size:=h.perm.size_eq
theorem SB.set(h:SB κ a₀ pd st){xs:Array Keyed}(hp:xs.Perm (arrOf st)):SB κ a₀ pd (setArr st xs):=⟨hp.trans h.perm,h.kind,h.failed,h.pend⟩
theorem SB.of(h:SB κ a₀ pd st):Of a₀ (arrOf st):=λ_ hp=>(Array.perm_iff_toList_perm.mp h.perm).mem_iff.mp hp
theorem wpS_ltAt{i j:Nat}{Q:Option Bool->SortSt->Prop}(C:vm prog w A s κ a₀)(hB:SB κ a₀ pd st)(hi:i<a₀.size)(hj:j<a₀.size)(h:∀b,Q (some b) st):wpS (model prog w) A E s (ltAt' i j) Q st:=by
 rw[ltAt'_eq];have hi:i<(arrOf st).size:=by rw[hB.size];exact hi
 have hj:j<(arrOf st).size:=by rw[hB.size];exact hj
 exact aam (wpS_get (aam (bZ hi (aam (bZ hj (wK C hB.kind (hB.of.get hi) (hB.of.get hj) h))))))
theorem vZ{i j:Nat}{Q:PUnit->SortSt->Prop}(hB:SB κ a₀ pd st)(h:∀st',SB κ a₀ pd st'->Q ⟨⟩ st'):wpS (model prog w) A E s (reverseSlice' i j) Q st:=by
 rw[reverseSlice'_eq];exact wpS_modify (h _ (hB.set (mirror_perm _ _ _ _)))
theorem Jr{lo nrem a:Nat}{Q:Option (Option Nat)×Nat->SortSt->Prop}(C:vm prog w A s κ a₀)(hn:lo+nrem<=a₀.size)(ha:a<=nrem)(hB:SB κ a₀ pd st)(h:∀m,a<=m->m<=nrem->Q (none,m) st):wpS (model prog w) A E s (crL lo nrem a) Q st:=by
 refine wpS_forRange (I:=λx c st'=>st'=st/\c=(none,x)) ?_ ?_ ⟨acg,acg⟩
 .rintro x c st' x1 xn ⟨rfl,rfl⟩
  refine aam (wpS_ltAt C hB (by dsimp only;lia) (by dsimp only;lia) λb=>?_);exact bC (λ_=>aan (h x x1 (by lia))) (λ_=>aan ⟨acg,acg⟩)
 .rintro c st' ⟨rfl,rfl⟩
  rw[show max a nrem=nrem by lia];exact h nrem ha (aaj _)
theorem Jq{lo nrem n:Nat}{Q:Option Nat->SortSt->Prop}(C:vm prog w A s κ a₀)(hn:lo+nrem<=a₀.size)(n1:1<=n)(n2:n<=nrem)(hB:SB κ a₀ pd st)(h:∀m st',SB κ a₀ pd st'->1<=m->m<=nrem->Q (some m) st'):wpS (model prog w) A E s (crR lo nrem n) Q st:=
 aam (vZ hB λst' hB'=>aam (Jr C hn n2 hB' λm m1 m2=>aan (h m st' hB' (by lia) m2)))
theorem Js{lo nrem n:Nat}{Q:Option Nat->SortSt->Prop}(C:vm prog w A s κ a₀)(hn:lo+nrem<=a₀.size)(n2:n+1<=nrem)(hB:SB κ a₀ pd st)(h:∀m st',SB κ a₀ pd st'->1<=m->m<=nrem->Q (some m) st'):wpS (model prog w) A E s (crD lo nrem n) Q st:=by
 unfold crD;refine aam (wpS_lift (wpAny_rule ⟨acg, ?_⟩));refine aam (wpS_mono (wpS_forRange (I:=λx c st'=>SB κ a₀ pd st' /\ ∃q,c=(none,x,q)) (Q:=λc st'=>SB κ a₀ pd st' /\ ∃x q,c=(none,x,q)/\n+1<=x/\x<=nrem) ?_ ?_ ⟨hB,0,acg⟩) ?_)
 .rintro x c st' x1 xn ⟨hB',q,rfl⟩
  dsimp only;unfold crB;refine aam (wpS_ltAt C hB' (by lia) (by lia) λb=>?_);dsimp only;refine bC (λ_=>bC (λ_=>aam (vZ hB' λst2 hB2=>aan ⟨hB2,_,acg⟩)) (λ_=>aan ⟨hB',_,acg⟩)) (λ_=>?_);refine aam (wpS_ltAt C hB' (by lia) (by lia) λb=>?_);exact bC (λ_=>aan ⟨hB',x,_,acg,x1,by lia⟩) (λ_=>aan ⟨hB',_,acg⟩)
 .rintro c st' ⟨hB',q,rfl⟩
  rw[show max (n+1) nrem=nrem by lia];exact⟨hB',nrem,q,acg,n2,aaj _⟩
 .rintro c st' ⟨hB',x,q,rfl,x1,x2⟩
  exact bC (λ_=>aam (vZ hB' λst2 hB2=>Jq C hn (by dsimp only;lia) x2 hB2 h)) (λ_=>Jq C hn (by dsimp only;lia) x2 hB' h)
theorem wpS_countRun{lo nrem:Nat}{Q:Option Nat->SortSt->Prop}(C:vm prog w A s κ a₀)(hn:lo+nrem<=a₀.size)(h1:1<=nrem)(hB:SB κ a₀ pd st)(h:∀m st',SB κ a₀ pd st'->1<=m->m<=nrem->Q (some m) st'):wpS (model prog w) A E s (countRun' lo nrem) Q st:=by
 rw[countRun'_eq];refine aam (Jr C hn h1 hB λm m1 m2=>?_);dsimp only;refine bC (λ_=>aan (h m _ hB m1 m2)) (λe=>?_);have e:¬m=nrem:=λz=>e (beq_iff_eq.mpr z);refine bC (λ_=>aam (wpS_ltAt C hB (by lia) (by lia) λb=>?_)) (λ_=>Js C hn (by lia) hB h);exact bC (λ_=>aan (h m _ hB m1 m2)) (λ_=>aam (vZ hB λst2 hB2=>Js C hn (by lia) hB2 h))
theorem DW{lo n ok:Nat}{Q:Bool->SortSt->Prop}(C:vm prog w A s κ a₀)(hn:lo+n<=a₀.size)(hB:SB κ a₀ pd st)(h:∀st',SB κ a₀ pd st'->Q true st'):wpS (model prog w) A E s (binarySort' lo n ok) Q st:=by
 rw[Gm];refine aam (wpS_mono (wpS_forRange (I:=λ_ c st'=>c=(none,())/\SB κ a₀ pd st') (Q:=λc st'=>c=(none,())/\SB κ a₀ pd st') ?_ (λ_ _ z=>z) ⟨acg,hB⟩) ?_)
 .rintro k c st' _ kn ⟨rfl,hB'⟩
  unfold bsB;refine aam (wpS_mono (wpS_forRange (I:=λ_ c st2=>st2=st' /\ ∃l r,c=(none,l,r)/\r<=k) (Q:=λc st2=>st2=st' /\ ∃l r,c=(none,l,r)/\r<=k) ?_ (λ_ _ z=>z) ⟨acg,0,k,acg,aaj _⟩) ?_)
  .rintro x c st2 _ _ ⟨rfl,l,r,rfl,rk⟩
   refine bC (λ_=>aan ⟨acg,l,r,acg,rk⟩) (λz=>?_);dsimp only at z ⊢;refine aam (wpS_ltAt C hB' (by lia) (by lia) λb=>?_);exact bC (λ_=>aan ⟨acg,_,_,acg,by lia⟩) (λ_=>aan ⟨acg,_,_,acg,rk⟩)
  .rintro c st2 ⟨rfl,l,r,rfl,_⟩
   refine aam ?_;rw[moveDown'_eq];exact wpS_modify (aan ⟨acg,hB'.set (bubble_perm _ _ _)⟩)
 .rintro c st' ⟨rfl,hB'⟩
  exact aan (h st' hB')
theorem O1(b:Nat)(m:List Keyed):∀(n:Nat)(xs:Array Keyed),b+n+m.length<=xs.size->((m.zipIdx n).foldl (λa x=>a.setIfInBounds (b+x.2) x.1) xs).toList=xs.toList.take (b+n)++(m++xs.toList.drop (b+n+m.length)):=by
 induction m with
 | nil=>intro n xs h;simp
 | cons p m ih=>
   intro n xs h;rw[ab0] at h;have hl:b+n<xs.toList.length:=by rw[aao];lia
   rw[List.zipIdx_cons,List.foldl_cons,ih (n+1) _ (by rw[Array.size_setIfInBounds];lia),Array.toList_setIfInBounds,ab0,List.drop_set_of_lt (by lia),show b+(n+1)=b+n+1 by lia,abB,List.take_set_of_le (aaj _),List.getElem?_set_self hl,show b+n+1+m.length=b+n+(m.length+1) by lia];simp
theorem OJ{b n:Nat}{m:List Keyed}{xs:Array Keyed}(hb:b+n<=xs.size)(hp:m.Perm ((xs.toList.drop b).take n)):((m.zipIdx).foldl (λa x=>a.setIfInBounds (b+x.2) x.1) xs).Perm xs:=by
 have hl:m.length=n:=by rw[hp.length_eq,abI,List.length_drop,aao];lia
 refine Array.perm_iff_toList_perm.mpr ?_;rw[O1 b m 0 xs (by lia),hl,Nat.add_zero];refine List.Perm.trans ?_ (List.Perm.of_eq (List.take_append_drop b xs.toList));rw[yI xs.toList b n];exact List.Perm.append_left _ (List.Perm.append_right _ hp)
theorem Ss{σ:Type}{M:Model}{A:Around}{E:Value->Shared->Prop}{s:Shared}{x:σ}{Q:PUnit->σ->Prop}{st:σ}(h:Q ⟨⟩ x):wpS M A E s (set x:StateT σ Sem PUnit) Q st:=by
 unfold wpS;rw[StateT.run_set];exact aal ⟨acg,h⟩
theorem DR{i sa na pw sb nb pw2:Nat}{Q:Bool->SortSt->Prop}(C:vm prog w A s κ a₀)(hB:SB κ a₀ pd st)(h1:pd[i]? = some (sa,na,pw))(h2:pd[i+1]? = some (sb,nb,pw2))(hsb:sa+na=sb)(na1:1<=na)(nb1:1<=nb)(hz:sb+nb<=a₀.size)(h:∀st',SB κ a₀ ((pd.setIfInBounds i (sa,na+nb,pw)).eraseIdxIfInBounds (i+1)) st'->Q true st'):wpS (model prog w) A E s (mergeAt' i) Q st:=by
 rw[Fv];refine aam (wpS_get ?_);rw[hB.pend,h1,h2];dsimp only;have sz:(arrOf st).size=a₀.size:=hB.size;refine aam (Ss ?_);have QD:SB κ a₀ ((pd.setIfInBounds i (sa,na+nb,pw)).eraseIdxIfInBounds (i+1)) (SortSt.mk' (kindOf st) (arrOf st) ((pd.setIfInBounds i (sa,na+nb,pw)).eraseIdxIfInBounds (i+1)) (gallopOf st) (failedOf st)):=⟨hB.perm,hB.kind,hB.failed,acg⟩;have hA1:arrOf (SortSt.mk' (kindOf st) (arrOf st) ((pd.setIfInBounds i (sa,na+nb,pw)).eraseIdxIfInBounds (i+1)) (gallopOf st) (failedOf st))=arrOf st:=acg;generalize (pd.setIfInBounds i (sa,na+nb,pw)).eraseIdxIfInBounds (i+1)=pd1 at QD hA1 h ⊢;generalize SortSt.mk' (kindOf st) (arrOf st) pd1 (gallopOf st) (failedOf st)=st1 at QD hA1 ⊢;have of:=hB.of;have zb:sb<(arrOf st).size:=by lia
 refine aam (bZ zb (aam (iI C QD.kind (of.get zb) of (by lia) (by lia) λk k1=>?_)));dsimp only;refine bC (λe=>aan (h st1 QD)) (λe=>?_);have ek:k<na:=by have:¬na - k=0:=λz=>e (beq_iff_eq.mpr z);lia
 have zc:sa+k+(na - k) - 1<(arrOf st).size:=by lia
 refine aam (bZ zc (aam (iI C QD.kind (of.get zc) of (by lia) (by lia) λn2 l1=>?_)));dsimp only;refine bC (λe=>aan (h st1 QD)) (λe=>?_);have e2:¬n2=0:=λz=>e (beq_iff_eq.mpr z);have xz:((arrOf st).extract (sa+k) sb).size=sb - (sa+k):=by rw[Array.size_extract,Nat.min_eq_left (by lia)]
 have yz:((arrOf st).extract sb (sb+n2)).size=n2:=by rw[Array.size_extract,Nat.min_eq_left (by lia)];lia
 have sub:∀i j,Of a₀ ((arrOf st).extract i j):=λi j p hp=>of p (by rw[fZ] at hp;exact List.mem_of_mem_drop (List.mem_of_mem_take hp))
 have fin:∀r st2,qy st1 st2->Mg ((arrOf st).extract (sa+k) sb) ((arrOf st).extract sb (sb+n2)) r->wpS (model prog w) A E s (do
  modify λs=>setArr s (List.foldl (λa x=>a.setIfInBounds (sa+k+x.2) x.1) (arrOf s) r.toList.zipIdx)
  return (failedOf (←get)).isNone) Q st2:=λr st2 k2 mg=>by
  refine aam (wpS_modify (aam (wpS_get ?_)));have hf:failedOf (setArr st2 (List.foldl (λa x=>a.setIfInBounds (sa+k+x.2) x.1) (arrOf st2) r.toList.zipIdx))=none:=k2.f.trans QD.failed;rw[hf];have hA2:arrOf st2=arrOf st:=k2.a.trans hA1;refine aan (h _ ⟨?_,k2.k.trans QD.kind,hf,k2.p.trans QD.pend⟩);refine Array.Perm.trans ?_ hB.perm;rw[←hA2];refine OJ (n:=na - k+n2) (by rw[hA2];lia) (List.Perm.trans mg (List.Perm.of_eq ?_));rw[hA2,fZ,fZ,List.take_add,List.drop_drop,show sb+n2 - sb=n2 by lia,show sa+k+(na - k)=sb by lia,show sb - (sa+k)=na - k by lia]
 exact bC (λ_=>aam (DP C QD.kind (sub _ _) (sub _ _) (by lia) (by lia) fin)) (λ_=>aam (DQ C QD.kind (sub _ _) (sub _ _) (by lia) (by lia) fin))
end
noncomputable def srP(lo n:Nat):StateT SortSt Sem (ForInStep (Option Unit×Nat)):=do
 modify λs=>setPending s ((pendingOf s).push (lo,n,0))
 pure (.yield (none,lo+n))
noncomputable def srC(pw:Nat):StateT SortSt Sem (ForInStep (Option Unit×Unit)):=do
 let st ←get
 match (if (pendingOf st).size>1 then (pendingOf st)[(pendingOf st).size - 2]? else none) with
 | some (_,_,older)=>if older<=pw then pure (.done (none,())) else do
   if (!(←mergeAt' ((pendingOf st).size - 2)))=true then pure (.done (some (),())) else pure (.yield (none,()))
 | _=>pure (.done (none,()))
noncomputable def srM(size lo n:Nat):StateT SortSt Sem (ForInStep (Option Unit×Nat)):=do
 let st ←get
 match (pendingOf st).back? with
 | some (s1,n1,_)=>do
   let s ←forIn [0:size] ((none,()):Option Unit×Unit) λ_ _=>srC (power' size (2*s1+n1) (2*s1+n1+n1+n) size)
   match s.1 with
   | some r=>pure (.done (some r,lo))
   | none=>do
     modify λs=>setPending s ((pendingOf s).modify ((pendingOf s).size - 1) λx=>match x with |(st,len,_)=>(st,len,power' size (2*s1+n1) (2*s1+n1+n1+n) size))
     srP lo n
 | _=>srP lo n
noncomputable def srB(size mr:Nat)(lo:Nat):StateT SortSt Sem (ForInStep (Option Unit×Nat)):=
 if lo≥size then pure (.done (none,lo)) else do
  match ←countRun' lo (size - lo) with
  | some n=>
    if n<mr then do
     rule "list.sort.binary-insertion"
     if (!(←binarySort' lo (min (size - lo) mr) n))=true then pure (.done (some (),lo)) else srM size lo (min (size - lo) mr)
    else srM size lo n
  | _=>pure (.done (some (),lo))
noncomputable def srI(p:Array (Nat×Nat×Nat)):Nat:=if Option.any (λx=>decide (x<p[p.size - 2+1]?.elim 0 λx=>x.2.1)) (if p.size - 2>0 then Option.map (λx=>x.2.1) p[p.size - 2 - 1]? else none)=true then p.size - 2 - 1 else p.size - 2
noncomputable def srF:StateT SortSt Sem (ForInStep (Option Unit×Unit)):=do
 let st ←get
 if (pendingOf st).size<=1 then pure (.done (none,())) else do
  if (!(←mergeAt' (srI (pendingOf st))))=true then pure (.done (some (),())) else pure (.yield (none,()))
theorem sortRuns'_eq:sortRuns'=(do
 let st ←get
 let s ←forIn [0:(arrOf st).size] ((none,0):Option Unit×Nat) λ_ c=>srB (arrOf st).size (minRun' (arrOf st).size (arrOf st).size 0) c.2
 match s.1 with
 | some r=>pure r
 | none=>do
   let s ←forIn [0:(arrOf st).size] ((none,()):Option Unit×Unit) λ_ _=>srF
   match s.1 with
   | some r=>pure r
   | none=>pure ()):=by kernel_rfl
section
variable{prog:Program}{w:World}{A:Around}{E:Value->Shared->Prop}{s:Shared}{κ:SortKind}{a₀:Array Keyed}{st:SortSt}{e lo n:Nat}
noncomputable def Rn:List (Nat×Nat×Nat)->Nat->Nat->Prop
 | [],a,e=>a=e
 | (s,n,_)::r,a,e=>s=a/\1<=n/\Rn r (a+n) e
theorem Rn.le:∀{l:List (Nat×Nat×Nat)}{a e:Nat},Rn l a e->a<=e
 | [],_,_,h=>Nat.le_of_eq h
 | _::_,_,_,h=>ab9 (Nat.le_add_right _ _) (Rn.le h.2.2)
theorem Rn.app{r:List (Nat×Nat×Nat)}:∀{l:List (Nat×Nat×Nat)}{a e:Nat},Rn (l++r) a e ↔ ∃m,Rn l a m/\Rn r m e
 | [],a,e=>⟨λh=>⟨a,acg,h⟩,λ⟨m,h1,h2⟩=>(show a=m from h1)▸h2⟩
 | (s,n,_)::l,a,e=>⟨λ⟨h1,h2,h3⟩=>(Rn.app.mp h3).elim λm ⟨m1,m2⟩=>⟨m,⟨h1,h2,m1⟩,m2⟩,λ⟨m,⟨h1,h2,h3⟩,m2⟩=>⟨h1,h2,Rn.app.mpr ⟨m,h3,m2⟩⟩⟩
theorem Rn.modify{f:Nat×Nat×Nat->Nat×Nat×Nat}(hf:∀x,(f x).1=x.1/\(f x).2.1=x.2.1)(l:List (Nat×Nat×Nat)):∀(i a e:Nat),Rn l a e->Rn (l.modify i f) a e:=by
 induction l with
 | nil=>intro i a e h;cases i<;>exact h
 | cons t r ih=>
   intro i a e h;obtain⟨h1,h2,h3⟩:=h;cases i with
   | zero=>
     rw[List.modify_zero_cons];obtain⟨q1,q2⟩:=hf t;exact⟨q1.trans h1,by rw[q2];exact h2,by rw[q2];exact h3⟩
   | succ i=>
     rw[List.modify_succ_cons];exact⟨h1,h2,ih i _ _ h3⟩
noncomputable def RI(κ:SortKind)(a₀:Array Keyed)(e:Nat)(st:SortSt):Prop:=SB κ a₀ (pendingOf st) st/\Rn (pendingOf st).toList 0 e
theorem wJ{i:Nat}{Q:Bool->SortSt->Prop}(C:vm prog w A s κ a₀)(hR:RI κ a₀ e st)(he:e<=a₀.size)(hi:i+1<(pendingOf st).size)(h:∀st',RI κ a₀ e st'->Q true st'):wpS (model prog w) A E s (mergeAt' i) Q st:=by
 obtain⟨hB,hr⟩:=hR;have hl:(pendingOf st).toList.length=(pendingOf st).size:=aao;generalize pendingOf st=pd at hB hr hi hl
 obtain⟨pre,⟨sa,na,pw⟩,⟨sb,nb,pw2⟩,post,el,pl⟩:∃pre p q post,pd.toList=pre++p::q::post/\pre.length=i:=
  ⟨pd.toList.take i,pd.toList[i],pd.toList[i+1],pd.toList.drop (i+2),by rw[←List.drop_eq_getElem_cons,←List.drop_eq_getElem_cons,List.take_append_drop],by rw[abI];lia⟩
 rw[el] at hr;obtain⟨m,r1,e1,n1,e2,n2,r3⟩:=Rn.app.mp hr;subst e1;have le3:=Rn.le r3;have h1:pd[i]? = some (sa,na,pw):=by rw[←Array.getElem?_toList,el,aaL (by lia),pl,Nat.sub_self];rfl
 have h2:pd[i+1]? = some (sb,nb,pw2):=by rw[←Array.getElem?_toList,el,aaL (by lia),pl,show i+1 - i=1 by lia];rfl
 refine DR C hB h1 h2 e2.symm n1 n2 (by lia) λst' hB'=>h st' ?_
 have ep:((pd.setIfInBounds i (sa,na+nb,pw)).eraseIdxIfInBounds (i+1)).toList=pre++(sa,na+nb,pw)::post:=by
  rw[Array.toList_eraseIdxIfInBounds,Array.toList_setIfInBounds,el,List.set_append_right _ _ (by lia),pl,Nat.sub_self,List.eraseIdx_append_of_length_le (by lia),pl,show i+1 - i=1 by lia];rfl
 unfold RI;rw[hB'.pend,ep];exact⟨hB',Rn.app.mpr ⟨sa,r1,acg,by lia,by rw[←Nat.add_assoc];exact r3⟩⟩
theorem Jg{Q:ForInStep (Option Unit×Nat)->SortSt->Prop}(hR:RI κ a₀ lo st)(n1:1<=n)(h:∀st',RI κ a₀ (lo+n) st'->Q (.yield (none,lo+n)) st'):wpS (model prog w) A E s (srP lo n) Q st:=by
 unfold srP;refine aam (wpS_modify (aan (h _ ⟨⟨hR.1.perm,hR.1.kind,hR.1.failed,acg⟩, ?_⟩)));show Rn ((pendingOf st).push _).toList _ _;rw[Array.toList_push];exact Rn.app.mpr ⟨lo,hR.2,acg,n1,acg⟩
theorem Jh{Q:ForInStep (Option Unit×Nat)->SortSt->Prop}(C:vm prog w A s κ a₀)(hR:RI κ a₀ lo st)(hlo:lo<=a₀.size)(n1:1<=n)(h:∀st',RI κ a₀ (lo+n) st'->Q (.yield (none,lo+n)) st'):wpS (model prog w) A E s (srM a₀.size lo n) Q st:=by
 unfold srM;refine aam (wpS_get ?_);cases hb:(pendingOf st).back? with
 | none=>exact Jg hR n1 h
 | some t=>
   obtain⟨s1,n1',pw⟩:=t;dsimp only;generalize power' a₀.size (2*s1+n1') (2*s1+n1'+n1'+n) a₀.size=pwr;refine aam (wpS_mono (wpS_forRange (I:=λ_ c rT=>c=(none,())/\RI κ a₀ lo rT) (Q:=λc rT=>c=(none,())/\RI κ a₀ lo rT) ?_ (λ_ _ z=>z) ⟨acg,hR⟩) ?_)
   .rintro y c rT _ _ ⟨rfl,h4⟩
    unfold srC;refine aam (wpS_get ?_);cases hg:(if (pendingOf rT).size>1 then (pendingOf rT)[(pendingOf rT).size - 2]? else none) with
    | none=>exact aan ⟨acg,h4⟩
    | some t=>
      have gt:(pendingOf rT).size>1:=by
       by_cases g:(pendingOf rT).size>1
       .exact g
       .rw[ab' g] at hg;cases hg
      exact bC (λ_=>aan ⟨acg,h4⟩) (λ_=>aam (wJ C h4 hlo (by lia) λTp h5=>aan ⟨acg,h5⟩))
   .rintro c rT ⟨rfl,h4⟩
    refine aam (wpS_modify (Jg ⟨⟨h4.1.perm,h4.1.kind,h4.1.failed,acg⟩, ?_⟩ n1 h));show Rn ((pendingOf rT).modify _ _).toList _ _;rw[Array.toList_modify];exact Rn.modify (f:=λx=>(x.1,x.2.1,pwr)) (λx=>⟨acg,acg⟩) _ _ _ _ h4.2
theorem wpS_sortRuns{Q:Unit->SortSt->Prop}(C:vm prog w A s κ a₀)(hB:SB κ a₀ #[] st)(h:∀st',(arrOf st').Perm a₀->failedOf st'=none->Q () st'):wpS (model prog w) A E s sortRuns' Q st:=by
 rw[sortRuns'_eq];refine aam (wpS_get ?_);rw[hB.size];generalize minRun' a₀.size a₀.size 0=mr;refine aam (wpS_mono (wpS_forRange (I:=λ_ c st'=>∃lo,c=(none,lo)/\lo<=a₀.size/\RI κ a₀ lo st') (Q:=λc st'=>∃lo,c=(none,lo)/\lo<=a₀.size/\RI κ a₀ lo st') ?_ (λ_ _ z=>z) ⟨0,acg,Nat.zero_le _,by unfold RI;rw[hB.pend];exact⟨hB,acg⟩⟩) ?_)
 .rintro x c st' _ _ ⟨lo,rfl,x2,hR⟩
  dsimp only;unfold srB;refine bC (λ_=>aan ⟨lo,acg,x2,hR⟩) (λge=>?_);refine aam (wpS_countRun C (by lia) (by lia) hR.1 λm st2 hB2 m1 m2=>?_);have Vl:RI κ a₀ lo st2:=by unfold RI;rw[hB2.pend];exact⟨hB2,hR.2⟩
  refine bC (λlt=>?_) (λ_=>Jh C Vl x2 m1 λst3 h3=>⟨lo+m,acg,by lia,h3⟩);refine aam (wpS_lift (wpAny_rule ⟨acg,aam (DW C (by lia) hB2 λst3 hB3=>?_)⟩));have hR3:RI κ a₀ lo st3:=by unfold RI;rw[hB3.pend];exact⟨hB3,hR.2⟩
  exact Jh C hR3 x2 (by lia) λrT h4=>⟨_,acg,by lia,h4⟩
 .rintro c st' ⟨lo,rfl,x2,hR⟩
  dsimp only;refine aam (wpS_mono (wpS_forRange (I:=λ_ c rT=>c=(none,())/\RI κ a₀ lo rT) (Q:=λc rT=>c=(none,())/\RI κ a₀ lo rT) ?_ (λ_ _ z=>z) ⟨acg,hR⟩) ?_)
  .rintro y c rT _ _ ⟨rfl,h4⟩
   unfold srF;refine aam (wpS_get (bC (λ_=>aan ⟨acg,h4⟩) (λl1=>aam (wJ C h4 x2 ?_ λTp h5=>aan ⟨acg,h5⟩))));have hix:∀(c:Prop)[Decidable c],(if c then (pendingOf rT).size - 2 - 1 else (pendingOf rT).size - 2)+1<(pendingOf rT).size:=λc _=>by split<;>lia
   exact hix _
  .rintro c rT ⟨rfl,h4⟩
   exact aan (h rT h4.1.perm h4.1.failed)
end
section
variable{prog:Program}{w:World}{A:Around}{E:Value->Shared->Prop}{s:Shared}{κ:SortKind}
theorem Yk{vs:List Value}{xs:Array Keyed}(hp:xs.Perm (pairsOf vs)):(xs.map (·.2)).toList.Perm vs:=by
 have:=(Array.perm_iff_toList_perm.mp hp).map Prod.snd;rwa [pairsOf_toList,List.map_snd_zip (aaj _),←Array.toList_map] at this
theorem zA{a:Addr}{vs:List Value}{n:Nat}{P:PySem.Fin->Shared->Prop}(ho:s.heap.get? a=some (seqObj "list" vs.toArray n))(hz:vs.length<=sizeLine)(hk:2<=vs.length -> ∀h':Heap,(∀b o,b≠a->s.heap.get? b=some o->h'.get? b=some o)->(∀(Q:SortKind->Shared->Prop)(E:Value->Shared->Prop),Q κ {s with heap:=h'}->wpAny (model prog w) A (keyKind' vs.toArray) Q E {s with heap:=h'})/\vm prog w A {s with heap:=h'} κ (pairsOf vs))(h:∀out:List Value,out.Perm vs->P (.done (.ret .none)) {s with heap:=sortedHeap s.heap a vs out.toArray}):
 wpAny (model prog w) A (Builtin.«list.sort» ⟨[.ref a],[]⟩) P E s:=by
 rw[list_sort_plain];have ha:a<s.heap.objs.size:=aai ho;refine aak (listItems_at ho rfl ?_);refine aak (listUpdate_at ho rfl ?_ (by rw[aaB];exact hz) (Nat.zero_le _));obtain⟨e1,ho1⟩:∃e1,(s.heap.update a (Obj.mapSeq λ_=> #[])).get? a=some (seqObj "list" #[] e1):=⟨_,get?_update_seq ho (λ_=> #[])⟩;refine aak (seqEpoch_at ho1 rfl ?_);refine aak (wpAny_newTuple ?_ (by show vs.length<=_;exact hz));refine aak (wpAny_newList ?_ (Nat.zero_le _));refine wpAny_holding ?_
 have keep:∀b o,b≠a->s.heap.get? b=some o->(((s.heap.update a (Obj.mapSeq λ_=> #[])).push (seqObj "tuple" vs.toArray 0)).push (seqObj "list" #[] 0)).get? b=some o:=λb o nb e=>by
  refine aag _ (aag _ ?_);rw[Heap.get?_update_ne _ _ _ _ nb];exact e
 have ho6:(((s.heap.update a (Obj.mapSeq λ_=> #[])).push (seqObj "tuple" vs.toArray 0)).push (seqObj "list" #[] 0)).get? a=some (seqObj "list" #[] e1):=aag _ (aag _ ho1);show wpAny (model prog w) A _ P E {s with heap:=((s.heap.update a (Obj.mapSeq λ_=> #[])).push (seqObj "tuple" vs.toArray 0)).push (seqObj "list" #[] 0)};dsimp only;have hsz:vs.toArray.size=vs.length:=by simp
 have fin:∀st':SortSt,(arrOf st').Perm (pairsOf vs)->P (.done (.ret .none)) {s with heap:=sortedHeap s.heap a vs ((arrOf st').map (·.2))}:=by
  intro st' hp;have:=h _ (Yk hp);rwa [Array.toArray_toList] at this
 by_cases h2:vs.toArray.size<2
 .rw[acd h2,acd h2]
  refine aak (aal ?_);rw[StateT.run_pure];refine aak (aal ?_);dsimp only;refine aak (seqEpoch_at ho6 rfl ?_);refine aak (listUpdate_at ho6 rfl ?_ (Nat.zero_le _) (by rw[Array.size_map];show (pairsOf vs).size<=_;rw[pairsOf_size];lia));simp only[bne_self_eq_false,Bool.false_eq_true,if_false];exact aal (fin (SortSt.mk' general' (vs.toArray.zip vs.toArray) #[] 7 none) (Array.Perm.refl _))
 .rw[ab' h2,ab' h2]
  obtain⟨kk,kc⟩:=hk (by lia) _ keep;refine aak (kk _ _ ?_)
  refine aak (wpAny_mono (wpS_sortRuns (a₀:=pairsOf vs) (st:=SortSt.mk' κ (vs.toArray.zip vs.toArray) #[] 7 none)
   (Q:=λ_ st'=>(arrOf st').Perm (pairsOf vs)/\failedOf st'=none)
   kc ⟨Array.Perm.refl _,acg,acg,acg⟩ λst' a1 a2=>⟨a1,a2⟩) ?_ λ_ _ e=>e)
  rintro⟨⟨⟩,st'⟩ s' ⟨rfl,hp,hf⟩;dsimp only;refine aak (seqEpoch_at ho6 rfl ?_);refine aak (listUpdate_at ho6 rfl ?_ (Nat.zero_le _) (ab9 (Nat.le_of_eq ((Array.size_map ..).trans (hp.size_eq.trans (pairsOf_size _)))) (Nat.le_succ_of_le hz)));rw[hf];simp only[bne_self_eq_false,Bool.false_eq_true,if_false];exact aal (fin st' hp)
theorem G5{l:Addr}{vs:List Value}{Q:Value->Shared->Prop}(hl:s.heap.IsList l vs.toArray)(hz:vs.length<=sizeLine)(hk:2<=vs.length -> ∀h':Heap,(∀b o,s.heap.get? b=some o->h'.get? b=some o)->(∀(Q:SortKind->Shared->Prop)(E:Value->Shared->Prop),Q κ {s with heap:=h'}->wpAny (model prog w) A.in1.in1 (keyKind' vs.toArray) Q E {s with heap:=h'})/\vm prog w A.in1.in1 {s with heap:=h'} κ (pairsOf vs))(h:∀(h':Heap)(D:Addr)(c:Nat)(out:List Value),(∀b o,s.heap.get? b=some o->h'.get? b=some o)->s.heap.objs.size<=D->h'.get? D=some (seqObj "list" out.toArray c)->out.Perm vs->Q (.ref D) {s with heap:=h'}):
 wpAny (model prog w) A (call (.builtin "sorted") [.ref l]) Q E s:=by
 refine Calls.call_function_entry kind_sorted plain_sorted entry_sorted (args_sorted1 _) ?_;unfold Builtin.«sorted»;refine aak (m:=checkCount "sorted" 1 1 _) (aal ?_);refine aak (collect_list hl ?_ hz);refine aak (wpAny_newList ?_ hz)
 have hsz:((s.heap.push (seqObj "list" #[] 0)).update s.heap.objs.size (Obj.mapSeq (· ++ vs.toArray))).objs.size=s.heap.objs.size+1:=by
  rw[Heap.size_update,size_push']
 have hoL:(((s.heap.push (seqObj "list" #[] 0)).update s.heap.objs.size (Obj.mapSeq (· ++ vs.toArray))).push (seqObj "list" vs.toArray 0)).get? (s.heap.objs.size+1)=some (seqObj "list" vs.toArray 0):=by
  rw[←hsz];exact aah _ rfl
 have keep:∀b o,s.heap.get? b=some o->(((s.heap.push (seqObj "list" #[] 0)).update s.heap.objs.size (Obj.mapSeq (· ++ vs.toArray))).push (seqObj "list" vs.toArray 0)).get? b=some o:=λb o q=>by
  have hlt:b<s.heap.objs.size:=aai q;rw[Heap.get?_push_ne _ _ _ (by rw[hsz];exact aaP (Nat.lt_succ_of_lt hlt)),Heap.get?_update_ne _ _ _ _ (aaP hlt),Heap.get?_push_ne _ _ _ (aaP hlt)];exact q
 show wpAny _ _ _ _ _ {s with heap:=((s.heap.push (seqObj "list" #[] 0)).update s.heap.objs.size (Obj.mapSeq (· ++ vs.toArray))).push (seqObj "list" vs.toArray 0)};rw[hsz];generalize ((s.heap.push (seqObj "list" #[] 0)).update s.heap.objs.size (Obj.mapSeq (· ++ vs.toArray))).push (seqObj "list" vs.toArray 0)=h1 at keep hoL ⊢;have nD:∀b o,s.heap.get? b=some o->b≠s.heap.objs.size+1:=λb o e=>aaP (Nat.lt_succ_of_lt (aai e));refine aak (wpAny_holding (wpAny_call_entry slot_list_sort ⟨_,hoL,acg⟩ entry_list_sort (zA (s:={s with heap:=h1}) hoL hz (λh2 h' kp=>hk h2 h' λb o e=>kp b o (nD b o e) (keep b o e)) λout p1=>⟨_,acg, ?_⟩) (args_list_sort _)));refine aal ⟨_,acg, ?_⟩;obtain⟨e1,ho1⟩:∃e1,(h1.update (s.heap.objs.size+1) (Obj.mapSeq λ_=> #[])).get? (s.heap.objs.size+1)=some (seqObj "list" #[] e1):=⟨_,get?_update_seq hoL (λ_=> #[])⟩;have ho2:(((h1.update (s.heap.objs.size+1) (Obj.mapSeq λ_=> #[])).push (seqObj "tuple" vs.toArray 0)).push (seqObj "list" #[] 0)).get? (s.heap.objs.size+1)=some (seqObj "list" #[] e1):=aag _ (aag _ ho1);refine h (sortedHeap h1 (s.heap.objs.size+1) vs out.toArray) _ _ out (λb o e=>?_) (Nat.le_succ _) (by unfold sortedHeap;exact get?_update_seq ho2 (λ_=>out.toArray)) p1;unfold sortedHeap;rw[Heap.get?_update_ne _ _ _ _ (nD b o e)];refine aag _ (aag _ ?_);rw[Heap.get?_update_ne _ _ _ _ (nD b o e)];exact keep b o e
end
end Tip
namespace L2
open PySem PySem.Spec PyProof.Rows PySem.W
section
variable{X:Cx}
theorem J3{prog:Program}{w:World}{A:Around}{s:Shared}{Q:Bool->Shared->Prop}(h:∀b,Q b s)(fin:Bool):∀(xs ys:List Value)(ns ms:List Int)(i:Nat),IntsAre xs ns->IntsAre ys ms->KatLex prog w A true fin Q (xs.zip ys) i s
 | _,_,[],[],i,.nil,.nil=>h fin
 | _,_,_::_,[],_,.cons _ _ _,.nil=>h fin
 | _,_,[],_::_,_,.nil,.cons _ _ _=>h fin
 | _,_,n::ns,m::ms,i,.cons _ t hx,.cons _ u hy=>by
   rw[List.zip_cons_cons];refine kat_cons (wpAny_eqBool_int ?_);cases (n==m) with
   | true=>exact kat_yes (J3 h fin _ _ ns ms (i+1) hx hy)
   | false=>
     refine kat_no ?_;cases (true&&i==0) with
     | true=>exact oneLt_int (h _)
     | false=>exact kat_one _ _ (lt_int (show W.BoolBack Q (.bool (decide (n<m))) s from h _))
noncomputable def Rv(h:Heap)(vs:List Value):Prop:=∀v∈vs,∃a its ns,v = .ref a/\IsTup h a its.toArray/\IntsAre its ns/\1<=ns.length
theorem NT{prog:Program}{w:World}{A:Around}{s:Shared}{vs:List Value}{h0:Heap}(T:Rv h0 vs)(kp:∀b o,h0.get? b=some o->s.heap.get? b=some o):Tip.vm prog w A s (tuples' true) (pairsOf vs):=by
 refine⟨λp hp q hq E Q h=>?_⟩;rw[pairsOf_toList] at hp hq;obtain⟨_,mp⟩:=mem_zip_self hp;obtain⟨_,mq⟩:=mem_zip_self hq;obtain⟨a,its,ns,ep,⟨oa,ea,ca,n1,da⟩,ia,_⟩:=T _ mp;obtain⟨b,jts,ms,eq,⟨ob,eb,cb,n2,db⟩,ib,_⟩:=T _ mq;rw[ep,eq];refine kat_lt (kp _ _ ea) da (kp _ _ eb) db ?_;rw[show its.toArray.toList=its by simp,show jts.toArray.toList=jts by simp];exact J3 h _ its jts ns ms 0 ia ib
theorem Ea{h0 h1:Heap}(kp:∀b o,h0.get? b=some o->h1.get? b=some o):∀{vs:List Value},Rv h0 vs -> ∃fs,KatTups h1 vs fs/\fs.length=vs.length /\ ∀f∈fs,∃n t,f=Value.int n t
 | [],_=>⟨[],trivial,acg,λ_ z=>ace z (by simp)⟩
 | v::vs,T=>by
   obtain⟨fs,t1,t2,t3⟩:=Ea kp (vs:=vs) λu hu=>T u (aa7 _ hu);obtain⟨a,its,ns,rfl,⟨o,e,c,n,d⟩,ia,la⟩:=T v (List.mem_cons_self ..)
   match its,ns,ia,la,d with
   | _,_,.nil,la,d=>simp at la
   | _,_,.cons m t r,la,d=>
     refine⟨_::fs,KatTups.cons (kp _ _ e) c d rfl t1,by simp[t2],λf hf=>?_⟩;rcases List.mem_cons.mp hf with rfl|hf
     .exact⟨_,_,acg⟩
     .exact t3 f hf
theorem Kw{ys:List V}{us out:List Value}(r:Vals ys us)(p:out.Perm us):∃zs,Vals zs out/\zs.Perm ys:=by
 induction p generalizing ys with
 | nil=>cases r;exact⟨[],.nil,.refl _⟩
 | cons x p ih=>
   cases r with
   | cons rx rt=>
     obtain⟨zs,z1,z2⟩:=ih rt;exact⟨_::zs,.cons rx z1,.cons _ z2⟩
 | swap x y l=>
   cases r with
   | cons rx rt=>
     cases rt with
     | cons ry rl=>exact⟨_,.cons ry (.cons rx rl),.swap _ _ _⟩
 | trans p q ih1 ih2=>
   obtain⟨zs,z1,z2⟩:=ih2 r;obtain⟨ws,w1,w2⟩:=ih1 z1;exact⟨ws,w1,w2.trans z2⟩
theorem Af:∀{ns:List Int}{vs:List Value},Vals (ns.map V.int) vs->IntsAre vs ns
 | [],_,.nil=> .nil
 | n::ns,_,.cons ⟨t,e⟩ r=>by subst e;exact .cons n t (Af r)
noncomputable def Hl(K:PySem.W.Frag):List V->Hp->VK->Prop:=λxs H Q=>∃(p:Addr) (ys:List V),xs=[.ref p]/\bI K H p ys/\(∀y∈ys,∃(a:Addr) (ns:List Int),y = .ref a/\cD K H a (ns.map V.int)/\1<=ns.length) /\
 ∀l zs,H l=none->zs.Perm ys->Q (.ref l) (upd H l (.lst zs))
theorem Iu:jA X (.builtin "sorted") (Hl X.K):=by
 intro pins s σ H xs us Q I r h;obtain⟨p,ys,rfl,hq,ht,q⟩:=h;obtain⟨u,rfl,rx⟩:=vals1 r;cases rx;obtain⟨its,rv,pl,hz⟩:=I.list hq;have hlen:its.length=ys.length:=by rw[←rv.length]
 have T:Rv s.heap its:=λv hv=>by
  obtain⟨i,hi,e⟩:=List.getElem_of_mem hv;have hy:i<ys.length:=by lia
  obtain⟨v',hv',ry⟩:=rv.get (i:=i) (x:=ys[i]) (by rw[aad hy]);rw[aad hi,e] at hv';cases hv';obtain⟨a,ns,e1,sq,hl⟩:=ht _ (List.getElem_mem hy);rw[e1] at ry;cases ry;obtain⟨jts,rj,tj,_⟩:=I.tuple sq;exact⟨a,jts,_,acg,tj,Af rj,hl⟩
 refine Tip.G5 (κ:=tuples' true) pl.isList (by lia) (λh2 h' kp=>⟨λQ E hQ=>?_,NT T kp⟩) λh' D c out kp hD hd hp=>?_
 .obtain⟨fs,t1,t2,t3⟩:=Ea (h1:=h') kp T
  exact kat_kind (T:= .type "int") t1 (by lia) (λv hv=>by obtain⟨n,t,rfl⟩:=t3 v hv;exact .now) rfl hQ
 obtain⟨zs,z1,z2⟩:=Kw rv hp;have hzl:zs.length<=sizeLine:=by rw[z2.length_eq];lia
 exact⟨.ref D,_,I.laid (t':=s.toks) kp hD (show eF X.prog X.w _ h' _ (.lst zs) from ⟨hzl,out,c,z1,hd⟩),acg,q D zs (I.hok.fresh hD) z2⟩
theorem Gj{K:PySem.W.Frag}(hK:X.K=K):jA X (.builtin "sorted") (Hl K):=by subst hK;exact Iu
end
end L2
namespace Prf
open PySem L2
noncomputable def top(i:Nat):Stmt:=PySem.Challenge.pw_fewnotes_k53_whole_replays_of_runs.main.body.getD i (.Pass ⟨0,0,0,0⟩)
noncomputable abbrev qU:Stmt:=top 8
noncomputable abbrev qW:Stmt:=top 9
noncomputable abbrev uT:Stmt:=top 12
noncomputable abbrev o8:Stmt:=inClass (top 16) 0
noncomputable abbrev jR:Stmt:=inClass (top 16) 1
noncomputable abbrev jP:Stmt:=inClass (top 16) 2
noncomputable abbrev jQ:Stmt:=inClass (top 16) 3
noncomputable abbrev uV:Stmt:=inClass (top 16) 4
noncomputable abbrev nH:Stmt:=inClass (top 16) 5
noncomputable abbrev o7:Stmt:=inClass (top 16) 6
noncomputable abbrev gP:Stmt:=inClass (top 16) 7
noncomputable abbrev bU:Stmt:=inClass (top 17) 0
noncomputable abbrev nF:Stmt:=inClass (top 17) 1
noncomputable abbrev iJ:Stmt:=inClass (top 17) 2
noncomputable abbrev lF:Stmt:=inClass (top 17) 3
noncomputable abbrev lG:Stmt:=inClass (top 17) 4
noncomputable abbrev nG:Stmt:=inClass (top 17) 5
noncomputable abbrev oY:Stmt:=inClass (top 17) 6
noncomputable abbrev jM:Stmt:=inClass (top 17) 7
noncomputable abbrev nA:Stmt:=inClass (top 17) 8
noncomputable abbrev jo:Stmt:=inClass (top 17) 9
noncomputable abbrev jm:Stmt:=inClass (top 17) 10
noncomputable abbrev jN:Stmt:=inClass (top 17) 11
noncomputable abbrev jq:Stmt:=inClass (top 17) 12
noncomputable abbrev jk:Stmt:=top 18
noncomputable abbrev uR:Stmt:=top 20
noncomputable abbrev lE:Stmt:=top 22
noncomputable abbrev nu:Stmt:=top 23
noncomputable abbrev Oq:Stmt:=top 24
noncomputable abbrev oX:Stmt:=top 25
noncomputable abbrev lK:Stmt:=inClass (top 27) 0
noncomputable abbrev lH:Stmt:=inClass (top 27) 1
noncomputable abbrev iK:Stmt:=inClass (top 27) 2
noncomputable abbrev iM:Stmt:=inClass (top 27) 3
noncomputable abbrev lM:Stmt:=inClass (top 27) 4
noncomputable abbrev lN:Stmt:=inClass (top 27) 6
noncomputable abbrev jO:Stmt:=inClass (top 27) 7
noncomputable abbrev lJ:Stmt:=inClass (top 27) 9
noncomputable abbrev iQ:Stmt:=inClass (top 27) 10
noncomputable abbrev BL:Stmt:=top 29
noncomputable abbrev BR:Stmt:=top 30
noncomputable abbrev sS:Stmt:=top 31
noncomputable abbrev xM:Stmt:=top 32
noncomputable abbrev xK:Stmt:=top 33
noncomputable abbrev G_:Stmt:=top 34
noncomputable abbrev qX:Stmt:=top 35
noncomputable abbrev qY:Stmt:=top 36
noncomputable abbrev G9:Stmt:=top 37
noncomputable abbrev BP:Stmt:=top 38
noncomputable abbrev xP:Stmt:=top 39
noncomputable abbrev qZ:Stmt:=top 40
noncomputable abbrev xO:Stmt:=top 41
noncomputable abbrev oZ:Stmt:=top 42
noncomputable abbrev uU:Stmt:=top 43
noncomputable abbrev Oo:Stmt:=top 44
structure mV(mg:Str->Option Value):Prop where
 VH:mg "ValueError" = none
 Ko:mg "all" = none
 yR:mg "bool" = none
 Gp:mg "enumerate" = none
 Gn:mg "int" = none
 bQ:mg "isinstance" = none
 dW:mg "len" = none
 gH:mg "list" = none
 abQ:mg "max" = none
 abP:mg "min" = none
 dN:mg "range" = none
 Iw:mg "reversed" = none
 Rr:mg "sorted" = none
 abO:mg "str" = none
 aho:mg "sum" = none
 wC:mg "tuple" = none
 abN:mg "zip" = none
theorem Ek:aZ ["value"] ["value"] (aM qU):=⟨acg,acg,acg,by decide +kernel,acg,by decide +kernel,by decide +kernel⟩
theorem El:aZ ["value","count"] ["value","count"] (aM qW):=⟨acg,acg,acg,by decide +kernel,acg,by decide +kernel,by decide +kernel⟩
theorem G7:aZ ["row"] ["row"] (aM uT):=⟨acg,acg,acg,by decide +kernel,acg,by decide +kernel,by decide +kernel⟩
theorem BK:aZ ["self","rows"] ["self","rows"] (aM o8):=⟨acg,acg,acg,by decide +kernel,acg,by decide +kernel,by decide +kernel⟩
theorem ou:aZ ["self","other"] ["self"] (aM jR):=⟨acg,acg,acg,by decide +kernel,acg,by decide +kernel,by decide +kernel⟩
theorem oh:aZ ["self","row"] ["self"] (aM jP):=⟨acg,acg,acg,by decide +kernel,acg,by decide +kernel,by decide +kernel⟩
theorem jj:aZ ["self","done"] ["self"] (aM jQ):=⟨acg,acg,acg,by decide +kernel,acg,by decide +kernel,by decide +kernel⟩
theorem G8:aZ ["self","row"] ["self","row"] (aM uV):=⟨acg,acg,acg,by decide +kernel,acg,by decide +kernel,by decide +kernel⟩
theorem lD:aZ ["self","row","left","right"] ["self","row"] (aM nH):=⟨acg,acg,acg,by decide +kernel,acg,by decide +kernel,by decide +kernel⟩
theorem BJ:aZ ["self","box","number"] ["self","box","number"] (aM o7):=⟨acg,acg,acg,by decide +kernel,acg,by decide +kernel,by decide +kernel⟩
theorem gw:aZ ["self","part","left","right"] ["self","part"] (aM gP):=⟨acg,acg,acg,by decide +kernel,acg,by decide +kernel,by decide +kernel⟩
theorem lC:aZ ["self","program","cells","one"] ["self","program","cells"] (aM bU):=⟨acg,acg,acg,by decide +kernel,acg,by decide +kernel,by decide +kernel⟩
theorem lB:aZ ["self","hand","one","touch"] ["self","hand"] (aM nF):=⟨acg,acg,acg,by decide +kernel,acg,by decide +kernel,by decide +kernel⟩
theorem dY:aZ ["self","one","row","cell","read","written"] ["self","one"] (aM iJ):=⟨acg,acg,acg,by decide +kernel,acg,by decide +kernel,by decide +kernel⟩
theorem xr:aZ ["self"] ["self"] (aM lF):=⟨acg,acg,acg,by decide +kernel,acg,by decide +kernel,by decide +kernel⟩
theorem xu:aZ ["self","hand"] ["self","hand"] (aM lG):=⟨acg,acg,acg,by decide +kernel,acg,by decide +kernel,by decide +kernel⟩
theorem zu:aZ ["self","hand"] ["self","hand"] (aM nG):=⟨acg,acg,acg,by decide +kernel,acg,by decide +kernel,by decide +kernel⟩
theorem Bx:aZ ["self","hand"] ["self","hand"] (aM oY):=⟨acg,acg,acg,by decide +kernel,acg,by decide +kernel,by decide +kernel⟩
theorem vN:aZ ["self"] ["self"] (aM jM):=⟨acg,acg,acg,by decide +kernel,acg,by decide +kernel,by decide +kernel⟩
theorem qL:aZ ["self","other"] ["self"] (aM nA):=⟨acg,acg,acg,by decide +kernel,acg,by decide +kernel,by decide +kernel⟩
theorem uO:aZ ["self","hand"] ["self","hand"] (aM jo):=⟨acg,acg,acg,by decide +kernel,acg,by decide +kernel,by decide +kernel⟩
theorem mz:aZ ["self","hands"] ["self"] (aM jm):=⟨acg,acg,acg,by decide +kernel,acg,by decide +kernel,by decide +kernel⟩
theorem vO:aZ ["self","other"] ["self","other"] (aM jN):=⟨acg,acg,acg,by decide +kernel,acg,by decide +kernel,by decide +kernel⟩
theorem uP:aZ ["self"] ["self"] (aM jq):=⟨acg,acg,acg,by decide +kernel,acg,by decide +kernel,by decide +kernel⟩
theorem uN:aZ ["cells","count"] ["cells","count"] (aM jk):=⟨acg,acg,acg,by decide +kernel,acg,by decide +kernel,by decide +kernel⟩
theorem G6:aZ ["value"] ["value"] (aM uR):=⟨acg,acg,acg,by decide +kernel,acg,by decide +kernel,by decide +kernel⟩
theorem xq:aZ ["record"] ["record"] (aM lE):=⟨acg,acg,acg,by decide +kernel,acg,by decide +kernel,by decide +kernel⟩
theorem zq:aZ ["counts","note"] ["counts","note"] (aM nu):=⟨acg,acg,acg,by decide +kernel,acg,by decide +kernel,by decide +kernel⟩
theorem XD:aZ ["done","touch"] ["done","touch"] (aM Oq):=⟨acg,acg,acg,by decide +kernel,acg,by decide +kernel,by decide +kernel⟩
theorem m9:aZ ["record","firsts","note"] ["record"] (aM oX):=⟨acg,acg,acg,by decide +kernel,acg,by decide +kernel,by decide +kernel⟩
theorem xG:aZ ["self","works","record"] ["self","works","record"] (aM lK):=⟨acg,acg,acg,by decide +kernel,acg,by decide +kernel,by decide +kernel⟩
theorem jK:aZ ["self","hand","holding","touch"] ["self","hand"] (aM lH):=⟨acg,acg,acg,by decide +kernel,acg,by decide +kernel,by decide +kernel⟩
theorem sG:aZ ["self","hand"] ["self","hand"] (aM iK):=⟨acg,acg,acg,by decide +kernel,acg,by decide +kernel,by decide +kernel⟩
theorem kj:aZ ["self","hand","touch"] ["self","hand"] (aM iM):=⟨acg,acg,acg,by decide +kernel,acg,by decide +kernel,by decide +kernel⟩
theorem xH:aZ ["self"] ["self"] (aM lM):=⟨acg,acg,acg,by decide +kernel,acg,by decide +kernel,by decide +kernel⟩
theorem xJ:aZ ["self"] ["self"] (aM lN):=⟨acg,acg,acg,by decide +kernel,acg,by decide +kernel,by decide +kernel⟩
theorem vP:aZ ["self"] ["self"] (aM jO):=⟨acg,acg,acg,by decide +kernel,acg,by decide +kernel,by decide +kernel⟩
theorem iw:aZ ["self","touches","hand","count"] ["self"] (aM lJ):=⟨acg,acg,acg,by decide +kernel,acg,by decide +kernel,by decide +kernel⟩
theorem sI:aZ ["self"] ["self"] (aM iQ):=⟨acg,acg,acg,by decide +kernel,acg,by decide +kernel,by decide +kernel⟩
theorem oW:aZ ["script","stir","cell","great"] ["script"] (aM BL):=⟨acg,acg,acg,by decide +kernel,acg,by decide +kernel,by decide +kernel⟩
theorem sJ:aZ ["reel","many","rest","told","stir"] ["reel","many"] (aM BR):=⟨acg,acg,acg,by decide +kernel,acg,by decide +kernel,by decide +kernel⟩
theorem zV:aZ ["found","due"] ["found","due"] (aM sS):=⟨acg,acg,acg,by decide +kernel,acg,by decide +kernel,by decide +kernel⟩
theorem zU:aZ ["reel","boxes","kind"] ["reel","boxes"] (aM xM):=⟨acg,acg,acg,by decide +kernel,acg,by decide +kernel,by decide +kernel⟩
theorem uQ:aZ ["reel","boxes","kind","one"] ["reel","boxes"] (aM xK):=⟨acg,acg,acg,by decide +kernel,acg,by decide +kernel,by decide +kernel⟩
theorem ni:aZ ["reel","sizes","at","kind","ahead","box","cell","to"] ["reel","sizes","at"] (aM G_):=⟨acg,acg,acg,by decide +kernel,acg,by decide +kernel,by decide +kernel⟩
theorem fY:aZ ["reel","great","many","boxes","hands","k","size"] ["reel"] (aM qX):=⟨acg,acg,acg,by decide +kernel,acg,by decide +kernel,by decide +kernel⟩
theorem Em:aZ ["reel","many"] ["reel","many"] (aM qY):=⟨acg,acg,acg,by decide +kernel,acg,by decide +kernel,by decide +kernel⟩
theorem m_:aZ ["reel","works","hands","turns","web","touches","turn","waiting","k","told"] ["reel","works","hands","turns"] (aM G9):=⟨acg,acg,acg,by decide +kernel,acg,by decide +kernel,by decide +kernel⟩
theorem Om:aZ ["one","other"] ["one","other"] (aM BP):=⟨acg,acg,acg,by decide +kernel,acg,by decide +kernel,by decide +kernel⟩
theorem jF:aZ ["web","ahead","j","row","i","x"] ["web"] (aM xP):=⟨acg,acg,acg,by decide +kernel,acg,by decide +kernel,by decide +kernel⟩
theorem En:aZ ["ahead","i","j"] ["ahead","i","j"] (aM qZ):=⟨acg,acg,acg,by decide +kernel,acg,by decide +kernel,by decide +kernel⟩
theorem jE:aZ ["web","few","ahead","hands","found","j","i"] ["web","few"] (aM xO):=⟨acg,acg,acg,by decide +kernel,acg,by decide +kernel,by decide +kernel⟩
theorem sO:aZ ["one","many","hands"] ["one","many"] (aM oZ):=⟨acg,acg,acg,by decide +kernel,acg,by decide +kernel,by decide +kernel⟩
theorem jL:aZ ["reel","web","hands","few","turned","twice","some"] ["reel","web","hands"] (aM uU):=⟨acg,acg,acg,by decide +kernel,acg,by decide +kernel,by decide +kernel⟩
theorem gG:aZ ["script","reel","program","numbers","hands","works","web","touches","rows","begun","one","gone","step","free","k","told"] ["script"] (aM Oo):=⟨acg,acg,acg,by decide +kernel,acg,by decide +kernel,by decide +kernel⟩
structure d9(K:PySem.W.Frag)(C:Addr):Prop where
 cls:Cls K C
 pF:eU K C "rows"
 sY:eU K C "at"
 gW:eU K C "in_boxes"
 jH:eU K C "sayings"
 iZ:eU K C "state"
structure cH(K:PySem.W.Frag)(C:Addr):Prop where
 cls:Cls K C
 qj:eU K C "program"
 iT:eU K C "numbers"
 kY:eU K C "hands"
 qg:eU K C "turns"
structure eV(K:PySem.W.Frag)(C:Addr):Prop where
 cls:Cls K C
 mH:eU K C "record"
 Fi:eU K C "firsts"
 wj:eU K C "stage"
 fj:eU K C "progress"
section
variable{P:Program}{w:World}{K:PySem.W.Frag}{mg:Str->Option Value}{base:Heap}
theorem CZ{α β:Type}(p:α->Bool)(g:α->β):∀l:List α,(List.range l.length).filterMap (λi=>(l[i]?).bind λx=>if p x then some (g x) else none)=(l.filter p).map g
 | []=>rfl
 | x::l=>by
   have ih:=CZ p g l;rw[ab0,List.range_succ_eq_map,List.filterMap_cons,List.filterMap_map,abZ];cases q:p x
   .simp[q];exact ih
   .simp[q];exact ih
theorem tV(x y:Int):PyData.eqv (.int x) (.int y)=decide (x=y):=by
 simp only[PyData.eqv];rw[Bool.eq_iff_iff];simp
theorem cV{H:Hp}{a:Addr}{ns:List Int}(h:H a=some (.lst (ns.map V.int))):Dat H (.ref a) (.list (ns.map PyData.int)):=mO h (aQ.ints ns)
theorem shaped_ints(ns:List Int):SeqAt.shaped (.list (ns.map PyData.int))=true:=vp PyData.int 0 (by decide) (λ_ _=>rfl) (λ_ _=>by show 0<=0;decide)
noncomputable abbrev Nt:=Int×Int×Int×Int
noncomputable def nD(x:Nt):PyData:= .tuple [.int x.1,.int x.2.1,.int x.2.2.1,.int x.2.2.2]
noncomputable def nV(x:Nt):List V:=[.int x.1,.int x.2.1,.int x.2.2.1,.int x.2.2.2]
theorem pK(x:Nt):za (nD x)=true:=acg
theorem abH{H:Hp}{v:V}{d:PyData}(h:Dat H v d):aQ H [v] [d]:=by
 simp only[aQ,and_true];exact h
theorem Ra{H:Hp}{t:Addr}{x:Nt}(h:H t=some (.tup (nV x))):Dat H (.ref t) (nD x):=by
 simp only[nD,Dat];exact⟨t,_,acg,h,by simp only[nV,aQ,Dat,and_self]⟩
theorem Ik{H:Hp}{v:V}{x:Nt}(h:Dat H v (nD x)):∃t,v = .ref t/\H t=some (.tup (nV x)):=by
 simp only[nD,Dat] at h;obtain⟨t,vs,e,q,d⟩:=h
 match vs,d with
 | [a,b,c,z],d=>
   simp only[aQ,Dat,and_true] at d;obtain⟨rfl,rfl,rfl,rfl⟩:=d;exact⟨t,e,q⟩
 | [],d=>simp only[aQ] at d
 | [_],d=>simp only[aQ,and_false] at d
 | [_,_],d=>simp only[aQ,and_false] at d
 | [_,_,_],d=>simp only[aQ,and_false] at d
 | _::_::_::_::_::_,d=>simp only[aQ,and_false] at d
noncomputable def jz(H:Hp)(a:Addr)(ns:List Nt):Prop:=∃vs,H a=some (.lst vs)/\aQ H vs (ns.map nD)
theorem jz.same{H H':Hp}{a:Addr}{ns:List Nt}(h:jz H a ns)(k:Same H H'):jz H' a ns:=by
 obtain⟨vs,e,d⟩:=h;exact⟨vs,k _ _ e,aQ.keep k.tups _ (cj _ pK ns) d⟩
theorem Ck{H:Hp}{vs:List V}{ns:List Nt}{i:Nat}{v:V}(d:aQ H vs (ns.map nD))(e:vs[i]? = some v):∃x t,ns[i]? = some x/\v = .ref t/\H t=some (.tup (nV x)):=by
 obtain⟨q,eq,dq⟩:=d.get e;rw[aaf] at eq;cases ex:ns[i]? with
 | none=>rw[ex] at eq;cases eq
 | some x=>
   rw[ex] at eq;cases eq;obtain⟨t,rfl,ht⟩:=Ik dq;exact⟨x,t,acg,acg,ht⟩
noncomputable def gI(cs:List Int)(h:Int):Int:=(cs[h.toNat]?).getD 0
theorem ju{cs:List Int}{h:Int}(h0:0<=h)(h1:h<cs.length):zf (cs.map V.int) h=some (.int (gI cs h)):=by
 obtain⟨m,rfl⟩:=ab4 h0;have:m<cs.length:=by lia
 refine bV ?_;simp[gI,this]
theorem yC{cs:List Int}{i:Nat}{c:Int}(h:cs[i]? = some c):gI cs i=c:=by simp[gI,h]
theorem wz{n:Nat}{i:Int}(h0:0<=i)(h1:i<n):Lw n i=some i.toNat:=by unfold Lw;rw[acd h0,acd h1]
theorem Zf{cs:List Int}{h k v:Int}(h0:0<=h)(h1:h<cs.length)(k0:0<=k):gI (cs.set h.toNat v) k=if k=h then v else gI cs k:=by
 unfold gI;rw[List.getElem?_set]
 by_cases e:k=h
 .subst e
  have:k.toNat<cs.length:=by lia
  simp[this]
 .have:¬h.toNat=k.toNat:=by lia
  simp[e,this]
noncomputable def ZR(cs:List Int)(x:Nt):Prop:=(0<=x.1/\x.1<cs.length)/\(0<=x.2.1/\x.2.1<gI cs x.1)/\(0<=x.2.2.1/\x.2.2.1<cs.length)/\(0<=x.2.2.2/\x.2.2.2<gI cs x.2.2.1)/\x.1≠x.2.2.1
noncomputable def V3(cs:List Int):Prop:=cs.length<=8 /\ ∀c∈cs,0<=c/\c<=300
theorem V3.gI{cs:List Int}(h:V3 cs)(i:Int):0<=gI cs i/\gI cs i<=300:=by
 unfold Prf.gI;cases e:cs[i.toNat]? with
 | none=>simp
 | some c=>exact h.2 c (aap e)
theorem Zi(x y:Nt):PyData.eqv (nD x) (nD y)=decide (x=y):=by
 obtain⟨a,b,c,d⟩:=x;obtain⟨a',b',c',d'⟩:=y;simp only[nD,PyData.eqv,PyData.eqvAll,Bool.and_true]
 by_cases e1:a=a'
 .subst e1
  by_cases e2:b=b'
  .subst e2
   by_cases e3:c=c'
   .subst e3
    by_cases e4:d=d'
    .subst e4;simp
    .simp[e4]
   .simp[e3]
  .simp[e2]
 .simp[e1]
theorem wZ(ns:List Nt):SeqAt.shaped (.list (ns.map nD))=true:=
 vp nD 1 (by decide) (λ_ _=>rfl) (λ_ _=>by show (max 0 (max 0 (max 0 (max 0 0))))+1<=1;decide)
noncomputable def RecAt(H:Hp)(t c a:Addr)(cs:List Int)(ns:List Nt):Prop:=H t=some (.tup [.ref c,.ref a])/\H c=some (.lst (cs.map V.int))/\jz H a ns
theorem RecAt.same{H H':Hp}{t c a:Addr}{cs:List Int}{ns:List Nt}(h:RecAt H t c a cs ns)(k:Same H H'):RecAt H' t c a cs ns:=⟨k _ _ h.1,k _ _ h.2.1,h.2.2.same k⟩
noncomputable def Av(cs:List Int)(ns:List Nt):Prop:=V3 cs/\ns.length<=100000 /\ ∀x∈ns,ZR cs x
noncomputable def M127:Int:=170141183460469231731687303715884105727
theorem VG:Builtin.Int.intBits M127<=127:=PySem.intBits_le_iff.mpr (by decide)
theorem Kl{t:Int}(h0:0<=t)(h1:t<M127):Builtin.Int.intBits t<=127:=PySem.intBits_le_of_natAbs (y:=M127) (by unfold M127 at h1 ⊢;lia) VG
theorem Qn{t:Int}(h0:0<=t)(h1:t<M127):IntMulOk t t:=IntMulOk.of_le (Kl h0 h1) (Kl h0 h1) (by lia)
noncomputable def d8(H:Hp)(r:Addr):Prop:=∃(g c:Addr) (gs cs:List Int) (p t:Int),H r=some (.lst [.ref g,.ref c,.int p,.int t])/\H g=some (.lst (gs.map V.int))/\H c=some (.lst (cs.map V.int))/\0<cs.length/\cs.length<=100/\gs.length<=100/\(∀x∈gs,0<=x)/\0<=p/\0<=t/\t<M127/\g≠r/\c≠r
theorem d8.keep{H H':Hp}{r:Addr}(h:d8 H r)(k:Same H H'):d8 H' r:=by
 obtain⟨g,c,gs,cs,p,t,e1,e2,e3,q⟩:=h;exact⟨g,c,gs,cs,p,t,k _ _ e1,k _ _ e2,k _ _ e3,q⟩
theorem d8.ne{H:Hp}{r p:Addr}(h:d8 H r)(hp:H p=none):p≠r:=by
 obtain⟨g,c,gs,cs,_,t,e1,_⟩:=h;exact(aB e1 hp).symm
theorem d8.at{H:Hp}{r:Addr}(h:d8 H r):∃o,H r=some o:=by
 obtain⟨g,c,gs,cs,p,t,e1,_⟩:=h;exact⟨_,e1⟩
theorem d8.tups{H H':Hp}{r:Addr}(h:d8 H r)(k:Kp r H H'):∀a xs,H a=some (HO.tup xs)->H' a=some (HO.tup xs):=by
 obtain⟨g,c,gs,cs,p,t,e1,_⟩:=h;exact k.tups e1
noncomputable def Off(H:Hp)(r x:Addr):Prop:=∀(g c:Addr)(u v:V),H r=some (.lst [.ref g,.ref c,u,v])->x≠g/\x≠c
noncomputable def KR(r:Addr)(H H':Hp):Prop:=Kp r H H' /\ ∀x o,H x=some o->x≠r->Off H r x->Off H' r x
theorem KR.trans{r:Addr}{H H1 H2:Hp}(a:KR r H H1)(b:KR r H1 H2):KR r H H2:=⟨a.1.trans b.1,λx o e n f=>b.2 x o (a.1 _ _ e n) n (a.2 x o e n f)⟩
theorem KR.tups{r:Addr}{H H':Hp}(k:KR r H H')(R:d8 H r):∀a xs,H a=some (HO.tup xs)->H' a=some (HO.tup xs):=R.tups k.1
theorem KR.same{r:Addr}{H H':Hp}(R:d8 H r)(k:Same H H'):KR r H H':=⟨.of_same k,λx o e n f g c u v e2=>by
 obtain⟨g',c',gs,cs,p,t,e1,_⟩:=R;rw[k _ _ e1] at e2;cases e2;exact f _ _ _ _ e1⟩
theorem d8.off{H:Hp}{r x:Addr}(R:d8 H r)(hx:H x=none):Off H r x:=λg c u v e=>by
 obtain⟨g',c',gs,cs,p,t,e1,e2,e3,_⟩:=R;rw[e1] at e;cases e;exact⟨λz=>(by rw[z,e2] at hx;cases hx),λz=>(by rw[z,e3] at hx;cases hx)⟩
theorem Off.same{H H':Hp}{r x:Addr}(R:d8 H r)(k:Same H H')(f:Off H r x):Off H' r x:=λg c u v e2=>by
 obtain⟨g',c',gs,cs,p,t,e1,_⟩:=R;rw[k _ _ e1] at e2;cases e2;exact f _ _ _ _ e1
theorem d8.set{H:Hp}{r x:Addr}{o:HO}(R:d8 H r)(n:x≠r)(f:Off H r x):d8 (upd H x o) r:=by
 obtain⟨g,c,gs,cs,p,t,e1,e2,e3,q⟩:=R;obtain⟨n1,n2⟩:=f _ _ _ _ e1;exact⟨g,c,gs,cs,p,t,by rw[aF n.symm];exact e1,by rw[aF n1.symm];exact e2,by rw[aF n2.symm];exact e3,q⟩
theorem Off.set{H:Hp}{r x y:Addr}{o:HO}(n:x≠r)(f:Off H r y):Off (upd H x o) r y:=λg c u v e=>f g c u v (by rw[aF n.symm] at e;exact e)
theorem Kp.new{H H':Hp}{r p:Addr}(k:Kp r H H')(hp:H' p=none)(hr:∃o,H' r=some o):H p=none:=by
 cases e:H p with
 | none=>rfl
 | some o=>
   by_cases n:p=r
   .subst n
    obtain⟨o',ho⟩:=hr;rw[hp] at ho;cases ho
   .rw[k _ _ e n] at hp
    cases hp
theorem Df{ns:List Int}(h:ns.length<=63):j5 (ns.map V.int) none (some 63)=ns.map V.int:=by
 unfold j5;rw[HT.xQ,show (some (63:Int))=some ((63:Nat):Int) from rfl,HT.BW,aac,List.drop_zero,Nat.min_eq_right h,Nat.sub_zero,List.take_of_length_le (by simp)]
noncomputable def Jw(K:PySem.W.Frag):Sp:=λvs H Q _=>∃(a:Addr) (ns:List Int),vs=[.ref a]/\bI K H a (ns.map V.int)/\ns.length<=63 /\ ∀(r:Addr)(H':Hp),H r=none->d8 H' r->Same H H'->Q (.ref r) H'
theorem P_{f:Addr}{fd:FuncData}(F:fQ K "_law_reel" "_law_reel" BL f fd)(Bt:mV mg):bR P w K mg base ig 1 f fd ["script"] (Jw K):=by
 refine F.ok oW (λvs H Q E h=>?_) (λcdv A outer s H vs Q E hr h=>?_)
 .obtain⟨a,ns,rfl,_⟩:=h
  rfl
 .obtain⟨a,ns,rfl,hs,hlen,k⟩:=h
  refine⟨_,(aA (bH (i:=1) oW.nd rfl (Or.inl rfl) (bY pB aC aC))
   (aA (jr PassesOwn.never rfl (dH (K:=K) rfl (jd (mj (K:=K) rfl) (pv 0) kJ (kI aC))) (bL (i:=2) oW.nd rfl (Or.inl rfl))
   (aJ (bH (i:=1) oW.nd rfl (Or.inl rfl) (bY nM (bY iy (bY iy (bY JR (pv 1) (pv 1)) (bY nM (pv 2) aC)) aC) (bY rm (bY Ci (bY pB aC aC) (bY pB aC aC)) aC)))))
   (aA (kE (i:=3) rfl oW.nd rfl (Or.inl rfl) (N:=["cell"]) (own:=["cell"]) (caps:=[]) (bB.of (by kernel_rfl)) (dH (K:=K) rfl (jd (mj (K:=K) rfl) (pv 0) kJ (kI aC))) (λ_ _ _ _=>(bL (i:=0) (show List.Nodup (["cell"]:List Str) by decide +kernel) rfl (Or.inl rfl))) (λ_ _ _ _=>(v9 (bF Wr (pv 0) (bY pB aC aC) (bw _)))) (λ_ _ _ _=>(bY rm (pv 0) (bY pB aC aC))))
   (aJ (bA (cY (aj (pv 3) (aj (bY PB (dI rfl (N:=["cell"]) (own:=["cell"]) (caps:=[]) (bB.of (by kernel_rfl)) (dH (K:=K) rfl (jd (mj (K:=K) rfl) (pv 0) kJ (kI aC))) (λ_ _ _ _=>(bL (i:=0) (show List.Nodup (["cell"]:List Str) by decide +kernel) rfl (Or.inl rfl))) (λ_ _ _ _=>cO) (λ_ _ _ _=>(bY nM (pv 0) aC))) (cY (aj aC au))) (aj aC (aj (pv 1) au)))))))))), ?_⟩
  refine⟨_,_,acg,acg,(by show GD 3 60;exact⟨by decide,by decide,by decide⟩), ?_⟩;refine⟨_,acg,_,acg,_,_,acg,hs,λp hp=>?_⟩;rw[Df hlen];have s1:=aG (o:=HO.lst (ns.map V.int)) hp;have cp1:GD 2 64:=⟨by decide,by decide,by decide⟩;have cp2:GD 2 63:=⟨by decide,by decide,by decide⟩;have cp3:GD 10 18:=⟨by decide,by decide,by decide⟩
  refine⟨p,acg,⟨_,bI.of ak⟩,yG (K:=K) (a:=p) (xs:=ns.map V.int) (λi σ H2=>∃(t:Int) (v:Option V),σ=[some (.ref a),some (.int t),v,none]/\H2=upd H p (.lst (ns.map V.int))/\0<=t/\t<M127)
   ⟨_,none,acg,acg,by decide,by decide⟩ (λi σ H2 _ ⟨_,_,_,e,_⟩=>by rw[e];exact bI.of ak) ?_ ?_⟩
  .rintro i y σ H2 hi ⟨t,v,rfl,rfl,t0,t1⟩
   obtain⟨z,rfl⟩:∃z,y=V.int z:=by
    rw[aaf] at hi;cases e:ns[i]? with
    | none=>rw[e] at hi;cases hi
    | some z=>rw[e] at hi;exact⟨z,(aaC hi).symm⟩
   refine⟨_,acg,_,acg,_,_,acg,acg,Qn t0 t1,_,acg,_,_,acg,acg,(by show (0:Int)<1000000000000000003;decide),_,_,acg,acg,_,_,acg,acg, ?_⟩;refine⟨_,_,acg,acg,cp1,_,_,acg,acg,cp2,_,_,acg,acg,.inr ⟨by decide,by decide⟩,_,_,acg,acg,_,_,acg,acg,(by show (0:Int)<2 ^ Int.toNat 64*2 ^ Int.toNat 63 - 1;decide), ?_⟩;refine⟨_,_,acg,acg, ?_, ?_⟩
   .exact Int.emod_nonneg _ (by decide)
   .exact Int.emod_lt_of_pos _ (by decide)
  .rintro σ H2 ⟨t,v,rfl,rfl,t0,t1⟩
   have hs1:=s1.seq hs;refine⟨_,acg,_,acg,_,_,acg,hs1,λp2 hp2=>?_⟩;rw[Df hlen];have s2:=aG (o:=HO.lst (ns.map V.int)) hp2;refine⟨p2,acg,⟨_,bI.of ak⟩,λD hD=>?_⟩;refine pN (K:=K) (λi=>(ns[i]?).bind λz=>if decide (z≥10 ^ (18:Int).toNat) then some (V.int (z - 10 ^ (18:Int).toNat)) else none) hD (bI.of ak) (by rw[aac];lia) (λi v H3 G F hi s3 kG kF=>?_) (λH3 s3 e3=>?_)
   .rw[aaf] at hi
    cases e:ns[i]? with
    | none=>rw[e] at hi;cases hi
    | some z=>
      rw[e] at hi;cases hi;simp only[e,Option.bind_some] at kG kF;refine⟨_,acg,_,_,acg,acg,cp3,_,_,acg,acg,_,acg, ?_⟩;refine cP (λw=>?_) (λw=>?_)
      .exact⟨_,acg,_,_,acg,acg,cp3,_,_,acg,acg,kF _ H3 (Same.refl _) (by rw[acd w])⟩
      .exact kG H3 (Same.refl _) (by rw[ab' w])
   rw[aac,CZ (λz:Int=>decide (z≥10 ^ (18:Int).toNat)) (λz=>V.int (z - 10 ^ (18:Int).toNat))] at e3;have e3':H3 D=some (.lst (((ns.filter λz=>decide (z≥10 ^ (18:Int).toNat)).map λz=>z - 10 ^ (18:Int).toNat).map V.int)):=by rw[e3,abE];rfl
   have Wf:=(s1.trans s2).trans s3;refine⟨_,acg,_,acg,_,acg,_,_,acg,Wf.seq hs,λp3 hp3=>?_⟩;rw[Df hlen];have s4:=aG (o:=HO.lst (ns.map V.int)) hp3;refine⟨p3,acg,⟨_,bI.of ak⟩,λD2 hD2=>?_⟩;refine pN (K:=K) (λi=>(ns[i]?).map λz=>V.int (z % 1000003)) hD2 (bI.of ak) (by rw[aac];lia) (λi v H5 G F hi s5 kG kF=>?_) (λH5 s5 e5=>?_)
   .rw[aaf] at hi
    cases e:ns[i]? with
    | none=>rw[e] at hi;cases hi
    | some z=>
      rw[e] at hi;cases hi;exact⟨_,acg,_,_,acg,acg,(by show (0:Int)<1000003;decide),kF _ H5 (Same.refl _) (by rw[e];rfl)⟩
   rw[aac,J9] at e5;refine⟨(by show 1<=sizeLine;decide),λp4 hp4=>?_⟩;have s6:=aG (o:=HO.lst [V.int 41]) hp4;refine⟨D2,p4,_,_,acg,acg,s6 _ _ e5,ak,by rw[sizeLine_eq,aac];simp only[List.length_singleton];lia,λc hc=>?_⟩;have s7:=aG (o:=HO.lst (ns.map (λz=>V.int (z % 1000003))++[V.int 41])) hc;have s47:=(s4.trans s5).trans (s6.trans s7);refine⟨_,acg,(by show 4<=sizeLine;decide),λr hr'=>?_⟩;have s8:=aG (o:=HO.lst [V.ref D,V.ref c,V.int 0,V.int t]) hr';have eD:=s47 _ _ e3';have Z_:D≠r:=aB eD hr';have YH:c≠r:=aB ak hr';have fl:(ns.filter λz=>decide (z≥10 ^ (18:Int).toNat)).length<=ns.length:=List.length_filter_le _ _;refine k r _ ((Wf.trans s47).free hr') ⟨D,c,_,ns.map (· % 1000003)++[41],0,t,ak,s8 _ _ eD, ?_,by simp,by simp;lia,by rw[aac];lia,λx hx=>?_,by decide,t0,t1,Z_,YH⟩ ((Wf.trans s47).trans s8)
   .refine s8 _ _ ?_
    rw[ak,aa3,abE];rfl
   .obtain⟨z,hz,rfl⟩:=abn.mp hx
    have:=aaw (abS.mp hz).2;lia
noncomputable def jB(K:PySem.W.Frag):Sp:=λvs H Q _=>∃(r:Addr) (m:Int),vs=[.ref r,.int m]/\d8 H r/\0<m/\m<1329227995784915872903807060280344576 /\ ∀(z:Int)(H':Hp),0<=z->z<m->d8 H' r->KR r H H'->Q (.int z) H'
theorem Qf{f:Addr}{fd:FuncData}(F:fQ K "_law_draw" "_law_draw" BR f fd)(Bt:mV mg):bR P w K mg base ig 1 f fd ["reel","many"] (jB K):=by
 refine F.ok sJ (λvs H Q E h=>?_) (λcdv A outer s H vs Q E hr h=>?_)
 .obtain⟨r,m,rfl,_⟩:=h
  rfl
 .obtain⟨r,m,rfl,⟨g,c,gs,cs,p,t,hR,hG,hC,c0,c1,g1,Zc,p0,t0,t1,ngr,YH⟩,m0,m1,k⟩:=h
  have qG:=hr.units
  refine⟨_,(aA (cB (bF (Cg (K:=K) rfl qG) (aO (aP (K:=K) rfl) (pv 0) aC (λ_ _=>rfl)) (cY au) (bw _)) (aA (bH (i:=2) sJ.nd rfl (Or.inl rfl) (aO (aP (K:=K) rfl) (aO (aP (K:=K) rfl) (pv 0) aC (λ_ _=>rfl)) aC (λ_ _=>rfl)))
   (aA (nJ (bY PB (bY Ht (cY (aj (bY Ez (pv 2) (pv 1)) au)) (cZ vd (by rfl) Bt.Gn yM (aj (cI Wr (pv 2) (pv 1) (bw _)) au))) (jd (mj (K:=K) rfl) (aO (aP (K:=K) rfl) (pv 0) aC (λ_ _=>rfl)) (kI aC) kJ)) (pq (pv 0) aC set_list))
   (aJ (bA (bY nM (pv 2) (pv 1)))))) bJ)
   (aA (nJ (bY iy (aO (aP (K:=K) rfl) (pv 0) aC (λ_ _=>rfl)) aC) (pq (pv 0) aC set_list))
   (aA (bH (i:=3) sJ.nd rfl (Or.inl rfl) (aO (aP (K:=K) rfl) (aO (aP (K:=K) rfl) (pv 0) aC (λ_ _=>rfl)) (bY nM (aO (aP (K:=K) rfl) (pv 0) aC (λ_ _=>rfl)) (aW (aY (K:=K) rfl) (by rfl) Bt.dW cM (aj (aO (aP (K:=K) rfl) (pv 0) aC (λ_ _=>rfl)) au))) (λ_ _=>rfl)))
   (aA (bH (i:=4) sJ.nd rfl (Or.inl rfl) (bY iy (bY iy (bY JR (aO (aP (K:=K) rfl) (pv 0) aC (λ_ _=>rfl)) (aO (aP (K:=K) rfl) (pv 0) aC (λ_ _=>rfl))) (bY Ci (bY iy (pv 3) aC) aC)) (bY Ci (aO (aP (K:=K) rfl) (pv 0) aC (λ_ _=>rfl)) aC)))
   (aA (nJ (bY nM (pv 4) (bY rm (bY Ci (bY pB aC aC) (bY pB aC aC)) aC)) (pq (pv 0) aC set_list))
   (aJ (bA (bY nM (bY Ez (aO (aP (K:=K) rfl) (pv 0) aC (λ_ _=>rfl)) (bY pB aC aC)) (pv 1))))))))), ?_⟩
  refine⟨_,acg,_,_,_,_,acg,acg,bI.of hR,acg,(by show 0<=sizeLine;decide),λq hq=>?_⟩;have s1:=aG (o:=HO.lst []) hq;have hR1:=s1 _ _ hR;have hG1:=s1 _ _ hG;have hC1:=s1 _ _ hC;refine⟨_,_,cV hG1,cV (ns:=[]) ak,shaped_ints _,shaped_ints _,_,acg, ?_⟩;rw[acd rfl,mL PyData.int tV];refine cP (λw=>?_) (λ_=>?_)
  .have w:gs≠[]:=by simpa using w
   obtain⟨x,xs,rfl⟩:∃x xs,gs=x::xs:=by
    cases gs with
    | nil=>exact ace rfl w
    | cons x xs=>exact⟨x,xs,acg⟩
   have x0:=Zc x (by simp);refine⟨_,acg,_,_,_,_,acg,acg,bI.of hR1,acg,_,_,_,_,acg,acg,bI.of hG1,(by show zf (V.int x::xs.map V.int) 0=some (V.int x);simp[zf,Lw]), ?_⟩;refine⟨_,acg,_,acg,_,_,acg,acg,⟨m0,m1⟩,(by show 1<=sizeLine;decide),λq2 hq2=>?_⟩;have s2:=aG (o:=HO.lst [V.int (x / m)]) hq2;refine⟨_,acg,_,acg,_,_,acg,acg,Or.inr ⟨_,acg,q2,_,_,acg,acg,ak, ?_, ?_, ?_,λq3 hq3=>?_⟩⟩
   .split<;>decide
   .split<;>decide
   .rw[sizeLine_eq];split<;>simp
   have s3:=aG (o:=HO.lst (List.replicate (if decide (x≥m)=true then (1:Int) else 0).toNat [V.int (x / m)]).flatten) hq3;have Wd:=s2.trans s3;refine⟨_,acg,_,_,_,_,acg,acg,bI.of (Wd _ _ hR1),acg,_,acg,g,_,acg,bI.of (Wd _ _ hG1),λq4 hq4=>?_⟩;rw[show j5 ((x::xs).map V.int) (some 1) none=xs.map V.int from Ge _ 1];have s4:=aG (o:=HO.lst (xs.map V.int)) hq4;have fl:(List.replicate (if decide (x≥m)=true then (1:Int) else 0).toNat [V.int (x / m)]).flatten.length<=1:=by split<;>simp
   have xl:xs.length<=100:=by have:(x::xs).length<=100:=g1;simp at this;lia
   refine⟨q3,q4,_,_,acg,acg,s4 _ _ ak,ak,by rw[sizeLine_eq,aac];exact ab9 (Nat.add_le_add fl xl) (by decide),λq5 hq5=>?_⟩;have s5:=aG (o:=HO.lst ((List.replicate (if decide (x≥m)=true then (1:Int) else 0).toNat [V.int (x / m)]).flatten++xs.map V.int)) hq5;have s25:=(Wd.trans s4).trans s5;have hR5:=s25 _ _ hR1;refine⟨_,acg,_,_,_,_,acg,acg,hR5,acg, ?_⟩;have kr:Kp r (upd (upd (upd (upd (upd H q (HO.lst [])) q2 (HO.lst [V.int (x / m)])) q3 (HO.lst (List.replicate (if decide (x≥m)=true then (1:Int) else 0).toNat [V.int (x / m)]).flatten)) q4 (HO.lst (xs.map V.int))) q5 (HO.lst ((List.replicate (if decide (x≥m)=true then (1:Int) else 0).toNat [V.int (x / m)]).flatten++xs.map V.int))) _:=Kp.set (o:= .lst [.ref q5,.ref c,.int p,.int t]);have nq5:q5≠r:=(aB ((Wd.trans s4) _ _ hR1) hq5).symm
   have eq5:(List.replicate (if decide (x≥m)=true then (1:Int) else 0).toNat [V.int (x / m)]).flatten++xs.map V.int=((if decide (x≥m)=true then [x / m] else [])++xs).map V.int:=by
    split<;>simp
   refine⟨_,acg,_,acg,_,_,acg,acg,m0, ?_⟩
   refine k _ _ (Int.emod_nonneg _ (by lia)) (Int.emod_lt_of_pos _ m0) ⟨q5,c,(if decide (x≥m)=true then [x / m] else [])++xs,cs,p,t,ak, ?_,kr _ _ (s25 _ _ hC1) YH,c0,c1, ?_,λy hy=>?_,p0,t0,t1,nq5,YH⟩ ⟨(Kp.of_same (s1.trans s25)).trans kr,λy o ey ny f g' c' u v e=>by
    rw[ak] at e;cases e;exact⟨aB ((s1.trans (Wd.trans s4)) _ _ ey) hq5,(f _ _ _ _ hR).2⟩⟩
   .refine kr _ _ ?_ nq5
    rw[ak,eq5]
   .rw[aaD]
    have:(if decide (x≥m)=true then [x / m] else []).length<=1:=by split<;>simp
    have:(x::xs).length<=100:=g1;simp only[ab0] at this;lia
   .rcases abb.mp hy with hy|hy
    .split at hy
     .have:y=x / m:=by simpa using hy
      rw[this];exact Int.ediv_nonneg x0 (by lia)
     .cases hy
    .exact Zc y (by simp[hy])
  .have cp1:GD 2 64:=⟨by decide,by decide,by decide⟩
   have cp2:GD 2 63:=⟨by decide,by decide,by decide⟩;have cp4:GD 2 40:=⟨by decide,by decide,by decide⟩;refine⟨_,acg,_,_,_,_,acg,acg,bI.of hR1,acg,_,_,acg,acg,_,acg,_,_,_,_,acg,acg,hR1,acg, ?_⟩;have kr:Kp r (upd H q (HO.lst [])) (upd (upd H q (HO.lst [])) r (.lst [.ref g,.ref c,.int (p+1),.int t])):=Kp.set;have Vl:(upd (upd H q (HO.lst [])) r (.lst [.ref g,.ref c,.int (p+1),.int t])) r=some (.lst [.ref g,.ref c,.int (p+1),.int t]):=ak;have hC2:=kr _ _ hC1 YH;have i0:0<=(p+1) % (cs.length:Int):=Int.emod_nonneg _ (by lia);have i1:(p+1) % (cs.length:Int)<cs.length:=Int.emod_lt_of_pos _ (by lia);refine⟨_,acg,_,_,_,_,acg,acg,bI.of Vl,acg,_,acg,_,_,_,_,acg,acg,bI.of Vl,acg,_,acg,_,_,_,_,acg,acg,bI.of Vl,acg,c,_,acg,.inl (bI.of hC2),_,_,acg,acg,by rw[aac];lia,_,_,_,_,acg,acg,bI.of hC2,by rw[aac];exact ju i0 i1, ?_⟩;generalize gI cs ((p+1) % (cs.length:Int))=told;refine⟨_,acg,_,_,_,_,acg,acg,bI.of Vl,acg,_,acg,_,_,_,_,acg,acg,bI.of Vl,acg,_,_,acg,acg,Qn t0 t1,_,acg,_,_,acg,acg,_,_,acg,acg,.inr ⟨by decide,by decide⟩,_,_,acg,acg,_,acg,_,_,_,_,acg,acg,bI.of Vl,acg,_,_,acg,acg,.inr ⟨by decide,by decide⟩,_,_,acg,acg, ?_⟩;refine⟨_,acg,_,_,acg,acg,cp1,_,_,acg,acg,cp2,_,_,acg,acg,.inr ⟨by decide,by decide⟩,_,_,acg,acg,_,_,acg,acg,(by show (0:Int)<2 ^ Int.toNat 64*2 ^ Int.toNat 63 - 1;decide),_,acg,_,_,_,_,acg,acg,Vl,acg, ?_⟩;refine⟨_,acg,_,_,_,_,acg,acg,bI.of ak,acg,_,_,acg,acg,cp4,_,_,acg,acg,⟨by decide,by decide⟩,_,acg,_,_,acg,acg,m0, ?_⟩
   refine k _ _ (Int.emod_nonneg _ (by lia)) (Int.emod_lt_of_pos _ m0) ⟨g,c,gs,cs,p+1,_,ak, ?_, ?_,c0,c1,g1,Zc,by lia,Int.emod_nonneg _ (by decide),Int.emod_lt_of_pos _ (by decide),ngr,YH⟩ ⟨((Kp.of_same s1).trans kr).trans Kp.set,λy o ey ny f g' c' u v e=>by
    rw[ak] at e;cases e;exact f _ _ _ _ hR⟩
   .rw[aF ngr];exact kr _ _ hG1 ngr
   .rw[aF YH];exact hC2
noncomputable def ur(i:Int)(n:Nat):Prop:=0<=i/\i<(n:Int)
instance (i:Int) (n:Nat):Decidable (ur i n):=inferInstanceAs (Decidable (_/\_))
noncomputable def Xx(K:PySem.W.Frag):Sp:=λvs H Q _=>∃i:Int,vs=[.int i]/\Q (.bl true) H
theorem EY{f:Addr}{fd:FuncData}(F:fQ K "is_whole" "is_whole" qU f fd)(Bt:mV mg):bR P w K mg base ig 1 f fd ["value"] (Xx K):=by
 refine F.ok Ek (λvs H Q E h=>?_) (λcdv A outer s H vs Q E hr h=>?_)
 .obtain⟨i,rfl,_⟩:=h
  rfl
 .obtain⟨i,rfl,k⟩:=h
  refine⟨_,(aJ (bA (jt (aW (cL (K:=K) (cv:= .ty "int") (c:= .type "int") rfl rfl) (by rfl) Bt.bQ bM (aj (pv 0) (aj (eH (v:= .ty "int") (by rfl) Bt.Gn yM rfl) au))) (iR (Pn (aW (cL (K:=K) (cv:= .ty "bool") (c:= .type "bool") rfl rfl) (by rfl) Bt.bQ bM (aj (pv 0) (aj (eH (v:= .ty "bool") (by rfl) Bt.yR uh rfl) au)))))))), ?_⟩;refine⟨_,acg,_,_,true,acg,.int i,vC K,true,acg, ?_⟩;refine eO ?_;exact⟨_,acg,_,_,false,acg,.int i,nR K,false,acg,k⟩
noncomputable def rY(K:PySem.W.Frag):Sp:=λvs H Q _=>∃(i:Int) (n:Nat),vs=[.int i,.int n]/\Q (.bl (decide (ur i n))) H
theorem E_{f:Addr}{fd:FuncData}(F:fQ K "is_below" "is_below" qW f fd)(rM:FnAt P w K mg base 1 "is_whole" ["value"] (Xx K)):bR P w K mg base ig 2 f fd ["value","count"] (rY K):=by
 refine F.ok El (λvs H Q E h=>?_) (λcdv A outer s H vs Q E hr h=>?_)
 .obtain⟨i,n,rfl,_⟩:=h
  rfl
 .obtain⟨i,n,rfl,k⟩:=h
  refine⟨_,(aJ (bA (jt (bN rM (hr.mono (by decide)) (by rfl) (aj (pv 0) au)) (iR (Py aaZ qM aC (pv 0) (pv 1)))))), ?_⟩;refine⟨_,acg,i,acg,true,acg, ?_⟩;refine eO ?_;refine⟨_,acg,_,_,acg,acg,_,acg, ?_⟩;refine cP (λh0=>?_) (λh0=>?_)
  .refine⟨_,acg,_,_,acg,acg, ?_⟩
   have e:decide (ur i n)=decide (i<(n:Int)):=by
    have h0:=aaw h0;rw[Bool.eq_iff_iff,decide_eq_true_iff,decide_eq_true_iff];exact⟨λz=>z.2,λz=>⟨h0,z⟩⟩
   show Q (.bl (decide (i<(n:Int)))) H;rw[←e];exact k
  .have e:decide (ur i n)=false:=aar λz=>h0 (aaq z.1)
   rw[←e];exact k
noncomputable def hF(r:Addr)(n:Int)(b sy:Addr)(st:Str):List (Str×V):=[("rows",.ref r),("at",.int n),("in_boxes",.ref b),("sayings",.ref sy),("state",.str st)]
structure oJ where
 (h hx r b sy:Addr)
structure n_(CH:Addr)(H:Hp)(A:oJ)(s:bG):Prop where
 h:H A.h=some (.ins CH A.hx (hF A.r s.pos A.b A.sy s.st))
 b:H A.b=some (.lst (s.bs.map V.int))
 y:H A.sy=some (.lst (s.sy.map V.int))
 Lk:A.b≠A.sy
 bl:s.bs.length=8
noncomputable def KH(A:oJ)(H H':Hp):Prop:=∀x o,H x=some o->x≠A.h->x≠A.b->x≠A.sy->H' x=some o
theorem KH.of_same{A:oJ}{H H':Hp}(k:Same H H'):KH A H H':=λx o e _ _ _=>k _ _ e
theorem KH.trans{A:oJ}{H H1 H2:Hp}(a:KH A H H1)(b:KH A H1 H2):KH A H H2:=λx o e n1 n2 n3=>b x o (a x o e n1 n2 n3) n1 n2 n3
theorem KH.qT{A:oJ}{H:Hp}{o:HO}:KH A H (upd H A.h o):=λx u e n _ _=>by rw[aF n];exact e
theorem KH.Oj{A:oJ}{H:Hp}{o:HO}:KH A H (upd H A.b o):=λx u e _ n _=>by rw[aF n];exact e
theorem KH.XC{A:oJ}{H:Hp}{o:HO}:KH A H (upd H A.sy o):=λx u e _ _ n=>by rw[aF n];exact e
theorem n_.U4{CH:Addr}{H:Hp}{A:oJ}{s:bG}(c:n_ CH H A s):A.h≠A.b:=dg c.h c.b (by intro z;cases z)
theorem n_.Wv{CH:Addr}{H:Hp}{A:oJ}{s:bG}(c:n_ CH H A s):A.h≠A.sy:=dg c.h c.y (by intro z;cases z)
theorem n_.same{CH:Addr}{H H':Hp}{A:oJ}{s:bG}(c:n_ CH H A s)(k:Same H H'):n_ CH H' A s:=⟨k _ _ c.h,k _ _ c.b,k _ _ c.y,c.Lk,c.bl⟩
theorem n_.tup{CH:Addr}{H H':Hp}{A:oJ}{s:bG}(c:n_ CH H A s)(k:KH A H H'):∀x xs,H x=some (.tup xs)->H' x=some (.tup xs):=λx xs e=>k _ _ e (dg e c.h (by intro z;cases z)) (dg e c.b (by intro z;cases z)) (dg e c.y (by intro z;cases z))
theorem n_.qT{CH:Addr}{H:Hp}{A:oJ}{s:bG}(c:n_ CH H A s)(n:Nat)(st:Str):n_ CH (upd H A.h (.ins CH A.hx (hF A.r n A.b A.sy st))) A {s with pos:=n,st:=st}:=
 ⟨ak,by rw[aF c.U4.symm];exact c.b,by rw[aF c.Wv.symm];exact c.y,c.Lk,c.bl⟩
theorem n_.Oj{CH:Addr}{H:Hp}{A:oJ}{s:bG}(c:n_ CH H A s)(bs:List Int)(l:bs.length=8):n_ CH (upd H A.b (.lst (bs.map V.int))) A {s with bs:=bs}:=
 ⟨by rw[aF c.U4];exact c.h,ak,by rw[aF c.Lk.symm];exact c.y,c.Lk,l⟩
theorem n_.XC{CH:Addr}{H:Hp}{A:oJ}{s:bG}(c:n_ CH H A s)(ys:List Int):n_ CH (upd H A.sy (.lst (ys.map V.int))) A {s with sy:=ys}:=
 ⟨by rw[aF c.Wv];exact c.h,by rw[aF c.Lk];exact c.b,ak,c.Lk,c.bl⟩
theorem xV(r b sy:Addr)(n m:Int)(st:Str):cG "at" (.int m) (hF r n b sy st)=hF r m b sy st:=by rfl
theorem Ca(r b sy:Addr)(n:Int)(st st':Str):cG "state" (.str st') (hF r n b sy st)=hF r n b sy st':=by rfl
theorem CV(n:Nat):(List.range n).filterMap (λ_=>some (V.int 0))=(List.replicate n 0).map V.int:=by
 induction n with
 | zero=>rfl
 | succ n ih=>rw[dJ,ih,List.replicate_succ',aa3];rfl
theorem wu{H H':Hp}{o p:Addr}(h:Kp o H H')(ne:p≠o)(n:H' p=none):H p=none:=by
 cases e:H p with
 | none=>rfl
 | some u=>rw[h _ _ e ne] at n;cases n
theorem abM:∀b:Fin 8,Builtin.Str.occurrences (Str.ofString "abcdefgh") (t_ b.val) 0 (Str.ofString "abcdefgh").length 1=[b.val]:=by decide +kernel
theorem Rp{b:Nat}(h:b<8):Builtin.Str.occurrences (Str.ofString "abcdefgh") (t_ b) 0 (Str.ofString "abcdefgh").length 1=[b]:=abM ⟨b,h⟩
noncomputable def v7(CH:Addr)(K:PySem.W.Frag):Sp:=λvs H Q _=>∃(a r dx:Addr),vs=[.ref a,.ref r]/\H a=some (.ins CH dx []) /\ ∀(b sy:Addr)(H':Hp),H b=none->H sy=none->b≠sy ->
 H' a=some (.ins CH dx (hF r 0 b sy "waits"))->H' b=some (.lst ((List.replicate 8 0).map V.int))->H' sy=some (.lst [])->Kp a H H'->Q .non H'
theorem Qe{aq:Addr}{f:Addr}{fd:FuncData}(F:fQ K "__init__" "Hand.__init__" o8 f fd)(aL:d9 K aq)(gD:Gv mg "BOXES" (.str "abcdefgh")):bR P w K mg base ig 1 f fd ["self","rows"] (v7 aq K):=by
 refine F.ok BK (λvs H Q E h=>?_) (λcdv A outer s H vs Q E hr h=>?_)
 .obtain⟨a,r,dx,rfl,_⟩:=h
  rfl
 .obtain⟨a,r,dx,rfl,ha,k⟩:=h
  refine⟨_,(aA (cT (K:=K) rfl (pv 0) (pv 1) rfl)
   (aA (cT (K:=K) rfl (pv 0) aC rfl)
   (aA (cT (K:=K) rfl (pv 0) (dI rfl (N:=["box"]) (own:=["box"]) (caps:=[]) (bB.of (by kernel_rfl)) (Yb (kO (by rfl) gD.choose_spec.1 gD.choose_spec.2)) (λ_ _ _ _=>(bL (i:=0) (show List.Nodup (["box"]:List Str) by decide +kernel) rfl (Or.inl rfl))) (λ_ _ _ _=>cO) (λ_ _ _ _=>aC)) rfl)
   (aA (cT (K:=K) rfl (pv 0) (cY au) rfl)
   (aJ (cT (K:=K) rfl (pv 0) bO rfl)))))), ?_⟩
  refine⟨_,acg,_,acg,a,aq,dx,[],acg,ha,aL.cls,aL.pF,by decide, ?_⟩;refine⟨_,acg,a,aq,dx,_,acg,ak,aL.cls,aL.sY,(by show 1<1000;decide), ?_⟩;refine⟨_,acg,λD hD=>?_⟩;refine Mw (λ_=>some (.int 0)) hD (by decide) (λi c H1 G F hi s1 kG kF=>kF _ H1 (Same.refl _) rfl) (λH1 s1 e1=>?_);rw[CV] at e1;refine⟨_,acg,a,aq,dx,_,acg,s1 _ _ ak,aL.cls,aL.gW,(by show 2<1000;decide), ?_⟩;have Z9:a≠D:=aB ak hD;refine⟨(by show 0<=sizeLine;decide),λq hq=>?_⟩;have Z8:a≠q:=aB ak hq;refine⟨_,acg,a,aq,dx,_,acg,(by rw[aF Z8];exact ak),aL.cls,aL.jH,(by show 3<1000;decide), ?_⟩;refine⟨_,acg,a,aq,dx,_,acg,ak,aL.cls,aL.iZ,(by show 4<1000;decide), ?_⟩;have Zb:H D=none:=by rw[aF Z9.symm,aF Z9.symm] at hD;exact hD
  have nDq:D≠q:=by
   intro e;rw[←e,aF Z9.symm,e1] at hq;cases hq
  have hq0:H q=none:=by
   rw[aF Z8.symm] at hq;cases e:H q with
   | none=>rfl
   | some o=>
     have:=s1 q o (by rw[aF Z8.symm,aF Z8.symm];exact e);rw[this] at hq;cases hq
  refine k D q _ Zb hq0 nDq ?_ ?_ ?_ ?_
  .rw[ak];rfl
  .rw[aF Z9.symm,aF Z9.symm,aF nDq,aF Z9.symm,e1];rfl
  .rw[aF Z8.symm,aF Z8.symm,ak]
  .intro x o e n
   have nq:x≠q:=aB e hq0;rw[aF n,aF n,aF nq,aF n];exact s1 x o (by rw[aF n,aF n];exact e)
theorem WX{x:V}{l:List V}:zf (x::l) 0=some x:=bV (j:=0) rfl
theorem abR{x y z:V}{l:List V}:zf (x::y::z::l) 2=some z:=bV (j:=2) rfl
noncomputable def Gh(r:Rw):V:=if touch r then .int (iB r) else .non
noncomputable def wX(K:PySem.W.Frag):Sp:=λvs H Q _=>∃(v:V) (r:Rw),vs=[v]/\Dat H v (mC r) /\ ∀H',Same H H'->Q (Gh r) H'
theorem Lh{f:Addr}{fd:FuncData}(F:fQ K "cell_of" "cell_of" uT f fd):bR P w K mg base ig 1 f fd ["row"] (wX K):=by
 refine F.ok G7 (λvs H Q E h=>?_) (λcdv A outer s H vs Q E hr h=>?_)
 .obtain⟨v,r,rfl,_⟩:=h
  rfl
 .obtain⟨v,r,rfl,d,k⟩:=h
  obtain⟨t,ws,rfl,ht,ps⟩:=Kq d
  refine⟨_,(aA (cB (bF dU (aO (aU (K:=K) rfl) (pv 0) aC (λ_ _=>rfl)) bO (bw _)) (aJ (bA (aO (aU (K:=K) rfl) (pv 0) aC (λ_ _=>rfl)))) bJ)
   (aJ (bA (jZ (bF (yc (K:=K) rfl) (aO (aU (K:=K) rfl) (pv 0) aC (λ_ _=>rfl)) (cX (aj bO (aj bO au))) (by with_unfolding_all rfl)) (aO (aU (K:=K) rfl) (pv 0) aC (λ_ _=>rfl)) jY)))), ?_⟩
  have cs:(∃c e,r = .store c e) \/ ∃(x:Str) (ys:List V),ws = .str x::ys/\x≠Str.ofString "store" /\ (x=Str.ofString "load" \/ x=Str.ofString "swap" -> ∃y z,ys=y :: .int (iB r)::z/\touch r=true)/\(x≠Str.ofString "load" -> x≠Str.ofString "swap" -> touch r=false):=by
   cases r with
   | store c e=>exact .inl ⟨c,e,acg⟩
   | load b c=>exact .inr ⟨_,_,ps,by decide +kernel,λ_=>⟨_,_,acg,acg⟩,λz=>ace rfl z⟩
   | swap b c e=>
     obtain⟨x,e1,_⟩:=ps;exact .inr ⟨_,_,e1,by decide +kernel,λ_=>⟨_,_,acg,acg⟩,λ_ z=>ace rfl z⟩
   | vQ b e=>
     obtain⟨x,e1,_⟩:=ps;exact .inr ⟨_,_,e1,by decide +kernel,λz=>ace z (by decide +kernel),λ_ _=>rfl⟩
   | say e=>
     obtain⟨x,e1,_⟩:=ps;exact .inr ⟨_,_,e1,by decide +kernel,λz=>ace z (by decide +kernel),λ_ _=>rfl⟩
   | go n=>exact .inr ⟨_,_,ps,by decide +kernel,λz=>ace z (by decide +kernel),λ_ _=>rfl⟩
   | zj q e f n=>
     obtain⟨x,y,e1,_⟩:=ps;exact .inr ⟨_,_,e1,by decide +kernel,λz=>ace z (by decide +kernel),λ_ _=>rfl⟩
  rcases cs with ⟨c,e,rfl⟩|⟨x,ys,rfl,nx,h1,h2⟩
  .obtain⟨x,rfl,_⟩:=ps
   refine⟨_,acg,_,_,_,_,acg,acg,cD.of ht,acg,acg,_,acg, ?_⟩;refine cP (λ_=>?_) (λz=>ace (aaq rfl) z);exact⟨_,acg,_,_,_,_,acg,acg,cD.of ht,acg,k H (Same.refl _)⟩
  refine⟨_,acg,_,_,_,_,acg,acg,cD.of ht,WX,acg,_,acg, ?_⟩;refine cP (λz=>ace (by simpa using aaw z) nx) (λ_=>?_);refine⟨_,acg,_,_,_,_,acg,acg,cD.of ht,WX,(by show 2<=sizeLine;decide),λp hp=>?_⟩;have sp:=aG (o:=HO.tup [V.str (Str.ofString "load"),V.str (Str.ofString "swap")]) hp;refine⟨p,_,acg,.inr (cD.of ak),acg,acg,_,acg, ?_⟩
  by_cases z:x=Str.ofString "load" \/ x=Str.ofString "swap"
  .obtain⟨y,w',rfl,tr⟩:=h1 z
   refine cP (λ_=>?_) (λq=>ace ?_ q)
   .refine⟨_,acg,_,_,_,_,acg,acg,cD.of (sp _ _ ht),abR, ?_⟩
    have:=k _ sp;unfold Gh at this;rw[acd tr] at this;exact this
   .rcases z with rfl|rfl<;>decide +kernel
  .have n1:x≠Str.ofString "load" :=λq=>z (.inl q)
   have n2:x≠Str.ofString "swap" :=λq=>z (.inr q);have tr:=h2 n1 n2;refine cP (λq=>ace q ?_) (λ_=>?_)
   .simp[inV,QW,n1.symm,n2.symm]
   .have:=k _ sp
    unfold Gh at this;rw[ab' (by rw[tr];decide)] at this;exact this
noncomputable def FT:Gz->Nat
 | .one _=>1
 | .two _ _ _=>2
noncomputable def wU(CH:Addr)(n:Nat)(K:PySem.W.Frag):Sp:=λvs H Q _=>∃(A:oJ) (s:bG) (v:V) (e:Gz),vs=[.ref A.h,v]/\n_ CH H A s/\Dat H v (mW e)/\u5 e/\FT e<=n/\Q (.int (vx s.bs e)) H
theorem Uq{aq:Addr}{f:Addr}{fd:FuncData}(F:fQ K "value_of" "Hand.value_of" gP f fd):bR P w K mg base ig 1 f fd ["self","part"] (wU aq 0 K):=by
 refine F.ok gw (λvs H Q E h=>?_) (λcdv A outer s H vs Q E hr h=>?_)
 .obtain⟨A,s,v,e,rfl,_,_,_,z,_⟩:=h
  cases e<;>simp[FT] at z
 .obtain⟨A,s,v,e,rfl,_,_,_,z,_⟩:=h
  cases e<;>simp[FT] at z
theorem JT{aq:Addr}{n:Nat}{f:Addr}{fd:FuncData}(F:fQ K "value_of" "Hand.value_of" gP f fd)(cA:MethAt P w K mg base (n+1) aq "value_of" ["self","part"] (wU aq n K))(aL:d9 K aq)(gD:Gv mg "BOXES" (.str "abcdefgh"))(iD:Gv mg "ROUND" (.int 1000)):bR P w K mg base ig (n+1+1) f fd ["self","part"] (wU aq (n+1) K):=by
 refine F.ok gw (λvs H Q E h=>?_) (λcdv A outer s H vs Q E hr h=>?_)
 .obtain⟨A,s,v,e,rfl,_⟩:=h
  rfl
 .obtain⟨B,z,v,e,rfl,c,d,eo,dp,k⟩:=h
  refine⟨_,(aA (cB (bF dU (aO (aU (K:=K) rfl) (pv 1) aC (λ_ _=>rfl)) bO (bw _)) (aJ (bA (bY nM (aO (aU (K:=K) rfl) (pv 1) aC (λ_ _=>rfl)) (kO (by rfl) iD.choose_spec.1 iD.choose_spec.2)))) bJ)
   (aA (cB (bF dU (aO (aU (K:=K) rfl) (pv 1) aC (λ_ _=>rfl)) bO (bw _)) (aJ (bA (aO (aP (K:=K) rfl) (aX (K:=K) rfl (pv 0) rfl) (q_ (K:=K) rfl PySem.F.plainAttrs_str PySem.F.slot_str_index PySem.F.type_str_index Aa (kO (by rfl) gD.choose_spec.1 gD.choose_spec.2) (aj (aO (aU (K:=K) rfl) (pv 1) aC (λ_ _=>rfl)) au)) (λ_ _=>rfl)))) bJ)
   (aA (bH (i:=2) gw.nd rfl (Or.inl rfl) (b_ cA aL.cls (hr.mono (aaj _)) (pv 0) (aj (aO (aU (K:=K) rfl) (pv 1) aC (λ_ _=>rfl)) au)))
   (aA (bH (i:=3) gw.nd rfl (Or.inl rfl) (b_ cA aL.cls (hr.mono (aaj _)) (pv 0) (aj (aO (aU (K:=K) rfl) (pv 1) aC (λ_ _=>rfl)) au)))
   (aJ (bA (bY nM (jZ (bF dU (aO (aU (K:=K) rfl) (pv 1) aC (λ_ _=>rfl)) bO (bw _)) (bY iy (pv 2) (pv 3)) (bY rm (pv 2) (pv 3))) (kO (by rfl) iD.choose_spec.1 iD.choose_spec.2)))))))), ?_⟩
  match e,d,eo,dp,k with
  | .one (.num m),d,eo,dp,k=>
    obtain⟨t,rfl,ht⟩:=WW (x:= .num m) d;refine⟨_,acg,_,_,_,_,acg,acg,cD.of ht,acg,acg,_,acg, ?_⟩;refine cP (λ_=>?_) (λz=>ace (aaq rfl) z);exact⟨_,acg,_,_,_,_,acg,acg,cD.of ht,acg,_,_,acg,acg,(by show (0:Int)<1000;decide),k⟩
  | .one (.box b),d,eo,dp,k=>
    obtain⟨t,rfl,ht⟩:=WW (x:= .box b) d;refine⟨_,acg,_,_,_,_,acg,acg,cD.of ht,acg,acg,_,acg, ?_⟩;refine cP (λz=>ace (aaw z) (by decide)) (λ_=>?_);refine⟨_,acg,_,_,_,_,acg,acg,cD.of ht,acg,acg,_,acg, ?_⟩;refine cP (λ_=>?_) (λz=>ace (aaq rfl) z);have hb:b<8:=eo;refine⟨_,acg,B.h,aq,B.hx,_,_,acg,c.h,aL.cls,aL.gW,acg,acg,_,acg,_,_,_,_,acg,acg,cD.of ht,acg,_,_,b,[],acg,acg,Rp hb,_,_,_,_,acg,acg,bI.of c.b,bV (v:= .int ((z.bs[b]?).getD 0)) ?_,k⟩;have hl:b<z.bs.length:=by rw[c.bl];exact hb
    rw[aaf,aad hl];rfl
  | .two p x y,d,eo,dp,k=>
    obtain⟨t,u,w',rfl,ht,du,dw⟩:=ZD d;have e1:u5 (.one x)/\u5 (.one y):=eo
    have dn:1<=n:=by
     have:2<=n+1:=dp;lia
    have np:∀q:Bool,(Str.ofString "number")≠(if q then Str.ofString "plus" else Str.ofString "minus"):=by decide +kernel
    have nb:∀q:Bool,(Str.ofString "box")≠(if q then Str.ofString "plus" else Str.ofString "minus"):=by decide +kernel
    refine⟨_,acg,_,_,_,_,acg,acg,cD.of ht,acg,acg,_,acg, ?_⟩;refine cP (λz=>ace (by simpa using (aaw z).symm) (np p)) (λ_=>?_);refine⟨_,acg,_,_,_,_,acg,acg,cD.of ht,acg,acg,_,acg, ?_⟩;refine cP (λz=>ace (by simpa using (aaw z).symm) (nb p)) (λ_=>?_);refine⟨_,acg,B.h,B.hx,_,acg,c.h,acg,_,acg,_,_,_,_,acg,acg,cD.of ht,acg,B,z,u,.one x,acg,c,du,e1.1,dn, ?_⟩;refine⟨_,acg,B.h,B.hx,_,acg,c.h,acg,_,acg,_,_,_,_,acg,acg,cD.of ht,acg,B,z,w',.one y,acg,c,dw,e1.2,dn, ?_⟩;refine⟨_,acg,_,_,_,_,acg,acg,cD.of ht,acg,acg,_,acg, ?_⟩;cases p with
    | true=>
      refine cP (λ_=>?_) (λz=>ace (aaq rfl) z);exact⟨_,acg,_,acg,_,_,acg,acg,_,_,acg,acg,(by show (0:Int)<1000;decide),k⟩
    | false=>
      refine cP (λz=>ace (aaw z) (by decide)) (λ_=>?_);exact⟨_,acg,_,acg,_,_,acg,acg,_,_,acg,acg,(by show (0:Int)<1000;decide),k⟩
theorem Mj(e:Gz):FT e<=2:=by cases e<;>simp[FT]
noncomputable def Br(CH:Addr)(K:PySem.W.Frag):Sp:=λvs H Q _=>∃(A:oJ) (s:bG) (v:V) (q:Bool) (e f:Gz) (n:Nat),vs=[.ref A.h,v]/\n_ CH H A s/\Dat H v (mC (.zj q e f n))/\u5 e/\u5 f/\Q (.bl (uZ s.bs (.zj q e f n))) H
theorem Qd{aq:Addr}{f:Addr}{fd:FuncData}(F:fQ K "holds" "Hand.holds" nH f fd)(cA:MethAt P w K mg base 3 aq "value_of" ["self","part"] (wU aq 2 K))(aL:d9 K aq):bR P w K mg base ig 4 f fd ["self","row"] (Br aq K):=by
 refine F.ok lD (λvs H Q E h=>?_) (λcdv A outer s H vs Q E hr h=>?_)
 .obtain⟨A,s,v,q,e,f,n,rfl,_⟩:=h
  rfl
 .obtain⟨B,z,v,q,e,f,n,rfl,c,d,o1,o2,k⟩:=h
  refine⟨_,(aA (bH (i:=2) lD.nd rfl (Or.inl rfl) (b_ cA aL.cls (hr.mono (by decide)) (pv 0) (aj (aO (aU (K:=K) rfl) (pv 1) aC (λ_ _=>rfl)) au)))
   (aA (bH (i:=3) lD.nd rfl (Or.inl rfl) (b_ cA aL.cls (hr.mono (by decide)) (pv 0) (aj (aO (aU (K:=K) rfl) (pv 1) aC (λ_ _=>rfl)) au)))
   (aJ (bA (jZ (bF dU (aO (aU (K:=K) rfl) (pv 1) aC (λ_ _=>rfl)) bO (bw _)) (cI dU (pv 2) (pv 3) (bw _)) (cI qM (pv 2) (pv 3) (bw _))))))), ?_⟩
  obtain⟨t,ws,rfl,ht,x,y,rfl,dx,dy⟩:=Kq d;refine⟨_,acg,B.h,B.hx,_,acg,c.h,acg,_,acg,_,_,_,_,acg,acg,cD.of ht,acg,B,z,x,e,acg,c,dx,o1,Mj e, ?_⟩;refine⟨_,acg,B.h,B.hx,_,acg,c.h,acg,_,acg,_,_,_,_,acg,acg,cD.of ht,acg,B,z,y,f,acg,c,dy,o2,Mj f, ?_⟩;refine⟨_,acg,_,_,_,_,acg,acg,cD.of ht,acg,acg,_,acg, ?_⟩;cases q with
  | true=>
    refine cP (λ_=>?_) (λz=>ace (aaq rfl) z);refine⟨_,acg,_,acg,acg, ?_⟩
    have:decide (V.int (vx z.bs e)=V.int (vx z.bs f))=uZ z.bs (.zj true e f n):=by
     show _=decide (vx z.bs e=vx z.bs f);rw[Bool.eq_iff_iff,decide_eq_true_iff,decide_eq_true_iff];exact⟨λz=>V.int.inj z,λz=>by rw[z]⟩
    rw[this];exact k
  | false=>
    refine cP (λz=>ace (aaw z) (by decide)) (λ_=>?_);exact⟨_,acg,_,acg,_,_,acg,acg,k⟩
noncomputable def Bk(CH:Addr)(K:PySem.W.Frag):Sp:=λvs H Q _=>∃(A:oJ) (s:bG) (b:Nat) (i:Int),vs=[.ref A.h,.str (t_ b),.int i]/\n_ CH H A s/\b<8/\Q .non (upd H A.b (.lst ((s.bs.set b i).map V.int)))
theorem Ut{aq:Addr}{f:Addr}{fd:FuncData}(F:fQ K "take" "Hand.take" o7 f fd)(aL:d9 K aq)(gD:Gv mg "BOXES" (.str "abcdefgh")):bR P w K mg base ig 1 f fd ["self","box","number"] (Bk aq K):=by
 refine F.ok BJ (λvs H Q E h=>?_) (λcdv A outer s H vs Q E hr h=>?_)
 .obtain⟨A,s,b,i,rfl,_⟩:=h
  rfl
 .obtain⟨B,z,b,i,rfl,c,hb,k⟩:=h
  refine⟨_,(aJ (nJ (pv 2) (pq (aX (K:=K) rfl (pv 0) rfl) (q_ (K:=K) rfl PySem.F.plainAttrs_str PySem.F.slot_str_index PySem.F.type_str_index Aa (kO (by rfl) gD.choose_spec.1 gD.choose_spec.2) (aj (pv 1) au)) set_list))), ?_⟩;refine⟨_,acg,_,acg,B.h,aq,B.hx,_,_,acg,c.h,aL.cls,aL.gW,acg,acg,_,acg,_,_,b,[],acg,acg,Rp hb, ?_⟩;rw[List.map_set] at k;exact⟨B.b,_,_,b,acg,acg,c.b,(by rw[aac,c.bl];unfold Lw;rw[acd (by lia),acd (by lia)];simp),k⟩
noncomputable def Xy(CH:Addr)(K:PySem.W.Frag):Sp:=λvs H Q _=>∃(A:oJ) (s:bG) (v:V) (r:Rw) (m:Nat),vs=[.ref A.h,v]/\n_ CH H A s/\Dat H v (mC r)/\Ep m r/\touch r=false/\s.sy.length<1000000 /\ ∀H',n_ CH H' A (vD s r)->KH A H H'->Q .non H'
theorem aa2{aq:Addr}{f:Addr}{fd:FuncData}(F:fQ K "do" "Hand.do" uV f fd)(cA:MethAt P w K mg base 3 aq "value_of" ["self","part"] (wU aq 2 K))(pX:MethAt P w K mg base 1 aq "take" ["self","box","number"] (Bk aq K))(Dq:MethAt P w K mg base 4 aq "holds" ["self","row"] (Br aq K))(aL:d9 K aq):bR P w K mg base ig 5 f fd ["self","row"] (Xy aq K):=by
 refine F.ok G8 (λvs H Q E h=>?_) (λcdv A outer s H vs Q E hr h=>?_)
 .obtain⟨A,s,v,r,m,rfl,_⟩:=h
  rfl
 .obtain⟨B,z,v,r,m,rfl,c,d,ro,tr,sl,k⟩:=h
  refine⟨_,(aA (xY (K:=K) rfl (pv 0) aC Cy)
   (aJ (cB (bF dU (aO (aU (K:=K) rfl) (pv 1) aC (λ_ _=>rfl)) bO (bw _)) (aJ (dh (b_ pX aL.cls (hr.mono (by decide)) (pv 0) (aj (aO (aU (K:=K) rfl) (pv 1) aC (λ_ _=>rfl)) (aj (b_ cA aL.cls (hr.mono (by decide)) (pv 0) (aj (aO (aU (K:=K) rfl) (pv 1) aC (λ_ _=>rfl)) au)) au))))) (aJ (cB (bF dU (aO (aU (K:=K) rfl) (pv 1) aC (λ_ _=>rfl)) bO (bw _)) (aJ (dh (eZ (K:=K) rfl (aX (K:=K) rfl (pv 0) rfl) (aj (b_ cA aL.cls (hr.mono (by decide)) (pv 0) (aj (aO (aU (K:=K) rfl) (pv 1) aC (λ_ _=>rfl)) au)) au)))) (aJ (cB (PW.pt (jV (bF dU (aO (aU (K:=K) rfl) (pv 1) aC (λ_ _=>rfl)) bO (bw _)) (jU (gU (dB (b_ Dq aL.cls (hr.mono (by decide)) (pv 0) (aj (pv 1) au))))))) (aJ (cT (K:=K) rfl (pv 0) (aO (aU (K:=K) rfl) (pv 1) (Wn Nv aC) (λ_ _=>rfl)) rfl)) bJ))))))), ?_⟩
  refine⟨_,acg,B.h,aq,B.hx,_,_,acg,c.h,aL.cls,aL.sY,acg,_,_,acg,acg,B.hx,_,c.h,(by show 5<1000;decide), ?_⟩;rw[xV];have c1:=c.qT (z.pos+1) z.st;have k1:KH B H (upd H B.h (.ins aq B.hx (hF B.r ((z.pos+1:Nat):Int) B.b B.sy z.st))):=KH.qT;have d1:=d.keep (c.tup k1) _ (CG r);dsimp only;rw[show ((z.pos:Nat):Int)+1=((z.pos+1:Nat):Int) by lia];generalize (upd H B.h (.ins aq B.hx (hF B.r ((z.pos+1:Nat):Int) B.b B.sy z.st)))=H1 at c1 k1 d1 ⊢;obtain⟨t,ws,rfl,ht,ps⟩:=Kq d1;cases r with
  | load b cc=>cases tr
  | store cc e=>cases tr
  | swap b cc e=>cases tr
  | vQ b e=>
    obtain⟨x,rfl,dx⟩:=ps;refine⟨_,acg,_,_,_,_,acg,acg,cD.of ht,acg,acg,_,acg, ?_⟩;refine cP (λ_=>?_) (λz=>ace (aaq rfl) z);refine⟨_,acg,B.h,B.hx,_,acg,c1.h,acg,_,acg,_,_,_,_,acg,acg,cD.of ht,acg,_,acg,B.h,B.hx,_,acg,c1.h,acg,_,acg,_,_,_,_,acg,acg,cD.of ht,acg,B,_,x,e,acg,c1,dx,ro.2,Mj e, ?_⟩;exact⟨B,_,b,_,acg,c1,ro.1,k _ (c1.Oj _ (by rw[abF];exact c1.bl)) (k1.trans KH.Oj)⟩
  | say e=>
    obtain⟨x,rfl,dx⟩:=ps;refine⟨_,acg,_,_,_,_,acg,acg,cD.of ht,acg,acg,_,acg, ?_⟩;refine cP (λz=>ace (aaw z) (by decide)) (λ_=>?_);refine⟨_,acg,_,_,_,_,acg,acg,cD.of ht,acg,acg,_,acg, ?_⟩;refine cP (λ_=>?_) (λz=>ace (aaq rfl) z);refine⟨_,acg,B.h,aq,B.hx,_,_,acg,c1.h,aL.cls,aL.jH,acg,.inl ⟨acg,_,bI.of c1.y⟩,_,acg,B.h,B.hx,_,acg,c1.h,acg,_,acg,_,_,_,_,acg,acg,cD.of ht,acg,B,_,x,e,acg,c1,dx,ro,Mj e, ?_⟩;refine⟨_,_,_,acg,acg,c1.y,(by rw[aac,sizeLine_eq];show z.sy.length<_;lia), ?_⟩;have:=k _ (c1.XC (z.sy++[vx z.bs e])) (k1.trans KH.XC);rw[aa3] at this;exact this
  | go n=>
    obtain rfl:=ps;refine⟨_,acg,_,_,_,_,acg,acg,cD.of ht,acg,acg,_,acg, ?_⟩;refine cP (λz=>ace (aaw z) (by decide)) (λ_=>?_);refine⟨_,acg,_,_,_,_,acg,acg,cD.of ht,acg,acg,_,acg, ?_⟩;refine cP (λz=>ace (aaw z) (by decide)) (λ_=>?_);refine⟨_,acg,_,_,_,_,acg,acg,cD.of ht,acg,acg,_,acg, ?_⟩;refine cP (λ_=>?_) (λz=>ace (aaq rfl) z);refine eO ?_;refine⟨_,acg,_,acg,_,_,_,_,acg,acg,cD.of ht,acg,_,acg,B.h,aq,B.hx,_,acg,c1.h,aL.cls,aL.sY,(by show 5<1000;decide), ?_⟩;rw[xV];exact k _ (c1.qT n z.st) (k1.trans KH.qT)
  | zj q e f n=>
    obtain⟨x,y,rfl,dx,dy⟩:=ps;refine⟨_,acg,_,_,_,_,acg,acg,cD.of ht,acg,acg,_,acg, ?_⟩;refine cP (λz=>ace (aaw z) (by decide)) (λ_=>?_);refine⟨_,acg,_,_,_,_,acg,acg,cD.of ht,acg,acg,_,acg, ?_⟩;refine cP (λz=>ace (aaw z) (by decide)) (λ_=>?_);refine⟨_,acg,_,_,_,_,acg,acg,cD.of ht,acg,acg,_,acg, ?_⟩;refine cP (λz=>ace (aaw z) (by decide)) (λ_=>?_);refine⟨_,acg,B.h,B.hx,_,acg,c1.h,acg,_,acg,B,_,_,q,e,f,n,acg,c1,d1,ro.1,ro.2,_,acg, ?_⟩;cases hh:uZ z.bs (.zj q e f n) with
    | true=>
      refine cU ?_;refine k _ ?_ k1;show n_ aq H1 B {z with pos:=if uZ z.bs (.zj q e f n) then z.pos+1 else n};rw[hh];exact c1
    | false=>
      refine eO ?_;refine⟨_,acg,_,acg,_,_,_,_,acg,acg,cD.of ht,acg,_,acg,B.h,aq,B.hx,_,acg,c1.h,aL.cls,aL.sY,(by show 5<1000;decide), ?_⟩;rw[xV];refine k _ ?_ (k1.trans KH.qT);show n_ aq _ B {z with pos:=if uZ z.bs (.zj q e f n) then z.pos+1 else n};rw[hh];exact c1.qT n z.st
noncomputable def dO(H:Hp)(r:Addr)(m:Nat)(rws:List Rw):Prop:=∃ts,H r=some (.lst ts)/\aQ H ts (rws.map mC)/\(∀x∈rws,Ep m x)/\rws.length<=1000
theorem Fy(rws:List Rw):pI (rws.map mC)=true:=cj mC CG rws
theorem dO.keep{H H':Hp}{r:Addr}{m:Nat}{rws:List Rw}(h:dO H r m rws)(k:∀o,H r=some o->H' r=some o)(t:∀x xs,H x=some (.tup xs)->H' x=some (.tup xs)):dO H' r m rws:=by
 obtain⟨ts,e,d,q⟩:=h;exact⟨ts,k _ e,d.keep t _ (Fy rws),q⟩
theorem dO.same{H H':Hp}{r:Addr}{m:Nat}{rws:List Rw}(h:dO H r m rws)(k:Same H H'):dO H' r m rws:=h.keep (λo e=>k _ _ e) k.tups
noncomputable def Bq(CH:Addr)(K:PySem.W.Frag):Sp:=λvs H Q _=>∃(A:oJ) (s:bG) (m:Nat),vs=[.ref A.h]/\n_ CH H A s/\dO H A.r m s.rws/\A.r≠A.b/\A.r≠A.sy/\s.sy.length<900000 /\ ∀H',n_ CH H' A (lead s)->KH A H H'->Q .non H'
theorem UL{aq:Addr}{f:Addr}{fd:FuncData}(F:fQ K "lead_on" "Hand.lead_on" jQ f fd)(vh:FnAt P w K mg base 1 "cell_of" ["row"] (wX K))(M6:MethAt P w K mg base 5 aq "do" ["self","row"] (Xy aq K))(aL:d9 K aq)(fV:Gv mg "MOST_UNTOUCHING" (.int 60))(Bt:mV mg):bR P w K mg base ig 6 f fd ["self"] (Bq aq K):=by
 refine F.ok jj (λvs H Q E h=>?_) (λcdv A outer s H vs Q E hr h=>?_)
 .obtain⟨A,s,m,rfl,_⟩:=h
  rfl
 .obtain⟨B,s,m,rfl,c,R,nrb,nry,sl,k⟩:=h
  refine⟨_,(aA (bH (i:=1) jj.nd rfl (Or.inl rfl) aC)
   (aA (O9 PassesOwn.never (PW.pt (xU (bF qM (aX (K:=K) rfl (pv 0) rfl) (aW (aY (K:=K) rfl) (by rfl) Bt.dW cM (aj (aX (K:=K) rfl (pv 0) rfl) au)) (bw _)) (sW (bF Cj (bN vh (hr.mono (by decide)) (by rfl) (aj (aO (aP (K:=K) rfl) (aX (K:=K) rfl (pv 0) rfl) (aX (K:=K) rfl (pv 0) rfl) (λ_ _=>rfl)) au)) jY (bw _))))) (aA (cB (bF dU (pv 1) (kO (by rfl) fV.choose_spec.1 fV.choose_spec.2) (bw _)) (aA (cT (K:=K) rfl (pv 0) bO rfl)
   (aJ Ua)) bJ)
   (aA (dh (b_ M6 aL.cls (hr.mono (by decide)) (pv 0) (aj (aO (aP (K:=K) rfl) (aX (K:=K) rfl (pv 0) rfl) (aX (K:=K) rfl (pv 0) rfl) (λ_ _=>rfl)) au)))
   (aJ (X8 (i:=1) jj.nd rfl (Or.inl rfl) aC Cy)))))
   (aJ (cT (K:=K) rfl (pv 0) (jZ (bF qM (aX (K:=K) rfl (pv 0) rfl) (aW (aY (K:=K) rfl) (by rfl) Bt.dW cM (aj (aX (K:=K) rfl (pv 0) rfl) au)) (bw _)) bO bO) rfl)))), ?_⟩
  have nrh:B.r≠B.h:=by
   obtain⟨ts,e,_⟩:=R;exact dg e c.h (by intro z;cases z)
  refine⟨λn σ H1=>∃(d:Nat) (z:bG),σ=[some (.ref B.h),some (.int d)]/\d<=60/\n=60 - d/\n_ aq H1 B z/\KH B H H1/\led (60 - d) z=lead s/\z.rws=s.rws/\z.sy.length<=s.sy.length+d,
   ⟨60,0,s,acg,by decide,acg,c,KH.of_same (Same.refl _),acg,acg,aaj _⟩,λn σ H1 hσ=>?_⟩
  obtain⟨d,z,rfl,d60,rfl,c1,k1,hl,zr,zs⟩:=hσ
  have R1:dO H1 B.r m z.rws:=by
   rw[zr];exact R.keep (λo e=>k1 _ _ e nrh nrb nry) (c.tup k1)
  obtain⟨ts,hts,dts,ro,rl⟩:=R1;have ln:ts.length=z.rws.length:=by rw[dts.length,aac]
  refine⟨_,acg,B.h,aq,B.hx,_,_,acg,c1.h,aL.cls,aL.sY,acg,_,acg,B.h,aq,B.hx,_,_,acg,c1.h,aL.cls,aL.pF,acg,B.r,_,acg,.inl (bI.of hts),_,_,acg,acg,_,acg, ?_⟩;cases er:z.rws[z.pos]? with
  | none=>
    have ge:z.rws.length<=z.pos:=List.getElem?_eq_none_iff.mp er;have lf:¬decide (((z.pos:Nat):Int)<((ts.length:Nat):Int))=true:=by rw[ln];simp;lia
    refine cP (λq=>ace q lf) (λ_=>?_);refine cU ?_;refine⟨_,acg,B.h,aq,B.hx,_,_,acg,c1.h,aL.cls,aL.sY,acg,_,acg,B.h,aq,B.hx,_,_,acg,c1.h,aL.cls,aL.pF,acg,B.r,_,acg,.inl (bI.of hts),_,_,acg,acg,_,acg, ?_⟩;refine cP (λq=>ace q lf) (λ_=>?_);refine⟨_,acg,B.h,aq,B.hx,_,acg,c1.h,aL.cls,aL.iZ,(by show 5<1000;decide), ?_⟩;rw[Ca];refine k _ ?_ (k1.trans KH.qT)
    have:lead s={z with st:= "ends" }:=by
     rw[←hl];cases e60:60 - d<;>simp only[led,er]
    rw[this];exact c1.qT z.pos "ends"
  | some r=>
    have lt:z.pos<z.rws.length:=(aae.mp er).1;have lT:decide (((z.pos:Nat):Int)<((ts.length:Nat):Int))=true:=by rw[ln];simp;lia
    obtain⟨v,ev,dv⟩:=dts.getD (i:=z.pos) (d:=mC r) (by rw[aaf,er];rfl);refine cP (λ_=>?_) (λq=>ace lT q);refine⟨_,acg,B.h,aq,B.hx,_,_,acg,c1.h,aL.cls,aL.pF,acg,_,acg,B.h,aq,B.hx,_,_,acg,c1.h,aL.cls,aL.sY,acg,_,_,_,_,acg,acg,bI.of hts,bV ev,v,r,acg,dv,λH2 s2=>⟨acg,_,acg, ?_⟩⟩;have c2:=c1.same s2;have abo:=s2 _ _ hts;have k2:=k1.trans (KH.of_same (A:=B) s2);cases tr:touch r with
    | true=>
      refine cP (λq=>ace (aaw q) (by unfold Gh;rw[acd tr];intro z;cases z)) (λ_=>?_);refine⟨_,acg,B.h,aq,B.hx,_,_,acg,c2.h,aL.cls,aL.sY,acg,_,acg,B.h,aq,B.hx,_,_,acg,c2.h,aL.cls,aL.pF,acg,B.r,_,acg,.inl (bI.of abo),_,_,acg,acg,_,acg, ?_⟩;refine cP (λ_=>?_) (λq=>ace lT q);refine⟨_,acg,B.h,aq,B.hx,_,acg,c2.h,aL.cls,aL.iZ,(by show 5<1000;decide), ?_⟩;rw[Ca];refine k _ ?_ (k2.trans KH.qT)
      have:lead s={z with st:= "waits" }:=by
       rw[←hl];cases e60:60 - d<;>simp only[led,er,tr,if_true]
      rw[this];exact c2.qT z.pos "waits"
    | false=>
      refine cP (λ_=>?_) (λq=>ace (aaq (by unfold Gh;rw[ab' (by rw[tr];decide)])) q);refine⟨λσ' H'=>∃m',m'<60 - d /\ ∃(d:Nat) (z:bG),σ'=[some (.ref B.h),some (.int d)]/\d<=60/\m'=60 - d/\n_ aq H' B z/\KH B H H'/\led (60 - d) z=lead s/\z.rws=s.rws/\z.sy.length<=s.sy.length+d,λ_ _ q=>q, ?_⟩;refine⟨_,acg,acg,_,acg, ?_⟩
      by_cases e6:d=60
      .subst e6
       refine cP (λ_=>?_) (λq=>ace (aaq rfl) q);refine⟨_,acg,B.h,aq,B.hx,_,acg,c2.h,aL.cls,aL.iZ,(by show 5<1000;decide), ?_⟩;rw[Ca];refine k _ ?_ (k2.trans KH.qT)
       have:lead s={z with st:= "lost" }:=by
        rw[←hl];show led 0 z=_;simp only[led,er,tr];rfl
       rw[this];exact c2.qT z.pos "lost"
      .refine cP (λq=>ace (by have:=V.int.inj (aaw q);lia) e6) (λ_=>?_)
       refine⟨_,acg,B.h,B.hx,_,acg,c2.h,acg,_,acg,B.h,aq,B.hx,_,_,acg,c2.h,aL.cls,aL.pF,acg,_,acg,B.h,aq,B.hx,_,_,acg,c2.h,aL.cls,aL.sY,acg,_,_,_,_,acg,acg,bI.of abo,bV ev,B,z,v,r,m,acg,c2,dv.same s2 _,ro r (aap er),tr,by lia,λH3 c3 k3=>?_⟩;refine⟨_,acg,_,_,acg,acg,60 - (d+1),by lia,d+1,vD z r,acg,by lia,acg,c3,k2.trans k3, ?_,by rw[Ak,zr], ?_⟩
       .rw[←hl,show 60 - d=(60 - (d+1))+1 by lia]
        simp only[led,er,tr];rfl
       .have:=Ga z r
        lia
noncomputable def wF(pg nb hs tn:Addr):List (Str×V):=[("program",.ref pg),("numbers",.ref nb),("hands",.ref hs),("turns",.ref tn)]
noncomputable def pC(m:Int)(ns:List Int):Prop:=(ns.length:Int)=m /\ ∀x∈ns,0<=x/\x<1000
noncomputable def qR(CN:Addr)(K:PySem.W.Frag):Sp:=λvs H Q E=>∃(cl:Addr) (m:Int) (ns:List Int),vs=[.ref cl,.int m]/\H cl=some (.lst (ns.map V.int))/\ns.length<=100/\(pC m ns -> ∀H',Same H H'->Q .non H')/\(¬pC m ns -> ∀H',Same H H'->E (.ref CN) none H')
theorem Fb{f:Addr}{fd:FuncData}(F:fQ K "check_numbers" "check_numbers" jk f fd)(d_:FnAt P w K mg base 2 "is_below" ["value","count"] (rY K))(iD:Gv mg "ROUND" (.int 1000))(Bt:mV mg){bW:Addr}(iV:Xr K mg bW "NoNumber"):bR P w K mg base (qJ P w) 3 f fd ["cells","count"] (qR bW K):=by
 refine F.RZ uN (λvs H Q E h=>?_) (λcdv A outer s H vs Q E hr h hR=>?_)
 .obtain⟨cl,m,ns,rfl,_⟩:=h
  rfl
 .obtain⟨cl,m,ns,rfl,hc,nl,k1,k2⟩:=h
  refine⟨_,(aA (cB (PW.pt (jV (gU (dB (aW (cL (K:=K) (cv:= .ty "list") (c:= .type "list") rfl rfl) (by rfl) Bt.bQ bM (aj (pv 0) (aj (eH (v:= .ty "list") (by rfl) Bt.gH eN rfl) au))))) (jU (bF kW (aW (aY (K:=K) rfl) (by rfl) Bt.dW cM (aj (pv 0) au)) (pv 1) (bw _))))) (aJ (jW PySem.F.excBase_ValueError iV.ex iV.bd (by rfl) rfl rfl hR (aj bO au))) bJ)
   (aJ (cB (gU (dB (aW (gR (K:=K) rfl rfl) (by rfl) Bt.Ko Dl (aj (dI rfl (N:=["number"]) (own:=["number"]) (caps:=[]) (bB.of (by kernel_rfl)) (dH (K:=K) rfl (pv 0)) (λ_ _ _ _=>(bL (i:=0) (show List.Nodup (["number"]:List Str) by decide +kernel) rfl (Or.inl rfl))) (λ_ _ _ _=>cO) (λ_ _ _ _=>(bN d_ (hr.mono (by decide)) (by rfl) (aj (pv 0) (aj (kO (by rfl) iD.choose_spec.1 iD.choose_spec.2) au))))) au)))) (aJ (jW PySem.F.excBase_ValueError iV.ex iV.bd (by rfl) rfl rfl hR (aj bO au))) bJ))), ?_⟩
  refine⟨_,acg,_,_,true,acg,.lst hc,i_ K,true,acg, ?_⟩;refine cU ?_;refine⟨_,acg,cl,_,acg,.inl (bI.of hc),_,acg,acg,_,acg, ?_⟩;rw[aac]
  by_cases el:(ns.length:Int)=m
  rotate_left
  .refine cP (λ_=>?_) (λz=>ace (by simp[el]) z)
   exact⟨(by show 1<=sizeLine;decide),k2 (λz=>el z.1) H (Same.refl _)⟩
  refine tK (by rw[el]) ?_;refine⟨_,acg,cl,acg,⟨_,bI.of hc⟩,λD hD=>?_⟩;refine pN (K:=K) (λi=>(ns[i]?).map λx=>V.bl (decide (ur x 1000))) hD (bI.of hc) (by rw[aac];lia) (λi v H2 G F hi s2 kG kF=>?_) (λH2 s2 e2=>?_)
  .rw[aaf] at hi
   cases ei:ns[i]? with
   | none=>rw[ei] at hi;cases hi
   | some z=>
     rw[ei] at hi;cases hi;exact⟨_,acg,z,1000,acg,kF _ H2 (Same.refl _) (by rw[ei];rfl)⟩
  rw[aac,J9] at e2;refine⟨D,ns.map (λx=>decide (ur x 1000)),acg,bI.of (by rw[e2,abE];rfl),_,acg, ?_⟩
  by_cases al:∀x∈ns,ur x 1000
  .have ea:(ns.map (λx=>decide (ur x 1000))).all id=true:=by
    rw[List.all_map,List.all_eq_true];intro h hh;exact aaq (al h hh)
   rw[ea];refine cU ?_;exact k1 ⟨el,λx hx=>al x hx⟩ H2 s2
  .have ea:(ns.map (λx=>decide (ur x 1000))).all id=false:=by
    rw[List.all_map,←Bool.not_eq_true,List.all_eq_true];intro z;exact al λh hh=>aaw (p:=ur h 1000) (z h hh)
   rw[ea];refine eO ?_;exact⟨(by show 1<=sizeLine;decide),k2 (λz=>al λx hx=>z.2 x hx) H2 s2⟩
noncomputable def uH(CW CH:Addr)(K:PySem.W.Frag):Sp:=λvs H Q _=>∃(o dx pg nb hl tn:Addr) (A:oJ) (s:bG) (m:Nat) (ns:List Int) (r:Rw),vs=[.ref o,.ref A.h]/\H o=some (.ins CW dx (wF pg nb hl tn))/\H nb=some (.lst (ns.map V.int))/\ns.length=m/\n_ CH H A s/\dO H A.r m s.rws /\
 s.rws[s.pos]? = some r/\touch r=true/\nb≠A.b/\nb≠A.sy /\
 ∀t H',H t=none->H' t=some (.tup (wM ns s.bs r))->n_ CH H' A {s with bs:=rH ns s.bs r}->H' nb=some (.lst ((dD ns s.bs r).map V.int))->(∀x u,H x=some u->x≠nb->x≠A.b->H' x=some u)->Q (.ref t) H'
theorem Hu{ao aq:Addr}{f:Addr}{fd:FuncData}(F:fQ K "touch_by" "Works.touch_by" iJ f fd)(vh:FnAt P w K mg base 1 "cell_of" ["row"] (wX K))(cA:MethAt P w K mg base 3 aq "value_of" ["self","part"] (wU aq 2 K))(pX:MethAt P w K mg base 1 aq "take" ["self","box","number"] (Bk aq K))(aK:cH K ao)(aL:d9 K aq):bR P w K mg base ig 4 f fd ["self","one"] (uH ao aq K):=by
 refine F.ok dY (λvs H Q E h=>?_) (λcdv A outer s H vs Q E hr h=>?_)
 .obtain⟨o,dx,pg,nb,hl,tn,A,s,m,ns,r,rfl,_⟩:=h
  rfl
 .obtain⟨o,dx,pg,nb,hl,tn,B,z,m,ns,r,rfl,ho,hnb,nl,c,R,er,tr,Wu,Z7,k⟩:=h
  refine⟨_,(aA (bH (i:=2) dY.nd rfl (Or.inl rfl) (aO (aP (K:=K) rfl) (aX (K:=K) rfl (pv 1) rfl) (aX (K:=K) rfl (pv 1) rfl) (λ_ _=>rfl)))
   (aA (bH (i:=3) dY.nd rfl (Or.inl rfl) (bN vh (hr.mono (by decide)) (by rfl) (aj (pv 2) au)))
   (aA (bH (i:=4) dY.nd rfl (Or.inl rfl) (jZ (bF dU (aO (aU (K:=K) rfl) (pv 2) aC (λ_ _=>rfl)) bO (bw _)) jY (aO (aP (K:=K) rfl) (aX (K:=K) rfl (pv 0) rfl) (pv 3) (λ_ _=>rfl))))
   (aA (bH (i:=5) dY.nd rfl (Or.inl rfl) (jZ (bF dU (aO (aU (K:=K) rfl) (pv 2) aC (λ_ _=>rfl)) bO (bw _)) jY (b_ cA aL.cls (hr.mono (by decide)) (pv 1) (aj (aO (aU (K:=K) rfl) (pv 2) (Wn Nv aC) (λ_ _=>rfl)) au))))
   (aA (cB (bF JN (pv 4) jY (bw _)) (aJ (dh (b_ pX aL.cls (hr.mono (by decide)) (pv 1) (aj (aO (aU (K:=K) rfl) (pv 2) aC (λ_ _=>rfl)) (aj (pv 4) au))))) bJ)
   (aA (cB (bF JN (pv 5) jY (bw _)) (aJ (nJ (pv 5) (pq (aX (K:=K) rfl (pv 0) rfl) (pv 3) set_list))) bJ)
   (aJ (bA (cX (aj (aO (aU (K:=K) rfl) (pv 2) aC (λ_ _=>rfl)) (aj (pv 3) (aj (pv 4) (aj (pv 5) au))))))))))))), ?_⟩
  obtain⟨ts,hts,dts,ro,rl⟩:=R;obtain⟨v,ev,dv⟩:=dts.getD (i:=z.pos) (d:=mC r) (by rw[aaf,er];rfl);have Es:=ro r (aap er);refine⟨_,acg,B.h,aq,B.hx,_,_,acg,c.h,aL.cls,aL.pF,acg,_,acg,B.h,aq,B.hx,_,_,acg,c.h,aL.cls,aL.sY,acg,_,_,_,_,acg,acg,bI.of hts,bV ev, ?_⟩;refine⟨_,acg,v,r,acg,dv,λH1 s1=>?_⟩;have c1:=c.same s1;have ho1:=s1 _ _ ho;have CJ:=s1 _ _ hnb;obtain⟨t,ws,rfl,ht,ps⟩:=Kq (dv.same s1 _);have nob:o≠nb:=dg ho1 CJ (by intro z;cases z);have noB:o≠B.b:=dg ho1 c1.b (by intro z;cases z);have ntb:t≠B.b:=dg ht c1.b (by intro z;cases z);have ntn:t≠nb:=dg ht CJ (by intro z;cases z);have cellOf:∀cc,cc<m->ns[cc]? = some ((ns[cc]?).getD 0):=λcc h=>by rw[aad (by lia)];rfl
  have cellAt:∀cc,cc<m->(ns.map V.int)[cc]? = some (.int ((ns[cc]?).getD 0)):=λcc h=>by rw[aaf,cellOf cc h];rfl
  have abd:∀cc,cc<m->Lw (ns.map V.int).length ((cc:Nat):Int)=some cc:=λcc h=>by rw[aac];unfold Lw;rw[acd (by lia),acd (by lia)];simp
  cases r with
  | load b cc=>
    obtain rfl:=ps;refine⟨_,acg,_,_,_,_,acg,acg,cD.of ht,acg,acg,_,acg, ?_⟩;refine cP (λz=>ace (aaw z) (by decide)) (λ_=>?_);refine⟨_,acg,o,ao,dx,_,_,acg,ho1,aK.cls,aK.iT,acg,_,acg,_,_,_,_,acg,acg,bI.of CJ,bV (cellAt cc Es.2), ?_⟩;refine⟨_,acg,_,_,_,_,acg,acg,cD.of ht,acg,acg,_,acg, ?_⟩;refine cP (λ_=>?_) (λz=>ace (aaq rfl) z);refine⟨_,acg,acg,_,acg, ?_⟩;refine eO ?_;refine⟨_,acg,B.h,B.hx,_,acg,c1.h,acg,_,acg,_,_,_,_,acg,acg,cD.of ht,acg,_,acg,B,z,b,_,acg,c1,Es.1, ?_⟩;refine⟨_,acg,acg,_,acg, ?_⟩;refine cU ?_;have c2:=c1.Oj (z.bs.set b ((ns[cc]?).getD 0)) (by rw[abF];exact c1.bl);refine⟨_,acg,_,_,_,_,acg,acg,cD.of (by rw[aF ntb];exact ht),acg,_,acg,_,acg,_,acg,(by show 4<=sizeLine;decide),λp hp=>?_⟩;have sp:=aG (o:=HO.tup [V.str (Str.ofString "load"),V.int cc,V.int ((ns[cc]?).getD 0),V.non]) hp;refine k p _ ?_ ?_ (c2.same sp) (sp _ _ (by rw[aF Wu];exact CJ)) ?_
    .refine s1.free ?_
     have:p≠B.b:=λe=>by rw[e,ak] at hp;cases hp
     rw[aF this] at hp;exact hp
    .rw[ak]
     show some (HO.tup [V.str (Str.ofString "load"),V.int cc,V.int ((ns[cc]?).getD 0),V.non])=some (HO.tup [V.str (Str.ofString "load"),V.int cc,oV (ns[cc]?),V.non]);rw[cellOf cc Es.2];rfl
    .intro x u e n1 n2
     exact sp _ _ (by rw[aF n2];exact s1 _ _ e)
  | store cc e=>
    obtain⟨x,rfl,Zo⟩:=ps;refine⟨_,acg,_,_,_,_,acg,acg,cD.of ht,acg,acg,_,acg, ?_⟩;refine cP (λ_=>?_) (λz=>ace (aaq rfl) z);refine⟨_,acg,_,_,_,_,acg,acg,cD.of ht,acg,acg,_,acg, ?_⟩;refine cP (λz=>ace (aaw z) (by decide)) (λ_=>?_);refine⟨_,acg,B.h,B.hx,_,acg,c1.h,acg,_,acg,_,acg,_,_,_,_,acg,acg,cD.of ht,acg,B,z,x,e,acg,c1,Zo,Es.2,Mj e, ?_⟩;refine⟨_,acg,acg,_,acg, ?_⟩;refine cU ?_;refine⟨_,acg,acg,_,acg, ?_⟩;refine eO ?_;refine⟨_,acg,_,acg,o,ao,dx,_,_,acg,ho1,aK.cls,aK.iT,acg,_,acg,nb,_,_,cc,acg,acg,CJ,abd cc Es.1, ?_⟩;rw[←List.map_set];refine⟨_,acg,_,_,_,_,acg,acg,cD.of (by rw[aF ntn];exact ht),acg,_,acg,_,acg,_,acg,(by show 4<=sizeLine;decide),λp hp=>?_⟩;have sp:=aG (o:=HO.tup [V.str (Str.ofString "store"),V.int cc,V.non,V.int (vx z.bs e)]) hp;have nbh:B.h≠nb:=dg c1.h CJ (by intro z;cases z);refine k p _ ?_ ak (n_.same ⟨by rw[aF nbh];exact c1.h,by rw[aF Wu.symm];exact c1.b,by rw[aF Z7.symm];exact c1.y,c1.Lk,c1.bl⟩ sp) (sp _ _ ak) ?_
    .refine s1.free ?_
     have:p≠nb:=λe=>by rw[e,ak] at hp;cases hp
     rw[aF this] at hp;exact hp
    .intro x u e n1 n2
     exact sp _ _ (by rw[aF n1];exact s1 _ _ e)
  | swap b cc e=>
    obtain⟨x,rfl,Zo⟩:=ps;refine⟨_,acg,_,_,_,_,acg,acg,cD.of ht,acg,acg,_,acg, ?_⟩;refine cP (λz=>ace (aaw z) (by decide)) (λ_=>?_);refine⟨_,acg,o,ao,dx,_,_,acg,ho1,aK.cls,aK.iT,acg,_,acg,_,_,_,_,acg,acg,bI.of CJ,bV (cellAt cc Es.2.1), ?_⟩;refine⟨_,acg,_,_,_,_,acg,acg,cD.of ht,acg,acg,_,acg, ?_⟩;refine cP (λz=>ace (aaw z) (by decide)) (λ_=>?_);refine⟨_,acg,B.h,B.hx,_,acg,c1.h,acg,_,acg,_,acg,_,_,_,_,acg,acg,cD.of ht,acg,B,z,x,e,acg,c1,Zo,Es.2.2,Mj e, ?_⟩;refine⟨_,acg,acg,_,acg, ?_⟩;refine eO ?_;refine⟨_,acg,B.h,B.hx,_,acg,c1.h,acg,_,acg,_,_,_,_,acg,acg,cD.of ht,acg,_,acg,B,z,b,_,acg,c1,Es.1, ?_⟩;refine⟨_,acg,acg,_,acg, ?_⟩;refine eO ?_;have c2:=c1.Oj (z.bs.set b ((ns[cc]?).getD 0)) (by rw[abF];exact c1.bl);have afo:(upd H1 B.b (.lst ((z.bs.set b ((ns[cc]?).getD 0)).map V.int))) nb=some (.lst (ns.map V.int)):=by rw[aF Wu];exact CJ
    refine⟨_,acg,_,acg,o,ao,dx,_,_,acg,(by rw[aF noB];exact ho1),aK.cls,aK.iT,acg,_,acg,nb,_,_,cc,acg,acg,afo,abd cc Es.2.1, ?_⟩;rw[←List.map_set];refine⟨_,acg,_,_,_,_,acg,acg,cD.of (by rw[aF ntn,aF ntb];exact ht),acg,_,acg,_,acg,_,acg,(by show 4<=sizeLine;decide),λp hp=>?_⟩;have sp:=aG (o:=HO.tup [V.str (Str.ofString "swap"),V.int cc,V.int ((ns[cc]?).getD 0),V.int (vx z.bs e)]) hp;have nbh:B.h≠nb:=dg c1.h CJ (by intro z;cases z);refine k p _ ?_ ?_ (n_.same ⟨by rw[aF nbh];exact c2.h,by rw[aF Wu.symm];exact c2.b,by rw[aF Z7.symm];exact c2.y,c2.Lk,c2.bl⟩ sp) (sp _ _ ak) ?_
    .refine s1.free ?_
     have n1:p≠nb:=λe=>by rw[e,ak] at hp;cases hp
     rw[aF n1] at hp;have n2:p≠B.b:=λe=>by rw[e,ak] at hp;cases hp
     rw[aF n2] at hp;exact hp
    .rw[ak]
     show some (HO.tup [V.str (Str.ofString "swap"),V.int cc,V.int ((ns[cc]?).getD 0),V.int (vx z.bs e)])=some (HO.tup [V.str (Str.ofString "swap"),V.int cc,oV (ns[cc]?),V.int (vx z.bs e)]);rw[cellOf cc Es.2.1];rfl
    .intro x u e n1 n2
     exact sp _ _ (by rw[aF n1,aF n2];exact s1 _ _ e)
  | vQ b e=>cases tr
  | say e=>cases tr
  | go n=>cases tr
  | zj q e f n=>cases tr
structure nW where
 (o dx pg L nb hl tn:Addr) (rs:List Addr) (hd:List oJ)
structure vX(CH:Addr)(i k m:Nat)(τ:Tg)(H:Hp)(A:oJ)(s:bG):Prop where
 c:n_ CH H A s
 r:dO H A.r m s.rws
 tr:τ A.r=[0]
 th:τ A.h=[i,4,k]
 tb:τ A.b=[i,5,k]
 ty:τ A.sy=[i,6,k]
structure j_(CW CH:Addr)(i:Nat)(τ:Tg)(H:Hp)(W:nW)(S:dR):Prop where
 un:qw τ H
 i0:i≠0
 o:H W.o=some (.ins CW W.dx (wF W.pg W.nb W.hl W.tn))
 pg:H W.pg=some (.tup [.int S.m,.ref W.L])
 L:H W.L=some (.lst (W.rs.map V.ref))
 nb:H W.nb=some (.lst (S.ns.map V.int))
 hl:H W.hl=some (.lst (W.hd.map λa=> .ref a.h))
 tn:H W.tn=some (.lst (S.ts.map V.int))
 to:τ W.o=[i,0]
 tb:τ W.nb=[i,1]
 tl:τ W.hl=[i,2]
 tt:τ W.tn=[i,3]
 tL:τ W.L=[0]
 rl:W.rs.length=S.hs.length
 rs:∀(k:Nat)(r:Addr)(s:bG),W.rs[k]? = some r->S.hs[k]? = some s->τ r=[0]/\dO H r S.m s.rws
 len:W.hd.length=S.hs.length
 hd:∀(k:Nat)(A:oJ)(s:bG),W.hd[k]? = some A->S.hs[k]? = some s->vX CH i k S.m τ H A s
 ok:∀s∈S.hs,qz s
 sl:∀s∈S.hs,s.sy.length<=60*(S.ts.length+1)
 nl:S.ns.length=S.m
 hn:S.hs.length<=100
section
variable{CW CH:Addr}{i:Nat}{τ τ':Tg}{H H':Hp}{W:nW}{S:dR}
theorem vX.mv{k m:Nat}{A:oJ}{s:bG}(h:vX CH i k m τ H A s)(q:Mv i τ H τ' H'):vX CH i k m τ' H' A s:=by
 obtain⟨⟨c1,c2,c3,c4,c5⟩,r,tr,th,tb,ty⟩:=h;have e1:=q.keep _ _ c1 (.inr (by rw[th];rfl));have e2:=q.keep _ _ c2 (.inr (by rw[tb];rfl));have e3:=q.keep _ _ c3 (.inr (by rw[ty];rfl));have rr:=r;obtain⟨ts,hr,_⟩:=rr;have e4:=q.keep _ _ hr (.inl tr);exact⟨⟨e1.1,e2.1,e3.1,c4,c5⟩,r.keep (λo e=>(q.keep _ _ e (.inl tr)).1) q.tup,e4.2.trans tr,e1.2.trans th,e2.2.trans tb,e3.2.trans ty⟩
theorem JD{r:Addr}{m:Nat}{rws:List Rw}(h:τ r=[0]/\dO H r m rws)(q:Mv i τ H τ' H'):τ' r=[0]/\dO H' r m rws:=by
 obtain⟨t,R⟩:=h;have rr:=R;obtain⟨ts,hr,_⟩:=rr;have e4:=q.keep _ _ hr (.inl t);exact⟨e4.2.trans t,R.keep (λo e=>(q.keep _ _ e (.inl t)).1) q.tup⟩
theorem j_.mv(w:j_ CW CH i τ H W S)(q:Mv i τ H τ' H')(u:qw τ' H'):j_ CW CH i τ' H' W S:=by
 have e1:=q.keep _ _ w.o (.inr (by rw[w.to];rfl));have e2:=q.keep _ _ w.nb (.inr (by rw[w.tb];rfl));have e3:=q.keep _ _ w.hl (.inr (by rw[w.tl];rfl));have e4:=q.keep _ _ w.tn (.inr (by rw[w.tt];rfl));have e5:=q.keep _ _ w.L (.inl w.tL);exact⟨u,w.i0,e1.1,q.tup _ _ w.pg,e5.1,e2.1,e3.1,e4.1,e1.2.trans w.to,e2.2.trans w.tb,e3.2.trans w.tl,e4.2.trans w.tt,e5.2.trans w.tL,w.rl,λk r s h1 h2=>JD (w.rs k r s h1 h2) q,w.len,λk A s h1 h2=>(w.hd k A s h1 h2).mv q,w.ok,w.sl,w.nl,w.hn⟩
theorem j_.same(w:j_ CW CH i τ H W S)(k:Same H H'):j_ CW CH i τ H' W S:=w.mv (Mv.of_same k) (w.un.same k)
theorem j_.hand{k:Nat}{s:bG}(w:j_ CW CH i τ H W S)(h:S.hs[k]? = some s):∃A,W.hd[k]? = some A/\vX CH i k S.m τ H A s:=by
 have:k<W.hd.length:=by rw[w.len];exact(aae.mp h).1
 exact⟨W.hd[k],by simp[this],w.hd k _ _ (by simp[this]) h⟩
end
noncomputable def lZ(CW CH CN:Addr)(K:PySem.W.Frag):Sp:=λvs H Q E=>∃(i:Nat) (τ:Tg) (W:nW) (S:dR) (h:Int),vs=[.ref W.o,.int h]/\j_ CW CH i τ H W S/\(∀(k:Nat)(A:oJ)(s:bG),h=k->W.hd[k]? = some A->S.hs[k]? = some s->Q (.ref A.h) H)/\(¬ur h S.hs.length->E (.ref CN) none H)
theorem Le{ao aq:Addr}{f:Addr}{fd:FuncData}(F:fQ K "hand_of" "Works.hand_of" jo f fd)(d_:FnAt P w K mg base 2 "is_below" ["value","count"] (rY K))(aK:cH K ao)(Bt:mV mg){bD:Addr}(fJ:Xr K mg bD "NoHand"):bR P w K mg base (qJ P w) 3 f fd ["self","hand"] (lZ ao aq bD K):=by
 refine F.RZ uO (λvs H Q E h=>?_) (λcdv A outer s H vs Q E hr h hR=>?_)
 .obtain⟨i,τ,W,S,h,rfl,_⟩:=h
  rfl
 .obtain⟨i,τ,W,S,h,rfl,w,k1,k2⟩:=h
  refine⟨_,(aA (cB (gU (dB (bN d_ (hr.mono (by decide)) (by rfl) (aj (pv 1) (aj (aW (aY (K:=K) rfl) (by rfl) Bt.dW cM (aj (aX (K:=K) rfl (pv 0) rfl) au)) au))))) (aJ (jW PySem.F.excBase_ValueError fJ.ex fJ.bd (by rfl) rfl rfl hR (aj bO au))) bJ)
   (aJ (bA (aO (aP (K:=K) rfl) (aX (K:=K) rfl (pv 0) rfl) (pv 1) (λ_ _=>rfl))))), ?_⟩
  refine⟨_,acg,_,acg,W.o,ao,W.dx,_,_,acg,w.o,aK.cls,aK.kY,acg,W.hl,_,acg,.inl (bI.of w.hl),h,_,acg,_,acg, ?_⟩;have ll:(W.hd.map λa=>V.ref a.h).length=S.hs.length:=by rw[aac,w.len]
  by_cases hh:ur h (W.hd.map λa=>V.ref a.h).length
  .rw[aaq hh]
   refine cU ?_;obtain⟨n,rfl⟩:=ab4 hh.1;have nl:n<S.hs.length:=by have:=hh.2;rw[ll] at this;lia
   have es:S.hs[n]? = some S.hs[n]:=by simp[nl]
   obtain⟨A,eA,_⟩:=w.hand es;exact⟨_,acg,W.o,ao,W.dx,_,_,acg,w.o,aK.cls,aK.kY,acg,_,acg,_,_,_,_,acg,acg,bI.of w.hl,bV (by rw[aaf,eA];rfl),k1 n A _ rfl eA es⟩
  .rw[aar hh]
   refine eO ?_;rw[ll] at hh;exact⟨(by show 1<=sizeLine;decide),k2 hh⟩
noncomputable def v8(CW CH:Addr)(K:PySem.W.Frag):Sp:=λvs H Q _=>∃(i:Nat) (τ:Tg) (W:nW) (S:dR),vs=[.ref W.o]/\j_ CW CH i τ H W S /\ ∀l H',H l=none->H' l=some (.lst (S.ns.map V.int))->Same H H'->Q (.ref l) H'
theorem Qg{ao aq:Addr}{f:Addr}{fd:FuncData}(F:fQ K "cells" "Works.cells" lF f fd)(aK:cH K ao)(Bt:mV mg):bR P w K mg base ig 1 f fd ["self"] (v8 ao aq K):=by
 refine F.ok xr (λvs H Q E h=>?_) (λcdv A outer s H vs Q E hr h=>?_)
 .obtain⟨i,τ,W,S,rfl,_⟩:=h
  rfl
 .obtain⟨i,τ,W,S,rfl,w,k⟩:=h
  refine⟨_,(aJ (bA (cZ (cu (K:=K) rfl) (by rfl) Bt.gH eN (aj (aX (K:=K) rfl (pv 0) rfl) au)))), ?_⟩;exact⟨_,acg,W.o,ao,W.dx,_,_,acg,w.o,aK.cls,aK.iT,acg,W.nb,_,acg,.inl (bI.of w.nb),λl hl=>k l _ hl ak (aG hl)⟩
noncomputable def uI(f:bG->List Int)(CW CH CN:Addr)(K:PySem.W.Frag):Sp:=λvs H Q E=>∃(i:Nat) (τ:Tg) (W:nW) (S:dR) (h:Int),vs=[.ref W.o,.int h]/\j_ CW CH i τ H W S /\
 (∀(k:Nat)(s:bG)(l:Addr)(H':Hp),h=k->S.hs[k]? = some s->H l=none->H' l=some (.lst ((f s).map V.int))->Same H H'->Q (.ref l) H')/\(¬ur h S.hs.length->E (.ref CN) none H)
theorem Qh{ao aq bD:Addr}{f:Addr}{fd:FuncData}(F:fQ K "boxes" "Works.boxes" lG f fd)(dF:jD P w K mg base 3 ao "hand_of" ["self","hand"] (lZ ao aq bD K))(aK:cH K ao)(aL:d9 K aq)(Bt:mV mg):bR P w K mg base (qJ P w) 4 f fd ["self","hand"] (uI bG.bs ao aq bD K):=by
 refine F.RZ xu (λvs H Q E h=>?_) (λcdv A outer s H vs Q E hr h hR=>?_)
 .obtain⟨i,τ,W,S,h,rfl,_⟩:=h
  rfl
 .obtain⟨i,τ,W,S,h,rfl,w,k1,k2⟩:=h
  refine⟨_,(aJ (bA (cZ (cu (K:=K) rfl) (by rfl) Bt.gH eN (aj (aX (K:=K) rfl (pA dF aK.cls rfl hR (hr.mono (by decide)) (pv 0) (aj (pv 1) au)) rfl) au)))), ?_⟩;refine⟨_,acg,W.o,W.dx,_,acg,w.o,acg,_,acg,i,τ,W,S,h,acg,w,λk A s e eA es=>?_,k2⟩;have a:=w.hd k A s eA es;exact⟨A.h,aq,A.hx,_,_,acg,a.c.h,aL.cls,aL.gW,acg,A.b,_,acg,.inl (bI.of a.c.b),λl hl=>k1 k s l _ e es hl ak (aG hl)⟩
theorem Uu{ao aq bD:Addr}{f:Addr}{fd:FuncData}(F:fQ K "said" "Works.said" nG f fd)(dF:jD P w K mg base 3 ao "hand_of" ["self","hand"] (lZ ao aq bD K))(aK:cH K ao)(aL:d9 K aq)(Bt:mV mg):bR P w K mg base (qJ P w) 4 f fd ["self","hand"] (uI bG.sy ao aq bD K):=by
 refine F.RZ zu (λvs H Q E h=>?_) (λcdv A outer s H vs Q E hr h hR=>?_)
 .obtain⟨i,τ,W,S,h,rfl,_⟩:=h
  rfl
 .obtain⟨i,τ,W,S,h,rfl,w,k1,k2⟩:=h
  refine⟨_,(aJ (bA (cZ (cu (K:=K) rfl) (by rfl) Bt.gH eN (aj (aX (K:=K) rfl (pA dF aK.cls rfl hR (hr.mono (by decide)) (pv 0) (aj (pv 1) au)) rfl) au)))), ?_⟩;refine⟨_,acg,W.o,W.dx,_,acg,w.o,acg,_,acg,i,τ,W,S,h,acg,w,λk A s e eA es=>?_,k2⟩;have a:=w.hd k A s eA es;exact⟨A.h,aq,A.hx,_,_,acg,a.c.h,aL.cls,aL.jH,acg,A.sy,_,acg,.inl (bI.of a.c.y),λl hl=>k1 k s l _ e es hl ak (aG hl)⟩
noncomputable def zR(CW CH CN:Addr)(K:PySem.W.Frag):Sp:=λvs H Q E=>∃(i:Nat) (τ:Tg) (W:nW) (S:dR) (h:Int),vs=[.ref W.o,.int h]/\j_ CW CH i τ H W S/\(∀(k:Nat)(s:bG),h=k->S.hs[k]? = some s->Q (.str s.st) H)/\(¬ur h S.hs.length->E (.ref CN) none H)
theorem Yt{ao aq bD:Addr}{f:Addr}{fd:FuncData}(F:fQ K "how" "Works.how" oY f fd)(dF:jD P w K mg base 3 ao "hand_of" ["self","hand"] (lZ ao aq bD K))(aK:cH K ao)(aL:d9 K aq):bR P w K mg base (qJ P w) 4 f fd ["self","hand"] (zR ao aq bD K):=by
 refine F.RZ Bx (λvs H Q E h=>?_) (λcdv A outer s H vs Q E hr h hR=>?_)
 .obtain⟨i,τ,W,S,h,rfl,_⟩:=h
  rfl
 .obtain⟨i,τ,W,S,h,rfl,w,k1,k2⟩:=h
  refine⟨_,(aJ (bA (aX (K:=K) rfl (pA dF aK.cls rfl hR (hr.mono (by decide)) (pv 0) (aj (pv 1) au)) rfl))), ?_⟩;refine⟨_,acg,W.o,W.dx,_,acg,w.o,acg,_,acg,i,τ,W,S,h,acg,w,λk A s e eA es=>?_,k2⟩;have a:=w.hd k A s eA es;exact⟨A.h,aq,A.hx,_,_,acg,a.c.h,aL.cls,aL.iZ,acg,k1 k s e es⟩
noncomputable def vU(S:dR):List Int:=(List.range S.hs.length).map λk:Nat=>((S.ts.count (k:Int):Nat):Int)
noncomputable def oU(CW CH:Addr)(K:PySem.W.Frag):Sp:=λvs H Q _=>∃(i:Nat) (τ:Tg) (W:nW) (S:dR),vs=[.ref W.o]/\j_ CW CH i τ H W S /\ ∀l H',H l=none->H' l=some (.lst ((vU S).map V.int))->Same H H'->Q (.ref l) H'
theorem Lg{ao aq:Addr}{f:Addr}{fd:FuncData}(F:fQ K "counts" "Works.counts" jM f fd)(aK:cH K ao)(Bt:mV mg):bR P w K mg base ig 1 f fd ["self"] (oU ao aq K):=by
 refine F.ok vN (λvs H Q E h=>?_) (λcdv A outer s H vs Q E hr h=>?_)
 .obtain⟨i,τ,W,S,rfl,_⟩:=h
  rfl
 .obtain⟨i,τ,W,S,rfl,w,k⟩:=h
  refine⟨_,(aJ (bA (dI rfl (N:=["hand","self"]) (own:=["hand"]) (caps:=[0]) (bB.of (by kernel_rfl)) (cR (by rfl) Bt.dN (aj (aW (aY (K:=K) rfl) (by rfl) Bt.dW cM (aj (aX (K:=K) rfl (pv 0) rfl) au)) au)) (λ_ _ _ _=>(bL (i:=0) (show List.Nodup (["hand","self"]:List Str) by decide +kernel) rfl (Or.inl rfl))) (λ_ _ _ _=>cO) (λ_ _ _ _=>(q_ (K:=K) rfl PySem.F.plainAttrs_list PySem.F.slot_list_count PySem.F.type_list_count (ql (K:=K) rfl) (aX (K:=K) rfl (pv 1) rfl) (aj (pv 0) au)))))), ?_⟩;have ll:(W.hd.map λa=>V.ref a.h).length=S.hs.length:=by rw[aac,w.len]
  refine⟨_,acg,W.o,ao,W.dx,_,_,acg,w.o,aK.cls,aK.kY,acg,W.hl,_,acg,.inl (bI.of w.hl),_,acg,(by rw[ll];have:=w.hn;lia),(by rw[ll];have:=w.hn;lia),λD hD=>?_⟩;rw[ll,aa5];refine qm (λj:Nat=>some (.int ((S.ts.count (j:Int):Nat):Int))) hD (by have:=w.hn;lia) (λj H1 G F hj s1 kG kF=>?_) (λH1 s1 e1=>?_)
  .refine⟨_,acg,W.o,ao,W.dx,_,_,acg,s1 _ _ w.o,aK.cls,aK.qg,acg,.inl ⟨acg,_,bI.of (s1 _ _ w.tn)⟩,_,acg,_,S.ts,_,acg,acg,bI.of (s1 _ _ w.tn),kF _ H1 (Same.refl _) (by rw[Int.zero_add])⟩
  .refine k D H1 hD ?_ s1
   rw[e1];unfold vU;rw[abE,List.filterMap_eq_map'];rfl
noncomputable def GR(CW CH:Addr)(K:PySem.W.Frag):Sp:=λvs H Q _=>∃(i:Nat) (τ:Tg) (W:nW) (S:dR),vs=[.ref W.o]/\j_ CW CH i τ H W S/\Q (.int S.ts.length) H
theorem Uo{ao aq:Addr}{f:Addr}{fd:FuncData}(F:fQ K "__len__" "Works.__len__" jq f fd)(aK:cH K ao)(Bt:mV mg):bR P w K mg base ig 1 f fd ["self"] (GR ao aq K):=by
 refine F.ok uP (λvs H Q E h=>?_) (λcdv A outer s H vs Q E hr h=>?_)
 .obtain⟨i,τ,W,S,rfl,_⟩:=h
  rfl
 .obtain⟨i,τ,W,S,rfl,w,k⟩:=h
  refine⟨_,(aJ (bA (aW (aY (K:=K) rfl) (by rfl) Bt.dW cM (aj (aX (K:=K) rfl (pv 0) rfl) au)))), ?_⟩;refine⟨_,acg,W.o,ao,W.dx,_,_,acg,w.o,aK.cls,aK.qg,acg,W.tn,_,acg,.inl (bI.of w.tn), ?_⟩;rw[aac];exact k
structure qI(C:List (List Nat))(τ:Tg)(H:Hp)(τ':Tg)(H':Hp):Prop where
 keep:∀x u,H x=some u->τ x∉C->H' x=some u/\τ' x=τ x
 tup:∀x xs,H x=some (.tup xs)->H' x=some (.tup xs)
theorem qI.of_same{C:List (List Nat)}{τ:Tg}{H H':Hp}(k:Same H H'):qI C τ H τ H':=⟨λx u e _=>⟨k _ _ e,acg⟩,k.tups⟩
theorem qI.claim{C:List (List Nat)}{τ:Tg}{H H':Hp}{p:Addr}{t:List Nat}(k:Same H H')(hp:H p=none):qI C τ H (aR τ p t) H':=⟨λx u e _=>⟨k _ _ e,aV (aB e hp)⟩,k.tups⟩
theorem qI.set{C:List (List Nat)}{τ:Tg}{H:Hp}{x:Addr}{o u:HO}(ht:τ x∈C)(hx:H x=some o)(hn:∀xs,o ≠ .tup xs):qI C τ H τ (upd H x u):=
 ⟨λy v e n=>⟨by rw[aF (λz:y=x=>n (by rw[z];exact ht))];exact e,acg⟩,λy xs e=>by rw[aF (dg e hx λz=>hn xs z.symm)];exact e⟩
theorem qI.trans{C:List (List Nat)}{τ τ1 τ2:Tg}{H H1 H2:Hp}(a:qI C τ H τ1 H1)(b:qI C τ1 H1 τ2 H2):qI C τ H τ2 H2:=⟨λx u e n=>by
 obtain⟨e1,t1⟩:=a.keep x u e n;obtain⟨e2,t2⟩:=b.keep x u e1 (by rw[t1];exact n);exact⟨e2,by rw[t2,t1]⟩,λx xs e=>b.tup _ _ (a.tup _ _ e)⟩
theorem vX.mvT{C:List (List Nat)}{CH:Addr}{i k m:Nat}{τ τ':Tg}{H H':Hp}{A:oJ}{s:bG}(h:vX CH i k m τ H A s)(q:qI C τ H τ' H')(h0:[0]∉C)(h4:[i,4,k]∉C)(h5:[i,5,k]∉C)(h6:[i,6,k]∉C):vX CH i k m τ' H' A s:=by
 obtain⟨⟨c1,c2,c3,c4,c5⟩,r,tr,th,tb,ty⟩:=h;have e1:=q.keep _ _ c1 (by rw[th];exact h4);have e2:=q.keep _ _ c2 (by rw[tb];exact h5);have e3:=q.keep _ _ c3 (by rw[ty];exact h6);have rr:=r;obtain⟨ts,hr,_⟩:=rr;have e4:=q.keep _ _ hr (by rw[tr];exact h0);exact⟨⟨e1.1,e2.1,e3.1,c4,c5⟩,r.keep (λo e=>(q.keep _ _ e (by rw[tr];exact h0)).1) q.tup,e4.2.trans tr,e1.2.trans th,e2.2.trans tb,e3.2.trans ty⟩
theorem gK{C:List (List Nat)}{τ τ':Tg}{H H':Hp}{r:Addr}{m:Nat}{rws:List Rw}(h:τ r=[0]/\dO H r m rws)(q:qI C τ H τ' H')(h0:[0]∉C):τ' r=[0]/\dO H' r m rws:=by
 obtain⟨t,R⟩:=h;have rr:=R;obtain⟨ts,hr,_⟩:=rr;have e4:=q.keep _ _ hr (by rw[t];exact h0);exact⟨e4.2.trans t,R.keep (λo e=>(q.keep _ _ e (by rw[t];exact h0)).1) q.tup⟩
noncomputable def Bj(CW CH CN CO:Addr)(K:PySem.W.Frag):Sp:=λvs H Q E=>∃(i:Nat) (τ:Tg) (W:nW) (S:dR) (h:Int),vs=[.ref W.o,.int h]/\j_ CW CH i τ H W S/\S.ts.length<=10000 /\
 (∀(k:Nat)(s:bG)(r:Rw)(t:Addr)(H':Hp),h=k->S.hs[k]? = some s->s.st = "waits" -> s.rws[s.pos]? = some r->touch r=true->H t=none->H' t=some (.tup (wM S.ns s.bs r))->j_ CW CH i τ H' W (cJ S k)->mQ i τ H H'->Q (.ref t) H') /\
 (¬ur h S.hs.length->E (.ref CN) none H)/\(∀(k:Nat)(s:bG),h=k->S.hs[k]? = some s->s.st ≠ "waits" -> E (.ref CO) none H)
theorem NQ{S:dR}{k:Nat}{s:bG}{r:Rw}(es:S.hs[k]? = some s)(er:s.rws[s.pos]? = some r):cJ S k={S with ns:=dD S.ns s.bs r,hs:=S.hs.set k (kZ S.ns s r),ts:=S.ts++[(k:Int)]}:=by
 unfold cJ;simp only[es,er]
theorem Io(ns bs:List Int)(r:Rw):(dD ns bs r).length=ns.length:=by cases r<;>simp[dD]
theorem j_.turned{CW CH:Addr}{i:Nat}{τ:Tg}{H H':Hp}{W:nW}{S:dR}{k:Nat}{A:oJ}{s:bG}{r:Rw}(w:j_ CW CH i τ H W S)(eA:W.hd[k]? = some A)(es:S.hs[k]? = some s)(er:s.rws[s.pos]? = some r)(kp:∀x u,H x=some u->x≠W.nb->x≠A.b->x≠A.h->x≠A.sy->x≠W.tn->H' x=some u)(c:n_ CH H' A (kZ S.ns s r))(hnb:H' W.nb=some (.lst ((dD S.ns s.bs r).map V.int)))(htn:H' W.tn=some (.lst ((S.ts++[(k:Int)]).map V.int))):j_ CW CH i τ H' W (cJ S k)/\mQ i τ H H':=by
 have a:=w.hd k A s eA es;have tup:∀x xs,H x=some (.tup xs)->H' x=some (.tup xs):=λx xs e=>kp _ _ e (dg e w.nb (by intro z;cases z)) (dg e a.c.b (by intro z;cases z)) (dg e a.c.h (by intro z;cases z)) (dg e a.c.y (by intro z;cases z)) (dg e w.tn (by intro z;cases z))
 have st:mQ i τ H H':=by
  refine⟨λx u e n=>?_,tup,λx e=>?_⟩
  .have ne:∀(y:Addr)(t:List Nat),τ y=i::t->x≠y:=λy t ty z=>n (by rw[z,ty];rfl)
   exact kp _ _ e (ne _ _ w.tb) (ne _ _ a.tb) (ne _ _ a.th) (ne _ _ a.ty) (ne _ _ w.tt)
  .cases q:H x with
   | none=>rfl
   | some u=>
     have no:∀y o,H' y=some o->x≠y:=λy o h z=>by rw[z,h] at e;cases e
     rw[kp _ _ q (no _ _ hnb) (no _ _ c.b) (no _ _ c.h) (no _ _ c.y) (no _ _ htn)] at e;cases e
 refine⟨?_,st⟩
 have q:qI [[i,1],[i,5,k],[i,4,k],[i,6,k],[i,3]] τ H τ H':=by
  refine⟨λx u e n=>⟨?_,acg⟩,tup⟩;have ne:∀(y:Addr)(t:List Nat),τ y=t->t∈[[i,1],[i,5,k],[i,4,k],[i,6,k],[i,3]]->x≠y:=λy t ty ht z=>n (by rw[z,ty];exact ht);exact kp _ _ e (ne _ _ w.tb (by simp)) (ne _ _ a.tb (by simp)) (ne _ _ a.th (by simp)) (ne _ _ a.ty (by simp)) (ne _ _ w.tt (by simp))
 have i0:=w.i0;have z0:[0]∉[[i,1],[i,5,k],[i,4,k],[i,6,k],[i,3]]:=by simp
 rw[NQ es er];have hk:k<S.hs.length:=(aae.mp es).1
 have get:∀(j:Nat)(s':bG),(S.hs.set k (kZ S.ns s r))[j]? = some s'->(j=k/\s'=kZ S.ns s r)\/(j≠k/\S.hs[j]? = some s'):=λj s' e=>by
  rw[List.getElem?_set] at e
  by_cases z:k=j
  .subst z
   simp[hk] at e;exact .inl ⟨acg,e.symm⟩
  .rw[ab' z] at e
   exact .inr ⟨λy=>z y.symm,e⟩
 have gr:(kZ S.ns s r).rws=s.rws:=tG _ _;have mem:∀s'∈S.hs.set k (kZ S.ns s r),s'=kZ S.ns s r\/s'∈S.hs:=λs' m=>(List.mem_or_eq_of_mem_set m).symm;refine⟨st.un w.un,i0,(q.keep _ _ w.o (by rw[w.to];simp)).1,tup _ _ w.pg,(q.keep _ _ w.L (by rw[w.tL];exact z0)).1,hnb,(q.keep _ _ w.hl (by rw[w.tl];simp)).1,htn,w.to,w.tb,w.tl,w.tt,w.tL, ?_, ?_, ?_, ?_, ?_, ?_, ?_, ?_⟩
 .simp[w.rl]
 .intro j r' s' h1 h2
  rcases get j s' h2 with ⟨rfl,rfl⟩|⟨_,h2⟩
  .rw[gr]
   exact gK (w.rs j r' s h1 es) q z0
  .exact gK (w.rs j r' s' h1 h2) q z0
 .simp[w.len]
 .intro j A' s' h1 h2
  rcases get j s' h2 with ⟨rfl,rfl⟩|⟨nj,h2⟩
  .rw[eA] at h1
   cases h1;refine⟨c, ?_,a.tr,a.th,a.tb,a.ty⟩;rw[gr];exact(gK ⟨a.tr,a.r⟩ q z0).2
  .exact(w.hd j A' s' h1 h2).mvT q z0 (by simp[nj]) (by simp[nj]) (by simp[nj])
 .intro s' m
  rcases mem s' m with rfl|m
  .exact HW _ _
  .exact w.ok s' m
 .intro s' m
  simp only[aaD,List.length_singleton];rcases mem s' m with rfl|m
  .have:=HS 60 {s with pos:=s.pos+1,bs:=rH S.ns s.bs r}
   have:=w.sl s (aap es);show (led 60 _).sy.length<=_;simp only at *;lia
  .have:=w.sl s' m
   lia
 .show (dD S.ns s.bs r).length=S.m
  rw[Io,w.nl]
 .simp[w.hn]
theorem Us{ao aq bD g_:Addr}{f:Addr}{fd:FuncData}(F:fQ K "turn" "Works.turn" nF f fd)(dF:jD P w K mg base 3 ao "hand_of" ["self","hand"] (lZ ao aq bD K))(vg:MethAt P w K mg base 4 ao "touch_by" ["self","one"] (uH ao aq K))(j7:MethAt P w K mg base 6 aq "lead_on" ["self"] (Bq aq K))(aK:cH K ao)(aL:d9 K aq)(pR:Xr K mg g_ "Over"):bR P w K mg base (qJ P w) 7 f fd ["self","hand"] (Bj ao aq bD g_ K):=by
 refine F.RZ lB (λvs H Q E h=>?_) (λcdv A outer s H vs Q E hr h hR=>?_)
 .obtain⟨i,τ,W,S,h,rfl,_⟩:=h
  rfl
 .obtain⟨i,τ,W,S,h,rfl,w,tl,k1,k2,k3⟩:=h
  refine⟨_,(aA (bH (i:=2) lB.nd rfl (Or.inl rfl) (pA dF aK.cls rfl hR (hr.mono (by decide)) (pv 0) (aj (pv 1) au)))
   (aA (cB (bF kW (aX (K:=K) rfl (pv 2) rfl) bO (bw _)) (aJ (jW PySem.F.excBase_ValueError pR.ex pR.bd (by rfl) rfl rfl hR (aj bO au))) bJ)
   (aA (bH (i:=3) lB.nd rfl (Or.inl rfl) (b_ vg aK.cls (hr.mono (by decide)) (pv 0) (aj (pv 2) au)))
   (aA (xY (K:=K) rfl (pv 2) aC Cy)
   (aA (dh (cC j7 aL.cls (hr.mono (by decide)) (pv 2)))
   (aA (dh (eZ (K:=K) rfl (aX (K:=K) rfl (pv 0) rfl) (aj (pv 1) au)))
   (aJ (bA (pv 3))))))))), ?_⟩
  refine⟨_,acg,W.o,W.dx,_,acg,w.o,acg,_,acg,i,τ,W,S,h,acg,w,λk A s e eA es=>?_,k2⟩;have a:=w.hd k A s eA es;refine⟨_,acg,A.h,aq,A.hx,_,_,acg,a.c.h,aL.cls,aL.iZ,acg,acg,_,acg, ?_⟩
  by_cases wt:s.st = "waits"
  rotate_left
  .refine cP (λ_=>?_) (λz=>ace (by simp[wt]) z)
   exact⟨(by show 1<=sizeLine;decide),k3 k s e es wt⟩
  refine tK (by rw[wt]) ?_;obtain⟨r,er,tr⟩:=w.ok s (aap es) wt;have Wu:W.nb≠A.b:=dX w.tb a.tb (by simp);have Z7:W.nb≠A.sy:=dX w.tb a.ty (by simp);refine⟨_,acg,W.o,W.dx,_,acg,w.o,acg,_,acg,W.o,W.dx,W.pg,W.nb,W.hl,W.tn,A,s,S.m,S.ns,r,acg,w.o,w.nb,w.nl,a.c,a.r,er,tr,Wu,Z7,λt H1 tf t1 c1 nb1 p1=>?_⟩;refine⟨_,acg,A.h,aq,A.hx,_,_,acg,c1.h,aL.cls,aL.sY,acg,_,_,acg,acg,A.hx,_,c1.h,(by show 5<1000;decide), ?_⟩;rw[xV];have c2:=c1.qT (s.pos+1) s.st;have p2:KH A H1 (upd H1 A.h (.ins aq A.hx (hF A.r ((s.pos+1:Nat):Int) A.b A.sy s.st))):=KH.qT;have t2:=c1.tup p2 _ _ t1;dsimp only;rw[show ((s.pos:Nat):Int)+1=((s.pos+1:Nat):Int) by lia];generalize (upd H1 A.h (.ins aq A.hx (hF A.r ((s.pos+1:Nat):Int) A.b A.sy s.st)))=H2 at c2 p2 t2 ⊢;have nrb:A.r≠A.b:=dX a.tr a.tb (by intro z;cases z);have nry:A.r≠A.sy:=dX a.tr a.ty (by intro z;cases z);have nrh:A.r≠A.h:=dX a.tr a.th (by intro z;cases z);have nrn:A.r≠W.nb:=dX a.tr w.tb (by intro z;cases z);have KY:∀x xs,H x=some (.tup xs)->H2 x=some (.tup xs):=λx xs q=>c1.tup p2 _ _ (p1 _ _ q (dg q w.nb (by intro z;cases z)) (dg q a.c.b (by intro z;cases z)));have R2:dO H2 A.r S.m s.rws:=a.r.keep (λo q=>p2 _ _ (p1 _ _ q nrn nrb) nrh nrb nry) KY;have sl:=w.sl s (aap es);refine⟨_,acg,A.h,A.hx,_,acg,c2.h,acg,A,_,S.m,acg,c2,R2,nrb,nry,by show s.sy.length<_;lia,λH3 c3 p3=>?_⟩;have k13:∀x u,H x=some u->x≠W.nb->x≠A.b->x≠A.h->x≠A.sy->H3 x=some u:=λx u q n1 n2 n3 n4=>p3 _ _ (p2 _ _ (p1 _ _ q n1 n2) n3 n2 n4) n3 n2 n4;have o3:=k13 _ _ w.o (dX w.to w.tb (by simp)) (dX w.to a.tb (by simp)) (dX w.to a.th (by simp)) (dX w.to a.ty (by simp));have tn3:=k13 _ _ w.tn (dX w.tt w.tb (by simp)) (dX w.tt a.tb (by simp)) (dX w.tt a.th (by simp)) (dX w.tt a.ty (by simp));have nb3:=p3 _ _ (p2 _ _ nb1 (dX w.tb a.th (by simp)) Wu Z7) (dX w.tb a.th (by simp)) Wu Z7;have t3:=c2.tup p3 _ _ t2;refine⟨_,acg,W.o,ao,W.dx,_,_,acg,o3,aK.cls,aK.qg,acg,.inl ⟨acg,_,bI.of tn3⟩,_,acg,_,_,_,acg,acg,tn3,(by rw[aac,sizeLine_eq];lia), ?_⟩;have k14:∀x u,H x=some u->x≠W.nb->x≠A.b->x≠A.h->x≠A.sy->x≠W.tn->(upd H3 W.tn (.lst (S.ts.map V.int++[V.int h]))) x=some u:=λx u q n1 n2 n3 n4 n5=>by rw[aF n5];exact k13 x u q n1 n2 n3 n4
  have nbt:W.nb≠W.tn:=dX w.tb w.tt (by simp);have c4:n_ aq (upd H3 W.tn (.lst (S.ts.map V.int++[V.int h]))) A (kZ S.ns s r):=⟨by rw[aF (dX a.th w.tt (by simp))];exact c3.h,by rw[aF (dX a.tb w.tt (by simp))];exact c3.b,by rw[aF (dX a.ty w.tt (by simp))];exact c3.y,c3.Lk,c3.bl⟩;obtain⟨w4,st⟩:=w.turned (H':=upd H3 W.tn (.lst (S.ts.map V.int++[V.int h]))) eA es er k14 c4 (by rw[aF nbt];exact nb3) (by rw[ak,aa3,e];rfl);refine⟨_,acg,k1 k s r t _ e es wt er tr tf ?_ w4 st⟩;rw[aF (dg t3 tn3 (by intro z;cases z))];exact t3
structure Bs(H0:Hp)(τ0:Tg)(o:Addr)(τ:Tg)(H:Hp):Prop where
 un:qw τ H
 kp:Kp o H0 H
 tg:∀x u,H0 x=some u->x≠o->τ x=τ0 x
theorem Bs.same{H0 H H':Hp}{τ0 τ:Tg}{o:Addr}(b:Bs H0 τ0 o τ H)(k:Same H H'):Bs H0 τ0 o τ H':=⟨b.un.same k,b.kp.trans (Kp.of_same k),b.tg⟩
theorem Bs.claim{H0 H H':Hp}{τ0 τ:Tg}{o p:Addr}{t:List Nat}(b:Bs H0 τ0 o τ H)(k:Same H H')(hp:H p=none)(hp':∃u,H' p=some u):Bs H0 τ0 o (aR τ p t) H':=
 ⟨b.un.claim k hp',b.kp.trans (Kp.of_same k),λx u e n=>by rw[aV (aB (b.kp _ _ e n) hp)];exact b.tg x u e n⟩
theorem Bs.set{H0 H:Hp}{τ0 τ:Tg}{o x:Addr}{v:HO}(b:Bs H0 τ0 o τ H)(hx:x=o\/H0 x=none):Bs H0 τ0 o τ (upd H x v):=
 ⟨b.un.dom (λy e=>by
   by_cases z:y=x
   .rw[z,ak] at e;cases e
   .rw[aF z] at e;exact e),λy u e n=>by
   have z:y≠x:=by
    rcases hx with rfl|hx
    .exact n
    .exact aB e hx
   rw[aF z];exact b.kp _ _ e n,b.tg⟩
theorem Bs.fresh{H0 H:Hp}{τ0 τ:Tg}{o p:Addr}(b:Bs H0 τ0 o τ H)(hp:H p=none)(n:p≠o):H0 p=none:=wu b.kp n hp
noncomputable def m8(CW CH CN:Addr)(K:PySem.W.Frag):Sp:=λvs H Q E=>∃(i:Nat) (τ:Tg) (o dx p L0:Addr) (TQ:List Addr) (m:Nat) (cv:V) (ns:List Int) (rws:List (List Rw)),vs=[.ref o,.ref p,cv]/\H o=some (.ins CW dx [])/\H p=some (.tup [.int m,.ref L0])/\H L0=some (.lst (TQ.map V.ref))/\TQ.length=rws.length /\
 (∀(k:Nat)(r:Addr)(x:List Rw),TQ[k]? = some r->rws[k]? = some x->dO H r m x)/\rws.length<=100/\m<=100/\qw τ H/\i≠0/\ns.length<=100/\((cv = .non/\ns=List.replicate m 0) \/ ∃cl,cv = .ref cl/\H cl=some (.lst (ns.map V.int))) /\
 (pC m ns -> ∀(τ':Tg)(W:nW)(H':Hp),W.o=o->j_ CW CH i τ' H' W (vV m ns rws)->(∀x u,H x=some u->x≠o->τ' x=τ x)->Kp o H H'->Q .non H')/\(¬pC m ns -> ∀H',Kp o H H'->E (.ref CN) none H')
theorem mK{α:Type}{l:List α}{x y:α}{k:Nat}(h:(l++[x])[k]? = some y):l[k]? = some y\/(k=l.length/\y=x):=by
 by_cases e:k<l.length
 .rw[aaO e] at h
  exact .inl h
 .rw[aaL (by lia)] at h
  have lt:=(aae.mp h).1;simp at lt;have:k=l.length:=by lia
  subst this;simp at h;exact .inr ⟨acg,h.symm⟩
theorem PK{ao aq:Addr}{f:Addr}{fd:FuncData}(F:V1 K "__init__" "Works.__init__" bU [.none] f fd)(aK:cH K ao)(aL:d9 K aq){bW:Addr}(vY:RM P w K mg base 3 "check_numbers" ["cells","count"] (qR bW K))(Ja:pW P w K mg base 1 aq "Hand" ["self","rows"] [] (v7 aq K))(j7:MethAt P w K mg base 6 aq "lead_on" ["self"] (Bq aq K))(Bt:mV mg):bR P w K mg base (qJ P w) 7 f fd ["self","program","cells"] (m8 ao aq bW K):=by
 refine F.RZ lC (λvs H Q E h=>?_) (λcdv A outer s H vs Q E hr h hR=>?_)
 .obtain⟨i,τ,o,dx,p,L0,TQ,m,cv,ns,rws,rfl,_⟩:=h
  rfl
 .obtain⟨i,τ,o,dx,p,L0,TQ,m,cv,ns,rws,rfl,ho,hp,hL,lr,abq,rl,ml,un,i0,nl,hcv,k1,k2⟩:=h
  refine⟨_,(aA (cB (bF Cj (pv 2) jY (bw _)) (aJ (kE (i:=2) rfl lC.nd rfl (Or.inl rfl) (N:=["cell"]) (own:=["cell"]) (caps:=[]) (bB.of (by kernel_rfl)) (cR (by rfl) Bt.dN (aj (aO (aU (K:=K) rfl) (pv 1) aC (λ_ _=>rfl)) au)) (λ_ _ _ _=>(bL (i:=0) (show List.Nodup (["cell"]:List Str) by decide +kernel) rfl (Or.inl rfl))) (λ_ _ _ _=>cO) (λ_ _ _ _=>aC))) bJ)
   (aA (dh (Ye vY rfl hR (hr.mono (by decide)) (by rfl) (aj (pv 2) (aj (aO (aU (K:=K) rfl) (pv 1) aC (λ_ _=>rfl)) au))))
   (aA (cT (K:=K) rfl (pv 0) (cX (aj (aO (aU (K:=K) rfl) (pv 1) aC (λ_ _=>rfl)) (aj (dI rfl (N:=["rows"]) (own:=["rows"]) (caps:=[]) (bB.of (by kernel_rfl)) (dH (K:=K) rfl (aO (aU (K:=K) rfl) (pv 1) aC (λ_ _=>rfl))) (λ_ _ _ _=>(bL (i:=0) (show List.Nodup (["rows"]:List Str) by decide +kernel) rfl (Or.inl rfl))) (λ_ _ _ _=>cO) (λ_ _ _ _=>(cZ (cu (K:=K) rfl) (by rfl) Bt.gH eN (aj (pv 0) au)))) au))) rfl)
   (aA (cT (K:=K) rfl (pv 0) (cZ (cu (K:=K) rfl) (by rfl) Bt.gH eN (aj (pv 2) au)) rfl)
   (aA (cT (K:=K) rfl (pv 0) (dI rfl (N:=["rows"]) (own:=["rows"]) (caps:=[]) (bB.of (by kernel_rfl)) (dH (K:=K) rfl (aO (aU (K:=K) rfl) (aX (K:=K) rfl (pv 0) rfl) aC (λ_ _=>rfl))) (λ_ _ _ _=>(bL (i:=0) (show List.Nodup (["rows"]:List Str) by decide +kernel) rfl (Or.inl rfl))) (λ_ _ _ _=>cO) (λ_ _ _ _=>(mF Ja (hr.mono (by decide)) (by rfl) (aj (pv 0) au)))) rfl)
   (aA (cT (K:=K) rfl (pv 0) (cY au) rfl)
   (aJ (jr PassesOwn.leaving rfl (dH (K:=K) rfl (aX (K:=K) rfl (pv 0) rfl)) (bL (i:=3) lC.nd rfl (Or.inl rfl))
   (aJ (dh (cC j7 aL.cls (hr.mono (by decide)) (pv 3)))))))))))), ?_⟩
  refine Bw (λσ H1=>∃cl:Addr,σ=[some (.ref o),some (.ref p),some (.ref cl),none]/\H1 cl=some (.lst (ns.map V.int))/\Same H H1) (λD' hD' rt'=>?_) ?_
  .refine⟨_,acg,acg,_,acg, ?_⟩
   rcases hcv with ⟨rfl,rfl⟩|⟨cl,rfl,hcl⟩
   .refine eO ?_
    refine⟨_,acg,_,_,_,_,acg,acg,cD.of hp,acg,_,acg,by lia,by lia,λD hD=>?_⟩;rw[aa5];refine qm (λ_=>some (.int 0)) hD (by lia) (λi H1 G F hi s1 kG kF=>kF _ H1 (Same.refl _) rfl) (λH1 s1 e1=>?_);rw[CV] at e1;exact hD' _ _ ⟨D,acg,e1,s1⟩
   .refine cU ?_
    exact hD' _ _ ⟨cl,acg,hcl,Same.refl _⟩
  rintro σ H1 ⟨cl,rfl,hcl,s1⟩;have hp1:=s1 _ _ hp;refine sE (λR g=>?_);refine⟨_,acg,_,acg,_,_,_,_,acg,acg,cD.of hp1,acg,cl,m,ns,acg,hcl,nl,λgood H2 s2=>?_,λbad H2 s2=>k2 bad H2 (Kp.of_same (s1.trans s2))⟩;refine g _ _ ?_;have XH:=s1.trans s2;have ho2:=XH _ _ ho;have hp2:=XH _ _ hp;have hL2:=XH _ _ hL;have abx:=s2 _ _ hcl;have Y8:∀(k:Nat)(r:Addr)(x:List Rw),TQ[k]? = some r->rws[k]? = some x->dO H2 r m x:=λk r x a b=>(abq k r x a b).same XH;have B2:Bs H τ o (aR τ o [i,0]) H2:=⟨λx e=>by rw[aV (aB ho2 e).symm];exact un.same XH x e,Kp.of_same XH,λx u e n=>aV n⟩;have to2:aR τ o [i,0] o=[i,0]:=bK;generalize aR τ o [i,0]=τ2 at B2 to2;refine sE (λR g=>?_);refine⟨_,acg,_,_,_,_,acg,acg,cD.of hp2,acg,_,acg,_,_,_,_,acg,acg,cD.of hp2,acg,L0,acg,⟨_,bI.of hL2⟩,λL hLn=>?_⟩;have sL:=aG (o:=HO.lst []) hLn;have nLo:L≠o:=(aB ho2 hLn).symm;refine gA (K:=K) (xs:=TQ.map V.ref) (λj σ Hc=>∃(v:Option V) (τc:Tg) (rs:List Addr),σ=[v]/\rs.length=j/\Same H2 Hc/\Hc L=some (.lst (rs.map V.ref))/\Bs H τ o τc Hc/\τc o=[i,0]/\τc L=[0] /\ ∀(k:Nat)(r:Addr)(x:List Rw),rs[k]? = some r->rws[k]? = some x->r≠L/\τc r=[0]/\dO Hc r m x) ?_ ?_ ?_ ?_
  .exact⟨none,aR τ2 L [0],[],acg,acg,sL,ak,B2.claim sL hLn ⟨_,ak⟩,by rw[aV nLo.symm];exact to2,bK,λk r x h=>by simp at h⟩
  .rintro j σ Hc hj ⟨v,τc,rs,rfl,_,sc,_⟩
   exact bI.of (sc _ _ hL2)
  .rintro j x σ Hc hj ⟨v,τc,rs,rfl,lj,sc,hLc,Bc,toc,tLc,hc⟩
   rw[aaf] at hj
   obtain⟨r0,er0,rfl⟩:∃r0,TQ[j]? = some r0/\x = .ref r0:=by
    cases e:TQ[j]? with
    | none=>rw[e] at hj;cases hj
    | some r0=>rw[e] at hj;exact⟨r0,acg,(aaC hj).symm⟩
   have jl:j<rws.length:=by rw[←lr];exact(aae.mp er0).1
   have ex:rws[j]? = some rws[j]:=by simp[jl]
   have rr:=Y8 j r0 _ er0 ex;obtain⟨ts,hts,dts,rq,rl'⟩:=rr;dsimp only[cN,qF];rw[acd rfl];refine⟨_,acg,r0,_,acg,.inl (bI.of (sc _ _ hts)),λr hrn=>?_⟩;have sr:=aG (o:=HO.lst ts) hrn;have nrL:r≠L:=(aB hLc hrn).symm;have nro:r≠o:=(aB (sc _ _ ho2) hrn).symm;have hLf:H L=none:=XH.free hLn;refine⟨rs.map V.ref,sr _ _ hLc,(by rw[aac,sizeLine_eq];lia),some (.ref r0),aR τc r [0],rs++[r],acg,by simp[lj],λy u e=>?_,by rw[ak];simp,(Bc.claim sr hrn ⟨_,ak⟩).set (.inr hLf), ?_, ?_, ?_⟩
   .rw[aF (aB e hLn)]
    exact sr _ _ (sc _ _ e)
   .rw[aV nro.symm];exact toc
   .rw[aV nrL.symm];exact tLc
   .intro k r' x' h1 h2
    have tups:∀y ys,Hc y=some (.tup ys)->(upd (upd Hc r (.lst ts)) L (.lst (rs.map V.ref++[V.ref r]))) y=some (.tup ys):=λy ys e=>by
     rw[aF (dg e hLc (by intro z;cases z))];exact sr _ _ e
    rcases mK h1 with h1|⟨e1,rfl⟩
    .obtain⟨n1,t1,R1⟩:=hc k r' x' h1 h2
     have rr:=R1;obtain⟨ts',hr',_⟩:=rr;have n2:r'≠r:=aB hr' hrn;refine⟨n1,by rw[aV n2];exact t1,R1.keep (λu e=>?_) tups⟩;rw[aF n1];exact sr _ _ e
    .rw[e1,lj,ex] at h2
     cases h2;refine⟨nrL,bK,ts,by rw[aF nrL,ak], ?_,rq,rl'⟩;exact dts.keep (λy ys e=>tups _ _ (sc _ _ e)) _ (Fy _)
  rintro σ H3 ⟨v,τ3,rs,rfl,lrs,Wd,hL3,B3,to3,tL3,hr3⟩;rw[aac] at lrs;have Y9:=Wd _ _ ho2;refine⟨(by show 2<=sizeLine;decide),λpg hpg=>?_⟩;have spg:=aG (o:=HO.tup [V.int m,V.ref L]) hpg;refine⟨_,acg,o,ao,dx,_,acg,spg _ _ Y9,aK.cls,aK.qj,(by show 0<1000;decide), ?_⟩;refine g _ _ ?_;have ae2:pg≠o:=(aB Y9 hpg).symm;have ho4:(upd (upd H3 pg (.tup [V.int m,V.ref L])) o (.ins ao dx (cG "program" (.ref pg) []))) o=some (.ins ao dx [("program",.ref pg)]):=ak;have abt:(upd (upd H3 pg (.tup [V.int m,V.ref L])) o (.ins ao dx (cG "program" (.ref pg) []))) pg=some (.tup [V.int m,V.ref L]):=by rw[aF ae2,ak]
  have q4:qI [[i,0]] τ3 H3 τ3 (upd (upd H3 pg (.tup [V.int m,V.ref L])) o (.ins ao dx (cG "program" (.ref pg) []))):=(qI.of_same spg).trans (qI.set (by rw[to3];simp) (spg _ _ Y9) (by intro xs z;cases z));have B4:Bs H τ o τ3 (upd (upd H3 pg (.tup [V.int m,V.ref L])) o (.ins ao dx (cG "program" (.ref pg) []))):=(B3.same spg).set (.inl rfl);have YQ:Kp o H3 (upd (upd H3 pg (.tup [V.int m,V.ref L])) o (.ins ao dx (cG "program" (.ref pg) []))):=(Kp.of_same spg).trans Kp.set;generalize (upd (upd H3 pg (.tup [V.int m,V.ref L])) o (.ins ao dx (cG "program" (.ref pg) [])))=H4 at ho4 abt q4 B4 YQ ⊢;have hL4:=(q4.keep _ _ hL3 (by rw[tL3];simp)).1;have hr4:∀(k:Nat)(r:Addr)(x:List Rw),rs[k]? = some r->rws[k]? = some x->τ3 r=[0]/\dO H4 r m x:=λk r x h1 h2=>gK ⟨(hr3 k r x h1 h2).2.1,(hr3 k r x h1 h2).2.2⟩ q4 (by simp);have ae9:cl≠o:=dg abx ho2 (by intro z;cases z);have aft:=YQ _ _ (Wd _ _ abx) ae9;refine sE (λR g=>?_);refine⟨_,acg,cl,_,acg,.inl (bI.of aft),λnb hnb=>?_⟩;have snb:=aG (o:=HO.lst (ns.map V.int)) hnb;refine⟨_,acg,o,ao,dx,_,acg,snb _ _ ho4,aK.cls,aK.iT,(by show 1<1000;decide), ?_⟩;refine g _ _ ?_;have YG:nb≠o:=(aB ho4 hnb).symm;have Sd:(upd (upd H4 nb (.lst (ns.map V.int))) o (.ins ao dx (cG "numbers" (.ref nb) [("program",.ref pg)]))) o=some (.ins ao dx [("program",.ref pg),("numbers",.ref nb)]):=ak;have abw:(upd (upd H4 nb (.lst (ns.map V.int))) o (.ins ao dx (cG "numbers" (.ref nb) [("program",.ref pg)]))) nb=some (.lst (ns.map V.int)):=by rw[aF YG,ak]
  have q5:qI [[i,0]] τ3 H4 (aR τ3 nb [i,1]) (upd (upd H4 nb (.lst (ns.map V.int))) o (.ins ao dx (cG "numbers" (.ref nb) [("program",.ref pg)]))):=(qI.claim snb hnb).trans (qI.set (by rw[aV YG.symm,to3];simp) (snb _ _ ho4) (by intro xs z;cases z));have B5:Bs H τ o (aR τ3 nb [i,1]) (upd (upd H4 nb (.lst (ns.map V.int))) o (.ins ao dx (cG "numbers" (.ref nb) [("program",.ref pg)]))):=(B4.claim snb hnb ⟨_,ak⟩).set (.inl rfl);have to5:aR τ3 nb [i,1] o=[i,0]:=by rw[aV YG.symm];exact to3
  have tn5:aR τ3 nb [i,1] nb=[i,1]:=bK;generalize (upd (upd H4 nb (.lst (ns.map V.int))) o (.ins ao dx (cG "numbers" (.ref nb) [("program",.ref pg)])))=H5 at Sd abw q5 B5 ⊢;generalize aR τ3 nb [i,1]=τ5 at q5 B5 to5 tn5;have hL5:=q5.keep _ _ hL4 (by rw[tL3];simp);have hr5:∀(k:Nat)(r:Addr)(x:List Rw),rs[k]? = some r->rws[k]? = some x->τ5 r=[0]/\dO H5 r m x:=λk r x h1 h2=>gK (hr4 k r x h1 h2) q5 (by simp);have abr:=q5.tup _ _ abt;have tL5:τ5 L=[0]:=hL5.2.trans tL3;have hL5:=hL5.1;refine sE (λR g=>?_);refine⟨_,acg,o,ao,dx,_,_,acg,Sd,aK.cls,aK.qj,acg,_,_,_,_,acg,acg,cD.of abr,acg,L,acg,⟨_,bI.of hL5⟩,λhl hhl=>?_⟩;have shl:=aG (o:=HO.lst []) hhl;have ae7:hl≠o:=(aB Sd hhl).symm;refine gA (K:=K) (xs:=rs.map V.ref) (λj σ Hc=>∃(v:Option V) (τc:Tg) (hd:List oJ),σ=[v]/\hd.length=j/\Same H5 Hc/\Hc hl=some (.lst (hd.map λa=> .ref a.h))/\Bs H τ o τc Hc/\(∀x u,H5 x=some u->τc x=τ5 x)/\τc hl=[i,2] /\ ∀(k:Nat)(A:oJ)(x:List Rw),hd[k]? = some A->rws[k]? = some x->vX aq i k m τc Hc A (new x)/\H A.h=none/\H A.b=none/\H A.sy=none) ?_ ?_ ?_ ?_
  .exact⟨none,aR τ5 hl [i,2],[],acg,acg,shl,ak,B5.claim shl hhl ⟨_,ak⟩,λx u e=>aV (aB e hhl),bK,λk A x h=>by simp at h⟩
  .rintro j σ Hc hj ⟨v,τc,hd,rfl,_,sc,_⟩
   exact bI.of (sc _ _ hL5)
  .rintro j x σ Hc hj ⟨v,τc,hd,rfl,lj,sc,WL,Bc,SX,tlc,hc⟩
   rw[aaf] at hj
   obtain⟨r,er,rfl⟩:∃r,rs[j]? = some r/\x = .ref r:=by
    cases e:rs[j]? with
    | none=>rw[e] at hj;cases hj
    | some r0=>rw[e] at hj;exact⟨r0,acg,(aaC hj).symm⟩
   have jl:j<rws.length:=by rw[←lr,←lrs];exact(aae.mp er).1
   have ex:rws[j]? = some rws[j]:=by simp[jl]
   obtain⟨tr,R⟩:=hr5 j r _ er ex;have rr:=R;obtain⟨ts,hts,_⟩:=rr;dsimp only[cN,qF];rw[acd rfl];refine⟨_,acg,λh hx hn hxn nhx=>?_⟩;have hn':(upd Hc hx (.own h)) h=none:=by rw[aF nhx.symm];exact hn
   have sm:Same Hc (upd (upd Hc hx (.own h)) h (.ins aq hx [])):=(aG hxn).trans (aG hn');refine⟨h,r,hx,acg,ak,λb sy H7 hb hsy aa8 h7 b7 sy7 k7=>⟨acg, ?_⟩⟩;have S7:Same Hc H7:=λy u e=>k7 _ _ (sm _ _ e) (aB e hn);have fb:Hc b=none:=sm.free hb;have fy:Hc sy=none:=sm.free hsy;have nhl:hl≠h:=aB WL hn;have nbl:hl≠b:=aB WL fb;have nyl:hl≠sy:=aB WL fy;have U4:h≠b:=aB ak hb;have Wv:h≠sy:=aB ak hsy;have hlf:H hl=none:=B5.fresh hhl ae7;have sH:Same Hc Hc:=Same.refl _;have T:∀x u,Hc x=some u->aR (aR (aR τc h [i,4,j]) b [i,5,j]) sy [i,6,j] x=τc x:=λy u e=>by rw[aV (aB e fy),aV (aB e fb),aV (aB e hn)]
   have B7:Bs H τ o (aR (aR (aR τc h [i,4,j]) b [i,5,j]) sy [i,6,j]) H7:=by
    refine⟨λy e=>?_,Bc.kp.trans (Kp.of_same S7),λy u e n=>?_⟩
    .have n1:y≠h:=λz=>by rw[z,h7] at e;cases e
     have n2:y≠b:=λz=>by rw[z,b7] at e;cases e
     have n3:y≠sy:=λz=>by rw[z,sy7] at e;cases e
     rw[aV n3,aV n2,aV n1];exact Bc.un y (S7.free e)
    .rw[T y u (Bc.kp _ _ e n)]
     exact Bc.tg y u e n
   have q7:qI [[i,2]] τc Hc (aR (aR (aR τc h [i,4,j]) b [i,5,j]) sy [i,6,j]) (upd H7 hl (.lst ((hd.map λa=>V.ref a.h)++[V.ref h]))):=by
    refine⟨λy u e n=>⟨?_,T y u e⟩,λy ys e=>?_⟩
    .rw[aF (λz:y=hl=>n (by rw[z,tlc];simp))]
     exact S7 _ _ e
    .rw[aF (dg e WL (by intro z;cases z))]
     exact S7 _ _ e
   have Th:aR (aR (aR τc h [i,4,j]) b [i,5,j]) sy [i,6,j] h=[i,4,j]:=by rw[aV Wv,aV U4,bK]
   have Tb:aR (aR (aR τc h [i,4,j]) b [i,5,j]) sy [i,6,j] b=[i,5,j]:=by rw[aV aa8,bK]
   have Ty:aR (aR (aR τc h [i,4,j]) b [i,5,j]) sy [i,6,j] sy=[i,6,j]:=bK;generalize aR (aR (aR τc h [i,4,j]) b [i,5,j]) sy [i,6,j]=τ7 at T B7 q7 Th Tb Ty;refine⟨_,S7 _ _ WL,(by rw[aac,sizeLine_eq];lia),some (.ref r),τ7,hd++[⟨h,hx,r,b,sy⟩],acg,by simp[lj],λy u e=>?_,by rw[ak];simp,B7.set (.inr hlf),λy u e=>?_, ?_, ?_⟩
   .rw[aF (aB e hhl)]
    exact S7 _ _ (sc _ _ e)
   .rw[T y u (sc _ _ e)]
    exact SX y u e
   .rw[T _ _ WL];exact tlc
   .intro k A x' h1 h2
    rcases mK h1 with h1|⟨e1,rfl⟩
    .exact⟨(hc k A x' h1 h2).1.mvT q7 (by simp) (by simp) (by simp) (by simp),(hc k A x' h1 h2).2⟩
    .rw[e1,lj,ex] at h2
     cases h2;rw[e1,lj];have tr':τc r=[0]:=by rw[SX _ _ hts];exact tr
     obtain⟨t9,R9⟩:=gK ⟨tr',R.same sc⟩ q7 (by simp);have hoc:=sc _ _ Sd;exact⟨⟨⟨by rw[aF nhl.symm];exact h7,by rw[aF nbl.symm];exact b7,by rw[aF nyl.symm];exact sy7,aa8,acg⟩,R9,t9,Th,Tb,Ty⟩,Bc.fresh hn (aB hoc hn).symm,Bc.fresh fb (aB hoc fb).symm,Bc.fresh fy (aB hoc fy).symm⟩
  rintro σ H8 ⟨v,τ8,hd,rfl,lhd,s58,afr,B8,K3,tl8,hd8⟩;rw[aac] at lhd;have Vk:=s58 _ _ Sd;have Xd:τ8 o=[i,0]:=by rw[K3 _ _ Sd];exact to5
  refine⟨_,acg,o,ao,dx,_,acg,Vk,aK.cls,aK.kY,(by show 2<1000;decide), ?_⟩;refine g _ _ ?_;have ho9:(upd H8 o (.ins ao dx (cG "hands" (.ref hl) [("program",.ref pg),("numbers",.ref nb)]))) o=some (.ins ao dx [("program",.ref pg),("numbers",.ref nb),("hands",.ref hl)]):=ak;have q9:qI [[i,0]] τ8 H8 τ8 (upd H8 o (.ins ao dx (cG "hands" (.ref hl) [("program",.ref pg),("numbers",.ref nb)]))):=qI.set (by rw[Xd];simp) Vk (by intro xs z;cases z);have B9:Bs H τ o τ8 (upd H8 o (.ins ao dx (cG "hands" (.ref hl) [("program",.ref pg),("numbers",.ref nb)]))):=B8.set (.inl rfl);generalize (upd H8 o (.ins ao dx (cG "hands" (.ref hl) [("program",.ref pg),("numbers",.ref nb)])))=H9 at ho9 q9 B9 ⊢;refine sE (λR g=>?_);refine⟨(by show 0<=sizeLine;decide),λtn htn=>?_⟩;have stn:=aG (o:=HO.lst []) htn;refine⟨_,acg,o,ao,dx,_,acg,stn _ _ ho9,aK.cls,aK.qg,(by show 3<1000;decide), ?_⟩;refine g _ _ ?_;have Yy:tn≠o:=(aB ho9 htn).symm;have LC:(upd (upd H9 tn (.lst [])) o (.ins ao dx (cG "turns" (.ref tn) [("program",.ref pg),("numbers",.ref nb),("hands",.ref hl)]))) o=some (.ins ao dx (wF pg nb hl tn)):=ak;have WD:(upd (upd H9 tn (.lst [])) o (.ins ao dx (cG "turns" (.ref tn) [("program",.ref pg),("numbers",.ref nb),("hands",.ref hl)]))) tn=some (.lst []):=by rw[aF Yy,ak]
  have K8:qI [[i,0]] τ8 H9 (aR τ8 tn [i,3]) (upd (upd H9 tn (.lst [])) o (.ins ao dx (cG "turns" (.ref tn) [("program",.ref pg),("numbers",.ref nb),("hands",.ref hl)]))):=(qI.claim stn htn).trans (qI.set (by rw[aV Yy.symm,Xd];simp) (stn _ _ ho9) (by intro xs z;cases z));have B10:Bs H τ o (aR τ8 tn [i,3]) (upd (upd H9 tn (.lst [])) o (.ins ao dx (cG "turns" (.ref tn) [("program",.ref pg),("numbers",.ref nb),("hands",.ref hl)]))):=(B9.claim stn htn ⟨_,ak⟩).set (.inl rfl);have K1:aR τ8 tn [i,3] o=[i,0]:=by rw[aV Yy.symm];exact Xd
  have KZ:aR τ8 tn [i,3] tn=[i,3]:=bK;have Hq:=q9.trans K8;generalize (upd (upd H9 tn (.lst [])) o (.ins ao dx (cG "turns" (.ref tn) [("program",.ref pg),("numbers",.ref nb),("hands",.ref hl)])))=W4 at LC WD K8 B10 Hq ⊢;generalize aR τ8 tn [i,3]=DK at K8 B10 K1 KZ Hq;have Ag:=Hq.keep _ _ afr (by rw[tl8];simp);have NZ:DK hl=[i,2]:=Ag.2.trans tl8;have Ag:=Ag.1
  have n5:∀x u,H5 x=some u->τ5 x≠[i,0]->W4 x=some u/\DK x=τ5 x:=λx u e n=>by
   have:=Hq.keep _ _ (s58 _ _ e) (by rw[K3 _ _ e];simp[n]);exact⟨this.1,by rw[this.2,K3 _ _ e]⟩
  have abz:=n5 _ _ hL5 (by rw[tL5];simp);have WK:=n5 _ _ abw (by rw[tn5];simp);have abu:=Hq.tup _ _ (s58 _ _ abr);have afs:∀(k:Nat)(A:oJ)(x:List Rw),hd[k]? = some A->rws[k]? = some x->vX aq i k m DK W4 A (new x):=λk A x h1 h2=>(hd8 k A x h1 h2).1.mvT Hq (by simp) (by simp) (by simp) (by simp)
  have afk:∀(k:Nat)(r:Addr)(x:List Rw),rs[k]? = some r->rws[k]? = some x->DK r=[0]/\dO W4 r m x:=λk r x h1 h2=>by
   obtain⟨t5,R5⟩:=hr5 k r x h1 h2;have rr:=R5;obtain⟨ts,hts,_⟩:=rr;exact gK ⟨by rw[K3 _ _ hts];exact t5,R5.same s58⟩ Hq (by simp)
  have lh:hd.length=rws.length:=by rw[lhd,lrs,lr]
  refine⟨_,acg,o,ao,dx,_,_,acg,LC,aK.cls,aK.kY,acg,hl,acg,⟨_,bI.of Ag⟩, ?_⟩
  refine yG (K:=K) (a:=hl) (xs:=hd.map λa=>V.ref a.h) (λj σ Hc=>∃x1:Option V,σ=[some (.ref o),some (.ref p),some (.ref cl),x1]/\(∀x u,W4 x=some u->(∀k,DK x≠[i,4,k])->(∀k,DK x≠[i,5,k])->(∀k,DK x≠[i,6,k])->Hc x=some u)/\(∀x ys,W4 x=some (.tup ys)->Hc x=some (.tup ys))/\Bs H τ o DK Hc /\
   ∀(k:Nat)(A:oJ)(x:List Rw),hd[k]? = some A->rws[k]? = some x->vX aq i k m DK Hc A (if k<j then lead (new x) else new x))
   ⟨none,acg,λx u e _ _ _=>e,λx ys e=>e,B10,λk A x h1 h2=>by rw[ab' (by lia)];exact afs k A x h1 h2⟩ (λj σ Hc _ ⟨_,_,kc,_⟩=>bI.of (kc _ _ Ag (by rw[NZ];simp) (by rw[NZ];simp) (by rw[NZ];simp))) ?_ ?_
  .rintro j v σ Hc hj ⟨x1,rfl,kc,tc,Bc,hc⟩
   rw[aaf] at hj
   obtain⟨A,eA,rfl⟩:∃A,hd[j]? = some A/\v = .ref A.h:=by
    cases e:hd[j]? with
    | none=>rw[e] at hj;cases hj
    | some A=>rw[e] at hj;exact⟨A,acg,(aaC hj).symm⟩
   have jl:j<rws.length:=by rw[←lh];exact(aae.mp eA).1
   have ex:rws[j]? = some rws[j]:=by simp[jl]
   have a:=hc j A _ eA ex;rw[ab' (by lia)] at a;refine⟨_,acg,A.h,A.hx,_,acg,a.c.h,acg,A,_,m,acg,a.c,a.r,dX a.tr a.tb (by intro z;cases z),dX a.tr a.ty (by intro z;cases z),(by show 0<900000;decide),λH12 c12 k12=>?_⟩;have Wm:qI [[i,4,j],[i,5,j],[i,6,j]] DK Hc DK H12:=⟨λx u e n=>⟨k12 _ _ e (λz=>n (by rw[z,a.th];simp)) (λz=>n (by rw[z,a.tb];simp)) (λz=>n (by rw[z,a.ty];simp)),acg⟩,a.c.tup k12⟩;refine⟨_,acg,λx u e n4 n5 n6=>(Wm.keep _ _ (kc x u e n4 n5 n6) (by simp[n4,n5,n6])).1,λx ys e=>Wm.tup _ _ (tc _ _ e), ?_, ?_⟩
   .obtain⟨f1,f2,f3⟩:=(hd8 j A _ eA ex).2
    refine⟨Bc.un.dom λx e=>?_,λx u e n=>k12 _ _ (Bc.kp _ _ e n) (aB e f1) (aB e f2) (aB e f3),Bc.tg⟩;cases q:Hc x with
    | none=>rfl
    | some u=>
      have no:∀y o,H12 y=some o->x≠y:=λy o h z=>by rw[z,h] at e;cases e
      rw[k12 _ _ q (no _ _ c12.h) (no _ _ c12.b) (no _ _ c12.y)] at e;cases e
   .intro k A' x h1 h2
    by_cases z:k=j
    .subst z
     rw[eA] at h1;cases h1;rw[ex] at h2;cases h2;rw[acd (by lia)];have lr':(lead (new rws[k])).rws=rws[k]:=tG _ _;refine⟨c12, ?_,a.tr,a.th,a.tb,a.ty⟩;rw[lr'];exact(gK ⟨a.tr,a.r⟩ Wm (by simp)).2
    .have b:=(hc k A' x h1 h2).mvT Wm (by simp) (by simp[z]) (by simp[z]) (by simp[z])
     by_cases lt:k<j
     .rw[acd lt] at b
      rw[acd (by lia)];exact b
     .rw[ab' lt] at b
      rw[ab' (by lia)];exact b
  .rintro σ H11 ⟨x1,rfl,kc,tc,Bc,hc⟩
   rw[aac] at hc;have kt:∀x u t,W4 x=some u->DK x=t->(∀k,t≠[i,4,k])->(∀k,t≠[i,5,k])->(∀k,t≠[i,6,k])->H11 x=some u:=λx u t e et n4 n5 n6=>kc x u e (by rw[et];exact n4) (by rw[et];exact n5) (by rw[et];exact n6);have aaJ:DK L=[0]:=abz.2.trans tL5;have aaA:DK nb=[i,1]:=WK.2.trans tn5
   have get:∀(k:Nat)(s:bG),(rws.map λr=>lead (new r))[k]? = some s -> ∃x,rws[k]? = some x/\s=lead (new x):=λk s e=>by
    rw[aaf] at e;cases q:rws[k]? with
    | none=>rw[q] at e;cases e
    | some x=>rw[q] at e;exact⟨x,acg,(aaC e).symm⟩
   refine k1 good DK ⟨o,dx,pg,L,nb,hl,tn,rs,hd⟩ H11 rfl ⟨Bc.un,i0,kt _ _ _ LC K1 (by simp) (by simp) (by simp),tc _ _ abu,kt _ _ _ abz.1 aaJ (by simp) (by simp) (by simp),kt _ _ _ WK.1 aaA (by simp) (by simp) (by simp),kt _ _ _ Ag NZ (by simp) (by simp) (by simp),kt _ _ _ WD KZ (by simp) (by simp) (by simp),K1,aaA,NZ,KZ,aaJ, ?_, ?_, ?_, ?_, ?_, ?_, ?_, ?_⟩ Bc.tg Bc.kp
   .show rs.length=(rws.map _).length
    rw[aac,lrs,lr]
   .intro k r s h1 h2
    obtain⟨x,ex,rfl⟩:=get k s h2;obtain⟨t1,R1⟩:=afk k r x h1 ex;have lr':(lead (new x)).rws=x:=tG _ _;rw[lr'];exact⟨t1,R1.keep (λu e=>kt _ _ _ e t1 (by simp) (by simp) (by simp)) tc⟩
   .show hd.length=(rws.map _).length
    rw[aac,lh]
   .intro k A s h1 h2
    obtain⟨x,ex,rfl⟩:=get k s h2;have:=hc k A x h1 ex;rw[acd (aae.mp h1).1] at this;exact this
   .intro s ms
    obtain⟨x,_,rfl⟩:=abn.mp ms;exact HW _ _
   .intro s ms
    obtain⟨x,_,rfl⟩:=abn.mp ms;exact HS 60 (new x)
   .have:=good.1
    show ns.length=m;lia
   .show (rws.map _).length<=100
    rw[aac];exact rl
noncomputable def PlA:Nat->PyData->Prop
 | 0,_=>False
 | n+1,.list ds=>ds.length<=20000 /\ ∀d∈ds,PlA n d
 | n+1,.tuple ds=>ds.length<=20000 /\ ∀d∈ds,PlA n d
 | _+1,.int _=>True
 | _+1,.str _=>True
 | _+1,.none=>True
 | _+1,.bool _=>True
 | _+1,_=>False
theorem U_(K:PySem.W.Frag):PySem.W.kitOne K (.type "str") (.type "tuple")=some false:=by kernel_rfl
theorem Vb(K:PySem.W.Frag):PySem.W.kitOne K (.type "str") (.type "list")=some false:=by kernel_rfl
theorem Cw(K:PySem.W.Frag):PySem.W.kitOne K (.type "str") (.type "bool")=some false:=by kernel_rfl
theorem Va(K:PySem.W.Frag):PySem.W.kitOne K (.type "str") (.type "str")=some true:=acg
theorem Ve(K:PySem.W.Frag):PySem.W.kitOne K (.type "int") (.type "tuple")=some false:=by kernel_rfl
theorem Vg(K:PySem.W.Frag):PySem.W.kitOne K (.type "int") (.type "list")=some false:=by kernel_rfl
theorem Vf(K:PySem.W.Frag):PySem.W.kitOne K (.type "int") (.type "str")=some false:=by kernel_rfl
theorem Vh(K:PySem.W.Frag):PySem.W.kitOne K (.type "bool") (.type "tuple")=some false:=by kernel_rfl
theorem Vi(K:PySem.W.Frag):PySem.W.kitOne K (.type "bool") (.type "list")=some false:=by kernel_rfl
theorem Vc(K:PySem.W.Frag):PySem.W.kitOne K (.type "NoneType") (.type "tuple")=some false:=by kernel_rfl
theorem Vd(K:PySem.W.Frag):PySem.W.kitOne K (.type "NoneType") (.type "list")=some false:=by kernel_rfl
theorem Aj(n:Nat)(v:V):(List.range n).filterMap (λ_=>some v)=List.replicate n v:=by
 induction n with
 | zero=>rfl
 | succ n ih=>rw[dJ,ih,List.replicate_succ'];rfl
noncomputable def rZ(n:Nat)(K:PySem.W.Frag):Sp:=λvs H Q _=>∃(x y:V) (d:PyData),vs=[x,y]/\Dat H x d/\Dat H y d/\PlA n d /\ ∀H',Same H H'->Q (.bl true) H'
theorem Li{f:Addr}{fd:FuncData}(F:fQ K "_law_alike" "_law_alike" sS f fd):bR P w K mg base ig 1 f fd ["found","due"] (rZ 0 K):=by
 refine F.ok zV (λvs H Q E h=>?_) (λcdv A outer s H vs Q E hr h=>?_)
 .obtain⟨x,y,d,_,_,_,z,_⟩:=h
  exact z.elim
 .obtain⟨x,y,d,_,_,_,z,_⟩:=h
  exact z.elim
theorem qe{n:Nat}{f:Addr}{fd:FuncData}(F:fQ K "_law_alike" "_law_alike" sS f fd)(yZ:FnAt P w K mg base (n+1) "_law_alike" ["found","due"] (rZ n K))(Bt:mV mg):bR P w K mg base ig (n+1+1) f fd ["found","due"] (rZ (n+1) K):=by
 refine F.ok zV (λvs H Q E h=>?_) (λcdv A outer s H vs Q E hr h=>?_)
 .obtain⟨x,y,d,rfl,_⟩:=h
  rfl
 .obtain⟨x,y,d,rfl,dx,dy,pl,k⟩:=h
  refine⟨_,(aA (cB (PW.pt (jV (dB (aW (cL (K:=K) (cv:= .ty "tuple") (c:= .type "tuple") rfl rfl) (by rfl) Bt.bQ bM (aj (pv 1) (aj (eH (v:= .ty "tuple") (by rfl) Bt.wC uc rfl) au)))) (jU (dB (aW (cL (K:=K) (cv:= .ty "list") (c:= .type "list") rfl rfl) (by rfl) Bt.bQ bM (aj (pv 1) (aj (eH (v:= .ty "list") (by rfl) Bt.gH eN rfl) au))))))) (aA (cB (PW.pt (jV (bF kW (aW (cL (K:=K) (cv:= .ty "tuple") (c:= .type "tuple") rfl rfl) (by rfl) Bt.bQ bM (aj (pv 0) (aj (eH (v:= .ty "tuple") (by rfl) Bt.wC uc rfl) au))) (aW (cL (K:=K) (cv:= .ty "tuple") (c:= .type "tuple") rfl rfl) (by rfl) Bt.bQ bM (aj (pv 1) (aj (eH (v:= .ty "tuple") (by rfl) Bt.wC uc rfl) au))) (bw _)) (jU (bF kW (aW (cL (K:=K) (cv:= .ty "list") (c:= .type "list") rfl rfl) (by rfl) Bt.bQ bM (aj (pv 0) (aj (eH (v:= .ty "list") (by rfl) Bt.gH eN rfl) au))) (aW (cL (K:=K) (cv:= .ty "list") (c:= .type "list") rfl rfl) (by rfl) Bt.bQ bM (aj (pv 1) (aj (eH (v:= .ty "list") (by rfl) Bt.gH eN rfl) au))) (bw _))))) (aJ (bA oA)) bJ)
   (aA (cB (bF kW (aW (aY (K:=K) rfl) (by rfl) Bt.dW cM (aj (pv 0) au)) (aW (aY (K:=K) rfl) (by rfl) Bt.dW cM (aj (pv 1) au)) (bw _)) (aJ (bA oA)) bJ)
   (aJ (bA (aW (gR (K:=K) rfl rfl) (by rfl) Bt.Ko Dl (aj (dI rfl (N:=["mine","other"]) (own:=["mine","other"]) (caps:=[]) (bB.of (by kernel_rfl)) (Ud (K:=K) rfl (by rfl) Bt.abN (aj (pv 0) (aj (pv 1) au))) (λ_ _ _ _=>(Ce (K:=K) (n:=2) rfl rfl (mD (bL (i:=0) (show List.Nodup (["mine","other"]:List Str) by decide +kernel) rfl (Or.inl rfl)) (mD (bL (i:=1) (show List.Nodup (["mine","other"]:List Str) by decide +kernel) rfl (Or.inl rfl)) Cd)))) (λ_ _ _ _=>cO) (λ_ _ _ _=>(bN yZ (hr.mono (aaj _)) (by rfl) (aj (pv 0) (aj (pv 1) au))))) au)))))) bJ)
   (aA (cB (bF Cj (pv 1) jY (bw _)) (aJ (bA (cI Cj (pv 0) jY (bw _)))) bJ)
   (aA (cB (PW.pt (jV (dB (aW (cL (K:=K) (cv:= .ty "bool") (c:= .type "bool") rfl rfl) (by rfl) Bt.bQ bM (aj (pv 1) (aj (eH (v:= .ty "bool") (by rfl) Bt.yR uh rfl) au)))) (jU (dB (aW (cL (K:=K) (cv:= .ty "str") (c:= .type "str") rfl rfl) (by rfl) Bt.bQ bM (aj (pv 1) (aj (eH (v:= .ty "str") (by rfl) Bt.abO Zw rfl) au))))))) (aJ (bA (jt (cI dU (aW (cL (K:=K) (cv:= .ty "bool") (c:= .type "bool") rfl rfl) (by rfl) Bt.bQ bM (aj (pv 0) (aj (eH (v:= .ty "bool") (by rfl) Bt.yR uh rfl) au))) (aW (cL (K:=K) (cv:= .ty "bool") (c:= .type "bool") rfl rfl) (by rfl) Bt.bQ bM (aj (pv 1) (aj (eH (v:= .ty "bool") (by rfl) Bt.yR uh rfl) au))) (bw _)) (iR (cI dU (pv 0) (pv 1) (bw _)))))) bJ)
   (aJ (bA (jt (aW (cL (K:=K) (cv:= .ty "int") (c:= .type "int") rfl rfl) (by rfl) Bt.bQ bM (aj (pv 0) (aj (eH (v:= .ty "int") (by rfl) Bt.Gn yM rfl) au))) (jt (Pn (aW (cL (K:=K) (cv:= .ty "bool") (c:= .type "bool") rfl rfl) (by rfl) Bt.bQ bM (aj (pv 0) (aj (eH (v:= .ty "bool") (by rfl) Bt.yR uh rfl) au)))) (iR (cI dU (pv 0) (pv 1) (bw _)))))))))), ?_⟩
  match d,pl,dx,dy with
  | .int i,pl,dx,dy=>
    simp only[Dat] at dx dy;subst dx dy;refine⟨_,acg,_,_,false,acg,.int i,Ve K,_,acg,cU ?_⟩;refine⟨_,acg,_,_,false,acg,.int i,Vg K,_,acg,cU ?_⟩;refine⟨_,acg,acg,_,acg,cU ?_⟩;refine⟨_,acg,_,_,false,acg,.int i,nR K,_,acg,cU ?_⟩;refine⟨_,acg,_,_,false,acg,.int i,Vf K,_,acg,cU ?_⟩;refine⟨_,acg,_,_,true,acg,.int i,vC K,_,acg,eO ?_⟩;refine⟨_,acg,_,_,false,acg,.int i,nR K,_,acg,_,acg,eO ?_⟩;refine⟨_,acg,_,acg,acg, ?_⟩;rw[aaq rfl];exact k _ (Same.refl _)
  | .str i,pl,dx,dy=>
    simp only[Dat] at dx dy;subst dx dy;refine⟨_,acg,_,_,false,acg,.str i,U_ K,_,acg,cU ?_⟩;refine⟨_,acg,_,_,false,acg,.str i,Vb K,_,acg,cU ?_⟩;refine⟨_,acg,acg,_,acg,cU ?_⟩;refine⟨_,acg,_,_,false,acg,.str i,Cw K,_,acg,cU ?_⟩;refine⟨_,acg,_,_,true,acg,.str i,Va K,_,acg,eO ?_⟩;refine⟨_,acg,_,_,false,acg,.str i,Cw K,_,acg,_,_,false,acg,.str i,Cw K,acg,_,acg, ?_⟩;refine cP (λ_=>?_) (λz=>ace (aaq rfl) z);refine⟨_,acg,_,acg,acg, ?_⟩;rw[aaq rfl];exact k _ (Same.refl _)
  | .bool i,pl,dx,dy=>
    simp only[Dat] at dx dy;subst dx dy;refine⟨_,acg,_,_,false,acg,.bl i,Vh K,_,acg,cU ?_⟩;refine⟨_,acg,_,_,false,acg,.bl i,Vi K,_,acg,cU ?_⟩;refine⟨_,acg,acg,_,acg,cU ?_⟩;refine⟨_,acg,_,_,true,acg,.bl i,lR K,_,acg,eO ?_⟩;refine eO ?_;refine⟨_,acg,_,_,true,acg,.bl i,lR K,_,acg,_,_,true,acg,.bl i,lR K,acg,_,acg, ?_⟩;refine cP (λ_=>?_) (λz=>ace (aaq rfl) z);refine⟨_,acg,_,acg,acg, ?_⟩;rw[aaq rfl];exact k _ (Same.refl _)
  | .none,pl,dx,dy=>
    simp only[Dat] at dx dy;subst dx dy;refine⟨_,acg,_,_,false,acg,.non,Vc K,_,acg,cU ?_⟩;refine⟨_,acg,_,_,false,acg,.non,Vd K,_,acg,cU ?_⟩;refine⟨_,acg,acg,_,acg,eO ?_⟩;exact⟨_,acg,acg,k _ (Same.refl _)⟩
  | .list ds,pl,dx,dy=>
    simp only[Dat] at dx dy;obtain⟨a,vs,rfl,ha,da⟩:=dx;obtain⟨b,ws,rfl,hb,db⟩:=dy;have la:vs.length=ds.length:=da.length;have lb:ws.length=ds.length:=db.length;have Z6:ds.length<=20000:=pl.1;refine⟨_,acg,_,_,false,acg,.lst hb,j4 K,_,acg,cU ?_⟩;refine⟨_,acg,_,_,true,acg,.lst hb,i_ K,_,acg,eO ?_⟩;refine⟨_,acg,_,_,false,acg,.lst ha,j4 K,_,acg,_,_,false,acg,.lst hb,j4 K,acg,_,acg, ?_⟩;refine tK rfl ?_;refine⟨_,acg,_,_,true,acg,.lst ha,i_ K,_,acg,_,_,true,acg,.lst hb,i_ K,acg,_,acg, ?_⟩;refine tK rfl ?_;refine⟨_,acg,a,_,acg,.inl (bI.of ha),_,acg,b,_,acg,.inl (bI.of hb),acg,_,acg, ?_⟩;refine tK (by rw[la,lb]) ?_;refine⟨_,acg,_,acg,a,b,vs,ws,acg,.inl ⟨bI.of ha,bI.of hb,λD hD=>?_⟩⟩;refine Mt (K:=K) la lb (λi=>some (.bl true)) hD (bI.of ha) (bI.of hb) (by lia) (λi x y H2 G F hx hy s2 kG kF=>?_) (λH2 s2 e2=>?_)
    .obtain⟨d,ed,dx⟩:=da.get hx
     obtain⟨d',ed',dy⟩:=db.get hy;rw[ed] at ed';cases ed';exact⟨_,acg,_,acg,x,y,d,acg,dx.same s2 d,dy.same s2 d,pl.2 d (aap ed),λH3 s3=>kF _ H3 s3 rfl⟩
    .rw[Aj] at e2
     refine⟨D,List.replicate ds.length true,acg,bI.of (by rw[e2,List.map_replicate]), ?_⟩;rw[show (List.replicate ds.length true).all id=true by simp];exact k H2 s2
  | .tuple ds,pl,dx,dy=>
    simp only[Dat] at dx dy;obtain⟨a,vs,rfl,ha,da⟩:=dx;obtain⟨b,ws,rfl,hb,db⟩:=dy;have la:vs.length=ds.length:=da.length;have lb:ws.length=ds.length:=db.length;have Z6:ds.length<=20000:=pl.1;refine⟨_,acg,_,_,true,acg,.tup hb,gQ K,_,acg,eO ?_⟩;refine eO ?_;refine⟨_,acg,_,_,true,acg,.tup ha,gQ K,_,acg,_,_,true,acg,.tup hb,gQ K,acg,_,acg, ?_⟩;refine tK rfl ?_;refine⟨_,acg,_,_,false,acg,.tup ha,pH K,_,acg,_,_,false,acg,.tup hb,pH K,acg,_,acg, ?_⟩;refine tK rfl ?_;refine⟨_,acg,a,_,acg,.inr (cD.of ha),_,acg,b,_,acg,.inr (cD.of hb),acg,_,acg, ?_⟩;refine tK (by rw[la,lb]) ?_;refine⟨_,acg,_,acg,a,b,vs,ws,acg,.inr ⟨cD.of ha,cD.of hb,λD hD=>?_⟩⟩;refine Il (K:=K) la lb (λi=>some (.bl true)) hD ha hb (by lia) (λi x y H2 G F hx hy s2 kG kF=>?_) (λH2 s2 e2=>?_)
    .obtain⟨d,ed,dx⟩:=da.get hx
     obtain⟨d',ed',dy⟩:=db.get hy;rw[ed] at ed';cases ed';exact⟨_,acg,_,acg,x,y,d,acg,dx.same s2 d,dy.same s2 d,pl.2 d (aap ed),λH3 s3=>kF _ H3 s3 rfl⟩
    .rw[Aj] at e2
     refine⟨D,List.replicate ds.length true,acg,bI.of (by rw[e2,List.map_replicate]), ?_⟩;rw[show (List.replicate ds.length true).all id=true by simp];exact k H2 s2
noncomputable def wN(ns bs:List Int)(r:Rw):PyData:= .tuple [.str (qK r),.int (iB r),oD (xT ns r),oD (Jf bs r)]
theorem Dd{H:Hp}(x:Option Int):Dat H (oV x) (oD x):=by cases x<;>simp only[oV,oD,Dat]
theorem Mq{H:Hp}{t:Addr}{ns bs:List Int}{r:Rw}(h:H t=some (.tup (wM ns bs r))):Dat H (.ref t) (wN ns bs r):=by
 unfold wN wM at *;simp only[Dat];exact⟨t,_,acg,h,by simp only[aQ,Dat,and_true,true_and];exact⟨Dd _,Dd _⟩⟩
theorem Pa{n:Nat}(ns bs:List Int)(r:Rw):PlA (n+2) (wN ns bs r):=by
 refine⟨by show 4<=20000;decide,λd hd=>?_⟩;have:∀x:Option Int,PlA (n+1) (oD x):=λx=>by cases x<;>trivial
 simp only[List.mem_cons,List.mem_nil_iff,or_false] at hd;rcases hd with rfl|rfl|rfl|rfl
 .trivial
 .trivial
 .exact this _
 .exact this _
structure RT(τ:Tg)(H:Hp)(r:Addr):Prop where
 R:d8 H r
 off:∀x o,H x=some o->τ x≠[]->x≠r/\Off H r x
 un:qw τ H
theorem RT.draw{τ:Tg}{H H':Hp}{r:Addr}(h:RT τ H r)(k:KR r H H')(R':d8 H' r):RT τ H' r:=by
 have un':qw τ H':=h.un.dom λx e=>by
  refine Kp.new k.1 e ?_;exact R'.at
 refine⟨R',λx o e t=>?_,un'⟩;cases q:H x with
 | none=>exact ace (h.un x q) t
 | some u=>
   obtain⟨n,f⟩:=h.off x u q t;exact⟨n,k.2 x u q n f⟩
theorem RT.stp{τ:Tg}{H H':Hp}{r:Addr}{i:Nat}(h:RT τ H r)(k:mQ i τ H H'):RT τ H' r:=by
 obtain⟨g,c,gs,cs,p,t,e1,e2,e3,q⟩:=h.R
 have tr:τ r=[]:=by
  by_cases z:τ r=[]
  .exact z
  .exact ace rfl (h.off r _ e1 z).1
 have tg:τ g=[]:=by
  by_cases z:τ g=[]
  .exact z
  .exact ace rfl ((h.off g _ e2 z).2 _ _ _ _ e1).1
 have tc:τ c=[]:=by
  by_cases z:τ c=[]
  .exact z
  .exact ace rfl ((h.off c _ e3 z).2 _ _ _ _ e1).2
 have e1':=k.keep _ _ e1 (by rw[tr];simp);refine⟨⟨g,c,gs,cs,p,t,e1',k.keep _ _ e2 (by rw[tg];simp),k.keep _ _ e3 (by rw[tc];simp),q⟩,λx o e t=>?_,h.un.dom k.dom⟩;cases q:H x with
 | none=>exact ace (h.un x q) t
 | some u=>
   obtain⟨n,f⟩:=h.off x u q t;refine⟨n,λg' c' u' v' e'=>?_⟩;rw[e1'] at e';cases e';exact f _ _ _ _ e1
theorem RT.same{τ:Tg}{H H':Hp}{r:Addr}(h:RT τ H r)(k:Same H H'):RT τ H' r:=h.stp (i:=0) (mQ.of_same k)
theorem RT.kr{τ:Tg}{H H':Hp}{r:Addr}{i:Nat}(h:RT τ H r)(k:KR r H H'):Mv i τ H τ H':=⟨λx o e t=>⟨k.1 _ _ e (h.off x o e (by
 rcases t with t|t
 .rw[t];simp
 .intro z;rw[z] at t;cases t)).1,acg⟩,h.R.tups k.1⟩
theorem RT.keep{τ:Tg}{H H':Hp}{r x:Addr}{o:HO}(h:RT τ H r)(k:KR r H H')(e:H x=some o)(t:τ x≠[]):H' x=some o:=k.1 _ _ e (h.off x o e t).1
theorem RT.claim{τ:Tg}{H H':Hp}{r p:Addr}{t:List Nat}(h:RT τ H r)(k:Same H H')(hp:H p=none)(hp':∃o,H' p=some o):RT (aR τ p t) H' r:=by
 have h':=h.same k;refine⟨h'.R,λx o e n=>?_,h.un.claim k hp'⟩
 by_cases z:x=p
 .subst z
  exact⟨h.R.ne hp,(h.R.off hp).same h.R k⟩
 .rw[aV z] at n
  exact h'.off x o e n
theorem RT.made{τ τ':Tg}{H H':Hp}{r:Addr}(h:RT τ H r)(k:Same H H')(tg:∀x u,H x=some u->τ' x=τ x)(un:qw τ' H'):RT τ' H' r:=by
 have h':=h.same k;refine⟨h'.R,λx o e n=>?_,un⟩;cases q:H x with
 | some u=>exact h'.off x o e (by rw[←tg x u q];exact n)
 | none=>exact⟨h.R.ne q,(h.R.off q).same h.R k⟩
theorem Zz:∀b:Fin 8,zf (Str.ofString "abcdefgh").cps.toList ((b.val:Nat):Int)=some (97+b.val):=by decide +kernel
theorem Kh{i:Int}(h0:0<=i)(h1:i<8):zf (Str.ofString "abcdefgh").cps.toList i=some (97+i.toNat):=by
 have:=Zz ⟨i.toNat,by lia⟩;simp only[Int.toNat_of_nonneg h0] at this;exact this
theorem Kr:(Str.ofString "abcdefgh").length<=sizeLine:=by rw[sizeLine_eq];decide
theorem Q9{H:Hp}{p:Addr}{x:Nj}(h:H p=some (.tup (match x with | .num n=>[.str "number",.int n] | .box b=>[.str "box",.str (t_ b)]))):Dat H (.ref p) (zN x):=by
 cases x<;>simp only[zN,Dat]<;>refine⟨p,_,acg,h, ?_⟩<;>simp only[aQ,Dat,and_true]
theorem Vu{H:Hp}{p:Addr}{a b:V}{q:Bool}{x y:Nj}(h:H p=some (.tup [.str (if q then "plus" else "minus"),a,b]))(da:Dat H a (zN x))(db:Dat H b (zN y)):Dat H (.ref p) (mW (.two q x y)):=by
 simp only[mW,Dat];refine⟨p,_,acg,h, ?_⟩;simp only[aQ,Dat,and_true];exact⟨trivial,da,db⟩
noncomputable def Jx(K:PySem.W.Frag):Sp:=λvs H Q _=>∃(r:Addr) (b:Int),vs=[.ref r,.int b]/\d8 H r/\0<b/\b<=8 /\ ∀(v:V)(x:Nj)(H':Hp),Dat H' v (zN x)->Nq x->d8 H' r->KR r H H'->Q v H'
theorem Qc{f:Addr}{fd:FuncData}(F:fQ K "_law_plain" "_law_plain" xM f fd)(bT:FnAt P w K mg base 1 "_law_draw" ["reel","many"] (jB K)):bR P w K mg base ig 2 f fd ["reel","boxes"] (Jx K):=by
 refine F.ok zU (λvs H Q E h=>?_) (λcdv A outer s H vs Q E hr h=>?_)
 .obtain⟨r,b,rfl,_⟩:=h
  rfl
 .obtain⟨r,b,rfl,R,b0,b1,k⟩:=h
  refine⟨_,(aA (bH (i:=2) zU.nd rfl (Or.inl rfl) (bN bT (hr.mono (by decide)) (by rfl) (aj (pv 0) (aj aC au))))
   (aA (cB (bF dU (pv 2) aC (bw _)) (aJ (bA (cX (aj bO (aj (bN bT (hr.mono (by decide)) (by rfl) (aj (pv 0) (aj aC au))) au))))) bJ)
   (aA (cB (bF dU (pv 2) aC (bw _)) (aJ (bA (cX (aj bO (aj (bN bT (hr.mono (by decide)) (by rfl) (aj (pv 0) (aj aC au))) au))))) bJ)
   (aJ (bA (cX (aj bO (aj (aO H_ bO (bN bT (hr.mono (by decide)) (by rfl) (aj (pv 0) (aj (pv 1) au))) (λ_ _=>rfl)) au)))))))), ?_⟩
  refine⟨_,acg,r,3,acg,R,by decide,by decide,λz H1 z0 z1 R1 k1=>?_⟩
  have num:∀(H2:Hp)(n:Int)(p:Addr),0<=n->n<1000->d8 H2 r->KR r H H2->H2 p=none->Q (.ref p) (upd H2 p (.tup [.str "number",.int n])):=λH2 n p n0 n1 R2 k2 hp=>by
   have sp:=aG (o:=HO.tup [V.str (Str.ofString "number"),V.int n]) hp;exact k _ (.num n) _ (Q9 (x:= .num n) ak) ⟨n0,n1⟩ (R2.keep sp) (k2.trans (KR.same R2 sp))
  refine⟨_,acg,acg,_,acg, ?_⟩;refine cP (λ_=>?_) (λ_=>?_)
  .refine⟨_,acg,r,1000,acg,R1,by decide,by decide,λn H2 n0 n1 R2 k2=>?_⟩
   exact⟨(by show 2<=sizeLine;decide),λp hp=>num H2 n p n0 n1 R2 (k1.trans k2) hp⟩
  refine⟨_,acg,acg,_,acg, ?_⟩;refine cP (λ_=>?_) (λ_=>?_)
  .refine⟨_,acg,r,4,acg,R1,by decide,by decide,λn H2 n0 n1 R2 k2=>?_⟩
   exact⟨(by show 2<=sizeLine;decide),λp hp=>num H2 n p n0 (by lia) R2 (k1.trans k2) hp⟩
  refine⟨_,acg,_,acg,r,b,acg,R1,b0,by lia,λn H2 n0 n1 R2 k2=>?_⟩;refine⟨_,_,_,acg,acg,Kr,Kh n0 (by lia),(by show 2<=sizeLine;decide),λp hp=>?_⟩;have sp:=aG (o:=HO.tup [V.str (Str.ofString "box"),V.str (t_ n.toNat)]) hp;exact k _ (.box n.toNat) _ (Q9 (x:= .box n.toNat) ak) (by show n.toNat<8;lia) (R2.keep sp) ((k1.trans k2).trans (KR.same R2 sp))
noncomputable def Jv(K:PySem.W.Frag):Sp:=λvs H Q _=>∃(r:Addr) (b:Int),vs=[.ref r,.int b]/\d8 H r/\0<b/\b<=8 /\ ∀(v:V)(e:Gz)(H':Hp),Dat H' v (mW e)->u5 e->d8 H' r->KR r H H'->Q v H'
theorem PJ{f:Addr}{fd:FuncData}(F:fQ K "_law_worth" "_law_worth" xK f fd)(bT:FnAt P w K mg base 1 "_law_draw" ["reel","many"] (jB K))(Gy:FnAt P w K mg base 2 "_law_plain" ["reel","boxes"] (Jx K)):bR P w K mg base ig 3 f fd ["reel","boxes"] (Jv K):=by
 refine F.ok uQ (λvs H Q E h=>?_) (λcdv A outer s H vs Q E hr h=>?_)
 .obtain⟨r,b,rfl,_⟩:=h
  rfl
 .obtain⟨r,b,rfl,R,b0,b1,k⟩:=h
  refine⟨_,(aA (bH (i:=2) uQ.nd rfl (Or.inl rfl) (bN bT (hr.mono (by decide)) (by rfl) (aj (pv 0) (aj aC au))))
   (aA (bH (i:=3) uQ.nd rfl (Or.inl rfl) (bN Gy (hr.mono (by decide)) (by rfl) (aj (pv 0) (aj (pv 1) au))))
   (aA (cB (bF qM (pv 2) aC (bw _)) (aJ (bA (pv 3))) bJ)
   (aJ (bA (cX (aj (aO (aP (K:=K) rfl) (cY (aj bO (aj bO au))) (bY rm (pv 2) aC) (λ_ _=>rfl)) (aj (pv 3) (aj (bN Gy (hr.mono (by decide)) (by rfl) (aj (pv 0) (aj (pv 1) au))) au))))))))), ?_⟩
  refine⟨_,acg,r,4,acg,R,by decide,by decide,λz H1 z0 z1 R1 k1=>?_⟩;refine⟨_,acg,_,acg,r,b,acg,R1,b0,b1,λv x H2 dx xo R2 k2=>?_⟩;refine⟨_,acg,_,_,acg,acg,_,acg, ?_⟩;have k12:=k1.trans k2;refine cP (λ_=>?_) (λzz=>?_)
  .exact⟨_,acg,k v (.one x) H2 dx xo R2 k12⟩
  have z2:2<=z:=by simp at zz;lia
  refine⟨(by show 2<=sizeLine;decide),λl hl=>?_⟩;have sl:=aG (o:=HO.lst [V.str (Str.ofString "plus"),V.str (Str.ofString "minus")]) hl
  obtain⟨q,eq⟩:∃q:Bool,zf [V.str (Str.ofString "plus"),V.str (Str.ofString "minus")] (z - 2)=some (.str (if q then "plus" else "minus")):=by
   have:z=2\/z=3:=by lia
   rcases this with rfl|rfl
   .exact⟨true,acg⟩
   .exact⟨false,acg⟩
  refine⟨_,acg,_,_,acg,acg,_,_,_,_,acg,acg,bI.of ak,eq, ?_⟩;have R3:=R2.keep sl;refine⟨_,acg,_,acg,_,acg,r,b,acg,R3,b0,b1,λu y H4 dy yo R4 k4=>?_⟩;refine⟨(by show 3<=sizeLine;decide),λp hp=>?_⟩;have sp:=aG (o:=HO.tup [V.str (if q then "plus" else "minus"),v,u]) hp;have dx4:=dx.keep (λa xs e=>sp _ _ (k4.tups R3 _ _ (sl _ _ e))) _ (Ib x);exact k _ (.two q x y) _ (Vu ak dx4 (dy.same sp _)) ⟨xo,yo⟩ (R4.keep sp) (((k12.trans (KR.same R2 sl)).trans k4).trans (KR.same R4 sp))
section
variable{H:Hp}{p:Addr}{x y:V}{b c n:Nat}{e f:Gz}
theorem Rb(h:H p=some (.tup [.str "load",.str (t_ b),.int c])):Dat H (.ref p) (mC (.load b c)):=by
 simp only[mC,Dat];exact⟨p,_,acg,h,by simp only[aQ,Dat,and_true]⟩
theorem Mr(h:H p=some (.tup [.str "store",.int c,x]))(d:Dat H x (mW e)):Dat H (.ref p) (mC (.store c e)):=by
 simp only[mC,Dat];exact⟨p,_,acg,h,by simp only[aQ,Dat,and_true,true_and];exact d⟩
theorem Q_(h:H p=some (.tup [.str "swap",.str (t_ b),.int c,x]))(d:Dat H x (mW e)):Dat H (.ref p) (mC (.swap b c e)):=by
 simp only[mC,Dat];exact⟨p,_,acg,h,by simp only[aQ,Dat,and_true,true_and];exact d⟩
theorem Vx(h:H p=some (.tup [.str "let",.str (t_ b),x]))(d:Dat H x (mW e)):Dat H (.ref p) (mC (.vQ b e)):=by
 simp only[mC,Dat];exact⟨p,_,acg,h,by simp only[aQ,Dat,and_true,true_and];exact d⟩
theorem Vw(h:H p=some (.tup [.str "say",x]))(d:Dat H x (mW e)):Dat H (.ref p) (mC (.say e)):=by
 simp only[mC,Dat];exact⟨p,_,acg,h,by simp only[aQ,Dat,and_true,true_and];exact d⟩
theorem Zr(h:H p=some (.tup [.str "go",.int n])):Dat H (.ref p) (mC (.go n)):=by
 simp only[mC,Dat];exact⟨p,_,acg,h,by simp only[aQ,Dat,and_true]⟩
theorem Vt{q:Bool}(h:H p=some (.tup [.str "unless",.str (if q then "=" else "<"),x,y,.int n]))(d:Dat H x (mW e))(d':Dat H y (mW f)):Dat H (.ref p) (mC (.zj q e f n)):=by
 simp only[mC,Dat];exact⟨p,_,acg,h,by simp only[aQ,Dat,and_true,true_and];exact⟨d,d'⟩⟩
end
noncomputable def uJ(CH:Addr)(K:PySem.W.Frag):Sp:=λvs H Q _=>∃(A:oJ) (s:bG),vs=[.ref A.h]/\n_ CH H A s /\ ∀(B:oJ)(H':Hp),H B.h=none->H B.b=none->H B.sy=none->B.r=A.r->n_ CH H' B s->Same H H'->Q (.ref B.h) H'
theorem X6(r b b' sy:Addr)(n:Int)(st:Str):cG "in_boxes" (.ref b') (hF r n b sy st)=hF r n b' sy st:=by rfl
theorem X5(r b sy sy':Addr)(n:Int)(st:Str):cG "sayings" (.ref sy') (hF r n b sy st)=hF r n b sy' st:=by rfl
theorem Hx{aq:Addr}{f:Addr}{fd:FuncData}(F:fQ K "another" "Hand.another" jR f fd)(aL:d9 K aq)(Ja:pW P w K mg base 1 aq "Hand" ["self","rows"] [] (v7 aq K))(Bt:mV mg):bR P w K mg base ig 3 f fd ["self"] (uJ aq K):=by
 refine F.ok ou (λvs H Q E h=>?_) (λcdv A outer s H vs Q E hr h=>?_)
 .obtain⟨A,s,rfl,_⟩:=h
  rfl
 .obtain⟨B,s,rfl,c,k⟩:=h
  refine⟨_,(aA (bH (i:=1) ou.nd rfl (Or.inl rfl) (mF Ja (hr.mono (by decide)) (by rfl) (aj (aX (K:=K) rfl (pv 0) rfl) au)))
   (aA (cT (K:=K) rfl (pv 1) (aX (K:=K) rfl (pv 0) rfl) rfl)
   (aA (cT (K:=K) rfl (pv 1) (cZ (cu (K:=K) rfl) (by rfl) Bt.gH eN (aj (aX (K:=K) rfl (pv 0) rfl) au)) rfl)
   (aA (cT (K:=K) rfl (pv 1) (cZ (cu (K:=K) rfl) (by rfl) Bt.gH eN (aj (aX (K:=K) rfl (pv 0) rfl) au)) rfl)
   (aA (cT (K:=K) rfl (pv 1) (aX (K:=K) rfl (pv 0) rfl) rfl)
   (aJ (bA (pv 1)))))))), ?_⟩
  refine⟨_,acg,B.h,aq,B.hx,_,_,acg,c.h,aL.cls,aL.pF,acg,λh hx hh hhx nx=>?_⟩;have hh':(upd H hx (.own h)) h=none:=by rw[aF nx.symm];exact hh
  have sm:Same H (upd (upd H hx (.own h)) h (.ins aq hx [])):=(aG hhx).trans (aG hh');refine⟨h,B.r,hx,acg,ak,λb0 Tj H1 hb0 aiz aij e1 eb1 aiZ k1=>⟨acg, ?_⟩⟩;have S1:Same H H1:=λx u e=>k1 _ _ (sm _ _ e) (aB e hh);clear k1 sm hh';have c1:=c.same S1;refine⟨_,acg,B.h,aq,B.hx,_,_,acg,c1.h,aL.cls,aL.sY,acg,_,acg,h,aq,hx,_,acg,e1,aL.cls,aL.sY,(by show 5<1000;decide), ?_⟩;rw[xV];have S2:Same H (upd H1 h (.ins aq hx (hF B.r s.pos b0 Tj "waits"))):=λx u e=>by rw[aF (aB e hh)];exact S1 _ _ e
  have e2:(upd H1 h (.ins aq hx (hF B.r s.pos b0 Tj "waits"))) h=some (.ins aq hx (hF B.r s.pos b0 Tj "waits")):=ak;generalize (upd H1 h (.ins aq hx (hF B.r s.pos b0 Tj "waits")))=H2 at S2 e2 ⊢;have c2:=c.same S2;refine⟨_,acg,B.h,aq,B.hx,_,_,acg,c2.h,aL.cls,aL.gW,acg,B.b,_,acg,.inl (bI.of c2.b),λb hb=>?_⟩;have sb:=aG (o:=HO.lst (s.bs.map V.int)) hb;have U4:b≠h:=(aB e2 hb).symm;refine⟨_,acg,h,aq,hx,_,acg,sb _ _ e2,aL.cls,aL.gW,(by show 5<1000;decide), ?_⟩;rw[X6];have fb:H b=none:=S2.free hb;have S3:Same H (upd (upd H2 b (.lst (s.bs.map V.int))) h (.ins aq hx (hF B.r s.pos b Tj "waits"))):=λx u e=>by rw[aF (aB e hh)];exact sb _ _ (S2 _ _ e)
  have e3:(upd (upd H2 b (.lst (s.bs.map V.int))) h (.ins aq hx (hF B.r s.pos b Tj "waits"))) h=some (.ins aq hx (hF B.r s.pos b Tj "waits")):=ak;have eb3:(upd (upd H2 b (.lst (s.bs.map V.int))) h (.ins aq hx (hF B.r s.pos b Tj "waits"))) b=some (.lst (s.bs.map V.int)):=by rw[aF U4,ak]
  generalize (upd (upd H2 b (.lst (s.bs.map V.int))) h (.ins aq hx (hF B.r s.pos b Tj "waits")))=H3 at S3 e3 eb3 ⊢;have c3:=c.same S3;refine⟨_,acg,B.h,aq,B.hx,_,_,acg,c3.h,aL.cls,aL.jH,acg,B.sy,_,acg,.inl (bI.of c3.y),λy hy=>?_⟩;have sy:=aG (o:=HO.lst (s.sy.map V.int)) hy;have Wv:y≠h:=(aB e3 hy).symm;have Lk:b≠y:=aB eb3 hy;refine⟨_,acg,h,aq,hx,_,acg,sy _ _ e3,aL.cls,aL.jH,(by show 5<1000;decide), ?_⟩;rw[X5];have fy:H y=none:=S3.free hy;have S4:Same H (upd (upd H3 y (.lst (s.sy.map V.int))) h (.ins aq hx (hF B.r s.pos b y "waits"))):=λx u e=>by rw[aF (aB e hh)];exact sy _ _ (S3 _ _ e)
  have e4:(upd (upd H3 y (.lst (s.sy.map V.int))) h (.ins aq hx (hF B.r s.pos b y "waits"))) h=some (.ins aq hx (hF B.r s.pos b y "waits")):=ak;have eb4:(upd (upd H3 y (.lst (s.sy.map V.int))) h (.ins aq hx (hF B.r s.pos b y "waits"))) b=some (.lst (s.bs.map V.int)):=by rw[aF U4];exact sy _ _ eb3
  have ey4:(upd (upd H3 y (.lst (s.sy.map V.int))) h (.ins aq hx (hF B.r s.pos b y "waits"))) y=some (.lst (s.sy.map V.int)):=by rw[aF Wv,ak]
  generalize (upd (upd H3 y (.lst (s.sy.map V.int))) h (.ins aq hx (hF B.r s.pos b y "waits")))=H4 at S4 e4 eb4 ey4 ⊢;have c4:=c.same S4;refine⟨_,acg,B.h,aq,B.hx,_,_,acg,c4.h,aL.cls,aL.iZ,acg,_,acg,h,aq,hx,_,acg,e4,aL.cls,aL.iZ,(by show 5<1000;decide), ?_⟩;rw[Ca];exact⟨_,acg,k ⟨h,hx,B.r,b,y⟩ _ hh fb fy rfl ⟨ak,by rw[aF U4];exact eb4,by rw[aF Wv];exact ey4,Lk,c.bl⟩ (λx u e=>by rw[aF (aB e hh)];exact S4 _ _ e)⟩
noncomputable def Bh(CW CH:Addr)(K:PySem.W.Frag):Sp:=λvs H Q _=>∃(i i':Nat) (τ:Tg) (W:nW) (S:dR),vs=[.ref W.o]/\j_ CW CH i τ H W S/\j8 S/\S.m<=100/\i'≠0 /\ ∀(τ':Tg)(W':nW)(H':Hp),j_ CW CH i' τ' H' W' S->(∀x u,H x=some u->τ' x=τ x)->Same H H'->Q (.ref W'.o) H'
theorem Ur{ao aq bW:Addr}{f:Addr}{fd:FuncData}(F:fQ K "twin" "Works.twin" nA f fd)(aK:cH K ao)(aL:d9 K aq)(wH:pW P w K mg base 7 ao "Works" ["self","program","cells"] [] (λvs H Q _=>m8 ao aq bW K vs H Q λ_ _ _=>False))(yX:MethAt P w K mg base 3 aq "another" ["self"] (uJ aq K))(Bt:mV mg):bR P w K mg base ig 9 f fd ["self"] (Bh ao aq K):=by
 refine F.ok qL (λvs H Q E h=>?_) (λcdv A outer s H vs Q E hr h=>?_)
 .obtain⟨i,i',τ,W,S,rfl,_⟩:=h
  rfl
 .obtain⟨i,i',τ,W,S,rfl,w,g,ml,i0,k⟩:=h
  refine⟨_,(aA (bH (i:=1) qL.nd rfl (Or.inl rfl) (mF wH (hr.mono (by decide)) (by rfl) (aj (aX (K:=K) rfl (pv 0) rfl) (aj (aX (K:=K) rfl (pv 0) rfl) au))))
   (aA (cT (K:=K) rfl (pv 1) (dI rfl (N:=["one"]) (own:=["one"]) (caps:=[]) (bB.of (by kernel_rfl)) (dH (K:=K) rfl (aX (K:=K) rfl (pv 0) rfl)) (λ_ _ _ _=>(bL (i:=0) (show List.Nodup (["one"]:List Str) by decide +kernel) rfl (Or.inl rfl))) (λ_ _ _ _=>cO) (λ_ _ _ _=>(cC yX aL.cls (hr.mono (by decide)) (pv 0)))) rfl)
   (aA (cT (K:=K) rfl (pv 1) (cZ (cu (K:=K) rfl) (by rfl) Bt.gH eN (aj (aX (K:=K) rfl (pv 0) rfl) au)) rfl)
   (aJ (bA (pv 1)))))), ?_⟩
  have good:pC S.m S.ns:=⟨by rw[w.nl],g.n⟩;refine⟨_,acg,W.o,ao,W.dx,_,_,acg,w.o,aK.cls,aK.qj,acg,_,acg,W.o,ao,W.dx,_,_,acg,w.o,aK.cls,aK.iT,acg,λo dx ho hdx ndx=>?_⟩;have ho':(upd H dx (.own o)) o=none:=by rw[aF ndx.symm];exact ho
  have sm:Same H (upd (upd H dx (.own o)) o (.ins ao dx [])):=(aG hdx).trans (aG ho');refine⟨i',τ,o,dx,W.pg,W.L,W.rs,S.m,.ref W.nb,S.ns,S.hs.map bG.rws,acg,ak,sm _ _ w.pg,sm _ _ w.L,by rw[aac];exact w.rl,λkk r x h1 h2=>?_,by rw[aac];exact w.hn,ml,w.un.same sm,i0,by rw[w.nl];exact ml,.inr ⟨W.nb,acg,sm _ _ w.nb⟩,λ_ τ1 W1 H1 eo w1 tg kp=>⟨acg, ?_⟩,λbad=>ace good bad⟩
  .rw[aaf] at h2
   cases e:S.hs[kk]? with
   | none=>rw[e] at h2;cases h2
   | some s=>rw[e] at h2;cases h2;exact(w.rs kk r s h1 e).2.same sm
  have S1:Same H H1:=λx u e=>kp _ _ (sm _ _ e) (aB e ho);have Z5:∀x u,H x=some u->τ1 x=τ x:=λx u e=>tg x u (sm _ _ e) (aB e ho);have fo:H W1.o=none:=by rw[eo];exact ho
  have eo':V.ref o=V.ref W1.o:=by rw[eo]
  rw[eo'];clear kp tg sm ho' eo';have wA:j_ ao aq i τ1 H1 W S:=w.mv (Mv.tags S1 Z5) w1.un;refine⟨_,acg,W.o,ao,W.dx,_,_,acg,wA.o,aK.cls,aK.kY,acg,W.hl,acg,⟨_,bI.of wA.hl⟩,λD hD=>?_⟩;have sD:=aG (o:=HO.lst []) hD;refine gA (K:=K) (xs:=W.hd.map λa=>V.ref a.h) (λj σ Hc=>∃(v:Option V) (τc:Tg) (hd:List oJ),σ=[v]/\hd.length=j/\Same H1 Hc/\Hc D=some (.lst (hd.map λa=> .ref a.h))/\qw τc Hc/\(∀x u,H1 x=some u->τc x=τ1 x)/\τc D=[i',2] /\ ∀(k:Nat)(A:oJ)(s:bG),hd[k]? = some A->S.hs[k]? = some s->vX aq i' k S.m τc Hc A s) ?_ ?_ ?_ ?_
  .exact⟨none,aR τ1 D [i',2],[],acg,acg,sD,ak,w1.un.claim sD ⟨_,ak⟩,λx u e=>aV (aB e hD),bK,λk A s e=>by simp at e⟩
  .rintro j σ Hc _ ⟨v,τc,hd,rfl,_,sc,_⟩
   exact bI.of (sc _ _ wA.hl)
  .rintro j x σ Hc hj ⟨v,τc,hd,rfl,lj,sc,hDc,unc,SX,tDc,hc⟩
   rw[aaf] at hj
   obtain⟨A,eA,rfl⟩:∃A,W.hd[j]? = some A/\x = .ref A.h:=by
    cases e:W.hd[j]? with
    | none=>rw[e] at hj;cases hj
    | some A=>rw[e] at hj;exact⟨A,acg,(aaC hj).symm⟩
   have wc:j_ ao aq i τc Hc W S:=wA.mv (Mv.tags sc SX) unc;have jl:j<S.hs.length:=by rw[←w.len];exact(aae.mp eA).1
   have es:S.hs[j]? = some S.hs[j]:=by simp[jl]
   have a:=wc.hd j A _ eA es;dsimp only[cN,qF];rw[acd rfl];refine⟨_,acg,A.h,A.hx,_,acg,a.c.h,acg,A,_,acg,a.c,λB H7 fh fb fy er c7 s7=>?_⟩;have nDh:D≠B.h:=aB hDc fh;have nDb:D≠B.b:=aB hDc fb;have nDy:D≠B.sy:=aB hDc fy;have T:∀x u,Hc x=some u->aR (aR (aR τc B.h [i',4,j]) B.b [i',5,j]) B.sy [i',6,j] x=τc x:=λy u e=>by rw[aV (aB e fy),aV (aB e fb),aV (aB e fh)]
   have U7:qw (aR (aR (aR τc B.h [i',4,j]) B.b [i',5,j]) B.sy [i',6,j]) H7:=λy e=>by
    have n1:y≠B.h:=λz=>by rw[z,c7.h] at e;cases e
    have n2:y≠B.b:=λz=>by rw[z,c7.b] at e;cases e
    have n3:y≠B.sy:=λz=>by rw[z,c7.y] at e;cases e
    rw[aV n3,aV n2,aV n1];exact unc y (s7.free e)
   have Th:aR (aR (aR τc B.h [i',4,j]) B.b [i',5,j]) B.sy [i',6,j] B.h=[i',4,j]:=by rw[aV c7.Wv,aV c7.U4,bK]
   have Tb:aR (aR (aR τc B.h [i',4,j]) B.b [i',5,j]) B.sy [i',6,j] B.b=[i',5,j]:=by rw[aV c7.Lk,bK]
   have Ty:aR (aR (aR τc B.h [i',4,j]) B.b [i',5,j]) B.sy [i',6,j] B.sy=[i',6,j]:=bK;generalize aR (aR (aR τc B.h [i',4,j]) B.b [i',5,j]) B.sy [i',6,j]=τ7 at T U7 Th Tb Ty
   have q7:qI [[i',2]] τc Hc τ7 (upd H7 D (.lst ((hd.map λa=>V.ref a.h)++[V.ref B.h]))):=by
    refine⟨λy u e n=>⟨?_,T y u e⟩,λy ys e=>?_⟩
    .rw[aF (λz:y=D=>n (by rw[z,tDc];simp))]
     exact s7 _ _ e
    .rw[aF (dg e hDc (by intro z;cases z))]
     exact s7 _ _ e
   have hjl:hd.length<=100:=by rw[lj];have:=w.hn;lia
   refine⟨_,s7 _ _ hDc,(by rw[aac,sizeLine_eq];lia),some (.ref A.h),τ7,hd++[B],acg,by simp[lj],λy u e=>?_,by rw[ak];simp, ?_,λy u e=>?_, ?_, ?_⟩
   .rw[aF (aB e hD)]
    exact s7 _ _ (sc _ _ e)
   .exact U7.dom λy e=>by
     by_cases z:y=D
     .rw[z,ak] at e;cases e
     .rw[aF z] at e;exact e
   .rw[T y u (sc _ _ e)]
    exact SX y u e
   .rw[T _ _ hDc];exact tDc
   .intro k A' s' h1 h2
    rcases mK h1 with h1|⟨e1,rfl⟩
    .exact(hc k A' s' h1 h2).mvT q7 (by simp) (by simp) (by simp) (by simp)
    .rw[e1,lj,es] at h2
     cases h2;rw[e1,lj];obtain⟨t9,R9⟩:=gK ⟨a.tr,a.r⟩ q7 (by simp);exact⟨⟨by rw[aF nDh.symm];exact c7.h,by rw[aF nDb.symm];exact c7.b,by rw[aF nDy.symm];exact c7.y,c7.Lk,c7.bl⟩,by rw[er];exact R9,by rw[er];exact t9,Th,Tb,Ty⟩
  rintro σ H8 ⟨v,τ8,hd,rfl,lhd,s18,hD8,un8,K3,tD8,hd8⟩;rw[aac] at lhd;have Vk:=s18 _ _ w1.o;have Xd:τ8 W1.o=[i',0]:=by rw[K3 _ _ w1.o];exact w1.to
  refine⟨_,acg,W1.o,ao,W1.dx,_,acg,Vk,aK.cls,aK.kY,(by show 4<1000;decide), ?_⟩;have ho9:(upd H8 W1.o (.ins ao W1.dx (cG "hands" (.ref D) (wF W1.pg W1.nb W1.hl W1.tn)))) W1.o=some (.ins ao W1.dx (wF W1.pg W1.nb D W1.tn)):=ak;have q9:qI [[i',0]] τ8 H8 τ8 (upd H8 W1.o (.ins ao W1.dx (cG "hands" (.ref D) (wF W1.pg W1.nb W1.hl W1.tn)))):=qI.set (by rw[Xd];simp) Vk (by intro xs z;cases z)
  have un9:qw τ8 (upd H8 W1.o (.ins ao W1.dx (cG "hands" (.ref D) (wF W1.pg W1.nb W1.hl W1.tn)))):=un8.dom λy e=>by
   by_cases z:y=W1.o
   .rw[z,ak] at e;cases e
   .rw[aF z] at e;exact e
  have S9:Same H (upd H8 W1.o (.ins ao W1.dx (cG "hands" (.ref D) (wF W1.pg W1.nb W1.hl W1.tn)))):=λx u e=>by rw[aF (aB e fo)];exact s18 _ _ (S1 _ _ e)
  generalize (upd H8 W1.o (.ins ao W1.dx (cG "hands" (.ref D) (wF W1.pg W1.nb W1.hl W1.tn))))=H9 at ho9 q9 un9 S9 ⊢;have w9:j_ ao aq i τ8 H9 W S:=w.mv (Mv.tags S9 λx u e=>(K3 x u (S1 _ _ e)).trans (Z5 x u e)) un9;refine⟨_,acg,W.o,ao,W.dx,_,_,acg,w9.o,aK.cls,aK.qg,acg,W.tn,_,acg,.inl (bI.of w9.tn),λt ht=>?_⟩;have st:=aG (o:=HO.lst (S.ts.map V.int)) ht;have nto:t≠W1.o:=(aB ho9 ht).symm;refine⟨_,acg,W1.o,ao,W1.dx,_,acg,st _ _ ho9,aK.cls,aK.qg,(by show 4<1000;decide), ?_⟩;have LC:(upd (upd H9 t (.lst (S.ts.map V.int))) W1.o (.ins ao W1.dx (cG "turns" (.ref t) (wF W1.pg W1.nb D W1.tn)))) W1.o=some (.ins ao W1.dx (wF W1.pg W1.nb D t)):=ak;have abp:(upd (upd H9 t (.lst (S.ts.map V.int))) W1.o (.ins ao W1.dx (cG "turns" (.ref t) (wF W1.pg W1.nb D W1.tn)))) t=some (.lst (S.ts.map V.int)):=by rw[aF nto,ak]
  have K8:qI [[i',0]] τ8 H9 (aR τ8 t [i',3]) (upd (upd H9 t (.lst (S.ts.map V.int))) W1.o (.ins ao W1.dx (cG "turns" (.ref t) (wF W1.pg W1.nb D W1.tn)))):=(qI.claim st ht).trans (qI.set (by rw[aV nto.symm,Xd];simp) (st _ _ ho9) (by intro xs z;cases z))
  have Xa:qw (aR τ8 t [i',3]) (upd (upd H9 t (.lst (S.ts.map V.int))) W1.o (.ins ao W1.dx (cG "turns" (.ref t) (wF W1.pg W1.nb D W1.tn)))):=(un9.claim st ⟨_,ak⟩).dom λy e=>by
   by_cases z:y=W1.o
   .rw[z,ak] at e;cases e
   .rw[aF z] at e;exact e
  have S10:Same H (upd (upd H9 t (.lst (S.ts.map V.int))) W1.o (.ins ao W1.dx (cG "turns" (.ref t) (wF W1.pg W1.nb D W1.tn)))):=λx u e=>by rw[aF (aB e fo)];exact st _ _ (S9 _ _ e)
  have K1:aR τ8 t [i',3] W1.o=[i',0]:=by rw[aV nto.symm];exact Xd
  have KZ:aR τ8 t [i',3] t=[i',3]:=bK;have tgt:∀x u,H x=some u->aR τ8 t [i',3] x=τ x:=λx u e=>by rw[aV (aB (S9 _ _ e) ht)];exact(K3 x u (S1 _ _ e)).trans (Z5 x u e)
  have Q18:qI [[i',0]] τ1 H1 τ8 H8:=⟨λx u e _=>⟨s18 _ _ e,K3 x u e⟩,s18.tups⟩;have Q8:=q9.trans K8;generalize (upd (upd H9 t (.lst (S.ts.map V.int))) W1.o (.ins ao W1.dx (cG "turns" (.ref t) (wF W1.pg W1.nb D W1.tn))))=W4 at LC abp K8 Xa S10 Q8 ⊢;generalize aR τ8 t [i',3]=DK at K8 Xa K1 KZ tgt Q8;have Q1:=Q18.trans Q8;have hL:=Q1.keep _ _ w1.L (by rw[w1.tL];simp);have hnb:=Q1.keep _ _ w1.nb (by rw[w1.tb];simp);have Sh:=Q8.keep _ _ hD8 (by rw[tD8];simp);refine⟨_,acg,k DK ⟨W1.o,W1.dx,W1.pg,W1.L,W1.nb,D,t,W1.rs,hd⟩ W4 ⟨Xa,i0,LC,Q1.tup _ _ w1.pg,hL.1,hnb.1,Sh.1,abp,K1,hnb.2.trans w1.tb,Sh.2.trans tD8,KZ,hL.2.trans w1.tL, ?_, ?_,by rw[lhd,w.len],λkk A s h1 h2=>(hd8 kk A s h1 h2).mvT Q8 (by simp) (by simp) (by simp) (by simp),w.ok,w.sl,w.nl,w.hn⟩ tgt S10⟩
  .have:=w1.rl
   unfold vV at this;simpa using this
  .intro kk r s h1 h2
   have e1:(vV S.m S.ns (S.hs.map bG.rws)).hs[kk]? = some (lead (new s.rws)):=by
    show ((S.hs.map bG.rws).map λr=>lead (new r))[kk]? = _;rw[aaf,aaf,h2];rfl
   have:=w1.rs kk r _ h1 e1;rw[show (lead (new s.rws)).rws=s.rws from tG _ _] at this;exact gK this Q1 (by simp)
noncomputable def Ov(s:bG):V:=if s.st = "waits" then .int s.pos else .non
noncomputable def G4(CH:Addr)(K:PySem.W.Frag):Sp:=λvs H Q _=>∃(A:oJ) (s:bG),vs=[.ref A.h]/\n_ CH H A s /\ ∀(t:Addr)(H':Hp),Dat (nw H H') (.ref t) (uW s)->Same H H'->Q (.ref t) H'
theorem UW{aq:Addr}{f:Addr}{fd:FuncData}(F:fQ K "picture" "Hand.picture" jP f fd)(aL:d9 K aq)(Bt:mV mg):bR P w K mg base ig 1 f fd ["self"] (G4 aq K):=by
 refine F.ok oh (λvs H Q E h=>?_) (λcdv A outer s H vs Q E hr h=>?_)
 .obtain⟨A,s,rfl,_⟩:=h
  rfl
 .obtain⟨B,s,rfl,c,k⟩:=h
  refine⟨_,(aA (bH (i:=1) oh.nd rfl (Or.inl rfl) (jZ (bF dU (aX (K:=K) rfl (pv 0) rfl) bO (bw _)) (aX (K:=K) rfl (pv 0) rfl) jY))
   (aJ (bA (cX (aj (aX (K:=K) rfl (pv 0) rfl) (aj (pv 1) (aj (cZ (cu (K:=K) rfl) (by rfl) Bt.gH eN (aj (aX (K:=K) rfl (pv 0) rfl) au)) (aj (cZ (cu (K:=K) rfl) (by rfl) Bt.gH eN (aj (aX (K:=K) rfl (pv 0) rfl) au)) au)))))))), ?_⟩
  refine Bw (λσ H1=>σ=[some (.ref B.h),some (Ov s)]/\H1=H) (λD' hD' rt'=>?_) ?_
  .refine⟨_,acg,B.h,aq,B.hx,_,_,acg,c.h,aL.cls,aL.iZ,acg,acg,_,acg, ?_⟩
   refine cP (λq=>?_) (λq=>?_)
   .have hq:s.st=Str.ofString "waits" :=V.str.inj (aaw q)
    refine⟨_,acg,B.h,aq,B.hx,_,_,acg,c.h,aL.cls,aL.sY,acg,hD' _ _ ⟨?_,acg⟩⟩;unfold Ov;rw[acd hq];rfl
   .have hq:¬s.st=Str.ofString "waits" :=λz=>q (aaq (by rw[z]))
    refine hD' _ _ ⟨?_,acg⟩;unfold Ov;rw[ab' hq];rfl
  rintro σ H1 ⟨rfl,rfl⟩;refine⟨_,acg,B.h,aq,B.hx,_,_,acg,c.h,aL.cls,aL.iZ,acg,_,acg,_,acg,B.h,aq,B.hx,_,_,acg,c.h,aL.cls,aL.gW,acg,B.b,_,acg,.inl (bI.of c.b),λb hb=>?_⟩;have sb:=aG (o:=HO.lst (s.bs.map V.int)) hb;have cb:=c.same sb;refine⟨_,acg,B.h,aq,B.hx,_,_,acg,cb.h,aL.cls,aL.jH,acg,B.sy,_,acg,.inl (bI.of cb.y),λy hy=>?_⟩;have sy:=aG (o:=HO.lst (s.sy.map V.int)) hy;refine⟨(by show 4<=sizeLine;decide),λt ht=>?_⟩;have st:=aG (o:=HO.tup [V.str s.st,Ov s,V.ref b,V.ref y]) ht;refine k t _ ?_ ((sb.trans sy).trans st);have fy:H1 y=none:=sb.free hy;have ft:H1 t=none:=sb.free (sy.free ht);simp only[uW,Dat];refine⟨t,_,acg,qN ft ak, ?_⟩;simp only[aQ,Dat,and_true,true_and];refine⟨?_,cV (qN hb (st _ _ (sy _ _ ak))),cV (qN fy (st _ _ ak))⟩;unfold Ov;split<;>simp only[Dat]
noncomputable def W9(S:dR):PyData:=Ku S (vU S)
noncomputable def Oe(CW CH:Addr)(K:PySem.W.Frag):Sp:=λvs H Q _=>∃(i:Nat) (τ:Tg) (W:nW) (S:dR),vs=[.ref W.o]/\j_ CW CH i τ H W S /\ ∀(t:Addr)(H':Hp),Dat H' (.ref t) (W9 S)->Same H H'->Q (.ref t) H'
theorem j_.prog{CW CH:Addr}{i:Nat}{τ:Tg}{H:Hp}{W:nW}{S:dR}(w:j_ CW CH i τ H W S):Dat H (.ref W.pg) (JH S):=by
 have go:∀(rs:List Addr)(hs:List bG),rs.length=hs.length->(∀(k:Nat)(r:Addr)(s:bG),rs[k]? = some r->hs[k]? = some s->dO H r S.m s.rws)->aQ H (rs.map V.ref) (hs.map λs=>sU s.rws):=by
  intro rs
  induction rs with
  | nil=>
    intro hs l _;cases hs with
    | nil=>simp only[List.map_nil,aQ]
    | cons a b=>cases l
  | cons r rs ih=>
    intro hs l h;cases hs with
    | nil=>cases l
    | cons s hs=>
      simp only[List.map_cons,aQ];obtain⟨ts,e1,e2,_⟩:=h 0 r s rfl rfl;exact⟨mO e1 e2,ih hs (by simpa using l) λk r' s' h1 h2=>h (k+1) r' s' h1 h2⟩
 simp only[JH,Dat];refine⟨W.pg,_,acg,w.pg, ?_⟩;simp only[aQ,Dat,and_true,true_and];exact⟨W.L,_,acg,w.L,go W.rs S.hs w.rl λk r s h1 h2=>(w.rs k r s h1 h2).2⟩
theorem j_.Es{CW CH:Addr}{i:Nat}{τ:Tg}{H:Hp}{W:nW}{S:dR}(w:j_ CW CH i τ H W S):∀s∈S.hs,∀r∈s.rws,Ep S.m r:=λs hs=>by
 obtain⟨k,hk⟩:=List.getElem?_of_mem hs;obtain⟨A,_,a⟩:=w.hand hk;obtain⟨ts,_,_,h,_⟩:=a.r;exact h
theorem Yq{ao aq:Addr}{f:Addr}{fd:FuncData}(F:fQ K "picture" "Works.picture" jm f fd)(aK:cH K ao)(aL:d9 K aq)(yW:MethAt P w K mg base 1 aq "picture" ["self"] (G4 aq K))(lV:MethAt P w K mg base 1 ao "cells" ["self"] (v8 ao aq K))(gq:MethAt P w K mg base 1 ao "counts" ["self"] (oU ao aq K))(Bt:mV mg):bR P w K mg base ig 2 f fd ["self"] (Oe ao aq K):=by
 refine F.ok mz (λvs H Q E h=>?_) (λcdv A outer s H vs Q E hr h=>?_)
 .obtain⟨i,τ,W,S,rfl,_⟩:=h
  rfl
 .obtain⟨i,τ,W,S,rfl,w,k⟩:=h
  refine⟨_,(aA (kE (i:=1) rfl mz.nd rfl (Or.inl rfl) (N:=["one"]) (own:=["one"]) (caps:=[]) (bB.of (by kernel_rfl)) (dH (K:=K) rfl (aX (K:=K) rfl (pv 0) rfl)) (λ_ _ _ _=>(bL (i:=0) (show List.Nodup (["one"]:List Str) by decide +kernel) rfl (Or.inl rfl))) (λ_ _ _ _=>cO) (λ_ _ _ _=>(cC yW aL.cls (hr.mono (by decide)) (pv 0))))
   (aJ (bA (cX (aj (aX (K:=K) rfl (pv 0) rfl) (aj (cC lV aK.cls (hr.mono (by decide)) (pv 0)) (aj (pv 1) (aj (cC gq aK.cls (hr.mono (by decide)) (pv 0)) au)))))))), ?_⟩
  refine⟨_,acg,W.o,ao,W.dx,_,_,acg,w.o,aK.cls,aK.kY,acg,W.hl,acg,⟨_,bI.of w.hl⟩,λD hD=>?_⟩;refine MF (K:=K) (λj=>((S.hs[j]?).map uW).getD .none) hD (bI.of w.hl) (by rw[aac,w.len];have:=w.hn;lia) (λj x H1 F hj s1 kF=>?_) (λH1 s1 d1=>?_)
  .rw[aaf] at hj
   obtain⟨A,eA,rfl⟩:∃A,W.hd[j]? = some A/\x = .ref A.h:=by
    cases e:W.hd[j]? with
    | none=>rw[e] at hj;cases hj
    | some A=>rw[e] at hj;exact⟨A,acg,(aaC hj).symm⟩
   have jl:j<S.hs.length:=by rw[←w.len];exact(aae.mp eA).1
   have es:S.hs[j]? = some S.hs[j]:=by simp[jl]
   have a:=(w.same s1).hd j A _ eA es;refine⟨_,acg,A.h,A.hx,_,acg,a.c.h,acg,A,_,acg,a.c,λt H2 d2 s2=>?_⟩;refine kF _ H2 s2 ?_;rw[es];exact d2
  have w1:=w.same s1;refine⟨_,acg,W.o,ao,W.dx,_,_,acg,w1.o,aK.cls,aK.qj,acg,_,acg,W.o,W.dx,_,acg,w1.o,acg,i,τ,W,S,acg,w1,λl2 H2 f2 e2 s2=>?_⟩;have w2:=w1.same s2;refine⟨_,acg,_,acg,W.o,W.dx,_,acg,w2.o,acg,i,τ,W,S,acg,w2,λl3 H3 f3 e3 s3=>?_⟩;have w3:=w2.same s3;refine⟨(by show 4<=sizeLine;decide),λt ht=>?_⟩;have st:=aG (o:=HO.tup [V.ref W.pg,V.ref l2,V.ref D,V.ref l3]) ht;have w4:=w3.same st;refine k t _ ?_ (((s1.trans s2).trans s3).trans st);have d4:=d1.same (((JV _ _).trans (s2.trans s3)).trans st) _
  have eh:((List.range (W.hd.map λa=>V.ref a.h).length).map λj=>((S.hs[j]?).map uW).getD .none)=S.hs.map uW:=by
   rw[aac,w.len];refine List.ext_getElem? λn=>?_
   by_cases hn:n<S.hs.length
   .simp[hn]
   .simp[hn]
  rw[eh] at d4;unfold W9 Ku;simp only[Dat];refine⟨t,_,acg,ak, ?_⟩;have d5:=w4.prog;simp only[aQ,and_true];refine⟨d5,cV (st _ _ (s3 _ _ e2)),d4,cV (st _ _ e3)⟩
theorem Qx(K:PySem.W.Frag)(C:Addr):PySem.W.kitOne K (.ref C) (.ref C)=some true:=by simp[PySem.W.kitOne]
noncomputable def wkE(S T:dR):Bool:=PyData.eqv (W9 S) (W9 T)
noncomputable def Ob(CW CH:Addr)(K:PySem.W.Frag):Sp:=λvs H Q _=>∃(i i':Nat) (τ τ':Tg) (W W':nW) (S S':dR),vs=[.ref W.o,.ref W'.o]/\j_ CW CH i τ H W S/\j_ CW CH i' τ' H W' S'/\j8 S/\j8 S' /\ ∀(H':Hp),Same H H'->Q (.bl (wkE S S')) H'
theorem Yo{ao aq:Addr}{f:Addr}{fd:FuncData}(F:fQ K "__eq__" "Works.__eq__" jN f fd)(aK:cH K ao)(wG:IsO K mg ao "Works")(oE:MethAt P w K mg base 2 ao "picture" ["self"] (Oe ao aq K))(Bt:mV mg):bR P w K mg base ig 3 f fd ["self","other"] (Ob ao aq K):=by
 refine F.ok vO (λvs H Q E h=>?_) (λcdv A outer s H vs Q E hr h=>?_)
 .obtain⟨i,i',τ,τ',W,W',S,S',rfl,_⟩:=h
  rfl
 .obtain⟨i,i',τ,τ',W,W',S,S',rfl,w,w',g,g',k⟩:=h
  have qG:=hr.units;refine⟨_,(aJ (bA (jt (aW (cL (K:=K) (cv:= .ref ao) (c:= .ref ao) rfl rfl) (by rfl) Bt.bQ bM (aj (pv 1) (aj (kO (v:= .ref ao) (by rfl) wG.bd rfl) au))) (iR (cI (sX (K:=K) rfl qG) (cC oE aK.cls (hr.mono (by decide)) (pv 0)) (cC oE aK.cls (hr.mono (by decide)) (pv 1)) (bw _)))))), ?_⟩;refine⟨_,acg,_,_,true,acg,wG.ty w'.o aK.cls,Qx K _,true,acg, ?_⟩;refine eO ?_;refine⟨_,acg,W.o,W.dx,_,acg,w.o,acg,i,τ,W,S,acg,w,λt H1 d1 s1=>?_⟩;have w1:=w'.same s1;refine⟨_,acg,W'.o,W'.dx,_,acg,w1.o,acg,i',τ',W',S',acg,w1,λt' H2 d2 s2=>?_⟩;refine⟨_,_,d1.same s2 _,d2,Ir g w.Es,Ir g' w'.Es, ?_⟩;rw[ab' aax];exact k H2 (s1.trans s2)
theorem RT.set{τ:Tg}{H:Hp}{r x:Addr}{o u:HO}(h:RT τ H r)(e:H x=some o)(t:τ x≠[]):RT τ (upd H x u) r:=by
 obtain⟨n,f⟩:=h.off x o e t;refine⟨h.R.set n f,λy v ey ty=>?_,λy ey=>?_⟩
 .by_cases z:y=x
  .subst z
   exact⟨n,f.set n⟩
  .rw[aF z] at ey
   obtain⟨n',f'⟩:=h.off y v ey ty;exact⟨n',f'.set n⟩
 .by_cases z:y=x
  .rw[z,ak] at ey;cases ey
  .rw[aF z] at ey;exact h.un y ey
noncomputable def V9(K:PySem.W.Frag):Sp:=λvs H Q _=>∃(r z:Addr) (sz bx:Int) (m n:Nat),vs=[.ref r,.ref z,.int n]/\d8 H r/\H z=some (.lst [.int sz,.int m,.int bx])/\z≠r/\0<=sz/\sz<=100/\0<m/\m<=20/\0<bx/\bx<=8 /\ ∀(v:V)(x:Rw)(H':Hp),Dat H' v (mC x)->Ep m x->d8 H' r->KR r H H'->Q v H'
theorem afB:∀i:Int,i=0\/i=1->zf (Str.ofString "=<").cps.toList i=some (if i=0 then 61 else 60):=by
 intro i h;rcases h with rfl|rfl<;>decide +kernel
theorem QV:(Str.ofString "=<").length<=sizeLine:=by rw[sizeLine_eq];decide
theorem Yp{f:Addr}{fd:FuncData}(F:fQ K "_law_row" "_law_row" G_ f fd)(bT:FnAt P w K mg base 1 "_law_draw" ["reel","many"] (jB K))(mU:FnAt P w K mg base 3 "_law_worth" ["reel","boxes"] (Jv K))(Bt:mV mg):bR P w K mg base ig 4 f fd ["reel","sizes","at"] (V9 K):=by
 refine F.ok ni (λvs H Q E h=>?_) (λcdv A outer s H vs Q E hr h=>?_)
 .obtain⟨r,z,sz,bx,m,n,rfl,_⟩:=h
  rfl
 .obtain⟨r,z,sz,bx,m,n,rfl,R,hz,Ws,z0,z1,m0,m1,b0,b1,k⟩:=h
  refine⟨_,(aA (bH (i:=3) ni.nd rfl (Or.inl rfl) (bN bT (hr.mono (by decide)) (by rfl) (aj (pv 0) (aj aC au))))
   (aA (bH (i:=4) ni.nd rfl (Or.inl rfl) (bN bT (hr.mono (by decide)) (by rfl) (aj (pv 0) (aj aC au))))
   (aA (bH (i:=5) ni.nd rfl (Or.inl rfl) (aO H_ bO (bN bT (hr.mono (by decide)) (by rfl) (aj (pv 0) (aj (aO (aP (K:=K) rfl) (pv 1) aC (λ_ _=>rfl)) au))) (λ_ _=>rfl)))
   (aA (bH (i:=6) ni.nd rfl (Or.inl rfl) (bN bT (hr.mono (by decide)) (by rfl) (aj (pv 0) (aj (aO (aP (K:=K) rfl) (pv 1) aC (λ_ _=>rfl)) au))))
   (aA (bH (i:=7) ni.nd rfl (Or.inl rfl) (bN bT (hr.mono (by decide)) (by rfl) (aj (pv 0) (aj (bY iy (aO (aP (K:=K) rfl) (pv 1) aC (λ_ _=>rfl)) aC) au))))
   (aA (cB (bF qM (pv 3) aC (bw _)) (aJ (bA (cX (aj bO (aj (pv 5) (aj (pv 6) au)))))) bJ)
   (aA (cB (bF qM (pv 3) aC (bw _)) (aJ (bA (cX (aj bO (aj (pv 6) (aj (bN mU (hr.mono (by decide)) (by rfl) (aj (pv 0) (aj (aO (aP (K:=K) rfl) (pv 1) aC (λ_ _=>rfl)) au))) au)))))) bJ)
   (aA (cB (bF qM (pv 3) aC (bw _)) (aJ (bA (cX (aj bO (aj (pv 5) (aj (pv 6) (aj (bN mU (hr.mono (by decide)) (by rfl) (aj (pv 0) (aj (aO (aP (K:=K) rfl) (pv 1) aC (λ_ _=>rfl)) au))) au))))))) bJ)
   (aA (cB (bF qM (pv 3) aC (bw _)) (aJ (bA (cX (aj bO (aj (pv 5) (aj (bN mU (hr.mono (by decide)) (by rfl) (aj (pv 0) (aj (aO (aP (K:=K) rfl) (pv 1) aC (λ_ _=>rfl)) au))) au)))))) bJ)
   (aA (cB (bF dU (pv 3) aC (bw _)) (aJ (bA (cX (aj bO (aj (bN mU (hr.mono (by decide)) (by rfl) (aj (pv 0) (aj (aO (aP (K:=K) rfl) (pv 1) aC (λ_ _=>rfl)) au))) au))))) bJ)
   (aA (cB (bF Wq (pv 4) aC (bw _)) (aJ (bH (i:=7) ni.nd rfl (Or.inl rfl) (aW (MN rfl) (by rfl) Bt.abQ Zy (aj (pv 7) (aj (bY iy (pv 2) aC) au))))) bJ)
   (aA (cB (bF dU (pv 3) aC (bw _)) (aJ (bA (cX (aj bO (aj (pv 7) au))))) bJ)
   (aJ (bA (cX (aj bO (aj (aO H_ bO (bY rm (pv 3) aC) (λ_ _=>rfl)) (aj (bN mU (hr.mono (by decide)) (by rfl) (aj (pv 0) (aj (aO (aP (K:=K) rfl) (pv 1) aC (λ_ _=>rfl)) au))) (aj (bN mU (hr.mono (by decide)) (by rfl) (aj (pv 0) (aj (aO (aP (K:=K) rfl) (pv 1) aC (λ_ _=>rfl)) au))) (aj (pv 7) au)))))))))))))))))))), ?_⟩
  refine⟨_,acg,r,13,acg,R,by decide,by decide,λkd H1 kd0 kd1 R1 k1=>?_⟩;refine⟨_,acg,r,3,acg,R1,by decide,by decide,λah H2 _ _ R2 k2=>?_⟩;have hz2:=k2.1 _ _ (k1.1 _ _ hz Ws) Ws;refine⟨_,acg,_,acg,_,_,_,_,acg,acg,bI.of hz2,acg,r,bx,acg,R2,b0,by lia,λi H3 i0 i1 R3 k3=>?_⟩;refine⟨_,_,_,acg,acg,Kr,Kh i0 (by lia), ?_⟩;have hz3:=k3.1 _ _ hz2 Ws;refine⟨_,acg,_,acg,_,_,_,_,acg,acg,bI.of hz3,acg,r,m,acg,R3,by lia,by lia,λc H4 c0 c1 R4 k4=>?_⟩;obtain⟨c,rfl⟩:=ab4 c0;have hz4:=k4.1 _ _ hz3 Ws;refine⟨_,acg,_,acg,_,_,_,_,acg,acg,bI.of hz4,acg,_,_,acg,acg,r,_,acg,R4,by lia,by lia,λto H5 t0 t1 R5 k5=>?_⟩;obtain⟨to,rfl⟩:=ab4 t0;have hz5:=k5.1 _ _ hz4 Ws;have K5:KR r H H5:=(((k1.trans k2).trans k3).trans k4).trans k5;have ib:i.toNat<8:=by lia
  have cm:c<m:=by lia
  refine⟨_,acg,_,_,acg,acg,_,acg, ?_⟩;refine cP (λ_=>?_) (λ_=>?_)
  .refine⟨_,acg,_,acg,(by show 3<=sizeLine;decide),λp hp=>?_⟩
   have sp:=aG (o:=HO.tup [V.str (Str.ofString "load"),V.str (t_ i.toNat),V.int c]) hp;exact k _ (.load i.toNat c) _ (Rb ak) ⟨ib,cm⟩ (R5.keep sp) (K5.trans (KR.same R5 sp))
  refine⟨_,acg,_,_,acg,acg,_,acg, ?_⟩;refine cP (λ_=>?_) (λ_=>?_)
  .refine⟨_,acg,_,acg,_,acg,_,_,_,_,acg,acg,bI.of hz5,acg,r,bx,acg,R5,b0,b1,λv e H6 d eo R6 k6=>?_⟩
   refine⟨(by show 3<=sizeLine;decide),λp hp=>?_⟩;have sp:=aG (o:=HO.tup [V.str (Str.ofString "store"),V.int c,v]) hp;exact k _ (.store c e) _ (Mr ak (d.same sp _)) ⟨cm,eo⟩ (R6.keep sp) ((K5.trans k6).trans (KR.same R6 sp))
  refine⟨_,acg,_,_,acg,acg,_,acg, ?_⟩;refine cP (λ_=>?_) (λ_=>?_)
  .refine⟨_,acg,_,acg,_,acg,_,acg,_,_,_,_,acg,acg,bI.of hz5,acg,r,bx,acg,R5,b0,b1,λv e H6 d eo R6 k6=>?_⟩
   refine⟨(by show 4<=sizeLine;decide),λp hp=>?_⟩;have sp:=aG (o:=HO.tup [V.str (Str.ofString "swap"),V.str (t_ i.toNat),V.int c,v]) hp;exact k _ (.swap i.toNat c e) _ (Q_ ak (d.same sp _)) ⟨ib,cm,eo⟩ (R6.keep sp) ((K5.trans k6).trans (KR.same R6 sp))
  refine⟨_,acg,_,_,acg,acg,_,acg, ?_⟩;refine cP (λ_=>?_) (λq8=>?_)
  .refine⟨_,acg,_,acg,_,acg,_,_,_,_,acg,acg,bI.of hz5,acg,r,bx,acg,R5,b0,b1,λv e H6 d eo R6 k6=>?_⟩
   refine⟨(by show 3<=sizeLine;decide),λp hp=>?_⟩;have sp:=aG (o:=HO.tup [V.str (Str.ofString "let"),V.str (t_ i.toNat),v]) hp;exact k _ (.vQ i.toNat e) _ (Vx ak (d.same sp _)) ⟨ib,eo⟩ (R6.keep sp) ((K5.trans k6).trans (KR.same R6 sp))
  refine⟨_,acg,acg,_,acg, ?_⟩;refine cP (λ_=>?_) (λq9=>?_)
  .refine⟨_,acg,_,acg,_,_,_,_,acg,acg,bI.of hz5,acg,r,bx,acg,R5,b0,b1,λv e H6 d eo R6 k6=>?_⟩
   refine⟨(by show 2<=sizeLine;decide),λp hp=>?_⟩;have sp:=aG (o:=HO.tup [V.str (Str.ofString "say"),v]) hp;exact k _ (.say e) _ (Vw ak (d.same sp _)) eo (R6.keep sp) ((K5.trans k6).trans (KR.same R6 sp))
  have k10:10<=kd:=by
   have h8:¬kd<9:=by simpa using q8
   have h9:¬kd=9:=λe=>q9 (aaq (by rw[e]));lia
  unfold zP;dsimp only;refine Bw (λσ H'=>∃to:Nat,σ=[some (.ref r),some (.ref z),some (.int n),some (.int kd),some (.int ah),some (.str (t_ i.toNat)),some (.int c),some (.int to)]/\H'=H5) (λD' hD' _=>?_) ?_
  .refine⟨_,acg,_,_,acg,acg,_,acg, ?_⟩
   refine cP (λ_=>?_) (λ_=>hD' _ _ ⟨to,acg,acg⟩);refine⟨_,acg,_,acg,_,_,acg,acg,_,_,acg, ?_⟩;refine hD' _ _ ⟨if n+1>to then n+1 else to, ?_,acg⟩
   have:(if (n:Int)+1>(to:Int) then (n:Int)+1 else (to:Int))=((if n+1>to then n+1 else to:Nat):Int):=by
    by_cases h:n+1>to
    .rw[acd h,acd (by lia)];lia
    .rw[ab' h,ab' (by lia)]
   rw[this];rfl
  rintro σ H' ⟨to,rfl,rfl⟩;refine⟨_,acg,acg,_,acg, ?_⟩;refine cP (λ_=>?_) (λK8=>?_)
  .refine⟨_,acg,(by show 2<=sizeLine;decide),λp hp=>?_⟩
   have sp:=aG (o:=HO.tup [V.str (Str.ofString "go"),V.int to]) hp;exact k _ (.go to) _ (Zr ak) trivial (R5.keep sp) (K5.trans (KR.same R5 sp))
  have k11:kd - 11=0\/kd - 11=1:=by
   have:¬kd=10:=λe=>K8 (aaq (by rw[e]));lia
  refine⟨_,acg,_,_,acg,acg,_,_,_,acg,acg,QV,afB _ k11, ?_⟩;refine⟨_,acg,_,acg,_,_,_,_,acg,acg,bI.of hz5,acg,r,bx,acg,R5,b0,b1,λv e H6 d eo R6 k6=>?_⟩;have hz6:=k6.1 _ _ hz5 Ws;refine⟨_,acg,_,acg,_,_,_,_,acg,acg,bI.of hz6,acg,r,bx,acg,R6,b0,b1,λv' e' H7 d' eo' R7 k7=>?_⟩;refine⟨_,acg,(by show 5<=sizeLine;decide),λp hp=>?_⟩;have sp:=aG (o:=HO.tup [V.str (Str.ofString "unless"),V.str ⟨#[if kd - 11=0 then 61 else 60]⟩,v,v',V.int to]) hp;have d7:=(d.keep (k7.tups R6) _ (uY e)).same sp _;refine k _ (.zj (decide (kd - 11=0)) e e' to) _ (Vt ?_ d7 (d'.same sp _)) ⟨eo,eo'⟩ (R7.keep sp) (((K5.trans k6).trans k7).trans (KR.same R7 sp));rw[ak];rcases k11 with h|h
  .rw[h];rfl
  .rw[h];rfl
structure Pg(τ:Tg)(H:Hp)(p L:Addr)(rs:List Addr)(rws:List (List Rw))(m:Nat):Prop where
 ep:H p=some (.tup [.int m,.ref L])
 eL:H L=some (.lst (rs.map V.ref))
 tL:τ L=[0]
 len:rs.length=rws.length
 row:∀(k:Nat)(r:Addr)(x:List Rw),rs[k]? = some r->rws[k]? = some x->τ r=[0]/\dO H r m x
theorem Pg.mv{i:Nat}{τ τ':Tg}{H H':Hp}{p L:Addr}{rs:List Addr}{rws:List (List Rw)}{m:Nat}(g:Pg τ H p L rs rws m)(q:Mv i τ H τ' H'):Pg τ' H' p L rs rws m:=by
 have e:=q.keep _ _ g.eL (.inl g.tL);exact⟨q.tup _ _ g.ep,e.1,e.2.trans g.tL,g.len,λk r x h1 h2=>JD (g.row k r x h1 h2) q⟩
noncomputable def Od(K:PySem.W.Frag):Sp:=λvs H Q _=>∃(r:Addr) (τ:Tg),vs=[.ref r]/\RT τ H r /\ ∀(p L:Addr)(rs:List Addr)(rws:List (List Rw))(m:Nat)(τ':Tg)(H':Hp),Pg τ' H' p L rs rws m->0<rws.length->rws.length<=8->0<m->m<=20->(∀x∈rws,x.length<=60)->RT τ' H' r->(∀x u,H x=some u->τ' x=τ x)->Kp r H H'->Q (.ref p) H'
theorem Uy{f:Addr}{fd:FuncData}(F:fQ K "_law_program" "_law_program" qX f fd)(bT:FnAt P w K mg base 1 "_law_draw" ["reel","many"] (jB K))(ZX:FnAt P w K mg base 4 "_law_row" ["reel","sizes","at"] (V9 K))(Bt:mV mg):bR P w K mg base ig 5 f fd ["reel"] (Od K):=by
 refine F.ok fY (λvs H Q E h=>?_) (λcdv A outer s H vs Q E hr h=>?_)
 .obtain⟨r,τ,rfl,_⟩:=h
  rfl
 .obtain⟨r,τ,rfl,T,k⟩:=h
  refine⟨_,(aA (bH (i:=1) fY.nd rfl (Or.inl rfl) (bN bT (hr.mono (by decide)) (by rfl) (aj (pv 0) (aj aC au))))
   (aA (bH (i:=2) fY.nd rfl (Or.inr rfl) (bY iy aC (bN bT (hr.mono (by decide)) (by rfl) (aj (pv 0) (aj (aO (aP (K:=K) rfl) (cY (aj aC (aj aC (aj aC au)))) (bN bT (hr.mono (by decide)) (by rfl) (aj (pv 0) (aj aC au))) (λ_ _=>rfl)) au)))))
   (aA (bH (i:=3) fY.nd rfl (Or.inr rfl) (aO (aP (K:=K) rfl) (cY (aj aC (aj aC au))) (bN bT (hr.mono (by decide)) (by rfl) (aj (pv 0) (aj aC au))) (λ_ _=>rfl)))
   (aA (bH (i:=4) fY.nd rfl (Or.inl rfl) (cY au))
   (aA (jr PassesOwn.never rfl (cR (by rfl) Bt.dN (aj (bY iy aC (bN bT (hr.mono (by decide)) (by rfl) (aj (pv 0) (aj (aO (aP (K:=K) rfl) (cY (aj aC (aj aC au))) (cZ vd (by rfl) Bt.Gn yM (aj (cI Wq (pv 1) aC (bw _)) au)) (λ_ _=>rfl)) au)))) au)) (bL (i:=5) fY.nd rfl (Or.inl rfl))
   (aA (bH (i:=6) fY.nd rfl (Or.inr rfl) (bN bT (hr.mono (by decide)) (by rfl) (aj (pv 0) (aj (aO (aP (K:=K) rfl) (cY (aj aC (aj aC au))) (cZ vd (by rfl) Bt.Gn yM (aj (cI dU (pv 1) aC (bw _)) au)) (λ_ _=>rfl)) au))))
   (aJ (dh (eZ (K:=K) rfl (pv 4) (aj (dI rfl (N:=["at","reel","size","many","boxes"]) (own:=["at"]) (caps:=[0,6,2,3]) (bB.of (by kernel_rfl)) (cR (by rfl) Bt.dN (aj (pv 6) au)) (λ_ _ _ _=>(bL (i:=0) (show List.Nodup (["at","reel","size","many","boxes"]:List Str) by decide +kernel) rfl (Or.inl rfl))) (λ_ _ _ _=>cO) (λ_ _ _ _=>(bN ZX (hr.mono (by decide)) (by rfl) (aj (pv 1) (aj (cY (aj (pv 2) (aj (pv 3) (aj (pv 4) au)))) (aj (pv 0) au)))))) au))))))
   (aJ (bA (cX (aj (pv 2) (aj (pv 4) au)))))))))), ?_⟩
  refine⟨_,acg,r,8,acg,T.R,by decide,by decide,λgreat H1 g0 g1 R1 k1=>?_⟩;have T1:=T.draw k1 R1;refine⟨_,acg,(by show 3<=sizeLine;decide),λl hl=>?_⟩;have sl:=aG (o:=HO.lst [V.int 2,V.int 3,V.int 20]) hl;have nlr:l≠r:=R1.ne hl;refine⟨_,acg,r,3,acg,R1.keep sl,by decide,by decide,λz H2 z0 z1 R2 k2=>?_⟩;have T2:=(T1.same sl).draw k2 R2
  obtain⟨bb,eb,b0,b1⟩:∃bb:Int,zf [V.int 2,V.int 3,V.int 20] z=some (.int bb)/\0<bb/\bb<=20:=by
   have:z=0\/z=1\/z=2:=by lia
   rcases this with rfl|rfl|rfl
   .exact⟨2,acg,by decide,by decide⟩
   .exact⟨3,acg,by decide,by decide⟩
   .exact⟨20,acg,by decide,by decide⟩
  refine⟨_,_,_,_,acg,acg,bI.of (k2.1 _ _ ak nlr),eb,r,bb,acg,R2,b0,by lia,λi H3 i0 i1 R3 k3=>⟨_,_,acg,acg, ?_⟩⟩;have T3:=T2.draw k3 R3;obtain⟨m,em,m0,YK⟩:∃m:Nat,(1:Int)+i=m/\0<m/\m<=20:=⟨(1+i).toNat,by lia,by lia,by lia⟩;dsimp only[cN];rw[em];refine⟨(by show 2<=sizeLine;decide),λl4 hl4=>?_⟩;have sl4:=aG (o:=HO.lst [V.int 2,V.int 8]) hl4;have ae6:l4≠r:=R3.ne hl4;refine⟨_,acg,r,2,acg,R3.keep sl4,by decide,by decide,λz4 H5 z40 z41 R5 k5=>?_⟩;have T5:=(T3.same sl4).draw k5 R5
  obtain⟨bx,ebx,bx0,bx1⟩:∃bb:Int,zf [V.int 2,V.int 8] z4=some (.int bb)/\0<bb/\bb<=8:=by
   have:z4=0\/z4=1:=by lia
   rcases this with rfl|rfl
   .exact⟨2,acg,by decide,by decide⟩
   .exact⟨8,acg,by decide,by decide⟩
  refine⟨_,_,_,_,acg,acg,bI.of (k5.1 _ _ ak ae6),ebx, ?_⟩;have kp5:Kp r H H5:=((((k1.1.trans (Kp.of_same sl)).trans k2.1).trans k3.1).trans (Kp.of_same sl4)).trans k5.1;refine⟨(by show 0<=sizeLine;decide),λa ha=>?_⟩;have sa:=aG (o:=HO.lst []) ha;have nar:a≠r:=R5.ne ha;have ha0:H a=none:=wu kp5 nar ha;have T6:=T5.claim (t:=[0]) sa ha ⟨_,ak⟩;have tg6:∀x u,H x=some u->aR τ a [0] x=τ x:=λx u e=>aV (aB e ha0);have ta6:aR τ a [0] a=[0]:=bK;have kp6:=kp5.trans (Kp.of_same sa);have ea6:(upd H5 a (.lst [])) a=some (.lst []):=ak;generalize (upd H5 a (.lst []))=H6 at sa T6 kp6 ea6 ⊢;generalize aR τ a [0]=τ6 at T6 tg6 ta6;refine⟨_,acg,(by show 2<=sizeLine;decide),λl7 hl7=>?_⟩;have sl7:=aG (o:=HO.lst [V.int 3,V.int 7]) hl7;refine⟨_,acg,_,_,acg,acg,.inr ⟨_,acg, ?_⟩⟩
  obtain⟨nn,en,n0,n1⟩:∃nn:Int,zf [V.int 3,V.int 7] (if decide (5<great) then 1 else 0)=some (.int nn)/\0<nn/\nn<=7:=by
   cases decide (5<great)
   .exact⟨3,acg,by decide,by decide⟩
   .exact⟨7,acg,by decide,by decide⟩
  refine⟨_,_,_,_,acg,acg,bI.of ak,en,r,nn,acg,(T6.same sl7).R,n0,by lia,λcnt H7 c0 c1 R7 k7=>⟨_,_,acg,acg,_,acg,by lia,by lia, ?_⟩⟩;have T7:=(T6.same sl7).draw k7 R7;have ea7:=k7.1 _ _ (sl7 _ _ ea6) nar
  refine iU (lo:=0) (λj σ Hc=>∃(v w':Option V) (τc:Tg) (rs:List Addr) (rws:List (List Rw)),σ=[some (.ref r),some (.int great),some (.int m),some (.int bx),some (.ref a),v,w']/\RT τc Hc r/\Hc a=some (.lst (rs.map V.ref))/\τc a=[0]/\rs.length=rws.length/\rws.length=j/\(∀x∈rws,x.length<=60)/\(∀(k:Nat)(q:Addr)(x:List Rw),rs[k]? = some q->rws[k]? = some x->q≠a/\τc q=[0]/\dO Hc q m x)/\(∀x u,H x=some u->τc x=τ x)/\Kp r H Hc)
   ⟨none,none,τ6,[],[],acg,T7,ea7,ta6,acg,acg,by simp,λk q x e=>by simp at e,tg6,(kp6.trans (Kp.of_same sl7)).trans k7.1⟩ ?_ ?_
  .rintro j σ Hc hj ⟨v,w',τc,rs,rws,rfl,Tc,eac,tac,lr,lj,l60,hrs,SX,kpc⟩
   refine⟨_,acg,(by show 2<=sizeLine;decide),λl8 hl8=>?_⟩;have Wc:=aG (o:=HO.lst [V.int 9,V.int 61]) hl8;refine⟨_,acg,acg,.inr ⟨_,acg, ?_⟩⟩
   obtain⟨nz,ez,nz0,nz1⟩:∃nn:Int,zf [V.int 9,V.int 61] (if decide (V.int great=V.int 7) then 1 else 0)=some (.int nn)/\0<nn/\nn<=61:=by
    cases decide (V.int great=V.int 7)
    .exact⟨9,acg,by decide,by decide⟩
    .exact⟨61,acg,by decide,by decide⟩
   refine⟨_,_,_,_,acg,acg,bI.of ak,ez,r,nz,acg,(Tc.same Wc).R,nz0,by lia,λsz H8 s0 s1 R8 k8=>?_⟩;have T8:=(Tc.same Wc).draw k8 R8;have J5:∀x o,Hc x=some o->τc x≠[]->H8 x=some o:=λx o e t=>(Tc.same Wc).keep k8 (Wc _ _ e) t;have t8:∀x xs,Hc x=some (.tup xs)->H8 x=some (.tup xs):=λx xs e=>k8.tups (Tc.same Wc).R _ _ (Wc _ _ e);have ea8:=J5 _ _ eac (by rw[tac];simp);have kp8:=(kpc.trans (Kp.of_same Wc)).trans k8.1;refine⟨_,acg,.inl ⟨acg,_,bI.of ea8⟩,_,acg,sz,acg,by lia,by lia,λD hD=>?_⟩;have sD:=aG (o:=HO.lst []) hD;have Z_:D≠r:=R8.ne hD;have Zb:H D=none:=wu kp8 Z_ hD;have nDa:D≠a:=(aB ea8 hD).symm;have TD:=T8.claim (t:=[0]) sD hD ⟨_,ak⟩
   have tgD:∀x u,Hc x=some u->aR τc D [0] x=τc x:=λx u e=>by
    by_cases z:x=D
    .subst z
     by_cases t:τc x=[]
     .by_cases zr:x=r
      .exact ace zr Z_
      .have:=k8.1 _ _ (Wc _ _ e) zr
       rw[hD] at this;cases this
     .have:=J5 _ _ e t
      rw[hD] at this;cases this
    .exact aV z
   have RX:aR τc D [0] D=[0]:=bK;have V6:aR τc D [0] a=[0]:=by rw[aV nDa.symm];exact tac
   have tgH:∀x u,H x=some u->aR τc D [0] x=τ x:=λx u e=>by rw[aV (aB e Zb)];exact SX x u e
   have Vj:∀(k:Nat)(q:Addr)(x:List Rw),rs[k]? = some q->rws[k]? = some x->q≠a/\q≠D/\aR τc D [0] q=[0]/\dO H8 q m x:=λk q x h1 h2=>by
    obtain⟨n1,t1,R1'⟩:=hrs k q x h1 h2;have rr:=R1';obtain⟨ts,hq,_⟩:=rr;have hq8:=J5 _ _ hq (by rw[t1];simp);exact⟨n1,aB hq8 hD,by rw[tgD _ _ hq];exact t1,R1'.keep (λo e=>J5 _ _ e (by rw[t1];simp)) t8⟩
   generalize aR τc D [0]=τd at TD tgD RX V6 tgH Vj;refine gj (lo:=0) (n:=sz.toNat) (λi σ Hd=>∃(v:Option V) (refs:List V) (rw':List Rw),σ=[v,some (.ref r),some (.int sz),some (.int m),some (.int bx)]/\RT τd Hd r/\Hd D=some (.lst refs)/\aQ Hd refs (rw'.map mC)/\(∀x∈rw',Ep m x)/\rw'.length=i/\Hd a=some (.lst (rs.map V.ref))/\(∀(k:Nat)(q:Addr)(x:List Rw),rs[k]? = some q->rws[k]? = some x->dO Hd q m x)/\Kp r H Hd) ?_ ?_ ?_
   .exact⟨none,[],[],acg,TD,ak,by simp[aQ],by simp,acg,sD _ _ ea8,λk q x h1 h2=>((Vj k q x h1 h2).2.2.2).same sD,kp8.trans (Kp.of_same sD)⟩
   .rintro i σ Hd hi ⟨v,refs,rw',rfl,Td,Sh,dd,od,ld,ead,hrd,YM⟩
    dsimp only[cN,qF];rw[acd rfl];refine⟨_,acg,_,acg,_,acg,_,acg,(by show 3<=sizeLine;decide),λz hz=>?_⟩;have sz':=aG (o:=HO.lst [V.int sz,V.int m,V.int bx]) hz;have Ws:z≠r:=Td.R.ne hz;refine⟨_,acg,r,z,sz,bx,m,i,by rw[Int.zero_add];rfl,Td.R.keep sz',ak,Ws,s0,by lia,m0,YK,bx0,bx1,λy x H9 dy xo R9 k9=>?_⟩;have T9:=(Td.same sz').draw k9 R9;have Qy:∀x o,Hd x=some o->τd x≠[]->H9 x=some o:=λx o e t=>(Td.same sz').keep k9 (sz' _ _ e) t;have t9:∀x xs,Hd x=some (.tup xs)->H9 x=some (.tup xs):=λx xs e=>k9.tups (Td.same sz').R _ _ (sz' _ _ e);have hD9:=Qy _ _ Sh (by rw[RX];simp);have tu:∀a ys,H9 a=some (.tup ys)->(upd H9 D (.lst (refs++[y]))) a=some (.tup ys):=λa ys e=>by rw[aF (dg e hD9 (by intro z;cases z))];exact e
    have ll:refs.length=rw'.length:=by rw[dd.length,aac]
    refine⟨refs,hD9,(by rw[ll,sizeLine_eq];lia),_,refs++[y],rw'++[x],acg,T9.set hD9 (by rw[RX];simp),ak, ?_, ?_,by simp[ld],by rw[aF nDa.symm];exact Qy _ _ ead (by rw[V6];simp), ?_, ?_⟩
    .rw[aa3]
     exact fM ((dd.kp t9).kp tu) (dy.keep tu _ (CG x))
    .intro q hq
     rcases abb.mp hq with hq|hq
     .exact od q hq
     .rw[aby.mp hq];exact xo
    .intro kk q x' h1 h2
     obtain⟨_,n2,t2,_⟩:=Vj kk q x' h1 h2;exact(hrd kk q x' h1 h2).keep (λo e=>by rw[aF n2];exact Qy _ _ e (by rw[t2];simp)) (λy ys e=>tu _ _ (t9 _ _ e))
    .intro x' o e n'
     rw[aF (aB e Zb)];exact k9.1 _ _ (sz' _ _ (YM _ _ e n')) n'
   .rintro σ Hd ⟨v,refs,rw',rfl,Td,Sh,dd,od,ld,ead,hrd,YM⟩
    refine⟨_,_,_,acg,acg,ead,(by rw[aac,lr,lj,sizeLine_eq];lia), ?_⟩;have tu:∀x ys,Hd x=some (.tup ys)->(upd Hd a (.lst (rs.map V.ref++[V.ref D]))) x=some (.tup ys):=λx ys e=>by rw[aF (dg e ead (by intro z;cases z))];exact e
    refine⟨_,_,τd,rs++[D],rws++[rw'],acg,Td.set ead (by rw[V6];simp),by rw[ak,aa3];rfl,V6,by simp[lr],by simp[lj], ?_, ?_,tgH,λx o e n'=>by rw[aF (aB e ha0)];exact YM _ _ e n'⟩
    .intro x hx
     rcases abb.mp hx with hx|hx
     .exact l60 x hx
     .rw[aby.mp hx];lia
    .intro kk q x h1 h2
     rcases mK h2 with h2|⟨ek,rfl⟩
     .have kl:=(aae.mp h2).1
      rw[aaO (by rw[lr];exact kl)] at h1;obtain⟨n1,_,t1,_⟩:=Vj kk q x h1 h2;exact⟨n1,t1,(hrd kk q x h1 h2).keep (λo e=>by rw[aF n1];exact e) tu⟩
     .have e1:q=D:=by
       rcases mK h1 with h1|⟨_,h1⟩
       .have:=(aae.mp h1).1;rw[lr] at this;lia
       .exact h1
      subst e1;exact⟨nDa,RX,refs,by rw[aF nDa];exact Sh,dd.kp tu,od,by lia⟩
  .rintro σ Hc ⟨v,w',τc,rs,rws,rfl,Tc,eac,tac,lr,lj,l60,hrs,SX,kpc⟩
   refine⟨_,acg,_,acg,(by show 2<=sizeLine;decide),λp hp=>?_⟩;have sp:=aG (o:=HO.tup [V.int m,V.ref a]) hp;exact k p a rs rws m τc _ ⟨ak,sp _ _ eac,tac,lr,λk q x h1 h2=>⟨(hrs k q x h1 h2).2.1,((hrs k q x h1 h2).2.2).same sp⟩⟩ (by lia) (by lia) m0 YK l60 (Tc.same sp) SX (kpc.trans (Kp.of_same sp))
noncomputable def NumV(τ:Tg)(H:Hp)(v:V)(ns:List Int)(m:Nat):Prop:=pC m ns/\((v = .non/\ns=List.replicate m 0) \/ ∃l,v = .ref l/\τ l=[0]/\H l=some (.lst (ns.map V.int)))
theorem NumV.mv{i:Nat}{τ τ':Tg}{H H':Hp}{v:V}{ns:List Int}{m:Nat}(h:NumV τ H v ns m)(q:Mv i τ H τ' H'):NumV τ' H' v ns m:=by
 obtain⟨g,h⟩:=h;refine⟨g, ?_⟩;rcases h with h|⟨l,e,t,hl⟩
 .exact .inl h
 .have:=q.keep _ _ hl (.inl t)
  exact .inr ⟨l,e,this.2.trans t,this.1⟩
theorem Yx(m:Nat):pC m (List.replicate m 0):=⟨by rw[List.length_replicate],λx hx=>by rw[(List.mem_replicate.mp hx).2];exact⟨by decide,by decide⟩⟩
theorem rep0(m:Nat):(List.replicate m [V.int 0]).flatten=(List.replicate m (0:Int)).map V.int:=by
 rw[List.map_replicate]
 induction m with
 | zero=>rfl
 | succ n ih=>rw[List.replicate_succ,List.flatten_cons,ih,List.replicate_succ];rfl
noncomputable def Og(K:PySem.W.Frag):Sp:=λvs H Q _=>∃(r:Addr) (τ:Tg) (m:Nat),vs=[.ref r,.int m]/\RT τ H r/\m<=20 /\ ∀(v:V)(ns:List Int)(τ':Tg)(H':Hp),NumV τ' H' v ns m->RT τ' H' r->(∀x u,H x=some u->τ' x=τ x)->Kp r H H'->Q v H'
theorem Uz{f:Addr}{fd:FuncData}(F:fQ K "_law_numbers" "_law_numbers" qY f fd)(bT:FnAt P w K mg base 1 "_law_draw" ["reel","many"] (jB K))(Bt:mV mg):bR P w K mg base ig 2 f fd ["reel","many"] (Og K):=by
 refine F.ok Em (λvs H Q E h=>?_) (λcdv A outer s H vs Q E hr h=>?_)
 .obtain⟨r,τ,m,rfl,_⟩:=h
  rfl
 .obtain⟨r,τ,m,rfl,T,YK,k⟩:=h
  refine⟨_,(aA (cB (bF dU (bN bT (hr.mono (by decide)) (by rfl) (aj (pv 0) (aj aC au))) aC (bw _)) (aJ (bA jY)) bJ)
   (aJ (bA (dI rfl (N:=["k","reel"]) (own:=["k"]) (caps:=[0]) (bB.of (by kernel_rfl)) (cR (by rfl) Bt.dN (aj (pv 1) au)) (λ_ _ _ _=>(bL (i:=0) (show List.Nodup (["k","reel"]:List Str) by decide +kernel) rfl (Or.inl rfl))) (λ_ _ _ _=>cO) (λ_ _ _ _=>(bN bT (hr.mono (by decide)) (by rfl) (aj (pv 1) (aj (aO (aP (K:=K) rfl) (cY (aj aC (aj aC au))) (bN bT (hr.mono (by decide)) (by rfl) (aj (pv 1) (aj aC au))) (λ_ _=>rfl)) au)))))))), ?_⟩
  refine⟨_,acg,r,2,acg,T.R,by decide,by decide,λz H1 z0 z1 R1 k1=>⟨acg,_,acg, ?_⟩⟩;have T1:=T.draw k1 R1;refine cP (λ_=>?_) (λ_=>?_)
  .exact k .non _ τ H1 ⟨Yx m,.inl ⟨acg,acg⟩⟩ T1 (λx u e=>rfl) k1.1
  refine⟨_,acg,_,acg,by lia,by lia,λD hD=>?_⟩;rw[aa5];have sD:=aG (o:=HO.lst []) hD;have Z_:D≠r:=R1.ne hD;have Zb:H D=none:=wu k1.1 Z_ hD;have TD:=T1.claim (t:=[0]) sD hD ⟨_,ak⟩;have RX:aR τ D [0] D=[0]:=bK;have tgH:∀x u,H x=some u->aR τ D [0] x=τ x:=λx u e=>aV (aB e Zb);generalize aR τ D [0]=τd at TD RX tgH;refine gj (lo:=0) (n:=m) (λi σ Hd=>∃(v:Option V) (ns:List Int),σ=[v,some (.ref r)]/\RT τd Hd r/\Hd D=some (.lst (ns.map V.int))/\(∀x∈ns,0<=x/\x<1000)/\ns.length=i/\Kp r H Hd) ?_ ?_ ?_
  .exact⟨none,[],acg,TD,ak,by simp,acg,k1.1.trans (Kp.of_same sD)⟩
  .rintro i σ Hd hi ⟨v,ns,rfl,Td,Sh,od,ld,YM⟩
   dsimp only[cN,qF];rw[acd rfl];refine⟨_,acg,(by show 2<=sizeLine;decide),λl hl=>?_⟩;have sl:=aG (o:=HO.lst [V.int 4,V.int 1000]) hl;have nlr:l≠r:=Td.R.ne hl;refine⟨_,acg,r,2,acg,(Td.same sl).R,by decide,by decide,λq H2 q0 q1 R2 k2=>?_⟩;have T2:=(Td.same sl).draw k2 R2
   obtain⟨bb,eb,b0,b1⟩:∃bb:Int,zf [V.int 4,V.int 1000] q=some (.int bb)/\0<bb/\bb<=1000:=by
    have:q=0\/q=1:=by lia
    rcases this with rfl|rfl
    .exact⟨4,acg,by decide,by decide⟩
    .exact⟨1000,acg,by decide,by decide⟩
   refine⟨_,_,_,_,acg,acg,bI.of (k2.1 _ _ ak nlr),eb,r,bb,acg,R2,b0,by lia,λy H3 y0 y1 R3 k3=>?_⟩;have T3:=T2.draw k3 R3;have hD3:=T2.keep k3 ((Td.same sl).keep k2 (sl _ _ Sh) (by rw[RX];simp)) (by rw[RX];simp);refine⟨_,hD3,(by rw[aac,sizeLine_eq];lia),_,ns++[y],acg,T3.set hD3 (by rw[RX];simp),by rw[ak,aa3];rfl, ?_,by simp[ld],λx o e n'=>by rw[aF (aB e Zb)];exact k3.1 _ _ (k2.1 _ _ (sl _ _ (YM _ _ e n')) n') n'⟩;intro x hx;rcases abb.mp hx with hx|hx
   .exact od x hx
   .rw[aby.mp hx];exact⟨y0,by lia⟩
  .rintro σ Hd ⟨v,ns,rfl,Td,Sh,od,ld,YM⟩
   exact k _ ns τd Hd ⟨⟨by rw[ld],od⟩,.inr ⟨D,acg,RX,Sh⟩⟩ Td tgH YM
noncomputable def lW(hs:List bG)(k:Nat):Bool:=match hs[k]? with
 | some s=>decide (s.st = "waits")
 | none=>false
noncomputable def rO(hs:List bG):List Nat:=(List.range hs.length).filter (lW hs)
theorem QM{α:Type}(p:Nat->Bool)(f:Nat->α)(n:Nat):(List.range n).filterMap (λi=>if p i then some (f i) else none)=((List.range n).filter p).map f:=by
 induction n with
 | zero=>rfl
 | succ n ih=>
   rw[dJ,ih,List.range_succ,ab_,aa3];congr 1;cases h:p n<;>simp[h]
theorem Kv{hs:List bG}{z k:Nat}(h:(rO hs)[z]? = some k):∃s,hs[k]? = some s/\s.st = "waits" :=by
 have m:=aap h;have:=(abS.mp m).2;unfold lW at this;cases e:hs[k]? with
 | none=>rw[e] at this;cases this
 | some s=>rw[e] at this;exact⟨s,acg,aaw this⟩
theorem Oa{K:PySem.W.Frag}{H H':Hp}{a:Addr}{xs:List V}(h:bI K H a xs)(k:∀o,H a=some o->H' a=some o):bI K H' a xs:=by
 rcases h with (h|⟨o,h⟩)|h
 .exact .inl (.inl (k _ h))
 .exact .inl (.inr ⟨o,k _ h⟩)
 .exact .inr h
structure Dr(τ:Tg)(r:Addr)(H H':Hp):Prop where
 k:∀x o,H x=some o->τ x≠[]->H' x=some o
 t:∀x xs,H x=some (.tup xs)->H' x=some (.tup xs)
 p:Kp r H H'
theorem Dr.of_same{τ:Tg}{r:Addr}{H H':Hp}(s:Same H H'):Dr τ r H H':=⟨λx o e _=>s _ _ e,s.tups,Kp.of_same s⟩
theorem Dr.trans{τ:Tg}{r:Addr}{H H1 H2:Hp}(a:Dr τ r H H1)(b:Dr τ r H1 H2):Dr τ r H H2:=⟨λx o e n=>b.k _ _ (a.k _ _ e n) n,λx xs e=>b.t _ _ (a.t _ _ e),a.p.trans b.p⟩
theorem Dr.draw{τ:Tg}{r:Addr}{H H':Hp}(T:RT τ H r)(k:KR r H H'):Dr τ r H H':=⟨λx o e n=>T.keep k e n,λx xs e=>k.tups T.R _ _ e,k.1⟩
theorem Dr.mv{τ:Tg}{r:Addr}{H H':Hp}{i:Nat}(d:Dr τ r H H'):Mv i τ H τ H':=⟨λx o e t=>⟨d.k x o e (by
 rcases t with t|t
 .rw[t];simp
 .intro z;rw[z] at t;cases t),acg⟩,d.t⟩
noncomputable abbrev jy:=Int×Str×Int
noncomputable def tD(x:jy):PyData:= .tuple [.int x.1,.str x.2.1,.int x.2.2]
theorem yu(x:jy):za (tD x)=true:=acg
theorem Vv{H:Hp}{t:Addr}{x:jy}(h:H t=some (.tup [.int x.1,.str x.2.1,.int x.2.2])):Dat H (.ref t) (tD x):=by
 simp only[tD,Dat];exact⟨t,_,acg,h,by simp only[aQ,Dat,and_self]⟩
noncomputable def lA(H:Hp)(a:Addr)(ws:List jy):Prop:=∃vs,H a=some (.lst vs)/\aQ H vs (ws.map tD)
theorem lA.same{H H':Hp}{a:Addr}{ws:List jy}(h:lA H a ws)(k:Same H H'):lA H' a ws:=by
 obtain⟨vs,e,d⟩:=h;exact⟨vs,k _ _ e,aQ.keep k.tups _ (cj _ yu ws) d⟩
noncomputable def Nf(x y:jy):Bool:= !decide (V.int x.1=V.int y.1)&&(decide (V.int x.2.2=V.int y.2.2)&&(!decide (V.str x.2.1=V.str "load") || !decide (V.str y.2.1=V.str "load")))
noncomputable def wW(K:PySem.W.Frag):Sp:=λvs H Q _=>∃(a b:Addr) (x y:jy),vs=[.ref a,.ref b]/\H a=some (.tup [.int x.1,.str x.2.1,.int x.2.2])/\H b=some (.tup [.int y.1,.str y.2.1,.int y.2.2])/\Q (.bl (Nf x y)) H
theorem UG{f:Addr}{fd:FuncData}(F:fQ K "_law_meet" "_law_meet" BP f fd):bR P w K mg base ig 1 f fd ["one","other"] (wW K):=by
 refine F.ok Om (λvs H Q E h=>?_) (λcdv A outer s H vs Q E hr h=>?_)
 .obtain⟨a,b,x,y,rfl,_⟩:=h
  rfl
 .obtain⟨a,b,x,y,rfl,ha,hb,k⟩:=h
  refine⟨_,(aJ (bA (jt (cI kW (aO (aU (K:=K) rfl) (pv 0) aC (λ_ _=>rfl)) (aO (aU (K:=K) rfl) (pv 1) aC (λ_ _=>rfl)) (bw _)) (jt (cI dU (aO (aU (K:=K) rfl) (pv 0) aC (λ_ _=>rfl)) (aO (aU (K:=K) rfl) (pv 1) aC (λ_ _=>rfl)) (bw _)) (iR (Pk (cI kW (aO (aU (K:=K) rfl) (pv 0) aC (λ_ _=>rfl)) bO (bw _)) (iR (cI kW (aO (aU (K:=K) rfl) (pv 1) aC (λ_ _=>rfl)) bO (bw _))))))))), ?_⟩;show S_ _ _ [some (.ref a),some (.ref b)] H;unfold Nf at k;refine⟨_,acg,_,_,_,_,acg,acg,cD.of ha,acg,_,acg,_,_,_,_,acg,acg,cD.of hb,acg,acg,_,acg, ?_⟩
  by_cases c1:V.int x.1=V.int y.1
  .rw[aaq c1] at k ⊢
   exact k
  rw[aar c1] at k ⊢;refine⟨_,acg,_,_,_,_,acg,acg,cD.of ha,acg,_,acg,_,_,_,_,acg,acg,cD.of hb,acg,acg,_,acg, ?_⟩
  by_cases c2:V.int x.2.2=V.int y.2.2
  .rw[aaq c2] at k ⊢
   refine⟨_,acg,_,_,_,_,acg,acg,cD.of ha,acg,acg,_,acg, ?_⟩
   by_cases c3:V.str x.2.1=V.str "load"
   .rw[aaq c3] at k ⊢
    exact⟨_,acg,_,_,_,_,acg,acg,cD.of hb,acg,acg,k⟩
   .rw[aar c3] at k ⊢
    exact k
  .rw[aar c2] at k ⊢
   exact k
theorem J0{x y:jy}:Nf x y=true↔x.1≠y.1/\x.2.2=y.2.2/\(x.2.1 ≠ "load" \/ y.2.1 ≠ "load"):=by
 unfold Nf;simp only[aa6,Bool.or_eq_true,Bool.not_eq_true',decide_eq_false_iff_not,decide_eq_true_eq,V.int.injEq,V.str.injEq,ne_eq]
theorem uF{H:Hp}{a:Addr}{ws:List jy}{j:Nat}{x:jy}(h:lA H a ws)(e:ws[j]? = some x):∃vs b,H a=some (.lst vs)/\vs.length=ws.length/\vs[j]? = some (.ref b)/\H b=some (.tup [.int x.1,.str x.2.1,.int x.2.2]):=by
 obtain⟨vs,ea,d⟩:=h;obtain⟨v,ev,dv⟩:=d.getD (i:=j) (d:=tD x) (by rw[aaf,e];rfl);have ln:=d.length;simp only[tD,Dat] at dv;obtain⟨b,us,rfl,eb,du⟩:=dv
 have:us=[.int x.1,.str x.2.1,.int x.2.2]:=by
  match us,du with
  | [p,q,r],du=>
    simp only[aQ,Dat] at du;obtain⟨rfl,rfl,rfl,_⟩:=du;rfl
 subst this;exact⟨vs,b,ea,by simpa using ln,ev,eb⟩
noncomputable def rB(ws:List jy)(i j:Nat):Prop:=i<j /\ ∃x y,ws[i]? = some x/\ws[j]? = some y/\(x.1=y.1\/Nf x y=true)
structure Ar(H:Hp)(r:Addr)(ws:List jy)(T:Nat->Prop):Prop where
 ex:∃bs:List Bool,H r=some (.lst (bs.map V.bl))/\bs.length=ws.length /\ ∀x,bs[x]? = some true↔T x
theorem Ar.same{H H':Hp}{r:Addr}{ws:List jy}{T:Nat->Prop}(h:Ar H r ws T)(k:Same H H'):Ar H' r ws T:=let ⟨bs,e,q⟩:=h.ex;⟨⟨bs,k _ _ e,q⟩⟩
theorem Ar.iff{H:Hp}{r:Addr}{ws:List jy}{T T':Nat->Prop}(h:Ar H r ws T)(k:∀x,T x↔T' x):Ar H r ws T':=let ⟨bs,e,l,q⟩:=h.ex;⟨⟨bs,e,l,λx=>(q x).trans (k x)⟩⟩
theorem Ar.get{H:Hp}{r:Addr}{ws:List jy}{T:Nat->Prop}{m:Nat}(h:Ar H r ws T)(l:m<ws.length):∃(vs:List V) (b:Bool),H r=some (.lst vs)/\vs.length=ws.length/\vs[m]? = some (.bl b)/\(b=true↔T m):=by
 obtain⟨bs,e,lb,q⟩:=h.ex;have eb:bs[m]? = some (bs[m]'(by lia)):=aad _;refine⟨_,_,e,by simpa using lb,by rw[aaf,eb];rfl, ?_⟩;rw[←q m,eb,Option.some.injEq]
theorem Ar.put{H:Hp}{r:Addr}{ws:List jy}{T T':Nat->Prop}{vs:List V}{m:Nat}{c:Bool}(h:Ar H r ws T)(e:H r=some (.lst vs))(l:m<ws.length)(hc:c=true↔T' m)(k:∀x,x≠m->(T x↔T' x)):Ar (upd H r (.lst (vs.set m (.bl c)))) r ws T':=by
 obtain⟨bs,e',lb,q⟩:=h.ex;rw[e] at e';cases e';refine⟨⟨bs.set m c,by rw[ak,List.map_set],by simpa using lb,λx=>?_⟩⟩
 by_cases xm:x=m
 .subst xm
  rw[List.getElem?_set_self (by lia),Option.some.injEq];exact hc
 .rw[List.getElem?_set_ne (Ne.symm xm)]
  exact(q x).trans (k x xm)
structure zG(H:Hp)(t:Addr)(ws:List jy)(n:Nat):Prop where
 ex:∃rs:List Addr,H t=some (.lst (rs.map V.ref))/\rs.length=n/\(∀r∈rs,r≠t) /\ ∀j r,rs[j]? = some r->Ar H r ws λx=>Ah (rB ws) x j
theorem zG.same{H H':Hp}{t:Addr}{ws:List jy}{n:Nat}(h:zG H t ws n)(k:Same H H'):zG H' t ws n:=let ⟨rs,e,l,d,q⟩:=h.ex;⟨⟨rs,k _ _ e,l,d,λj r h=>(q j r h).same k⟩⟩
theorem zG.get{H:Hp}{t:Addr}{ws:List jy}{n i m:Nat}(h:zG H t ws n)(hi:i<n)(hm:m<ws.length):∃(vs us:List V) (r:Addr) (b:Bool),H t=some (.lst vs)/\vs[i]? = some (.ref r)/\H r=some (.lst us)/\us[m]? = some (.bl b)/\(b=true↔Ah (rB ws) m i):=by
 obtain⟨rs,e,l,d,q⟩:=h.ex;have er:rs[i]? = some (rs[i]'(by lia)):=aad _;obtain⟨us,b,e2,_,e3,e4⟩:=(q i _ er).get hm;exact⟨_,us,_,b,e,by rw[aaf,er];rfl,e2,e3,e4⟩
noncomputable def RB(ws:List jy)(j i0 x:Nat):Prop:=Ah (rB ws) x j/\(i0<=x \/ ∃y,i0<=y/\Ah (rB ws) x y/\Ah (rB ws) y j)
theorem zX{ws:List jy}:∀i j,rB ws i j->i<j:=λ_ _ h=>h.1
theorem ZM{ws:List jy}{j x:Nat}:¬RB ws j j x:=by
 rintro⟨a,b|⟨y,b,_,c⟩⟩
 .have:=a.lt zX;lia
 .have:=c.lt zX;lia
theorem VN{ws:List jy}{j x:Nat}:RB ws j 0 x↔Ah (rB ws) x j:=⟨λh=>h.1,λh=>⟨h,.inl (Nat.zero_le _)⟩⟩
theorem ZP{ws:List jy}{j i:Nat}(l:i<j):(RB ws j (i+1) i\/rB ws i j)↔Ah (rB ws) i j:=by
 rw[Ou zX l];constructor
 .rintro(⟨_,b|⟨y,b,c,d⟩⟩|h)
  .lia
  .exact .inr ⟨y,c.lt zX,d.lt zX,c,d⟩
  .exact .inl h
 .rintro(h|⟨y,p,q,c,d⟩)
  .exact .inr h
  .exact .inl ⟨c.trans d,.inr ⟨y,p,c,d⟩⟩
theorem abT{ws:List jy}{j i:Nat}(n:¬Ah (rB ws) i j)(x:Nat):RB ws j (i+1) x↔RB ws j i x:=by
 constructor
 .rintro⟨a,b|⟨y,b,c⟩⟩
  .exact⟨a,.inl (by lia)⟩
  .exact⟨a,.inr ⟨y,by lia,c⟩⟩
 .rintro⟨a,b|⟨y,b,c,d⟩⟩
  .rcases Nat.lt_or_ge i x with h|h
   .exact⟨a,.inl h⟩
   .have:x=i:=by lia
    subst this;exact ace a n
  .rcases Nat.lt_or_ge i y with h|h
   .exact⟨a,.inr ⟨y,h,c,d⟩⟩
   .have:y=i:=by lia
    subst this;exact ace d n
theorem ZL{ws:List jy}{j i:Nat}(n:Ah (rB ws) i j)(x:Nat):(RB ws j (i+1) x\/x=i\/(x<i/\Ah (rB ws) x i))↔RB ws j i x:=by
 constructor
 .rintro(⟨a,b|⟨y,b,c⟩⟩|rfl|⟨l,a⟩)
  .exact⟨a,.inl (by lia)⟩
  .exact⟨a,.inr ⟨y,by lia,c⟩⟩
  .exact⟨n,.inl (aaj _)⟩
  .exact⟨a.trans n,.inr ⟨i,aaj _,a,n⟩⟩
 .rintro⟨a,b|⟨y,b,c,d⟩⟩
  .rcases Nat.lt_or_ge i x with h|h
   .exact .inl ⟨a,.inl h⟩
   .exact .inr (.inl (by lia))
  .rcases Nat.lt_or_ge i y with h|h
   .exact .inl ⟨a,.inr ⟨y,h,c,d⟩⟩
   .have:y=i:=by lia
    subst this;exact .inr (.inr ⟨c.lt zX,c⟩)
theorem gJ{H H':Hp}{r:Addr}{o:HO}(s:Same H H')(h:H r=none):Same H (upd H' r o):=λb u e=>by
 rw[aF (aB e h)];exact s _ _ e
noncomputable def Wb(K:PySem.W.Frag):Sp:=λvs H Q _=>∃(w:Addr) (ws:List jy),vs=[.ref w]/\lA H w ws/\ws.length<=50 /\ ∀t H',Same H H'->zG H' t ws ws.length->Q (.ref t) H'
theorem Rt{K:PySem.W.Frag}{H:Hp}{w r t:Addr}{ws:List jy}{i j:Nat}{x5:Option V}{Q:Bool->Hp->Prop}(hw:lA H w ws)(hr:Ar H r ws (RB ws j (i+1)))(l:i<j)(lj:j<ws.length)(k:∀c,(c=true↔Ah (rB ws) i j)->Q c H):
 tOr (tB (vL (o_ K) (cW 3) (cW 4))) (tOr (Ju (vL rEq (vL (Oz K) (vL (o_ K) (cW 0) (cW 4)) (tC (.int 0))) (vL (Oz K) (vL (o_ K) (cW 0) (cW 2)) (tC (.int 0))))) (tB (Ed (wW K) [] E0 (h_ (vL (o_ K) (cW 0) (cW 4)) (h_ (vL (o_ K) (cW 0) (cW 2)) qC))))) [some (.ref w),some (.ref t),some (.int j),some (.ref r),some (.int i),x5] H Q:=by
 obtain⟨us,b,e,lu,eb,hb⟩:=hr.get (m:=i) (by lia);obtain⟨x,ex⟩:∃x,ws[i]? = some x:=⟨_,aad (by lia)⟩;obtain⟨y,ey⟩:∃y,ws[j]? = some y:=⟨_,aad lj⟩;obtain⟨vs,p,ew,lv,ep,tp⟩:=uF hw ex;obtain⟨vs',q,ew',lv',eq,tq⟩:=uF hw ey;rw[ew] at ew';cases ew'
 have hB:rB ws i j↔(x.1=y.1\/Nf x y=true):=⟨λ⟨_,x',y',h1,h2,h3⟩=>by
  rw[ex] at h1;rw[ey] at h2;cases h1;cases h2;exact h3,λh=>⟨l,x,y,ex,ey,h⟩⟩
 have all:=ZP (ws:=ws) l;rw[←hb,hB] at all;refine⟨_,acg,_,acg,r,us,i,.bl b,acg,acg,bI.of e,bV eb,b,acg, ?_⟩;cases b with
 | true=>exact eO (k true (by rw[←all];simp))
 | false=>
   refine cU ?_;refine⟨_,acg,_,acg,w,vs,i,_,acg,acg,bI.of ew,bV ep,_,_,_,_,acg,acg,cD.of tp,acg,_,acg,_,acg,w,vs,j,_,acg,acg,bI.of ew,bV eq,_,_,_,_,acg,acg,cD.of tq,acg,acg,_,acg, ?_⟩
   by_cases c1:V.int x.1=V.int y.1
   .rw[aaq c1]
    exact eO (k true (by rw[←all];injection c1 with c1;simp[c1]))
   .rw[aar c1]
    refine cU ?_;have n1:¬x.1=y.1:=λz=>c1 (by rw[z]);exact⟨_,acg,_,acg,w,vs,i,_,acg,acg,bI.of ew,bV ep,_,acg,_,acg,w,vs,j,_,acg,acg,bI.of ew,bV eq,p,q,x,y,acg,tp,tq,_,acg,k _ (by rw[←all];simp[n1])⟩
theorem ZF{K:PySem.W.Frag}{H H1:Hp}{w r t:Addr}{ws:List jy}{i j m:Nat}{D:Ends}(r0:H1 r=none)(s4:Same H1 H)(tb:zG H1 t ws j)(hr:Ar H r ws λx=>RB ws j (i+1) x\/x=i\/(x<m/\Ah (rB ws) x i))(l:i<j)(lj:j<ws.length)(lm:m<i)(k:∀H',Same H1 H'->Ar H' r ws (λx=>RB ws j (i+1) x\/x=i\/(x<m+1/\Ah (rB ws) x i))->D.nx [some (.ref w),some (.ref t),some (.int j),some (.ref r),some (.int i),some (.int m)] H'):
 Tf (aaF (vL (o_ K) (cW 3) (cW 5)) (vL (o_ K) (vL (o_ K) (cW 1) (cW 4)) (cW 5))) (Zd (cW 3) (cW 5) Ox) D [some (.ref w),some (.ref t),some (.int j),some (.ref r),some (.int i),some (.int m)] H:=by
 obtain⟨us,b,e,lu,eb,hb⟩:=hr.get (m:=m) (by lia);obtain⟨vs,us',r',b',et,ev,er,eb',hb'⟩:=(tb.same s4).get l (m:=m) (by lia)
 have put:∀c:Bool,(c=true↔(b=true\/b'=true))->Zd (cW 3) (cW 5) Ox (.bl c) [some (.ref w),some (.ref t),some (.int j),some (.ref r),some (.int i),some (.int m)] H D.nx:=λc hc=>by
  refine⟨_,acg,_,acg,r,us,m,m,acg,acg,e,by rw[wz (by lia) (by lia)];rfl, ?_⟩;refine k _ (gJ s4 r0) (hr.put e (by lia) ?_ λx xm=>?_)
  .rw[hc,hb,hb']
   constructor
   .rintro((h|h|h)|h)
    .exact .inl h
    .exact .inr (.inl h)
    .exact .inr (.inr ⟨by lia,h.2⟩)
    .exact .inr (.inr ⟨by lia,h⟩)
   .rintro(h|h|h)
    .exact .inl (.inl h)
    .exact .inl (.inr (.inl h))
    .exact .inr h.2
  .have:(x<m)↔(x<m+1):=by lia
   simp only[this]
 refine⟨_,acg,_,acg,r,us,m,.bl b,acg,acg,bI.of e,bV eb,b,acg, ?_⟩;cases b with
 | true=>exact eO (put true (by simp))
 | false=>exact cU ⟨_,acg,_,acg,t,vs,i,_,acg,acg,bI.of et,bV ev,_,acg,r',us',m,_,acg,acg,bI.of er,bV eb',put b' (by simp)⟩
theorem Yw{f:Addr}{fd:FuncData}(F:fQ K "_law_ahead" "_law_ahead" xP f fd)(Du:FnAt P w K mg base 1 "_law_meet" ["one","other"] (wW K))(Bt:mV mg):bR P w K mg base ig 2 f fd ["web"] (Wb K):=by
 refine F.ok jF (λvs H Q E h=>?_) (λcdv A outer s H vs Q E hr h=>?_)
 .obtain⟨w,ws,rfl,_⟩:=h
  rfl
 .obtain⟨w,ws,rfl,hw,hl,k⟩:=h
  refine⟨_,(aA (bH (i:=1) jF.nd rfl (Or.inl rfl) (cY au))
   (aA (jr PassesOwn.never rfl (cR (by rfl) Bt.dN (aj (aW (aY (K:=K) rfl) (by rfl) Bt.dW cM (aj (pv 0) au)) au)) (bL (i:=2) jF.nd rfl (Or.inl rfl))
   (aA (bH (i:=3) jF.nd rfl (Or.inl rfl) (bY Ht (cY (aj oA au)) (aW (aY (K:=K) rfl) (by rfl) Bt.dW cM (aj (pv 0) au))))
   (aA (jr PassesOwn.never rfl (Ug (by rfl) Bt.Iw (by rfl) Bt.dN (aj (pv 2) au)) (bL (i:=4) jF.nd rfl (Or.inl rfl))
   (aJ (cB (PW.pt (jV (dB (aO (aP (K:=K) rfl) (pv 3) (pv 4) (λ_ _=>rfl))) (jV (bF dU (aO (aU (K:=K) rfl) (aO (aP (K:=K) rfl) (pv 0) (pv 4) (λ_ _=>rfl)) aC (λ_ _=>rfl)) (aO (aU (K:=K) rfl) (aO (aP (K:=K) rfl) (pv 0) (pv 2) (λ_ _=>rfl)) aC (λ_ _=>rfl)) (bw _)) (jU (dB (bN Du (hr.mono (by decide)) (by rfl) (aj (aO (aP (K:=K) rfl) (pv 0) (pv 4) (λ_ _=>rfl)) (aj (aO (aP (K:=K) rfl) (pv 0) (pv 2) (λ_ _=>rfl)) au)))))))) (aA (nJ oA (pq (pv 3) (pv 4) set_list))
   (aJ (jr PassesOwn.never rfl (cR (by rfl) Bt.dN (aj (pv 4) au)) (bL (i:=5) jF.nd rfl (Or.inl rfl))
   (aJ (nJ (Pk (aO (aP (K:=K) rfl) (pv 3) (pv 5) (λ_ _=>rfl)) (iR (aO (aP (K:=K) rfl) (aO (aP (K:=K) rfl) (pv 1) (pv 4) (λ_ _=>rfl)) (pv 5) (λ_ _=>rfl)))) (pq (pv 3) (pv 5) set_list)))))) bJ)))
   (aJ (dh (eZ (K:=K) rfl (pv 1) (aj (pv 3) au)))))))
   (aJ (bA (pv 1))))), ?_⟩
  show GQ _ _ _ [some (.ref w),none,none,none,none,none] H;refine⟨by show 0<=sizeLine;exact Nat.zero_le _,λt ht=>?_⟩;obtain⟨vw,ew,dw⟩:=id hw;have lw:vw.length=ws.length:=by simpa using dw.length
  have s0:Same H (upd H t (.lst [])):=aG ht;refine⟨_,acg,w,vw,acg,.inl (bI.of (s0 _ _ ew)),(vw.length:Int),acg,by lia,by lia, ?_⟩;rw[lw,aa5];refine iU (λj σ H1=>∃x2 x3 x4 x5:Option V,σ=[some (.ref w),some (.ref t),x2,x3,x4,x5]/\Same H H1/\zG H1 t ws j) ⟨_,_,_,_,acg,s0,⟨⟨[],ak,acg,(λ_ h=>nomatch h),λj r h=>by simp at h⟩⟩⟩ ?_ ?_
  .rintro j σ H1 hj ⟨x2,x3,x4,x5,rfl,sm,tb⟩
   have e0:(0:Int)+(j:Int)=(j:Int):=Int.zero_add _;rw[e0];refine⟨by show 1<=sizeLine;decide,λp1 hp1=>?_⟩;have s1:Same H1 (upd H1 p1 (.lst [.bl false])):=aG hp1
   have sz:[V.bl false].length*vw.length<=sizeLine:=by
    show 1*vw.length<=sizeLine;have h50:50<=sizeLine:=by decide
    lia
   refine⟨_,acg,w,vw,acg,.inl (bI.of (s1 _ _ (sm _ _ ew))),p1,(vw.length:Int),[.bl false],acg,acg,ak,by lia,by lia,by rw[aa5];exact sz,λr hrr=>?_⟩;rw[aa5,lw]
   have r0:H1 r=none:=Classical.byContradiction λz=>by
    obtain⟨o,eo⟩:=Option.ne_none_iff_exists'.mp z;rw[s1 _ _ eo] at hrr;cases hrr
   have s2:Same H1 (upd (upd H1 p1 (.lst [.bl false])) r (.lst (List.replicate ws.length [V.bl false]).flatten)):=gJ s1 r0
   have rw0:Ar (upd (upd H1 p1 (.lst [.bl false])) r (.lst (List.replicate ws.length [V.bl false]).flatten)) r ws (RB ws j j):=by
    refine⟨⟨List.replicate ws.length false,by rw[ak,List.flatten_replicate_singleton,List.map_replicate],by simp,λx=>⟨λh=>?_,λh=>ace h ZM⟩⟩⟩;rw[List.getElem?_replicate] at h;split at h<;>cases h
   generalize upd (upd H1 p1 (.lst [.bl false])) r (.lst (List.replicate ws.length [V.bl false]).flatten)=H2 at s2 rw0 ⊢;refine⟨_,acg,(j:Int),acg,⟨by lia,by lia⟩, ?_⟩;rw[aa5];refine Ii (hi:=(j:Int) - 1) (n:=j) (λi σ H3=>∃x4 x5:Option V,σ=[some (.ref w),some (.ref t),some (.int j),some (.ref r),x4,x5]/\Same H1 H3/\Ar H3 r ws (RB ws j (j - i))) ⟨_,_,acg,s2,rw0⟩ ?_ ?_
   .rintro i σ H3 hi ⟨x4,x5,rfl,s3,Wg⟩
    have eh:(j:Int) - 1 - (i:Int)=((j - 1 - i:Nat):Int):=by lia
    rw[eh];obtain⟨h,eq⟩:∃h,h=j - 1 - i:=⟨_,acg⟩;rw[←eq];have e1:j - i=h+1:=by lia
    have e2:j - (i+1)=h:=by lia
    rw[e1] at Wg;refine Rt (hw.same (sm.trans s3)) Wg (by lia) hj λc hc=>?_;cases c with
    | false=>
      refine cU ⟨_,_,acg,s3, ?_⟩;rw[e2];exact Wg.iff (abT (λz=>by cases hc.mpr z))
    | true=>
      have a:=hc.mp rfl;obtain⟨us,b,e,lu,eb,hb⟩:=Wg.get (m:=h) (by lia);refine eO ⟨_,acg,_,acg,r,us,h,h,acg,acg,e,by rw[wz (by lia) (by lia)];rfl, ?_⟩;refine⟨_,acg,(h:Int),acg,by lia,by lia, ?_⟩;rw[aa5];refine iU (λm σ H4=>∃x5:Option V,σ=[some (.ref w),some (.ref t),some (.int j),some (.ref r),some (.int h),x5]/\Same H1 H4/\Ar H4 r ws λx=>RB ws j (h+1) x\/x=h\/(x<m/\Ah (rB ws) x h)) ⟨_,acg,gJ s3 r0,Wg.put e (by lia) (by simp) λx xm=>by simp[xm]⟩ ?_ ?_
      .rintro m σ H4 hm ⟨x5,rfl,s4,rw4⟩
       have e0:(0:Int)+(m:Int)=(m:Int):=Int.zero_add _;rw[e0];exact ZF r0 s4 tb rw4 (by lia) hj hm λH' s5 rw5=>⟨_,acg,s5,rw5⟩
      .rintro σ H4 ⟨x5,rfl,s4,rw4⟩
       refine⟨_,_,acg,s4, ?_⟩;rw[e2];exact rw4.iff (ZL a)
   .rintro σ H3 ⟨x4,x5,rfl,s3,Wg⟩
    rw[Nat.sub_self] at Wg;have rw9:=Wg.iff λx=>VN;obtain⟨rs,et,lr,nr,q⟩:=(tb.same s3).ex
    have t1:H1 t≠none:=λz=>by
     obtain⟨rs',et',_⟩:=tb.ex;rw[z] at et';cases et'
    have sz9:j<sizeLine:=by
     have h50:50<=sizeLine:=by decide
     lia
    have nrt:r≠t:=λz=>t1 (by rw[←z];exact r0);refine⟨_,acg,.inl ⟨acg,_,bI.of et⟩,_,acg,t,_,_,acg,acg,et,by rw[aac,lr];exact sz9, ?_⟩;refine⟨_,_,_,_,acg,λb u eb=>?_,⟨⟨rs++[r],by rw[ak,aa3];rfl,by simp[lr],λx hx=>?_,λi x hx=>?_⟩⟩⟩
    .have:b≠t:=aB eb ht
     rw[aF this];exact s3 _ _ (sm _ _ eb)
    .rcases abb.mp hx with h|h
     .exact nr _ h
     .have:x=r:=by simpa using h
      rw[this];exact nrt
    .have kp:∀{x:Addr}{T:Nat->Prop},x≠t->Ar H3 x ws T->Ar (upd H3 t (.lst (rs.map V.ref++[V.ref r]))) x ws T:=λn h=>let ⟨bs,e,z⟩:=h.ex;⟨⟨bs,by rw[aF n];exact e,z⟩⟩
     rcases Nat.lt_or_ge i rs.length with h|h
     .rw[aaO h] at hx
      exact kp (nr _ (aap hx)) (q i x hx)
     .rw[aaL h] at hx
      have i0:i - rs.length=0:=by
       rcases Nat.eq_zero_or_pos (i - rs.length) with z|z
       .exact z
       .rw[List.getElem?_eq_none (by show 1<=_;lia)] at hx
        cases hx
      rw[i0] at hx;cases hx;have:i=j:=by lia
      subst this;exact kp nrt rw9
  .rintro σ H1 ⟨x2,x3,x4,x5,rfl,sm,tb⟩
   exact⟨_,acg,k _ _ sm tb⟩
noncomputable def Oh(K:PySem.W.Frag):Sp:=λvs H Q _=>∃(t:Addr) (ws:List jy) (i j:Nat),vs=[.ref t,.int i,.int j]/\zG H t ws ws.length/\i<j/\j<ws.length/\ws.length<=50 /\ ∀b H',(b=true ↔ ∃x,i<x/\x<j/\Ah (rB ws) x j/\Ah (rB ws) i x)->Same H H'->Q (.bl b) H'
theorem Yv{f:Addr}{fd:FuncData}(F:fQ K "_law_covered" "_law_covered" qZ f fd)(Bt:mV mg):bR P w K mg base ig 1 f fd ["ahead","i","j"] (Oh K):=by
 refine F.ok En (λvs H Q E h=>?_) (λcdv A outer s H vs Q E hr h=>?_)
 .obtain⟨t,ws,i,j,rfl,_⟩:=h
  rfl
 .obtain⟨t,ws,i,j,rfl,tb,l,lj,hl,k⟩:=h
  refine⟨_,(aJ (bA (cI (yc (K:=K) rfl) oA (dI rfl (N:=["x","i","ahead","j"]) (own:=["x"]) (caps:=[1,0,2]) (bB.of (by kernel_rfl)) (zZ (by rfl) Bt.dN (aj (bY iy (pv 1) aC) (aj (pv 2) au))) (λ_ _ _ _=>(bL (i:=0) (show List.Nodup (["x","i","ahead","j"]:List Str) by decide +kernel) rfl (Or.inl rfl))) (λ_ _ _ _=>cO) (λ_ _ _ _=>(jt (aO (aP (K:=K) rfl) (aO (aP (K:=K) rfl) (pv 2) (pv 3) (λ_ _=>rfl)) (pv 0) (λ_ _=>rfl)) (iR (aO (aP (K:=K) rfl) (aO (aP (K:=K) rfl) (pv 2) (pv 0) (λ_ _=>rfl)) (pv 1) (λ_ _=>rfl)))))) (by with_unfolding_all rfl)))), ?_⟩;show S_ _ _ [some (.ref t),some (.int i),some (.int j)] H;refine⟨_,acg,_,_,acg,acg,_,acg,(i:Int)+1,(j:Int),acg,⟨by lia,by lia,by lia,by lia⟩,λD hD=>?_⟩;have en:((j:Int) - ((i:Int)+1)).toNat=j - (i+1):=by lia
  rw[en];show fK _ _ _ _ _ _ (none::[some (.int i),some (.ref t),some (.int j)]) H;refine gj (lo:=(i:Int)+1) (n:=j - (i+1)) (λn σ H1=>(∃v,σ=v::[some (.int i),some (.ref t),some (.int j)])/\Same H H1 /\ ∃bs:List Bool,H1 D=some (.lst (bs.map V.bl))/\bs.length=n /\ ∀m,bs[m]? = some true↔(m<n/\Ah (rB ws) (i+1+m) j/\Ah (rB ws) i (i+1+m))) ⟨⟨none,acg⟩,aG hD,[],ak,acg,λm=>⟨λz=>by simp at z,λz=>by lia⟩⟩ ?_ ?_
  .rintro n σ H1 hn ⟨⟨v,rfl⟩,sm,bs,e,lb,hb⟩
   have ex:(i:Int)+1+(n:Int)=((i+1+n:Nat):Int):=by lia
   rw[ex];obtain⟨vs,us,r,b,e1,e2,e3,e4,e5⟩:=(tb.same sm).get (i:=j) (m:=i+1+n) lj (by lia);obtain⟨vs',us',r',b',e1',e2',e3',e4',e5'⟩:=(tb.same sm).get (i:=i+1+n) (m:=i) (by lia) (by lia)
   have go:∀c:Bool,(c=true↔(b=true/\b'=true)) -> ∃acc,H1 D=some (.lst acc)/\acc.length<sizeLine/\((∃v,(some (V.int ((i+1+n:Nat):Int))::[some (.int i),some (.ref t),some (.int j)]:St)=v::[some (.int i),some (.ref t),some (.int j)])/\Same H (upd H1 D (.lst (acc++[.bl c]))) /\ ∃bs:List Bool,(upd H1 D (.lst (acc++[.bl c]))) D=some (.lst (bs.map V.bl))/\bs.length=n+1 /\ ∀m,bs[m]? = some true↔(m<n+1/\Ah (rB ws) (i+1+m) j/\Ah (rB ws) i (i+1+m))):=λc hc=>by
    have sz:n<sizeLine:=by
     have h50:50<=sizeLine:=by decide
     lia
    refine⟨_,e,by rw[aac,lb];exact sz,⟨_,acg⟩,gJ sm hD,bs++[c],by rw[ak,aa3];rfl,by simp[lb],λm=>?_⟩;rcases Nat.lt_trichotomy m n with h|h|h
    .rw[aaO (by lia),hb]
     have:(m<n)↔(m<n+1):=by lia
     rw[this]
    .subst h
     rw[aaL (by lia),lb,Nat.sub_self];show some c=some true↔_;rw[Option.some.injEq,hc,e5,e5'];exact⟨λz=>⟨by lia,z⟩,λz=>z.2⟩
    .rw[List.getElem?_eq_none (by rw[aaD,lb];show n+1<=m;lia)]
     exact⟨(λz=>by cases z),λz=>by lia⟩
   refine⟨_,acg,_,acg,t,vs,j,_,acg,acg,bI.of e1,bV e2,_,acg,r,us,(i+1+n:Nat),.bl b,acg,acg,bI.of e3,bV e4,b,acg, ?_⟩;cases b with
   | false=>exact cU (go false (by simp))
   | true=>exact eO ⟨_,acg,_,acg,t,vs',(i+1+n:Nat),_,acg,acg,bI.of e1',bV e2',_,acg,r',us',i,.bl b',acg,acg,bI.of e3',bV e4',go b' (by simp)⟩
  .rintro σ H1 ⟨⟨v,rfl⟩,sm,bs,e,lb,hb⟩
   refine⟨D,_,acg,.inl (bI.of e),acg,by simp[tR], ?_⟩;refine k _ H1 ?_ sm;show inV _ _=true↔_;unfold inV;rw[List.any_map,List.any_eq_true];constructor
   .rintro⟨c,hc,q⟩
    have:c=true:=by simpa [QW] using q
    subst this;obtain⟨m,hm⟩:=List.getElem?_of_mem hc;obtain⟨l1,a1,a2⟩:=(hb m).mp hm;exact⟨i+1+m,by lia,by lia,a1,a2⟩
   .rintro⟨x,l1,l2,a1,a2⟩
    have q:i+1+(x - (i+1))=x:=by lia
    have hm:=(hb (x - (i+1))).mpr ⟨by lia,by rw[q];exact a1,by rw[q];exact a2⟩;exact⟨true,aap hm,by simp[QW]⟩
noncomputable def Ul(ws:List jy)(i j:Nat):Prop:=∃x y,ws[i]? = some x/\ws[j]? = some y/\x.1=y.1
noncomputable def Qp(ws:List jy)(i j:Nat):Prop:=∃x y,ws[i]? = some x/\ws[j]? = some y/\Nf x y=true
theorem aaX(ws:List jy):(λa b=>a<b/\(Ul ws a b\/Qp ws a b))=rB ws:=by
 funext a b;refine propext ⟨λ⟨l,h⟩=>⟨l, ?_⟩,λ⟨l,x,y,e1,e2,h⟩=>⟨l, ?_⟩⟩
 .rcases h with ⟨x,y,e1,e2,h⟩|⟨x,y,e1,e2,h⟩
  .exact⟨x,y,e1,e2,.inl h⟩
  .exact⟨x,y,e1,e2,.inr h⟩
 .rcases h with h|h
  .exact .inl ⟨x,y,e1,e2,h⟩
  .exact .inr ⟨x,y,e1,e2,h⟩
noncomputable def oO(ws:List jy)(few:Bool)(i j:Nat):Prop:=told (Ul ws) (Qp ws) (few=true) i j
noncomputable def rD(ws:List jy):List Int:=ws.map (·.1)
noncomputable def ctW(ws:List jy)(i:Nat):Int:=(((rD ws).take i).count (gI (rD ws) i):Int)
noncomputable def mG(ws:List jy)(i j:Nat):Nt:=(gI (rD ws) i,ctW ws i,gI (rD ws) j,ctW ws j)
theorem Qk{K:PySem.W.Frag}{H:Hp}{w t:Addr}{ws:List jy}{few:Bool}{i j:Nat}{x3 x4:Option V}{Q:Bool->Hp->Prop}(hw:lA H w ws)(tb:zG H t ws ws.length)(hl:ws.length<=50)(l:i<j)(lj:j<ws.length)(k:∀c H',Same H H'->(c=true↔oO ws few i j)->Q c H'):
 Ti (tB (Ed (wW K) [] E0 (h_ (vL (o_ K) (cW 0) (cW 6)) (h_ (vL (o_ K) (cW 0) (cW 5)) qC)))) (aaH (Ti (tB (cW 1)) (tB (Ed (Oh K) [] E0 (h_ (cW 2) (h_ (cW 6) (h_ (cW 5) qC))))))) [some (.ref w),some (.bl few),some (.ref t),x3,x4,some (.int j),some (.int i)] H Q:=by
 obtain⟨x,ex⟩:∃x,ws[i]? = some x:=⟨_,aad (by lia)⟩;obtain⟨y,ey⟩:∃y,ws[j]? = some y:=⟨_,aad lj⟩;obtain⟨vs,p,ew,lv,ep,tp⟩:=uF hw ex;obtain⟨vs',q,ew',lv',eq,tq⟩:=uF hw ey;rw[ew] at ew';cases ew'
 have hB:Qp ws i j↔Nf x y=true:=⟨λ⟨x',y',h1,h2,h3⟩=>by
  rw[ex] at h1;rw[ey] at h2;cases h1;cases h2;exact h3,λh=>⟨x,y,ex,ey,h⟩⟩
 have all:oO ws few i j↔(Nf x y=true /\ ¬(few=true /\ ∃x,i<x/\x<j/\Ah (rB ws) x j/\Ah (rB ws) i x)):=by
  unfold oO told;rw[aaX,hB];exact⟨λh=>h.2,λh=>⟨l,h⟩⟩
 refine⟨_,acg,_,acg,w,vs,i,_,acg,acg,bI.of ew,bV ep,_,acg,_,acg,w,vs,j,_,acg,acg,bI.of ew,bV eq,p,q,x,y,acg,tp,tq,_,acg, ?_⟩;cases hm:Nf x y with
 | false=>exact cU (k _ _ (Same.refl _) (by rw[all,hm];simp))
 | true=>
   refine eO ⟨_,acg,few,acg, ?_⟩;cases few with
   | false=>exact cU (k _ _ (Same.refl _) (by rw[all,hm];simp))
   | true=>
     refine eO ⟨_,acg,_,acg,_,acg,t,ws,i,j,acg,tb,l,lj,hl,λb H' hb s=>⟨_,acg,k _ _ s ?_⟩⟩;rw[all,hm,←hb];cases b<;>simp
noncomputable def vH(ws:List jy)(few:Bool)(j i:Nat)(seq:List Nt):Prop:=seq.length<=50*j+i /\ ∀x,x∈seq ↔ ∃i' j',(j'<j\/(j'=j/\i'<i))/\oO ws few i' j'/\x=mG ws i' j'
theorem Ol{ws:List jy}{few:Bool}{i j:Nat}{seq:List Nt}(h:vH ws few j i seq)(n:¬oO ws few i j):vH ws few j (i+1) seq:=by
 refine⟨by have:=h.1;lia,λx=>(h.2 x).trans ⟨λ⟨i',j',a,b⟩=>⟨i',j',by lia,b⟩,λ⟨i',j',a,b⟩=>?_⟩⟩
 by_cases z:i'=i/\j'=j
 .rw[z.1,z.2] at b
  exact ace b.1 n
 .exact⟨i',j',by lia,b⟩
theorem Tv{ws:List jy}{few:Bool}{i j:Nat}{seq:List Nt}(h:vH ws few j i seq)(n:oO ws few i j):vH ws few j (i+1) (seq++[mG ws i j]):=by
 refine⟨by have:=h.1;simp;lia,λx=>?_⟩;rw[abb,h.2 x,aby];constructor
 .rintro(⟨i',j',a,b⟩|rfl)
  .exact⟨i',j',by lia,b⟩
  .exact⟨i,j,by lia,n,acg⟩
 .rintro⟨i',j',a,b⟩
  by_cases z:i'=i/\j'=j
  .rw[z.1,z.2] at b
   exact .inr b.2
  .exact .inl ⟨i',j',by lia,b⟩
theorem Tt{ws:List jy}{few:Bool}{j:Nat}{seq:List Nt}(h:vH ws few j j seq)(lj:j<=50):vH ws few (j+1) 0 seq:=by
 refine⟨by have:=h.1;lia,λx=>(h.2 x).trans ⟨λ⟨i',j',a,b⟩=>⟨i',j',by lia,b⟩,λ⟨i',j',a,b⟩=>⟨i',j', ?_,b⟩⟩⟩;have:=b.1.1;lia
theorem U3{K:PySem.W.Frag}{H H0:Hp}{hp f:Addr}{ws:List jy}{i j:Nat}{x0 x1 x2:Option V}{D:Ends}{seq:List Nt}(hh:H hp=some (.lst ((rD ws).map V.int)))(hl:ws.length<=50)(l:i<j)(lj:j<ws.length)(f0:H0 f=none)(sm:Same H0 H)(N:jz H f seq)(ls:seq.length<=4000)(k:∀H',Same H0 H'->jz H' f (seq++[mG ws i j])->D.nx [x0,x1,x2,some (.ref hp),some (.ref f),some (.int j),some (.int i)] H'):
 Ec (V7 K "list" sV (cW 4) (h_ (Xh (h_ (vL (o_ K) (cW 3) (cW 6)) (h_ (V7 K "list" (Ho K) (tSl (TX K) (cW 3) Bf (N8 (cW 6))) (h_ (vL (o_ K) (cW 3) (cW 6)) qC)) (h_ (vL (o_ K) (cW 3) (cW 5)) (h_ (V7 K "list" (Ho K) (tSl (TX K) (cW 3) Bf (N8 (cW 5))) (h_ (vL (o_ K) (cW 3) (cW 5)) qC)) qC))))) qC)) D [x0,x1,x2,some (.ref hp),some (.ref f),some (.int j),some (.int i)] H:=by
 obtain⟨vs,ef,dv⟩:=N;have lh:(rD ws).length=ws.length:=by unfold rD;simp
 have ai:∀m:Nat,m<ws.length->zf ((rD ws).map V.int) (m:Int)=some (.int (gI (rD ws) m)):=λm hm=>ju (by lia) (by lia);refine⟨_,acg,.inl ⟨acg,_,bI.of ef⟩,_,acg,_,acg,hp,_,i,_,acg,acg,bI.of hh,ai i (by lia),_,acg,_,acg,i,acg,hp,_,acg,bI.of hh,λp1 h1=>?_⟩;have s1:=aG (o:=HO.lst (j5 ((rD ws).map V.int) none (some (i:Int)))) h1;have e1:(upd H p1 (.lst (j5 ((rD ws).map V.int) none (some (i:Int))))) p1=some (.lst (((rD ws).take i).map V.int)):=by rw[ak,yJ,List.map_take]
 generalize upd H p1 (.lst (j5 ((rD ws).map V.int) none (some (i:Int))))=H1 at s1 e1 ⊢;refine⟨.inl ⟨acg,_,bI.of e1⟩,_,acg,_,acg,hp,_,i,_,acg,acg,bI.of (s1 _ _ hh),ai i (by lia),p1,_,_,acg,acg,bI.of e1,_,acg,_,acg,hp,_,j,_,acg,acg,bI.of (s1 _ _ hh),ai j lj,_,acg,_,acg,j,acg,hp,_,acg,bI.of (s1 _ _ hh),λp2 h2=>?_⟩;have s2:=aG (o:=HO.lst (j5 ((rD ws).map V.int) none (some (j:Int)))) h2;have e2:(upd H1 p2 (.lst (j5 ((rD ws).map V.int) none (some (j:Int))))) p2=some (.lst (((rD ws).take j).map V.int)):=by rw[ak,yJ,List.map_take]
 generalize upd H1 p2 (.lst (j5 ((rD ws).map V.int) none (some (j:Int))))=H2 at s2 e2 ⊢;have s12:=s1.trans s2;refine⟨.inl ⟨acg,_,bI.of e2⟩,_,acg,_,acg,hp,_,j,_,acg,acg,bI.of (s12 _ _ hh),ai j lj,p2,_,_,acg,acg,bI.of e2,(by show 4<=sizeLine;decide),λp3 h3=>?_⟩;have s3:=aG (o:=HO.tup (nV (mG ws i j))) h3;have e3:(upd H2 p3 (.tup (nV (mG ws i j)))) p3=some (.tup (nV (mG ws i j))):=ak;show sV (.ref f) [.ref p3] (upd H2 p3 (.tup (nV (mG ws i j)))) (λ_ H1=>D.nx [x0,x1,x2,some (.ref hp),some (.ref f),some (.int j),some (.int i)] H1);generalize upd H2 p3 (.tup (nV (mG ws i j)))=H3 at s3 e3 ⊢;have Wf:=s12.trans s3
 have szv:vs.length<sizeLine:=by
  have:=dv.length;rw[aac] at this;rw[sizeLine_eq];lia
 refine⟨f,vs,_,acg,acg,Wf _ _ ef,szv,k _ (gJ (sm.trans Wf) f0) ⟨_,ak, ?_⟩⟩;have tp:=(Kp.set (H:=H3) (r:=f) (o:=HO.lst (vs++[V.ref p3]))).tups (Wf _ _ ef);rw[aa3];exact fM (aQ.keep (λa xs h=>tp _ _ (Wf.tups _ _ h)) _ (cj _ pK seq) dv) (Dat.keep tp _ (pK _) (Ra e3))
noncomputable def V_(K:PySem.W.Frag):Sp:=λvs H Q _=>∃(w:Addr) (ws:List jy) (few:Bool),vs=[.ref w,.bl few]/\lA H w ws/\ws.length<=50 /\ ∀t seq H',H t=none->Same H H'->jz H' t seq->seq.length<=2500->(∀x,x∈seq ↔ ∃i j,j<ws.length/\oO ws few i j/\x=mG ws i j)->Q (.ref t) H'
theorem Yr{f:Addr}{fd:FuncData}(F:fQ K "_law_notes" "_law_notes" xO f fd)(Du:FnAt P w K mg base 1 "_law_meet" ["one","other"] (wW K))(RP:FnAt P w K mg base 2 "_law_ahead" ["web"] (Wb K))(Jd:FnAt P w K mg base 1 "_law_covered" ["ahead","i","j"] (Oh K))(Bt:mV mg):bR P w K mg base ig 3 f fd ["web","few"] (V_ K):=by
 refine F.ok jE (λvs H Q E h=>?_) (λcdv A outer s H vs Q E hr h=>?_)
 .obtain⟨w,ws,few,rfl,_⟩:=h
  rfl
 .obtain⟨w,ws,few,rfl,hw,hl,k⟩:=h
  refine⟨_,(aA (bH (i:=2) jE.nd rfl (Or.inl rfl) (bN RP (hr.mono (by decide)) (by rfl) (aj (pv 0) au)))
   (aA (kE (i:=3) rfl jE.nd rfl (Or.inl rfl) (N:=["touched"]) (own:=["touched"]) (caps:=[]) (bB.of (by kernel_rfl)) (dH (K:=K) rfl (pv 0)) (λ_ _ _ _=>(bL (i:=0) (show List.Nodup (["touched"]:List Str) by decide +kernel) rfl (Or.inl rfl))) (λ_ _ _ _=>cO) (λ_ _ _ _=>(aO (aU (K:=K) rfl) (pv 0) aC (λ_ _=>rfl))))
   (aA (bH (i:=4) jE.nd rfl (Or.inl rfl) (cY au))
   (aA (jr PassesOwn.never rfl (cR (by rfl) Bt.dN (aj (aW (aY (K:=K) rfl) (by rfl) Bt.dW cM (aj (pv 0) au)) au)) (bL (i:=5) jE.nd rfl (Or.inl rfl))
   (aJ (jr PassesOwn.never rfl (cR (by rfl) Bt.dN (aj (pv 5) au)) (bL (i:=6) jE.nd rfl (Or.inl rfl))
   (aJ (cB (PW.pt (xU (dB (bN Du (hr.mono (by decide)) (by rfl) (aj (aO (aP (K:=K) rfl) (pv 0) (pv 6) (λ_ _=>rfl)) (aj (aO (aP (K:=K) rfl) (pv 0) (pv 5) (λ_ _=>rfl)) au)))) (sW (gU (PW.pt (xU (dB (pv 1)) (sW (dB (bN Jd (hr.mono (by decide)) (by rfl) (aj (pv 2) (aj (pv 6) (aj (pv 5) au)))))))))))) (aJ (dh (eZ (K:=K) rfl (pv 4) (aj (cX (aj (aO (aP (K:=K) rfl) (pv 3) (pv 6) (λ_ _=>rfl)) (aj (q_ (K:=K) rfl PySem.F.plainAttrs_list PySem.F.slot_list_count PySem.F.type_list_count (ql (K:=K) rfl) (jd (mj (K:=K) rfl) (pv 3) kJ (kI (pv 6))) (aj (aO (aP (K:=K) rfl) (pv 3) (pv 6) (λ_ _=>rfl)) au)) (aj (aO (aP (K:=K) rfl) (pv 3) (pv 5) (λ_ _=>rfl)) (aj (q_ (K:=K) rfl PySem.F.plainAttrs_list PySem.F.slot_list_count PySem.F.type_list_count (ql (K:=K) rfl) (jd (mj (K:=K) rfl) (pv 3) kJ (kI (pv 5))) (aj (aO (aP (K:=K) rfl) (pv 3) (pv 5) (λ_ _=>rfl)) au)) au))))) au)))) bJ)))))
   (aJ (bA (pv 4))))))), ?_⟩
  show GQ _ _ _ [some (.ref w),some (.bl few),none,none,none,none,none] H;refine⟨_,acg,w,ws,acg,hw,hl,λt H1 s1 tb=>?_⟩;have hw1:=hw.same s1;obtain⟨vw,ew,dw⟩:=id hw1;have lw:vw.length=ws.length:=by simpa using dw.length
  have it:∀(m:Nat)(v:V),vw[m]? = some v -> ∃b x,ws[m]? = some x/\v = .ref b/\H1 b=some (.tup [.int x.1,.str x.2.1,.int x.2.2]):=λm v hv=>by
   have lm:m<ws.length:=by rw[←lw];exact(aae.mp hv).1
   obtain⟨vs,b,e1,_,e2,e3⟩:=uF hw1 (aad lm);rw[ew] at e1;cases e1;rw[hv] at e2;cases e2;exact⟨b,_,aad lm,acg,e3⟩
  refine⟨_,acg,w,acg,⟨_,bI.of ew⟩,λD hD=>?_⟩;show fK _ _ _ _ _ _ [none] H1;have zz:50<sizeLine:=by decide
  refine gA (xs:=vw) (λm σ H2=>(∃v,σ=[v])/\Same H1 H2/\H2 D=some (.lst (((rD ws).take m).map V.int))) ⟨⟨_,acg⟩,aG hD,ak⟩ (λm σ H2 _ ⟨_,sm,_⟩=>bI.of (sm _ _ ew)) ?_ ?_
  .rintro m v σ H2 hv ⟨⟨v0,rfl⟩,sm,e⟩
   obtain⟨b,x,ex,rfl,eb⟩:=it m v hv;have em:(rD ws)[m]? = some x.1:=by unfold rD;rw[aaf,ex];rfl
   dsimp only[cN,qF];rw[acd rfl];refine⟨_,acg,_,_,_,_,acg,acg,cD.of (sm _ _ eb),acg,_,e, ?_,⟨_,acg⟩,gJ sm hD, ?_⟩
   .rw[aac,abI]
    have:m<ws.length:=by rw[←lw];exact(aae.mp hv).1
    lia
   .rw[ak,abB,em,aa3]
    rfl
  rintro σ H2 ⟨_,s2,eh⟩
  have eh:H2 D=some (.lst ((rD ws).map V.int)):=by
   rw[eh,List.take_of_length_le (by unfold rD;rw[aac];lia)]
  refine⟨by show 0<=sizeLine;exact Nat.zero_le _,λf hf=>?_⟩;have s12:=s1.trans s2
  have f0:H f=none:=Classical.byContradiction λz=>by
   obtain⟨o,eo⟩:=Option.ne_none_iff_exists'.mp z;rw[s12 _ _ eo] at hf;cases hf
  have s3:Same H2 (upd H2 f (.lst [])):=aG hf;refine⟨_,acg,w,vw,acg,.inl (bI.of (s3 _ _ (s2 _ _ ew))),(vw.length:Int),acg,by lia,by lia, ?_⟩;rw[lw,aa5];refine iU (λj σ H4=>∃(x5 x6:Option V) (seq:List Nt),σ=[some (.ref w),some (.bl few),some (.ref t),some (.ref D),some (.ref f),x5,x6]/\Same H2 H4/\jz H4 f seq/\vH ws few j 0 seq) ⟨_,_,[],acg,s3,⟨[],ak,by simp[aQ]⟩,by simp,λx=>⟨λz=>by simp at z,λ⟨i',j',z,_⟩=>by lia⟩⟩ ?_ ?_
  .rintro j σ H4 hj ⟨x5,x6,seq,rfl,s4,N4,Z⟩
   have e0:(0:Int)+(j:Int)=(j:Int):=Int.zero_add _;rw[e0];refine⟨_,acg,(j:Int),acg,by lia,by lia, ?_⟩;rw[aa5];refine iU (λi σ H5=>∃(x6:Option V) (seq:List Nt),σ=[some (.ref w),some (.bl few),some (.ref t),some (.ref D),some (.ref f),some (.int j),x6]/\Same H2 H5/\jz H5 f seq/\vH ws few j i seq) ⟨_,seq,acg,s4,N4,Z⟩ ?_ ?_
   .rintro i σ H5 hi ⟨x6,seq,rfl,s5,N5,Z⟩
    have e0:(0:Int)+(i:Int)=(i:Int):=Int.zero_add _;rw[e0];refine Qk (hw1.same (s2.trans s5)) (tb.same (s2.trans s5)) hl hi hj λc H6 s6 hc=>?_;have s56:=s5.trans s6;cases c with
    | false=>exact cU ⟨_,seq,acg,s56,N5.same s6,Ol Z λz=>by cases hc.mpr z⟩
    | true=>
      refine eO (U3 (s56 _ _ eh) hl hi hj hf s56 (N5.same s6) (by have:=Z.1;lia) λH' s7 N7=>?_);exact⟨_,_,acg,s7,N7,Tv Z (hc.mp rfl)⟩
   .rintro σ H5 ⟨x6,seq,rfl,s5,N5,Z⟩
    exact⟨_,_,seq,acg,s5,N5,Tt Z (by lia)⟩
  .rintro σ H4 ⟨x5,x6,seq,rfl,s4,N4,Z⟩
   refine⟨_,acg,k _ seq H4 f0 (s12.trans s4) N4 (by have:=Z.1;lia) λx=>(Z.2 x).trans ⟨λ⟨i',j',a,b⟩=>⟨i',j',by lia,b⟩,λ⟨i',j',a,b⟩=>⟨i',j',.inl a,b⟩⟩⟩
theorem lA.dr{τ:Tg}{r w:Addr}{H H':Hp}{ws:List jy}(h:lA H w ws)(d:Dr τ r H H')(t:τ w≠[]):lA H' w ws:=by
 obtain⟨vs,e,dv⟩:=h;exact⟨vs,d.k _ _ e t,aQ.keep d.t _ (cj _ yu ws) dv⟩
theorem Ig{K:PySem.W.Frag}{H1:Hp}{w D:Addr}{ws:List jy}{Q:VK}(hw1:lA H1 w ws)(hl:ws.length<=50)(hD:H1 D=none)(k:∀H2,Same H1 H2->H2 D=some (.lst ((rD ws).map V.int))->Q (.ref D) H2):
 fK (RL K w) (cN 0) qF (vL (Oz K) (cW 0) (tC (.int 0))) Q D [none] H1:=by
 obtain⟨vw,ew,dw⟩:=id hw1;have lw:vw.length=ws.length:=by simpa using dw.length
 have it:∀(m:Nat)(v:V),vw[m]? = some v -> ∃b x,ws[m]? = some x/\v = .ref b/\H1 b=some (.tup [.int x.1,.str x.2.1,.int x.2.2]):=λm v hv=>by
  have lm:m<ws.length:=by rw[←lw];exact(aae.mp hv).1
  obtain⟨vs,b,e1,_,e2,e3⟩:=uF hw1 (aad lm);rw[ew] at e1;cases e1;rw[hv] at e2;cases e2;exact⟨b,_,aad lm,acg,e3⟩
 have zz:50<sizeLine:=by decide
 refine gA (xs:=vw) (λm σ H2=>(∃v,σ=[v])/\Same H1 H2/\H2 D=some (.lst (((rD ws).take m).map V.int))) ⟨⟨_,acg⟩,aG hD,ak⟩ (λm σ H2 _ ⟨_,sm,_⟩=>bI.of (sm _ _ ew)) ?_ ?_
 .rintro m v σ H2 hv ⟨⟨v0,rfl⟩,sm,e⟩
  obtain⟨b,x,ex,rfl,eb⟩:=it m v hv;have em:(rD ws)[m]? = some x.1:=by unfold rD;rw[aaf,ex];rfl
  dsimp only[cN,qF];rw[acd rfl];refine⟨_,acg,_,_,_,_,acg,acg,cD.of (sm _ _ eb),acg,_,e, ?_,⟨_,acg⟩,gJ sm hD, ?_⟩
  .rw[aac,abI]
   have:m<ws.length:=by rw[←lw];exact(aae.mp hv).1
   lia
  .rw[ak,abB,em,aa3]
   rfl
 rintro σ H2 ⟨_,s2,eh⟩;refine k _ s2 ?_;rw[eh,List.take_of_length_le (by unfold rD;rw[aac];lia)]
theorem K7{K:PySem.W.Frag}{H3 H4:Hp}{f:Addr}{seq:List Nt}{tw:Bool}{x0 x1 x2 x3 x4:Option V}{D:Ends}(f0:H3 f=none)(s:Same H3 H4)(N:jz H4 f seq)(ls:seq.length<=2500)(k:∀H5 seq',Same H3 H5->jz H5 f seq'->seq'.length<=2501->(∀x,x∈seq'↔x∈seq)->D.nx [x0,x1,x2,x3,x4,some (.bl tw),some (.ref f)] H5):
 Xl (Ti (tB (cW 5)) (Ju (vL (OD true) (cW 6) (aaI qC)))) (Ec (V7 K "list" sV (cW 6) (h_ (vL (o_ K) (cW 6) (tC (.int 0))) qC))) zP D [x0,x1,x2,x3,x4,some (.bl tw),some (.ref f)] H4:=by
 refine⟨_,acg,tw,acg, ?_⟩;cases tw with
 | false=>exact cU (cU (k _ seq s N (by lia) λx=>Iff.rfl))
 | true=>
   refine eO ⟨_,acg,by show 0<=sizeLine;exact Nat.zero_le _,λp hp=>?_⟩;have s5:=aG (o:=HO.lst []) hp;have N5:=N.same s5;have ep:(upd H4 p (.lst [])) p=some (.lst []):=ak;have s35:=s.trans s5;generalize upd H4 p (.lst [])=H5 at s5 N5 ep s35 ⊢;obtain⟨vs,ef,dv⟩:=N5;refine⟨_,_,mO ef dv,mO ep (by simp[aQ]:aQ H5 [] ([].map nD)),wZ _,wZ [],_,acg, ?_⟩;rw[acd rfl,mL nD Zi];cases seq with
   | nil=>exact cU (k _ [] s35 ⟨vs,ef,dv⟩ (by simp) λx=>Iff.rfl)
   | cons y ys=>
     refine eO ?_;obtain⟨v,ev,dn⟩:=dv.getD (i:=0) (d:=nD y) rfl;refine⟨_,acg,.inl ⟨acg,_,bI.of ef⟩,_,acg,f,vs,0,v,acg,acg,bI.of ef,bV (j:=0) ev,f,vs,v,acg,acg,ef, ?_, ?_⟩
     .have:=dv.length
      rw[aac] at this;rw[sizeLine_eq];lia
     .have tp:=(Kp.set (H:=H5) (r:=f) (o:=HO.lst (vs++[v]))).tups ef
      refine k _ (y::ys++[y]) (gJ s35 f0) ⟨_,ak, ?_⟩ (by simp at ls ⊢;lia) λx=>⟨λh=>(abb.mp h).elim id λh=>by rw[aby.mp h];exact .head _,λh=>abb.mpr (.inl h)⟩;rw[aa3];exact fM (aQ.keep tp _ (cj _ pK _) dv) (Dat.keep tp _ (pK _) dn)
theorem Gb{H:Hp}:∀{vs:List V}{ds:List PyData},aQ H vs ds->aQ H vs.reverse ds.reverse
 | [],[],_=>by simp[aQ]
 | v::vs,d::ds,h=>by
   simp only[aQ] at h;rw[List.reverse_cons,List.reverse_cons];exact fM (Gb h.2) h.1
theorem Hj{K:PySem.W.Frag}{H3 H4:Hp}{f:Addr}{seq:List Nt}{tu:Bool}{x0 x1 x2 x3 x5:Option V}{D:Ends}(f0:H3 f=none)(s:Same H3 H4)(N:jz H4 f seq)(k:∀H5 seq',Same H3 H5->jz H5 f seq'->seq'.length=seq.length->(∀x,x∈seq'↔x∈seq)->D.nx [x0,x1,x2,x3,some (.bl tu),x5,some (.ref f)] H5):
 Xl (tB (cW 4)) (Ec (Xw K "list" Eu (cW 6))) zP D [x0,x1,x2,x3,some (.bl tu),x5,some (.ref f)] H4:=by
 refine⟨_,acg,tu,acg, ?_⟩;cases tu with
 | false=>exact cU (k _ seq s N rfl λx=>Iff.rfl)
 | true=>
   obtain⟨vs,ef,dv⟩:=N;refine eO ⟨_,acg,.inl ⟨acg,_,bI.of ef⟩,f,vs,acg,acg,ef, ?_⟩;have tp:=(Kp.set (H:=H4) (r:=f) (o:=HO.lst vs.reverse)).tups ef;refine k _ seq.reverse (gJ s f0) ⟨_,ak, ?_⟩ (by simp) λx=>by simp
   rw[List.map_reverse];exact Gb (aQ.keep tp _ (cj _ pK _) dv)
noncomputable def Ms(ws:List jy)(n:Nat):List Int:=(List.range n).map λk:Nat=>(((rD ws).count (k:Int):Nat):Int)
noncomputable def Oc(K:PySem.W.Frag):Sp:=λvs H Q _=>∃(r w:Addr) (τ:Tg) (ws:List jy) (n:Nat),vs=[.ref r,.ref w,.int n]/\RT τ H r/\lA H w ws/\τ w≠[]/\ws.length<=50/\n<=8 /\
 ∀(t c a:Addr)(seq:List Nt)(few:Bool)(H':Hp),RecAt H' t c a (Ms ws n) seq->seq.length<=2501->(∀x,x∈seq ↔ ∃i j,j<ws.length/\oO ws few i j/\x=mG ws i j)->RT τ H' r->Dr τ r H H'->Q (.ref t) H'
theorem Ux{f:Addr}{fd:FuncData}(F:fQ K "_law_record" "_law_record" uU f fd)(bT:FnAt P w K mg base 1 "_law_draw" ["reel","many"] (jB K))(RN:FnAt P w K mg base 3 "_law_notes" ["web","few"] (V_ K))(Bt:mV mg):bR P w K mg base ig 4 f fd ["reel","web","hands"] (Oc K):=by
 refine F.ok jL (λvs H Q E h=>?_) (λcdv A outer s H vs Q E hr h=>?_)
 .obtain⟨r,w,τ,ws,n,rfl,_⟩:=h
  rfl
 .obtain⟨r,w,τ,ws,n,rfl,T,hw,tw,hl,n8,k⟩:=h
  have qG:=hr.units
  refine⟨_,(aA (bH (i:=3) jL.nd rfl (Or.inl rfl) (cI dU (bN bT (hr.mono (by decide)) (by rfl) (aj (pv 0) (aj aC au))) aC (bw _)))
   (aA (bH (i:=4) jL.nd rfl (Or.inl rfl) (cI dU (bN bT (hr.mono (by decide)) (by rfl) (aj (pv 0) (aj aC au))) aC (bw _)))
   (aA (bH (i:=5) jL.nd rfl (Or.inl rfl) (cI dU (bN bT (hr.mono (by decide)) (by rfl) (aj (pv 0) (aj aC au))) aC (bw _)))
   (aA (bH (i:=6) jL.nd rfl (Or.inl rfl) (bN RN (hr.mono (by decide)) (by rfl) (aj (pv 1) (aj (pv 3) au))))
   (aA (cB (PW.pt (xU (dB (pv 5)) (sW (bF (Cg (K:=K) rfl qG) (pv 6) (cY au) (bw _))))) (aJ (dh (eZ (K:=K) rfl (pv 6) (aj (aO (aP (K:=K) rfl) (pv 6) aC (λ_ _=>rfl)) au)))) bJ)
   (aA (cB (dB (pv 4)) (aJ (dh (wg (K:=K) rfl PySem.F.plainAttrs_list PySem.F.slot_list_reverse PySem.F.type_list_reverse HB (pv 6)))) bJ)
   (aJ (bA (cX (aj (dI rfl (N:=["k","web"]) (own:=["k"]) (caps:=[1]) (bB.of (by kernel_rfl)) (cR (by rfl) Bt.dN (aj (pv 2) au)) (λ_ _ _ _=>(bL (i:=0) (show List.Nodup (["k","web"]:List Str) by decide +kernel) rfl (Or.inl rfl))) (λ_ _ _ _=>cO) (λ_ _ _ _=>(q_ (K:=K) rfl PySem.F.plainAttrs_list PySem.F.slot_list_count PySem.F.type_list_count (ql (K:=K) rfl) (dI rfl (N:=["touched"]) (own:=["touched"]) (caps:=[]) (bB.of (by kernel_rfl)) (dH (K:=K) rfl (pv 1)) (λ_ _ _ _=>(bL (i:=0) (show List.Nodup (["touched"]:List Str) by decide +kernel) rfl (Or.inl rfl))) (λ_ _ _ _=>cO) (λ_ _ _ _=>(aO (aU (K:=K) rfl) (pv 0) aC (λ_ _=>rfl)))) (aj (pv 0) au)))) (aj (pv 6) au))))))))))), ?_⟩
  show GQ _ _ _ [some (.ref r),some (.ref w),some (.int n),none,none,none,none] H;refine⟨_,acg,r,2,acg,T.R,by decide,by decide,λz1 H1 _ _ R1 k1=>⟨acg, ?_⟩⟩;have T1:=T.draw k1 R1;have d1:=Dr.draw T k1;refine⟨_,acg,r,2,acg,T1.R,by decide,by decide,λz2 H2 _ _ R2 k2=>⟨acg, ?_⟩⟩;have T2:=T1.draw k2 R2;have d2:=d1.trans (Dr.draw T1 k2);refine⟨_,acg,r,3,acg,T2.R,by decide,by decide,λz3 H3 _ _ R3 k3=>⟨acg, ?_⟩⟩;have T3:=T2.draw k3 R3;have d3:=d2.trans (Dr.draw T2 k3);have hw3:=hw.dr d3 tw;generalize decide (V.int z1=V.int 0)=few;generalize decide (V.int z2=V.int 1)=tu;generalize decide (V.int z3=V.int 0)=tc;refine⟨_,acg,_,acg,w,ws,few,acg,hw3,hl,λf seq H4 f0 s4 N4 l4 mem=>?_⟩;refine K7 f0 s4 N4 l4 λH5 ahU s5 N5 l5 m5=>?_;refine Hj f0 s5 N5 λH6 adQ s6 N6 l6 m6=>?_;refine⟨_,acg,(n:Int),acg,by lia,by lia,λD hD=>?_⟩;rw[aa5];show fK _ _ _ _ _ _ (none::[some (.ref w)]) H6;have s63:=s6;refine gj (lo:=0) (n:=n) (λm σ H7=>(∃v,σ=v::[some (.ref w)])/\Same H6 H7/\H7 D=some (.lst ((Ms ws m).map V.int))) ⟨⟨none,acg⟩,aG hD,ak⟩ ?_ ?_
  .rintro m σ H7 hm ⟨⟨v,rfl⟩,s7,e7⟩
   dsimp only[cN,qF];rw[acd rfl];have hw7:=(hw3.same s6).same s7;obtain⟨vw,ew,_⟩:=id hw7;refine⟨_,acg,w,acg,⟨_,bI.of ew⟩,λp hp=>?_⟩;show fK _ _ _ _ _ _ [none] H7;refine Ig hw7 hl hp λH8 s8 e8=>?_;refine⟨.inl ⟨acg,_,bI.of e8⟩,_,acg,p,_,0+(m:Int),acg,acg,bI.of e8,_,s8 _ _ e7, ?_,⟨_,acg⟩,gJ (s7.trans s8) hD, ?_⟩
   .unfold Ms
    rw[aac,aac,List.length_range,sizeLine_eq];lia
   .rw[ak]
    unfold Ms;rw[List.range_succ,aa3,aa3,Int.zero_add];rfl
  .rintro σ H7 ⟨⟨v,rfl⟩,s7,e7⟩
   refine⟨_,acg,by show 2<=sizeLine;decide,λt ht=>?_⟩;have s8:=aG (o:=HO.tup [V.ref D,V.ref f]) ht;have s38:=(s6.trans s7).trans s8;refine k t D f adQ few _ ⟨ak,s8 _ _ e7,(N6.same s7).same s8⟩ (by lia) (λx=>?_) (T3.same s38) (d3.trans (.of_same s38));rw[m6,m5,mem]
structure PgH(H:Hp)(p L:Addr)(rs:List Addr)(rws:List (List Rw))(m:Nat):Prop where
 ep:H p=some (.tup [.int m,.ref L])
 eL:H L=some (.lst (rs.map V.ref))
 len:rs.length=rws.length
 row:∀(k:Nat)(r:Addr)(x:List Rw),rs[k]? = some r->rws[k]? = some x->dO H r m x
theorem Pg.h{τ:Tg}{H:Hp}{p L:Addr}{rs:List Addr}{rws:List (List Rw)}{m:Nat}(g:Pg τ H p L rs rws m):PgH H p L rs rws m:=⟨g.ep,g.eL,g.len,λk r x h1 h2=>(g.row k r x h1 h2).2⟩
noncomputable def Ry(H:Hp)(v:V)(ns:List Int)(m:Nat):Prop:=pC m ns/\((v = .non/\ns=List.replicate m 0) \/ ∃l,v = .ref l/\H l=some (.lst (ns.map V.int)))
theorem NumV.h{τ:Tg}{H:Hp}{v:V}{ns:List Int}{m:Nat}(h:NumV τ H v ns m):Ry H v ns m:=⟨h.1,h.2.elim .inl λ⟨l,e,_,q⟩=> .inr ⟨l,e,q⟩⟩
theorem J1{CW CH CN:Addr}{i:Nat}{τ:Tg}{H:Hp}{p L:Addr}{rs:List Addr}{rws:List (List Rw)}{m:Nat}{nv:V}{ns:List Int}{Q:Addr->Hp->Prop}(g:PgH H p L rs rws m)(n8:rws.length<=100)(YK:m<=100)(un:qw τ H)(i0:i≠0)(nh:Ry H nv ns m)(go:∀(τ':Tg)(W:nW)(H':Hp),j_ CW CH i τ' H' W (vV m ns rws)->(∀x u,H x=some u->τ' x=τ x)->Same H H'->Q W.o H')(o dx:Addr)(ho:H o=none)(hdx:H dx=none)(ndx:dx≠o):
 m8 CW CH CN K (.ref o::([.ref p,nv]++[])) (upd (upd H dx (.own o)) o (.ins CW dx [])) (λv H'=>v = .non/\Q o H') (λ_ _ _=>False):=by
 obtain⟨good,hv⟩:=nh;have ho':(upd H dx (.own o)) o=none:=by rw[aF ndx.symm];exact ho
 have sm:Same H (upd (upd H dx (.own o)) o (.ins CW dx [])):=(aG hdx).trans (aG ho');refine⟨i,τ,o,dx,p,L,rs,m,nv,ns,rws,acg,ak,sm _ _ g.ep,sm _ _ g.eL,g.len,λkk q' x h1 h2=>(g.row kk q' x h1 h2).same sm,n8,YK,un.same sm,i0,by have:=good.1;lia, ?_,λ_ τ5 W H5 eo w5 tg kp=>⟨acg, ?_⟩,λbad=>ace good bad⟩
 .rcases hv with h|⟨cl,e,h⟩
  .exact .inl h
  .exact .inr ⟨cl,e,sm _ _ h⟩
 .rw[←eo]
  exact go τ5 W H5 w5 (λx u e=>tg x u (sm _ _ e) (aB e ho)) (λx u e=>kp _ _ (sm _ _ e) (aB e ho))
noncomputable def tcV(t:Tc):List V:=[.str (qK t.r),.int (iB t.r),oV t.rd,oV t.wr]
noncomputable def K4(t:Tc):PyData:= .tuple [.str (qK t.r),.int (iB t.r),oD t.rd,oD t.wr]
noncomputable def eX(t:Tc):jy:=((t.k:Int),qK t.r,(iB t.r:Int))
theorem Y4(x:Option Int):za (oD x)=true:=by cases x<;>rfl
theorem Y0(t:Tc):za (K4 t)=true:=by simp only[K4,za,pI,Y4,Bool.and_self]
theorem Zq{H:Hp}{p:Addr}{t:Tc}(h:H p=some (.tup (tcV t))):Dat H (.ref p) (K4 t):=by
 unfold K4 tcV at *;simp only[Dat];exact⟨p,_,acg,h,by simp only[aQ,Dat,and_true,true_and];exact⟨Dd _,Dd _⟩⟩
theorem BX:∀{l:List Tc}{S S':dR},Run S l S'->S'.ts=S.ts++l.map λt=>(t.k:Int)
 | [],S,S',h=>by have h:S'=S:=h;rw[h];simp
 | t::l,S,S',⟨a,h⟩=>by
   rw[BX h];obtain⟨s,_,_,e⟩:=a.turn;rw[e];simp
theorem BZ:∀{l:List Tc}{S S':dR},Run S l S'->S'.hs.length=S.hs.length/\S'.m=S.m
 | [],S,S',h=>by have h:S'=S:=h;rw[h];exact⟨acg,acg⟩
 | t::l,S,S',⟨a,h⟩=>by
   rw[(BZ h).1,(BZ h).2];obtain⟨s,_,_,e⟩:=a.turn;rw[e];simp
theorem xR:∀{l:List Tc}{S S':dR},Run S l S'->j8 S->j8 S'
 | [],S,S',h,g=>by have h:S'=S:=h;rw[h];exact g
 | t::l,S,S',⟨a,h⟩,g=>xR h (g.turn _)
theorem Wi:∀{l:List Tc}{S S':dR},Run S l S' -> ∀t∈l,t.k<S.hs.length
 | [],S,S',h,t,ht=>by cases ht
 | x::l,S,S',⟨a,h⟩,t,ht=>by
   obtain⟨s,es,_⟩:=id a;rcases List.mem_cons.mp ht with rfl|ht
   .exact(aae.mp es).1
   .have:=Wi h t ht
    obtain⟨s,_,_,e⟩:=a.turn;rw[e] at this;simpa using this
theorem Vn(hs:List bG)(n:Nat):(List.range n).filterMap (λi=>if lW hs i then some (V.int (i:Nat)) else none)=((List.range n).filter (lW hs)).map λk:Nat=>V.int k:=QM (lW hs) (λk:Nat=>V.int k) n
structure rK(i:Nat)(τ:Tg)(H:Hp)(τ':Tg)(H':Hp):Prop where
 keep:∀x o,H x=some o->τ x≠[]->(τ x).head?≠some i->H' x=some o
 tg:∀x o,H x=some o->τ' x=τ x
 tup:∀x xs,H x=some (.tup xs)->H' x=some (.tup xs)
 dom:∀x,H' x=none->H x=none
theorem rK.trans{i:Nat}{τ τ1 τ2:Tg}{H H1 H2:Hp}(a:rK i τ H τ1 H1)(b:rK i τ1 H1 τ2 H2):rK i τ H τ2 H2:=
 ⟨λx o e n m=>b.keep _ _ (a.keep _ _ e n m) (by rw[a.tg _ _ e];exact n) (by rw[a.tg _ _ e];exact m),λx o e=>by
   cases q:H1 x with
   | none=>rw[a.dom x q] at e;cases e
   | some u=>rw[b.tg _ _ q,a.tg _ _ e],λx xs e=>b.tup _ _ (a.tup _ _ e),λx e=>a.dom _ (b.dom _ e)⟩
theorem rK.same{i:Nat}{τ:Tg}{H H':Hp}(s:Same H H'):rK i τ H τ H':=⟨λ_ _ e _ _=>s _ _ e,λ_ _ _=>rfl,λ_ _ e=>s _ _ e,λx e=>s.free e⟩
theorem rK.claim{i:Nat}{τ:Tg}{H H':Hp}{p:Addr}{t:List Nat}(s:Same H H')(hp:H p=none):rK i τ H (aR τ p t) H':=⟨λ_ _ e _ _=>s _ _ e,λ_ _ e=>aV (aB e hp),λ_ _ e=>s _ _ e,λx e=>s.free e⟩
theorem adh{ao aq bD:Addr}{K:PySem.W.Frag}{i:Nat}{τ:Tg}{H:Hp}{W:nW}{S:dR}{D:Addr}{Q:VK}(w:j_ ao aq i τ H W S)(n8:S.hs.length<=8)(hD:H D=none)(k:∀H',Same H H'->H' D=some (.lst ((rO S.hs).map λk:Nat=>V.int k))->Q (.ref D) H'):
 fK (RK 0 S.hs.length) (cN 0) (Ju (vL rEq (Eb ao "how" (λvs H Q _=>zR ao aq bD K vs H Q λ_ _ _=>False) [] E0 (cW 1) (h_ (cW 0) qC)) (tC (.str "waits")))) (cW 0) Q D (none::[some (.ref W.o)]) H:=by
 refine qm (λz=>if lW S.hs z then some (.int (z:Nat)) else none) hD (by lia) (λz H7 G F hz s7 kG kF=>?_) (λH7 s7 e7=>?_)
 .have w7:=w.same s7
  have es:S.hs[z]? = some S.hs[z]:=by simp[hz]
  have inn:ur ((0:Int)+z) S.hs.length:=⟨by lia,by lia⟩;refine⟨_,acg,W.o,W.dx,_,acg,w7.o,acg,_,acg,i,τ,W,S,_,acg,w7,λk3 t3 e3 e3'=>?_,λz=>ace inn z⟩
  obtain rfl:t3=S.hs[z]:=by
   have:k3=z:=by lia
   subst this;rw[es] at e3';exact(aaC e3').symm
  refine⟨acg,_,acg, ?_⟩;have eb:lW S.hs z=decide (S.hs[z].st = "waits"):=by unfold lW;rw[es]
  rw[eb] at kG kF;refine cP (λq=>?_) (λq=>?_)
  .have hq:S.hs[z].st=Str.ofString "waits" :=V.str.inj (aaw q)
   refine⟨_,acg,kF _ H7 (Same.refl _) ?_⟩;rw[aaq hq,Int.zero_add];rfl
  .refine kG H7 (Same.refl _) ?_
   have hq:¬S.hs[z].st=Str.ofString "waits" :=λz=>q (aaq (by rw[z]));rw[aar hq];rfl
 .rw[Vn] at e7
  exact k _ s7 e7
structure Ru(CW CH:Addr)(i j:Nat)(τ0:Tg)(H0:Hp)(τ:Tg)(H:Hp)(r:Addr)(W:nW)(S S1:dR)(l:List Tc)(a tl:Addr)(tls:List Addr):Prop where
 w:j_ CW CH i τ H W S1
 T:RT τ H r
 R:Run S l S1
 ea:∃refs,H a=some (.lst refs)/\aQ H refs ((l.map eX).map tD)
 ta:τ a=[j]
 et:H tl=some (.lst (tls.map V.ref))
 tt:τ tl=[j]
 nt:tls.length=S.hs.length
 ne:a≠tl
 ps:∀k p,tls[k]? = some p->τ p=[j]/\p≠tl/\p≠a /\ ∃us,H p=some (.lst us)/\aQ H us ((l.filter λt=>t.k=k).map K4)
 dj:∀(k k':Nat) p,tls[k]? = some p->tls[k']? = some p->k=k'
 fr:rK i τ0 H0 τ H
 j0:j≠0
 ji:j≠i
 tch:∀x∈l,touch x.r=true
theorem wB(l:List Tc):pI (l.map K4)=true:=cj _ Y0 l
theorem Ru.mv{CW CH:Addr}{i j:Nat}{τ0 τ τ':Tg}{H0 H H':Hp}{r:Addr}{W:nW}{S S1:dR}{l:List Tc}{a tl:Addr}{tls:List Addr}(u:Ru CW CH i j τ0 H0 τ H r W S S1 l a tl tls)(w':j_ CW CH i τ' H' W S1)(T':RT τ' H' r)(f:rK i τ H τ' H'):Ru CW CH i j τ0 H0 τ' H' r W S S1 l a tl tls:=by
 have kp:∀x o,H x=some o->τ x=[j]->H' x=some o:=λx o e t=>f.keep _ _ e (by rw[t];simp) (by rw[t];intro z;exact u.ji (aaC z));obtain⟨refs,ea,da⟩:=u.ea
 exact⟨w',T',u.R,⟨refs,kp _ _ ea u.ta,aQ.keep f.tup _ (cj tD yu _) da⟩,(f.tg _ _ ea).trans u.ta,kp _ _ u.et u.tt,(f.tg _ _ u.et).trans u.tt,u.nt,u.ne,λk p h=>by
  obtain⟨t,n1,n2,us,e,d⟩:=u.ps k p h;exact⟨(f.tg _ _ e).trans t,n1,n2,us,kp _ _ e t,aQ.keep f.tup _ (wB _) d⟩,u.dj,u.fr.trans f,u.j0,u.ji,u.tch⟩
theorem Cp{i j:Nat}{τ:Tg}{H:Hp}{a:Addr}{o u:HO}(j0:j≠0)(ji:j≠i)(ta:τ a=[j])(e:H a=some o)(n:∀xs,o ≠ .tup xs):Mv i τ H τ (upd H a u):=by
 refine⟨λx v ex t=>⟨?_,acg⟩,λx xs ex=>?_⟩
 .have:x≠a:=λz=>by
   rw[z,ta] at t;rcases t with t|t
   .exact j0 (List.cons.inj t).1
   .exact ji (aaC t)
  rw[aF this];exact ex
 .rw[aF (dg ex e λz=>n xs z.symm)];exact ex
theorem A_{τ:Tg}{H:Hp}{a:Addr}{o:HO}(u:qw τ H):qw τ (upd H a o):=u.dom λy e=>by
 by_cases z:y=a
 .rw[z,ak] at e;cases e
 .rw[aF z] at e;exact e
theorem Ru.add{CW CH:Addr}{i j:Nat}{τ0 τ:Tg}{H0 H H1 H2:Hp}{r:Addr}{W:nW}{S S1:dR}{l:List Tc}{a tl t u p:Addr}{tls:List Addr}{refs us:List V}{tc:Tc}(ru:Ru CW CH i j τ0 H0 τ H r W S S1 l a tl tls)(a0:H0 a=none)(p0:∀p∈tls,H0 p=none)(at1:M9 S1 tc)(tt1:touch tc.r=true)(w1:j_ CW CH i τ H1 W (cJ S1 tc.k))(st:mQ i τ H H1)(s2:Same H1 H2)(e1:H2 t=some (.tup (tcV tc)))(e2:H2 u=some (.tup [.int (eX tc).1,.str (eX tc).2.1,.int (eX tc).2.2]))(er:H2 a=some (.lst refs))(hp:tls[tc.k]? = some p)(ep:(upd H2 a (.lst (refs++[.ref u]))) p=some (.lst us)):
 Ru CW CH i j τ0 H0 τ (upd (upd H2 a (.lst (refs++[.ref u]))) p (.lst (us++[.ref t]))) r W S (cJ S1 tc.k) (l++[tc]) a tl tls:=by
 have j0:=ru.j0;have ji:=ru.ji;obtain⟨tp,pt,pa,us',ep0,dp⟩:=ru.ps _ _ hp;have ta:=ru.ta;have kp:∀x o,H x=some o->τ x=[j]->H2 x=some o:=λx o e t=>s2 _ _ (st.keep _ _ e (by rw[t];intro z;exact ji (aaC z)));have KY:∀x xs,H x=some (.tup xs)->H2 x=some (.tup xs):=λx xs e=>s2 _ _ (st.tup _ _ e);have w2:=w1.same s2;have T2:=(ru.T.stp st).same s2;have nl:∀{vs:List V} xs,HO.lst vs ≠ .tup xs:=by intro vs xs z;cases z
 have w3:=w2.mv (Cp (u:= .lst (refs++[.ref u])) j0 ji ta er nl) (A_ w2.un);have T3:=T2.set (u:= .lst (refs++[.ref u])) er (by rw[ta];simp);have ep2:H2 p=some (.lst us):=by rw[aF pa] at ep;exact ep
 have eus:us=us':=by
  have:=kp _ _ ep0 tp;rw[ep2] at this;cases this;rfl
 subst eus;have w4:=w3.mv (Cp (u:= .lst (us++[.ref t])) j0 ji tp ep nl) (A_ w3.un);have T4:=T3.set (u:= .lst (us++[.ref t])) ep (by rw[tp];simp)
 have KQ:∀x xs,H2 x=some (.tup xs)->(upd (upd H2 a (.lst (refs++[.ref u]))) p (.lst (us++[.ref t]))) x=some (.tup xs):=λx xs e=>by
  rw[aF (dg e ep2 (by intro z;cases z)),aF (dg e er (by intro z;cases z))];exact e
 obtain⟨refs',ea,da⟩:=ru.ea
 have ers:refs=refs':=by
  have:=kp _ _ ea ta;rw[er] at this;cases this;rfl
 subst ers;refine⟨w4,T4, ?_,⟨refs++[.ref u],by rw[aF (Ne.symm pa),ak], ?_⟩,ta, ?_,ru.tt,ru.nt,ru.ne,λk q hq=>?_,ru.dj,⟨λx o e n m=>?_,ru.fr.tg,λx xs e=>KQ _ _ (KY _ _ (ru.fr.tup _ _ e)),λx e=>ru.fr.dom x ?_⟩,j0,ji,λx hx=>(abb.mp hx).elim (ru.tch x) λh=>by rw[aby.mp h];exact tt1⟩
 .exact Run.app.mpr ⟨S1,ru.R,at1,acg⟩
 .rw[aa3,aa3]
  exact fM (aQ.keep (λx xs e=>KQ _ _ (KY _ _ e)) _ (cj tD yu _) da) (Vv (x:=eX tc) (KQ _ _ e2))
 .rw[aF (Ne.symm pt),aF (Ne.symm ru.ne)]
  exact kp _ _ ru.et ru.tt
 .obtain⟨tq,q1,q2,vs,eq,dq⟩:=ru.ps k q hq
  refine⟨tq,q1,q2, ?_⟩
  by_cases z:k=tc.k
  .subst z
   rw[hp] at hq;cases hq;rw[ep0] at eq;cases eq;refine⟨_,ak, ?_⟩;rw[ab_,aa3];have:List.filter (λt:Tc=>decide (t.k=tc.k)) [tc]=[tc]:=by simp
   rw[this];exact fM (aQ.keep (λx xs e=>KQ _ _ (KY _ _ e)) _ (wB _) dq) (Zq (KQ _ _ e1))
  .have qp:q≠p:=λy=>z (ru.dj k tc.k q hq (by rw[y];exact hp))
   refine⟨vs,by rw[aF qp,aF q2];exact kp _ _ eq tq, ?_⟩
   have:List.filter (λt:Tc=>decide (t.k=k)) (l++[tc])=l.filter λt=>decide (t.k=k):=by
    rw[ab_];have:¬tc.k=k:=λy=>z y.symm;simp[this]
   rw[this];exact aQ.keep (λx xs e=>KQ _ _ (KY _ _ e)) _ (wB _) dq
 .rw[aF (aB e (p0 p (aap hp))),aF (aB e a0)]
  exact s2 _ _ (st.keep _ _ (ru.fr.keep _ _ e n m) (by rw[ru.fr.tg _ _ e];exact m))
 .by_cases z1:x=p
  .rw[z1,ak] at e;cases e
  .rw[aF z1] at e
   by_cases z2:x=a
   .rw[z2,ak] at e;cases e
   .rw[aF z2] at e
    exact st.dom _ (s2.free e)
structure M4(CW CH:Addr)(i j:Nat)(τ0:Tg)(H0:Hp)(τ:Tg)(H:Hp)(r:Addr)(W:nW)(S:dR)(a tl:Addr)(n:Nat)(ps:List Addr):Prop where
 w:j_ CW CH i τ H W S
 T:RT τ H r
 ea:H a=some (.lst [])
 ta:τ a=[j]
 et:H tl=some (.lst (ps.map V.ref))
 tt:τ tl=[j]
 nt:ps.length=n
 ne:a≠tl
 pe:∀(k:Nat) p,ps[k]? = some p->τ p=[j]/\p≠tl/\p≠a/\H p=some (.lst [])
 dj:∀(k k':Nat) p,ps[k]? = some p->ps[k']? = some p->k=k'
 fr:rK i τ0 H0 τ H
 p0:∀p∈ps,H0 p=none
theorem M4.more{CW CH:Addr}{i j:Nat}{τ0 τ:Tg}{H0 H:Hp}{r:Addr}{W:nW}{S:dR}{a tl q:Addr}{n:Nat}{ps:List Addr}(v:M4 CW CH i j τ0 H0 τ H r W S a tl n ps)(j0:j≠0)(ji:j≠i)(t0:H0 tl=none)(hq:H q=none):
 M4 CW CH i j τ0 H0 (aR τ q [j]) (upd (upd H q (.lst [])) tl (.lst (ps.map V.ref++[.ref q]))) r W S a tl (n+1) (ps++[q]):=by
 have s:=aG (o:=HO.lst []) hq;have eq:(upd H q (.lst [])) q=some (.lst []):=ak;have T1:=v.T.claim (t:=[j]) s hq ⟨_,eq⟩;have w1:=v.w.mv (Mv.claim (p:=q) (t:=[j]) s hq) T1.un;have tg:∀x o,H x=some o->aR τ q [j] x=τ x:=λx o e=>aV (aB e hq);have tq:aR τ q [j] q=[j]:=bK;have f1:rK i τ0 H0 (aR τ q [j]) (upd H q (.lst [])):=v.fr.trans (.claim s hq);have q0:H0 q=none:=v.fr.dom q hq;generalize upd H q (.lst [])=H1 at s eq T1 w1 f1 ⊢;generalize aR τ q [j]=τ1 at T1 w1 tg tq f1 ⊢;have qt:q≠tl:=λz=>by rw[z,v.et] at hq;cases hq
 have qa:q≠a:=λz=>by rw[z,v.ea] at hq;cases hq
 have et1:=s _ _ v.et;have tt1:τ1 tl=[j]:=(tg _ _ v.et).trans v.tt;have nl:∀{vs:List V} xs,HO.lst vs ≠ .tup xs:=by intro vs xs z;cases z
 have abe:∀k,ps[k]? ≠ some q:=λk z=>by rw[(v.pe k q z).2.2.2] at hq;cases hq
 refine⟨w1.mv (Cp j0 ji tt1 et1 nl) (A_ w1.un),T1.set et1 (by rw[tt1];simp),by rw[aF v.ne];exact s _ _ v.ea,(tg _ _ v.ea).trans v.ta,by rw[ak,aa3];rfl,tt1,by simp[v.nt],v.ne,λk p h=>?_,λk k' p h h'=>?_,⟨λx o e n m=>?_,f1.tg,λx xs e=>?_,λx e=>f1.dom x ?_⟩,λp hp=>?_⟩
 .rcases Nat.lt_or_ge k ps.length with z|z
  .rw[aaO z] at h
   obtain⟨b1,b2,b3,b4⟩:=v.pe k p h;exact⟨(tg _ _ b4).trans b1,b2,b3,by rw[aF b2];exact s _ _ b4⟩
  .rw[aaL z] at h
   have:p=q:=by
    have:=aap h;simpa using this
   subst this;exact⟨tq,qt,qa,by rw[aF qt];exact eq⟩
 .have side:∀k,(ps++[q])[k]? = some p->(k<ps.length/\ps[k]? = some p)\/(k=ps.length/\p=q):=λk h=>by
   rcases Nat.lt_or_ge k ps.length with z|z
   .rw[aaO z] at h
    exact .inl ⟨z,h⟩
   .rw[aaL z] at h
    have hk:k - ps.length<1:=(aae.mp h).1;exact .inr ⟨by lia,by have:=aap h;simpa using this⟩
  rcases side k h with ⟨_,a1⟩|⟨a1,b1⟩<;>rcases side k' h' with ⟨_,a2⟩|⟨a2,b2⟩
  .exact v.dj k k' p a1 a2
  .rw[b2] at a1;exact ace a1 (abe k)
  .rw[b1] at a2;exact ace a2 (abe k')
  .lia
 .rw[aF (aB e t0)]
  exact f1.keep _ _ e n m
 .rw[aF (aB e t0)]
  exact f1.tup _ _ e
 .by_cases z:x=tl
  .rw[z,ak] at e;cases e
  .rw[aF z] at e;exact e
 .rcases abb.mp hp with h|h
  .exact v.p0 p h
  .rw[aby.mp h];exact q0
theorem M4.done{CW CH:Addr}{i j:Nat}{τ0 τ:Tg}{H0 H:Hp}{r:Addr}{W:nW}{S:dR}{a tl:Addr}{ps:List Addr}(v:M4 CW CH i j τ0 H0 τ H r W S a tl S.hs.length ps)(j0:j≠0)(ji:j≠i):Ru CW CH i j τ0 H0 τ H r W S S [] a tl ps:=
 ⟨v.w,v.T,acg,⟨[],v.ea,by simp[aQ]⟩,v.ta,v.et,v.tt,v.nt,v.ne,λk p h=>let ⟨b1,b2,b3,b4⟩:=v.pe k p h;⟨b1,b2,b3,[],b4,by simp[aQ]⟩,v.dj,v.fr,j0,ji,(λ_ h=>nomatch h)⟩
noncomputable def GX(CW CH:Addr)(K:PySem.W.Frag):Sp:=λvs H Q _=>∃(r:Addr) (i j:Nat) (τ:Tg) (W:nW) (S:dR) (m:Nat),vs=[.ref r,.ref W.o,.int S.hs.length,.int m]/\RT τ H r/\j_ CW CH i τ H W S/\j8 S/\S.ts.length<=100/\m<=50/\S.hs.length<=8/\j≠0/\j≠i /\
 ∀(t a tl:Addr)(tls:List Addr)(l:List Tc)(S1:dR)(τ':Tg)(H':Hp),H' t=some (.tup [.ref a,.ref tl])->Ru CW CH i j τ H τ' H' r W S S1 l a tl tls->l.length<=m->Q (.ref t) H'
theorem Uv{ao aq bD g_:Addr}{f:Addr}{fd:FuncData}(F:fQ K "_law_run" "_law_run" G9 f fd)(bT:FnAt P w K mg base 1 "_law_draw" ["reel","many"] (jB K))(aK:cH K ao)(jh:MethAt P w K mg base 4 ao "how" ["self","hand"] (λvs H Q _=>zR ao aq bD K vs H Q λ_ _ _=>False))(nZ:MethAt P w K mg base 7 ao "turn" ["self","hand"] (λvs H Q _=>Bj ao aq bD g_ K vs H Q λ_ _ _=>False))(Bt:mV mg):bR P w K mg base ig 9 f fd ["reel","works","hands","turns"] (GX ao aq K):=by
 refine F.ok m_ (λvs H Q E h=>?_) (λcdv A outer s H vs Q E hr h=>?_)
 .obtain⟨r,i,j,τ,W,S,m,rfl,_⟩:=h
  rfl
 .obtain⟨r,i,j,τ,W,S,m,rfl,T,w,g,tl,m50,n8,j0,ji,k⟩:=h
  have qG:=hr.units
  refine⟨_,(aA (bH (i:=4) m_.nd rfl (Or.inl rfl) (cY au))
   (aA (kE (i:=5) rfl m_.nd rfl (Or.inl rfl) (N:=["k"]) (own:=["k"]) (caps:=[]) (bB.of (by kernel_rfl)) (cR (by rfl) Bt.dN (aj (pv 2) au)) (λ_ _ _ _=>(bL (i:=0) (show List.Nodup (["k"]:List Str) by decide +kernel) rfl (Or.inl rfl))) (λ_ _ _ _=>cO) (λ_ _ _ _=>(cY au)))
   (aA (jr PassesOwn.never rfl (cR (by rfl) Bt.dN (aj (pv 3) au)) (bL (i:=6) m_.nd rfl (Or.inl rfl))
   (aA (kE (i:=7) rfl m_.nd rfl (Or.inl rfl) (N:=["k","works"]) (own:=["k"]) (caps:=[1]) (bB.of (by kernel_rfl)) (cR (by rfl) Bt.dN (aj (pv 2) au)) (λ_ _ _ _=>(bL (i:=0) (show List.Nodup (["k","works"]:List Str) by decide +kernel) rfl (Or.inl rfl))) (λ_ _ _ _=>(v9 (bF dU (b_ jh aK.cls (hr.mono (by decide)) (pv 1) (aj (pv 0) au)) bO (bw _)))) (λ_ _ _ _=>(pv 0)))
   (aA (cB (bF (sX (K:=K) rfl qG) (pv 7) (cY au) (bw _)) (aJ O_) bJ)
   (aA (bH (i:=8) m_.nd rfl (Or.inl rfl) (aO (aP (K:=K) rfl) (pv 7) (bN bT (hr.mono (by decide)) (by rfl) (aj (pv 0) (aj (aW (aY (K:=K) rfl) (by rfl) Bt.dW cM (aj (pv 7) au)) au))) (λ_ _=>rfl)))
   (aA (bH (i:=9) m_.nd rfl (Or.inl rfl) (b_ nZ aK.cls (hr.mono (by decide)) (pv 1) (aj (pv 8) au)))
   (aA (dh (eZ (K:=K) rfl (pv 4) (aj (cX (aj (pv 8) (aj (aO (aU (K:=K) rfl) (pv 9) aC (λ_ _=>rfl)) (aj (aO (aU (K:=K) rfl) (pv 9) aC (λ_ _=>rfl)) au)))) au)))
   (aJ (dh (eZ (K:=K) rfl (aO (aP (K:=K) rfl) (pv 5) (pv 8) (λ_ _=>rfl)) (aj (pv 9) au))))))))))
   (aJ (bA (cX (aj (pv 4) (aj (pv 5) au)))))))), ?_⟩
  show GQ _ _ _ [some (.ref r),some (.ref W.o),some (.int S.hs.length),some (.int m),none,none,none,none,none,none] H;refine⟨by show 0<=sizeLine;exact Nat.zero_le _,λa ha=>?_⟩;have s1:=aG (o:=HO.lst []) ha;have ea:(upd H a (.lst [])) a=some (.lst []):=ak;have T1:=T.claim (t:=[j]) s1 ha ⟨_,ea⟩;have w1:=w.mv (Mv.claim (p:=a) (t:=[j]) s1 ha) T1.un;have f1:rK i τ H (aR τ a [j]) (upd H a (.lst [])):= .claim s1 ha;have ta:aR τ a [j] a=[j]:=bK;generalize upd H a (.lst [])=H1 at s1 ea T1 w1 f1 ⊢;generalize aR τ a [j]=τ1 at T1 w1 f1 ta;refine⟨_,acg,_,acg,by lia,by lia,λD hD=>?_⟩;rw[aa5];show fK _ _ _ _ _ _ [none] H1;have sD:=aG (o:=HO.lst []) hD;have eD:(upd H1 D (.lst [])) D=some (.lst []):=ak;have TD:=T1.claim (t:=[j]) sD hD ⟨_,eD⟩;have wD:=w1.mv (Mv.claim (p:=D) (t:=[j]) sD hD) TD.un;have fD:rK i τ H (aR τ1 D [j]) (upd H1 D (.lst [])):=f1.trans (.claim sD hD);have aD:a≠D:=aB ea hD;have D0:H D=none:=f1.dom D hD;refine gj (lo:=0) (n:=S.hs.length) (λn σ Hn=>∃(v:Option V) (τn:Tg) (ps:List Addr),σ=[v]/\M4 ao aq i j τ H τn Hn r W S a D n ps) ⟨_,_,[],acg,⟨wD,TD,sD _ _ ea,(aV aD).trans ta,eD,bK,acg,aD,λk p h=>by simp at h,λk k' p h=>by simp at h,fD,λp h=>by simp at h⟩⟩ ?_ ?_
  .rintro n σ Hn hn ⟨v,τn,ps,rfl,rv⟩
   dsimp only[cN,qF];rw[acd rfl];refine⟨by show 0<=sizeLine;exact Nat.zero_le _,λq hq=>?_⟩;have qD:D≠q:=aB rv.et hq;refine⟨_,by rw[aF qD];exact rv.et, ?_,_,_,_,acg,rv.more j0 ji D0 hq⟩;rw[aac,rv.nt,sizeLine_eq];lia
  rintro σ H3 ⟨v,τ3,tls,rfl,rv⟩;have p0:=rv.p0;have ru:=rv.done j0 ji;clear rv;refine⟨_,acg,(m:Int),acg,by lia,by lia, ?_⟩;rw[aa5]
  have fin:∀(x6 x7 x8 x9:Option V)(τ4:Tg)(H4:Hp)(l:List Tc)(S1:dR),Ru ao aq i j τ H τ4 H4 r W S S1 l a D tls->l.length<=m->S_ (Xh (h_ (cW 4) (h_ (cW 5) qC))) {nx:=λx H'=>Q V.non H',rt:=Q} [some (.ref r),some (.ref W.o),some (.int S.hs.length),some (.int m),some (.ref a),some (.ref D),x6,x7,x8,x9] H4:=λx6 x7 x8 x9 τ4 H4 l S1 ru hl=>by
   refine⟨_,acg,_,acg,by show 2<=sizeLine;decide,λt ht=>?_⟩;have s5:=aG (o:=HO.tup [V.ref a,V.ref D]) ht;exact k t a D tls l S1 τ4 _ ak (ru.mv (ru.w.same s5) (ru.T.same s5) (.same s5)) hl
  refine iU (λn σ H4=>∃(x6 x7 x8 x9:Option V) (τ4:Tg) (l:List Tc) (S1:dR),σ=[some (.ref r),some (.ref W.o),some (.int S.hs.length),some (.int m),some (.ref a),some (.ref D),x6,x7,x8,x9]/\Ru ao aq i j τ H τ4 H4 r W S S1 l a D tls/\l.length<=n) ⟨_,_,_,_,τ3,[],S,acg,ru,aaj _⟩ ?_ ?_
  .rintro n σ H4 hn ⟨x6,x7,x8,x9,τ4,l,S1,rfl,ru,hl⟩
   have hl4:=(BZ ru.R).1;have w4:=ru.w;rw[←hl4];refine⟨_,acg,_,acg,by lia,by lia,λDw hDw=>?_⟩;rw[aa5];show fK _ _ _ _ _ _ (none::[some (.ref W.o)]) H4;refine adh w4 (by lia) hDw λH5 s5 e5=>?_;have T5:=ru.T.claim (t:=[j+i+1]) s5 hDw ⟨_,e5⟩;have w5:=w4.mv (Mv.claim (p:=Dw) (t:=[j+i+1]) s5 hDw) T5.un;have ru5:=ru.mv w5 T5 (.claim s5 hDw);have tw5:aR τ4 Dw [j+i+1] Dw=[j+i+1]:=bK;generalize aR τ4 Dw [j+i+1]=τ5 at T5 w5 ru5 tw5
   have wm:(rO S1.hs).length<=8:=by
    have:=List.length_filter_le (lW S1.hs) (List.range S1.hs.length);unfold rO;rw[List.length_range] at this;lia
   refine⟨_,acg,by show 0<=sizeLine;exact Nat.zero_le _,λp6 hp6=>?_⟩;have s6:=aG (o:=HO.lst []) hp6;have e6:(upd H5 p6 (.lst [])) p6=some (.lst []):=ak;have TJ:=ru5.mv (w5.same s6) (T5.same s6) (.same s6);have e56:=s6 _ _ e5;generalize upd H5 p6 (.lst [])=H6 at s6 e6 TJ e56 ⊢;have afI:H6 Dw=some (.lst (((rO S1.hs).map λk:Nat=>(k:Int)).map V.int)):=by rw[e56,abE];rfl
   refine⟨_,_,cV afI,cV (ns:=[]) e6,shaped_ints _,shaped_ints [],_,acg, ?_⟩;rw[ab' (by decide),mL PyData.int tV];refine cP (λ_=>?_) (λne=>?_)
   .have:=fin (some (.int (0+(n:Int)))) (some (.ref Dw)) x8 x9 τ5 H6 l S1 TJ (by lia)
    rw[←hl4] at this;exact this
   have wn:0<(rO S1.hs).length:=by
    cases q:rO S1.hs with
    | nil=>exact ace (by rw[q];rfl) ne
    | cons _ _=>simp
   unfold zP;dsimp only;refine⟨_,acg,_,acg,_,acg,Dw,_,acg,.inl (bI.of e56), ?_⟩;rw[aac];refine⟨r,_,acg,TJ.T.R,by lia,by lia,λz H7 z0 z1 R7 k7=>?_⟩;obtain⟨z,rfl⟩:=ab4 z0;have T7:=TJ.T.draw k7 R7;have w7:=TJ.w.mv (TJ.T.kr k7) T7.un;have e7:=TJ.T.keep k7 e56 (by rw[tw5];simp);have d7:=Dr.draw TJ.T k7
   have f7:rK i τ5 H6 τ5 H7:=⟨λx o e nn _=>d7.k _ _ e nn,λ_ _ _=>rfl,d7.t,λx e=>by
    by_cases q:x=r
    .obtain⟨g',c',_,_,_,_,er,_⟩:=R7
     rw[q,er] at e;cases e
    .cases q':H6 x with
     | none=>rfl
     | some o=>rw[d7.p _ _ q' q] at e;cases e⟩
   have XJ:=TJ.mv w7 T7 f7;have zl:z<(rO S1.hs).length:=by lia
   obtain⟨kk,ek⟩:∃kk,(rO S1.hs)[z]? = some kk:=⟨_,aad zl⟩;refine⟨Dw,_,z,.int kk,acg,acg,bI.of e7,bV (by rw[aaf,ek];rfl), ?_⟩;obtain⟨hs,ehs,wts⟩:=Kv ek;have kl:=(aae.mp ehs).1;have inn:ur (kk:Int) S1.hs.length:=⟨by lia,by lia⟩
   have M_:S1.ts.length<=10000:=by
    rw[BX ru.R,aaD,aac];lia
   refine⟨_,acg,W.o,W.dx,_,acg,w7.o,acg,_,acg,i,τ5,W,S1,_,acg,w7,M_,λk' s' r' t H8 q1 es ws er tr tf tk wk stk=>?_,λz=>ace inn z,λk' s' q1 es nw=>?_⟩
   rotate_left
   .have:k'=kk:=by lia
    subst this;rw[ehs] at es;cases es;exact ace wts nw
   have:k'=kk:=by lia
   subst this;obtain⟨tc,htc⟩:∃tc:Tc,tc=⟨k',r',xT S1.ns r',Jf s'.bs r'⟩:=⟨_,acg⟩;have tck:tc.k=k':=by rw[htc]
   have at1:M9 S1 tc:=by rw[htc];exact⟨s',es,ws,er,acg,acg⟩
   have et:H8 t=some (.tup (tcV tc)):=by rw[tk,htc];rfl
   rw[←tck] at wk;obtain⟨refs,ea7,da7⟩:=XJ.ea;have hd:∀x,τ5 x=[j]->(τ5 x).head?≠some i:=λx e=>by rw[e];intro q;exact ji (aaC q)
   have ea8:=stk.keep _ _ ea7 (hd _ XJ.ta);have rl:refs.length=l.length:=by rw[da7.length,aac,aac]
   refine⟨_,acg,.inl ⟨acg,_,bI.of ea8⟩,_,acg,_,acg,_,_,_,_,acg,acg,cD.of et,acg,_,acg,_,_,_,_,acg,acg,cD.of et,acg,(by show 3<=sizeLine;decide),λu hu=>?_⟩;have su:=aG (o:=HO.tup [V.int k',V.str (qK tc.r),V.int (iB tc.r)]) hu;have eu:(upd H8 u (.tup [V.int k',V.str (qK tc.r),V.int (iB tc.r)])) u=some (.tup [.int (eX tc).1,.str (eX tc).2.1,.int (eX tc).2.2]):=by rw[ak];unfold eX;rw[tck]
   generalize upd H8 u (.tup [V.int k',V.str (qK tc.r),V.int (iB tc.r)])=H9 at su eu ⊢;have ea9:=su _ _ ea8;refine⟨_,_,_,acg,acg,ea9,(by rw[rl,sizeLine_eq];lia), ?_⟩;have kl':tc.k<tls.length:=by rw[ru.nt,←hl4,tck];exact kl
   obtain⟨p,hp⟩:∃p,tls[tc.k]? = some p:=⟨_,aad kl'⟩;obtain⟨tp,pt,pa,us,ep7,dp7⟩:=XJ.ps _ _ hp;have ep9:(upd H9 a (.lst (refs++[.ref u]))) p=some (.lst us):=by rw[aF pa];exact su _ _ (stk.keep _ _ ep7 (hd _ tp))
   have eD9:(upd H9 a (.lst (refs++[.ref u]))) D=some (.lst (tls.map V.ref)):=by rw[aF (Ne.symm XJ.ne)];exact su _ _ (stk.keep _ _ XJ.et (hd _ XJ.tt))
   have ul:us.length<=l.length:=by
    rw[dp7.length,aac];exact List.length_filter_le _ _
   refine⟨_,acg,_,acg,D,_,k',.ref p,acg,acg,bI.of eD9,bV (by rw[aaf,←tck,hp];rfl),.inl ⟨acg,_,bI.of ep9⟩,_,acg,p,us,.ref t,acg,acg,ep9,(by rw[sizeLine_eq];lia), ?_⟩;refine⟨_,_,_,_,τ5,l++[tc],cJ S1 tc.k,acg,XJ.add ha p0 at1 (by rw[htc];exact tr) wk stk su (su _ _ et) eu ea9 hp ep9,by simp;lia⟩
  .rintro σ H4 ⟨x6,x7,x8,x9,τ4,l,S1,rfl,ru,hl⟩
   exact fin _ _ _ _ _ _ _ _ ru hl
theorem Fx{r:Rw}(t:touch r=true):isLoad r=true↔qK r = "load" :=by
 cases r<;>first |(exact⟨λ_=>rfl,λ_=>rfl⟩)|(refine⟨λz=>?_,λz=>?_⟩<;>first |(cases z;done)|(exact ace z (by decide))|(cases t;done))
theorem Ef{x y:Tc}(tx:touch x.r=true)(ty:touch y.r=true):stepT x y↔(eX x).1=(eX y).1\/Nf (eX x) (eX y)=true:=by
 rw[J0];unfold stepT apart eX;dsimp only;rw[Fx tx,Fx ty];constructor
 .rintro(h|h)
  .exact .inl (by rw[h])
  .by_cases z:(x.k:Int)=y.k
   .exact .inl z
   .refine .inr ⟨z, ?_, ?_⟩
    .have:iB x.r=iB y.r:=Classical.byContradiction λq=>h (.inl q)
     rw[this]
    .by_cases q:qK x.r = "load"
     .exact .inr λq'=>h (.inr ⟨q,q'⟩)
     .exact .inl q
 .rintro(h|⟨n,c,w⟩)
  .exact .inl (by lia)
  .refine .inr ?_
   rintro(z|⟨z,z'⟩)
   .exact z (by have:=c;first |lia|exact Int.ofNat.inj c)
   .rcases w with w|w
    .exact w z
    .exact w z'
theorem vI.cl{l:List Tc}(ht:∀x∈l,touch x.r=true){o:List Nat}(h:vI l o):∀a b,a<b->Ul (l.map eX) a b\/Qp (l.map eX) a b->b∈o->a∈o:=by
 have gt:∀{m:Nat}{u:jy},(l.map eX)[m]? = some u -> ∃x,l[m]? = some x/\u=eX x:=fun {m u} e=>by
  rw[aaf] at e;cases q:l[m]? with
  | none=>rw[q] at e;cases e
  | some x=>rw[q] at e;exact⟨x,acg,(aaC e).symm⟩
 induction h with
 | nil=>intro a b _ _ m;cases m
 | @snoc o c x h e n q ih=>
   intro a b lt s m;rcases abb.mp m with m|m
   .exact abb.mpr (.inl (ih a b lt s m))
   .have:b=c:=by simpa using m
    subst this;refine abb.mpr (.inl ?_)
    have:∃y,l[a]? = some y/\((eX y).1=(eX x).1\/Nf (eX y) (eX x)=true):=by
     rcases s with ⟨u,v,e1,e2,s⟩|⟨u,v,e1,e2,s⟩<;>obtain⟨y,ey,rfl⟩:=gt e1<;>obtain⟨x',ex,rfl⟩:=gt e2<;>rw[e] at ex<;>cases ex
     .exact⟨y,ey,.inl s⟩
     .exact⟨y,ey,.inr s⟩
    obtain⟨y,ey,s⟩:=this;exact q a y lt ey ((Ef (ht _ (aap ey)) (ht _ (aap e))).mpr s)
theorem vI.add{l:List Tc}(ht:∀x∈l,touch x.r=true){o:List Nat}(h:vI l o){few:Bool}{a:Nat}{x:Tc}(e:l[a]? = some x)(n:a∉o)(own:∀m y,m<a->l[m]? = some y->y.k=x.k->m∈o)(nts:∀m,oO (l.map eX) few m a->m∈o):vI l (o++[a]):=by
 refine .snoc h e n λm y lt ey s=>?_;have ew:∀{m:Nat}{y:Tc},l[m]? = some y->(l.map eX)[m]? = some (eX y):=fun {m y} e=>by rw[aaf,e];rfl
 rcases(Ef (ht _ (aap ey)) (ht _ (aap e))).mp s with s|s
 .exact own m y lt ey (by unfold eX at s;dsimp only at s;lia)
 .refine kh (own:=Ul (l.map eX)) (meet:=Qp (l.map eX)) (few:=few=true) (D:=λm=>m∈o) (h.cl ht) (j:=a) (λi li ⟨u,v,e1,e2,s⟩=>?_) (λi z=>nts i z) (a - m) m lt (aaj _) ⟨_,_,ew ey,ew e,s⟩
  rw[aaf] at e1 e2;rw[e] at e2;cases e2;cases q:l[i]? with
  | none=>rw[q] at e1;cases e1
  | some y'=>
    rw[q] at e1;cases e1;exact own i y' li q (by unfold eX at s;dsimp only at s;lia)
theorem abK(a b c d:V):j5 [a,b,c,d] none (some 2)=[a,b]:=yJ _ 2
theorem abJ(a b c d:V):j5 [a,b,c,d] (some 2) none=[c,d]:=Ge _ 2
theorem Yj{α:Type}(xs:List α)(h:xs.length=4):¬(HT.iG xs.length 0 none=0/\HT.iG xs.length xs.length (some 2)=xs.length):=by
 rw[h];decide
theorem Yi{α:Type}(xs:List α)(h:xs.length=4):¬(HT.iG xs.length 0 (some 2)=0/\HT.iG xs.length xs.length none=xs.length):=by
 rw[h];decide
noncomputable def nt(H H':Hp):Hp:=λx=>match H' x with
 | some (.tup xs)=>some (.tup xs)
 | o=>match H x with
   | none=>o
   | some _=>none
theorem Yz{H H':Hp}{x:Addr}{xs:List V}(e:H' x=some (.tup xs)):nt H H' x=some (.tup xs):=by unfold nt;rw[e]
theorem Wt{H H':Hp}{x:Addr}{o:HO}(n:H x=none)(e:H' x=some o):nt H H' x=some o:=by
 unfold nt;rw[e,n];cases o<;>rfl
theorem YC{H H':Hp}{x:Addr}{o:HO}(e:nt H H' x=some o):H' x=some o/\((∃xs,o = .tup xs)\/H x=none):=by
 unfold nt at e;split at e
 .rename_i xs q
  cases e;exact⟨q,.inl ⟨_,acg⟩⟩
 .cases q:H x with
  | none=>rw[q] at e;exact⟨e,.inr rfl⟩
  | some u=>rw[q] at e;cases e
noncomputable def oF(τ:Tg)(H:Hp):Hp:=λx=>match H x with
 | some (.tup xs)=>some (.tup xs)
 | o=>if τ x=[0] then o else none
theorem oR{τ:Tg}{H:Hp}{x:Addr}{xs:List V}(e:H x=some (.tup xs)):oF τ H x=some (.tup xs):=by unfold oF;rw[e]
theorem rR{τ:Tg}{H:Hp}{x:Addr}{o:HO}(t:τ x=[0])(e:H x=some o):oF τ H x=some o:=by
 unfold oF;rw[e];cases o<;>simp only[t,if_true]<;>rfl
theorem wO{τ:Tg}{H:Hp}{x:Addr}{o:HO}(e:oF τ H x=some o):H x=some o/\((∃xs,o = .tup xs)\/τ x=[0]):=by
 unfold oF at e;split at e
 .rename_i xs q
  cases e;exact⟨q,.inl ⟨_,acg⟩⟩
 .by_cases t:τ x=[0]
  .rw[acd t] at e;exact⟨e,.inr t⟩
  .rw[ab' t] at e;cases e
theorem qd(τ:Tg)(H:Hp):Same (oF τ H) H:=λx o e=>(wO e).1
theorem m7{i:Nat}{τ τ':Tg}{H H':Hp}(q:Mv i τ H τ' H'):Same (oF τ H) (oF τ' H'):=λx o e=>by
 obtain⟨e,⟨xs,rfl⟩|t⟩:=wO e
 .exact oR (q.tup _ _ e)
 .have:=q.keep x o e (.inl t)
  exact rR (this.2.trans t) this.1
theorem iu{i:Nat}{τ:Tg}{H H':Hp}(q:mQ i τ H H')(i0:i≠0):Same (oF τ H) (oF τ H'):=λx o e=>by
 obtain⟨e,⟨xs,rfl⟩|t⟩:=wO e
 .exact oR (q.tup _ _ e)
 .exact rR t (q.keep x o e (by rw[t];intro z;exact i0 (aaC z).symm))
noncomputable def Nb(τ:Tg)(H H':Hp):Tg:=λx=>match H x with
 | some _=>τ x
 | none=>match H' x with
   | some _=>[0]
   | none=>τ x
theorem S6{τ:Tg}{H H':Hp}{x:Addr}{o:HO}(e:H x=some o):Nb τ H H' x=τ x:=by unfold Nb;rw[e]
theorem S8{τ:Tg}{H H':Hp}{x:Addr}{o:HO}(n:H x=none)(e:H' x=some o):Nb τ H H' x=[0]:=by unfold Nb;rw[n];simp only[e]
theorem Xf{τ:Tg}{H H':Hp}(k:Same H H')(u:qw τ H):qw (Nb τ H H') H':=λx e=>by
 have n:=k.free e;unfold Nb;rw[n];simp only[e];exact u x n
theorem YB{τ:Tg}{H H':Hp}:Same (nt H H') (oF (Nb τ H H') H'):=λx o e=>by
 obtain⟨e,⟨xs,rfl⟩|n⟩:=YC e
 .exact oR e
 .exact rR (S8 n e) e
noncomputable abbrev Ks:=Int×Int
noncomputable def pD(x:Ks):PyData:= .tuple [.int x.1,.int x.2]
theorem pJ(x:Ks):za (pD x)=true:=acg
theorem Ke{H:Hp}{t:Addr}{x:Ks}(h:H t=some (.tup [.int x.1,.int x.2])):Dat H (.ref t) (pD x):=by
 simp only[pD,Dat];exact⟨t,_,acg,h,by simp only[aQ,Dat,and_self]⟩
theorem Gd{H:Hp}{v:V}{x:Ks}(h:Dat H v (pD x)):∃t,v = .ref t/\H t=some (.tup [.int x.1,.int x.2]):=by
 simp only[pD,Dat] at h;obtain⟨t,vs,e,q,d⟩:=h
 match vs,d with
 | [a,b],d=>
   simp only[aQ,Dat,and_true] at d;obtain⟨rfl,rfl⟩:=d;exact⟨t,e,q⟩
 | [],d=>simp only[aQ] at d
 | [_],d=>simp only[aQ,and_false] at d
 | _::_::_::_,d=>simp only[aQ,and_false] at d
noncomputable def pU(H:Hp)(a:Addr)(ps:List Ks):Prop:=∃vs,H a=some (.lst vs)/\aQ H vs (ps.map pD)
theorem pU.same{H H':Hp}{a:Addr}{ws:List Ks}(h:pU H a ws)(k:Same H H'):pU H' a ws:=by
 obtain⟨vs,e,d⟩:=h;exact⟨vs,k _ _ e,aQ.keep k.tups _ (cj _ pJ ws) d⟩
theorem Uc{H:Hp}{vs:List V}{ps:List Ks}{i:Nat}{v:V}(d:aQ H vs (ps.map pD))(e:vs[i]? = some v):∃x t,ps[i]? = some x/\v = .ref t/\H t=some (.tup [.int x.1,.int x.2]):=by
 obtain⟨q,eq,dq⟩:=d.get e;rw[aaf] at eq;cases ex:ps[i]? with
 | none=>rw[ex] at eq;cases eq
 | some x=>
   rw[ex] at eq;cases eq;obtain⟨t,rfl,ht⟩:=Gd dq;exact⟨x,t,acg,acg,ht⟩
noncomputable def ft(x:Nt):Ks:=(x.1,x.2.1)
noncomputable def cQ(ns:List Nt)(o m:Int):List Ks:=(ns.filter λx=>decide (x.2.2.1=o)&&decide (x.2.2.2=m)).map ft
theorem zE(ns:List Nt)(x:Nt)(o m:Int):cQ (ns++[x]) o m=cQ ns o m++(if x.2.2.1=o/\x.2.2.2=m then [ft x] else []):=by
 unfold cQ;rw[ab_,aa3];congr 1
 by_cases e:x.2.2.1=o/\x.2.2.2=m
 .simp[e.1,e.2]
 .rw[ab' e]
  by_cases e1:x.2.2.1=o
  .have e2:¬x.2.2.2=m:=λz=>e ⟨e1,z⟩
   simp[e2]
  .simp[e1]
noncomputable def j9(H:Hp)(f:Addr)(ns:List Nt):Prop:=∃kvs,H f=some (.dT kvs) /\ ∀o m:Int,(fH kvs [Sum.inl o,Sum.inl m]=none/\cQ ns o m=[]) \/ ∃l,fH kvs [Sum.inl o,Sum.inl m]=some (.ref l)/\pU H l (cQ ns o m)
theorem j9.same{H H':Hp}{f:Addr}{ns:List Nt}(h:j9 H f ns)(k:Same H H'):j9 H' f ns:=by
 obtain⟨kvs,e,q⟩:=h;refine⟨kvs,k _ _ e,λo m=>?_⟩;rcases q o m with z|⟨l,e1,e2⟩
 .exact .inl z
 .exact .inr ⟨l,e1,e2.same k⟩
noncomputable def Ei(K:PySem.W.Frag):Sp:=λvs H Q _=>∃(t c a:Addr) (cs:List Int) (ns:List Nt),vs=[.ref t]/\RecAt H t c a cs ns/\Av cs ns /\ ∀(f:Addr)(H':Hp),H f=none->j9 (nt H H') f ns->Same H H'->Q (.ref f) H'
theorem Lf{f:Addr}{fd:FuncData}(F:fQ K "firsts_of" "firsts_of" oX f fd):bR P w K mg base ig 1 f fd ["record"] (Ei K):=by
 refine F.ok m9 (λvs H Q E h=>?_) (λcdv A outer s H vs Q E hr h=>?_)
 .obtain⟨t,c,a,cs,ns,rfl,_⟩:=h
  rfl
 .obtain⟨t,c,a,cs,ns,rfl,R,ok,k⟩:=h
  have hu:=Wz hr;obtain⟨ht,hc,nvs,ha,dn⟩:=id R;have nvl:nvs.length=ns.length:=by rw[dn.length,aac]
  have nl:=ok.2.1
  refine⟨_,(aA (bH (i:=1) m9.nd rfl (Or.inl rfl) Pu)
   (aA (jr PassesOwn.never rfl (dH (K:=K) rfl (aO (aU (K:=K) rfl) (pv 0) aC (λ_ _=>rfl))) (bL (i:=2) m9.nd rfl (Or.inl rfl))
   (aJ (dh (eZ (K:=K) rfl (Pr hu (pv 1) (jd (Jz (K:=K) rfl) (pv 2) (kI aC) kJ) (cY au) ⟨acg,acg,acg,acg⟩) (aj (jd (Jz (K:=K) rfl) (pv 2) kJ (kI aC)) au)))))
   (aJ (bA (pv 1))))), ?_⟩
  intro f hf;have s1:=aG (o:=HO.dT []) hf;refine⟨_,acg,_,_,_,_,acg,acg,cD.of (s1 _ _ ht),acg,a,acg,⟨_,bI.of (s1 _ _ ha)⟩, ?_⟩
  refine yG (K:=K) (a:=a) (xs:=nvs) (λi σ H2=>∃(x:Option V) (kvs:List (List Key×V)),σ=[some (.ref t),some (.ref f),x]/\Same H H2/\H2 f=some (.dT kvs)/\kvs.length<=i /\
   (∀o m:Int,(fH kvs [Sum.inl o,Sum.inl m]=none/\cQ (ns.take i) o m=[]) \/ ∃l,fH kvs [Sum.inl o,Sum.inl m]=some (.ref l)/\pU H2 l (cQ (ns.take i) o m)/\H l=none/\l≠f) /\
   (∀(o m o' m':Int) l,fH kvs [Sum.inl o,Sum.inl m]=some (.ref l)->fH kvs [Sum.inl o',Sum.inl m']=some (.ref l)->o=o'/\m=m'))
   ⟨none,[],acg,s1,ak,Nat.zero_le _,λo m=> .inl ⟨acg,acg⟩,λo m o' m' l h=>by cases h⟩ (λi σ H2 _ ⟨_,_,_,sm,_⟩=>bI.of (sm _ _ ha)) ?_ ?_
  .rintro i v σ H2 hi ⟨x0,kvs,rfl,sm,hF,kl,hval,inj⟩
   obtain⟨x,w,ex,rfl,hx⟩:=Ck dn hi;have il:i<nvs.length:=(aae.mp hi).1;have hx2:=sm _ _ hx;have tk:ns.take (i+1)=ns.take i++[x]:=by rw[abB,ex];rfl
   refine FZ (λv H3=>∃l Cu,v = .ref l/\Same H H3/\(∀a xs,H2 a=some (HO.tup xs)->H3 a=some (HO.tup xs))/\H3 f=some (.dT Cu)/\Cu.length<=i+1/\fH Cu [Sum.inl x.2.2.1,Sum.inl x.2.2.2]=some (.ref l) /\
    (∀o m:Int,(fH Cu [Sum.inl o,Sum.inl m]=none/\cQ (ns.take i) o m=[]) \/ ∃l,fH Cu [Sum.inl o,Sum.inl m]=some (.ref l)/\pU H3 l (cQ (ns.take i) o m)/\H l=none/\l≠f) /\
    (∀(o m o' m':Int) l,fH Cu [Sum.inl o,Sum.inl m]=some (.ref l)->fH Cu [Sum.inl o',Sum.inl m']=some (.ref l)->o=o'/\m=m')) (λQ' kQ=>?_) ?_
   .refine⟨_,acg,f,acg,.inr ⟨_,.inl hF⟩,_,acg,_,acg,_,_,acg,cD.of hx2,Yi _ rfl,λp1 hp1=>?_⟩
    have c2:j5 (nV x) (some 2) none=[.int x.2.2.1,.int x.2.2.2]:=abJ ..;rw[c2];have sp1:=aG (o:=HO.tup [V.int x.2.2.1,V.int x.2.2.2]) hp1;refine⟨(by show 0<=sizeLine;decide),λe he=>?_⟩;have sp2:=aG (o:=HO.lst []) he;have s12:=sp1.trans sp2;refine⟨kvs,[Sum.inl x.2.2.1,Sum.inl x.2.2.2],p1,s12 _ _ hF,acg,sp2 _ _ ak,by rw[sizeLine_eq];lia,λv hv=>?_,λhn=>?_⟩
    .rcases hval x.2.2.1 x.2.2.2 with z|⟨l,e1,e2,e3,e4⟩
     .rw[z.1] at hv;cases hv
     .rw[e1] at hv
      cases hv;refine kQ _ _ ⟨l,kvs,acg,sm.trans s12,s12.tups,s12 _ _ hF,by lia,e1,λo m=>?_,inj⟩;rcases hval o m with z|⟨l',f1,f2,f3,f4⟩
      .exact .inl z
      .exact .inr ⟨l',f1,f2.same s12,f3,f4⟩
    .have kF:Kp f (upd (upd H2 p1 (.tup [V.int x.2.2.1,V.int x.2.2.2])) e (.lst [])) (upd (upd (upd H2 p1 (.tup [V.int x.2.2.1,V.int x.2.2.2])) e (.lst [])) f (.dT (putK kvs [Sum.inl x.2.2.1,Sum.inl x.2.2.2] (.ref e)))):=Kp.set
     have nef:e≠f:=λz=>by rw[←z] at hF;rw[sp1 _ _ hF] at he;cases he
     have hFe:(upd (upd H2 p1 (.tup [V.int x.2.2.1,V.int x.2.2.2])) e (.lst [])) f=some (.dT kvs):=s12 _ _ hF;have he2:H2 e=none:=sp1.free he;have tF:∀a xs,(upd (upd H2 p1 (.tup [V.int x.2.2.1,V.int x.2.2.2])) e (.lst [])) a=some (HO.tup xs)->(upd (upd (upd H2 p1 (.tup [V.int x.2.2.1,V.int x.2.2.2])) e (.lst [])) f (.dT (putK kvs [Sum.inl x.2.2.1,Sum.inl x.2.2.2] (.ref e)))) a=some (HO.tup xs):=λa xs h=>kF _ _ h (dg h hFe (by intro z;cases z))
     have neq:∀o m:Int,([Sum.inl o,Sum.inl m]:List Key)=[Sum.inl x.2.2.1,Sum.inl x.2.2.2]↔o=x.2.2.1/\m=x.2.2.2:=λo m=>by
      constructor
      .intro z;injection z with z1 z2;injection z2 with z2 _;exact⟨Sum.inl.inj z1,Sum.inl.inj z2⟩
      .rintro⟨rfl,rfl⟩;rfl
     refine kQ _ _ ⟨e,_,acg,λb o eb=>kF _ _ ((sm.trans s12) _ _ eb) (aB eb hf),λa xs h=>tF _ _ (s12.tups _ _ h),ak, ?_,by rw[wL,acd rfl],λo m=>?_,λo m o' m' l h1 h2=>?_⟩
     .exact ab9 (vA ..) (by lia)
     .rw[wL]
      by_cases q:o=x.2.2.1/\m=x.2.2.2
      .rw[acd ((neq o m).mpr q)]
       obtain⟨rfl,rfl⟩:=q;refine .inr ⟨e,acg, ?_,sm.free he2,nef⟩;rcases hval x.2.2.1 x.2.2.2 with z|⟨l,e1,_⟩
       .rw[z.2]
        exact⟨[],kF _ _ ak nef,by simp[aQ]⟩
       .rw[e1] at hn;cases hn
      .rw[ab' λz=>q ((neq o m).mp z)]
       rcases hval o m with z|⟨l',f1,f2,f3,f4⟩
       .exact .inl z
       .refine .inr ⟨l',f1, ?_,f3,f4⟩
        obtain⟨ws,g1,g2⟩:=f2.same s12;exact⟨ws,kF _ _ g1 f4,aQ.keep tF _ (cj _ pJ _) g2⟩
     .rw[wL] at h1 h2
      have old:∀o m:Int,fH kvs [Sum.inl o,Sum.inl m]=some (V.ref e)->False:=λo m h=>by
       rcases hval o m with z|⟨l',f1,⟨ws,g1,_⟩,f3,f4⟩
       .rw[z.1] at h;cases h
       .rw[f1] at h
        cases h;rw[he2] at g1;cases g1
      by_cases q:o=x.2.2.1/\m=x.2.2.2
      .rw[acd ((neq o m).mpr q)] at h1
       cases h1
       by_cases q':o'=x.2.2.1/\m'=x.2.2.2
       .exact⟨q.1.trans q'.1.symm,q.2.trans q'.2.symm⟩
       .rw[ab' λz=>q' ((neq o' m').mp z)] at h2
        exact(old _ _ h2).elim
      .rw[ab' λz=>q ((neq o m).mp z)] at h1
       by_cases q':o'=x.2.2.1/\m'=x.2.2.2
       .rw[acd ((neq o' m').mpr q')] at h2
        cases h2;exact(old _ _ h1).elim
       .rw[ab' λz=>q' ((neq o' m').mp z)] at h2
        exact inj _ _ _ _ _ h1 h2
   .rintro v H3 ⟨l,Cu,rfl,sm3,tp3,hF3,kl3,hkey,Wy,abf⟩
    obtain⟨z0,PL,hl0,nlf⟩:∃z0:True,pU H3 l (cQ (ns.take i) x.2.2.1 x.2.2.2)/\H l=none/\l≠f:=by
     rcases Wy x.2.2.1 x.2.2.2 with z|⟨l',f1,f2,f3,f4⟩
     .rw[z.1] at hkey;cases hkey
     .rw[f1] at hkey
      cases hkey;exact⟨trivial,f2,f3,f4⟩
    obtain⟨ws,hl3,dl3⟩:=id PL;refine⟨.inl ⟨acg,_,bI.of hl3⟩,_,acg,_,acg,_,_,acg,cD.of (tp3 _ _ hx2),Yj _ rfl,λp2 hp2=>?_⟩;have c1:j5 (nV x) none (some 2)=[.int x.1,.int x.2.1]:=abK ..;rw[c1];have sp:=aG (o:=HO.tup [V.int x.1,V.int x.2.1]) hp2
    have wl:ws.length<=ns.length:=by
     rw[dl3.length,aac];unfold cQ;rw[aac];have a1:=List.length_filter_le (λy:Nt=>decide (y.2.2.1=x.2.2.1)&&decide (y.2.2.2=x.2.2.2)) (ns.take i);have a2:(ns.take i).length<=ns.length:=by rw[abI];lia
     lia
    refine⟨l,ws,_,acg,acg,sp _ _ hl3,by rw[sizeLine_eq];lia, ?_⟩;have kL:Kp l (upd H3 p2 (.tup [V.int x.1,V.int x.2.1])) (upd (upd H3 p2 (.tup [V.int x.1,V.int x.2.1])) l (.lst (ws++[V.ref p2]))):=Kp.set;have tL:=kL.tups (sp _ _ hl3);refine⟨_,Cu,acg,λb o eb=>kL _ _ (sp _ _ (sm3 _ _ eb)) (aB eb hl0),kL _ _ (sp _ _ hF3) nlf.symm,kl3,λo m=>?_,abf⟩;rw[tk,zE]
    by_cases q:x.2.2.1=o/\x.2.2.2=m
    .obtain⟨rfl,rfl⟩:=q
     rw[acd ⟨acg,acg⟩];refine .inr ⟨l,hkey,⟨_,ak, ?_⟩,hl0,nlf⟩;rw[aa3];exact aQ.append (aQ.keep (λa xs h=>tL _ _ (sp.tups _ _ h)) _ (cj _ pJ _) dl3) (abH (Ke (x:=ft x) (tL _ _ ak)))
    .rw[ab' q,List.append_nil]
     rcases Wy o m with z|⟨l',f1,f2,f3,f4⟩
     .exact .inl z
     .have nll:l'≠l:=λz=>by
       subst z;obtain⟨e1,e2⟩:=abf _ _ _ _ _ f1 hkey;exact q ⟨e1.symm,e2.symm⟩
      obtain⟨us,g1,g2⟩:=f2;exact .inr ⟨l',f1,⟨us,kL _ _ (sp _ _ g1) nll,aQ.keep (λa xs h=>tL _ _ (sp.tups _ _ h)) _ (cj _ pJ _) g2⟩,f3,f4⟩
  .rintro σ H2 ⟨x0,kvs,rfl,sm,hF,kl,hval,inj⟩
   rw[nvl,abA] at hval;refine⟨_,acg,k f H2 hf ⟨kvs,Wt hf hF,λo m=>?_⟩ sm⟩;rcases hval o m with z|⟨l,f1,⟨ws,g1,g2⟩,hl0,_⟩
   .exact .inl z
   .exact .inr ⟨l,f1,ws,Wt hl0 g1,aQ.keep (λa xs e=>Yz e) _ (cj _ pJ _) g2⟩
noncomputable def Eh(K:PySem.W.Frag):Sp:=λvs H Q _=>∃(t:Addr) (x:Nt),vs=[.ref t]/\H t=some (.tup (nV x)) /\ ∀H',Same H H'->Q (.bl (!decide (x.1=x.2.2.1))) H'
theorem Hv{f:Addr}{fd:FuncData}(F:fQ K "is_note" "is_note" uR f fd)(rM:FnAt P w K mg base 1 "is_whole" ["value"] (Xx K))(Bt:mV mg):bR P w K mg base ig 2 f fd ["value"] (Eh K):=by
 refine F.ok G6 (λvs H Q E h=>?_) (λcdv A outer s H vs Q E hr h=>?_)
 .obtain⟨t,x,rfl,_⟩:=h
  rfl
 .obtain⟨t,x,rfl,ht,k⟩:=h
  have qG:=hr.units
  refine⟨_,(aA (cB (PW.pt (jV (gU (dB (aW (cL (K:=K) (cv:= .ty "tuple") (c:= .type "tuple") rfl rfl) (by rfl) Bt.bQ bM (aj (pv 0) (aj (eH (v:= .ty "tuple") (by rfl) Bt.wC uc rfl) au))))) (jU (bF kW (aW (aY (K:=K) rfl) (by rfl) Bt.dW cM (aj (pv 0) au)) aC (bw _))))) (aJ (bA oA)) bJ)
   (aJ (bA (jt (aW (gR (K:=K) rfl rfl) (by rfl) Bt.Ko Dl (aj (dI rfl (N:=["number"]) (own:=["number"]) (caps:=[]) (bB.of (by kernel_rfl)) (Ue (K:=K) rfl (pv 0)) (λ_ _ _ _=>(bL (i:=0) (show List.Nodup (["number"]:List Str) by decide +kernel) rfl (Or.inl rfl))) (λ_ _ _ _=>cO) (λ_ _ _ _=>(bN rM (hr.mono (by decide)) (by rfl) (aj (pv 0) au)))) au)) (iR (cI kW (aO (aU (K:=K) rfl) (pv 0) aC (λ_ _=>rfl)) (aO (aU (K:=K) rfl) (pv 0) aC (λ_ _=>rfl)) (bw _))))))), ?_⟩
  refine⟨_,acg,_,_,true,acg,.tup ht,gQ K,true,acg, ?_⟩;refine cU ?_;refine⟨_,acg,t,_,acg,.inr (cD.of ht),acg,_,acg, ?_⟩;refine tK (by rfl) ?_;refine⟨_,acg,t,acg,⟨_,cD.of ht⟩,λD hD=>?_⟩;refine Mu (K:=K) (λi=>some (.bl true)) hD ht (by show 4<=100000;decide) (λi v H2 G F hi s2 kG kF=>?_) (λH2 s2 e2=>?_)
  .obtain⟨z,rfl⟩:∃z,v=V.int z:=by
    have hm:=aap hi;simp only[nV,List.mem_cons,List.not_mem_nil,or_false] at hm;rcases hm with rfl|rfl|rfl|rfl<;>exact⟨_,rfl⟩
   exact⟨_,acg,z,acg,kF _ H2 (Same.refl _) rfl⟩
  .refine⟨D,[true,true,true,true],acg,bI.of e2,true,acg, ?_⟩
   refine eO ?_;refine⟨_,acg,_,_,_,_,acg,acg,cD.of (s2 _ _ ht),acg,_,acg,_,_,_,_,acg,acg,cD.of (s2 _ _ ht),acg,acg, ?_⟩
   have e:(!decide (V.int x.1=V.int x.2.2.1))=(!decide (x.1=x.2.2.1)):=by
    by_cases q:x.1=x.2.2.1
    .simp[q]
    .simp[q]
   show Q (.bl (!decide (V.int x.1=V.int x.2.2.1))) H2;rw[e];exact k H2 s2
noncomputable def zT(K:PySem.W.Frag):Sp:=λvs H Q _=>∃(c t:Addr) (cs:List Int) (x:Nt),vs=[.ref c,.ref t]/\H c=some (.lst (cs.map V.int))/\H t=some (.tup (nV x))/\ZR cs x/\V3 cs /\ ∀H',Same H H'->Q (.bl true) H'
theorem zy{f:Addr}{fd:FuncData}(F:fQ K "is_between" "is_between" nu f fd)(d_:FnAt P w K mg base 2 "is_below" ["value","count"] (rY K))(M7:FnAt P w K mg base 2 "is_note" ["value"] (Eh K))(Bt:mV mg):bR P w K mg base ig 3 f fd ["counts","note"] (zT K):=by
 refine F.ok zq (λvs H Q E h=>?_) (λcdv A outer s H vs Q E hr h=>?_)
 .obtain⟨c,t,cs,x,rfl,_⟩:=h
  rfl
 .obtain⟨c,t,cs,x,rfl,hc,ht,ok,cok,k⟩:=h
  have qG:=hr.units;obtain⟨⟨h0,h1⟩,⟨k0,k1⟩,⟨o0,o1⟩,⟨m0,m1⟩,hne⟩:=id ok
  refine⟨_,(aA (cB (PW.pt (jV (gU (dB (bN M7 (hr.mono (by decide)) (by rfl) (aj (pv 1) au)))) (jV (gU (dB (bN d_ (hr.mono (by decide)) (by rfl) (aj (aO (aU (K:=K) rfl) (pv 1) aC (λ_ _=>rfl)) (aj (aW (aY (K:=K) rfl) (by rfl) Bt.dW cM (aj (pv 0) au)) au))))) (jU (gU (dB (bN d_ (hr.mono (by decide)) (by rfl) (aj (aO (aU (K:=K) rfl) (pv 1) aC (λ_ _=>rfl)) (aj (aW (aY (K:=K) rfl) (by rfl) Bt.dW cM (aj (pv 0) au)) au))))))))) (aJ (bA oA)) bJ)
   (aJ (bA (jt (bN d_ (hr.mono (by decide)) (by rfl) (aj (aO (aU (K:=K) rfl) (pv 1) aC (λ_ _=>rfl)) (aj (aO (aP (K:=K) rfl) (pv 0) (aO (aU (K:=K) rfl) (pv 1) aC (λ_ _=>rfl)) (λ_ _=>rfl)) au))) (iR (bN d_ (hr.mono (by decide)) (by rfl) (aj (aO (aU (K:=K) rfl) (pv 1) aC (λ_ _=>rfl)) (aj (aO (aP (K:=K) rfl) (pv 0) (aO (aU (K:=K) rfl) (pv 1) aC (λ_ _=>rfl)) (λ_ _=>rfl)) au)))))))), ?_⟩
  refine⟨_,acg,t,x,acg,ht,λH1 s1=>⟨_,acg, ?_⟩⟩;rw[show (!decide (x.1=x.2.2.1))=true by simp[hne]];refine cU ?_;have hc1:=s1 _ _ hc;have ht1:=s1 _ _ ht;refine⟨_,acg,_,_,_,_,acg,acg,cD.of ht1,acg,_,acg,c,_,acg,.inl (bI.of hc1),_,_,acg,_,acg, ?_⟩;rw[show decide (ur x.1 (cs.map V.int).length)=true by rw[aac];simp[ur,h0,h1]];refine cU ?_;refine⟨_,acg,_,_,_,_,acg,acg,cD.of ht1,acg,_,acg,c,_,acg,.inl (bI.of hc1),_,_,acg,_,acg, ?_⟩;rw[show decide (ur x.2.2.1 (cs.map V.int).length)=true by rw[aac];simp[ur,o0,o1]];refine cU ?_;have g1:=(cok.gI x.1).1;have g2:=(cok.gI x.2.2.1).1;have e1:gI cs x.1=((gI cs x.1).toNat:Int):=by lia
  have e2:gI cs x.2.2.1=((gI cs x.2.2.1).toNat:Int):=by lia
  refine⟨_,acg,_,_,_,_,acg,acg,cD.of ht1,acg,_,acg,_,acg,_,_,_,_,acg,acg,cD.of ht1,acg,_,_,_,_,acg,acg,bI.of hc1,ju h0 h1,x.2.1,(gI cs x.1).toNat,by rw[←e1];rfl,_,acg, ?_⟩;rw[aaq (show ur x.2.1 (gI cs x.1).toNat from ⟨k0,by lia⟩)];refine eO ?_;refine⟨_,acg,_,_,_,_,acg,acg,cD.of ht1,acg,_,acg,_,acg,_,_,_,_,acg,acg,cD.of ht1,acg,_,_,_,_,acg,acg,bI.of hc1,ju o0 o1,x.2.2.2,(gI cs x.2.2.1).toNat,by rw[←e2];rfl, ?_⟩;rw[aaq (show ur x.2.2.2 (gI cs x.2.2.1).toNat from ⟨m0,by lia⟩)];exact k H1 s1
noncomputable def Ej(K:PySem.W.Frag):Sp:=λvs H Q _=>∃(t c a:Addr) (cs:List Int) (ns:List Nt),vs=[.ref t]/\RecAt H t c a cs ns/\Av cs ns /\ ∀H',Same H H'->Q .non H'
theorem QS(n:Nat)(v:V):(List.range n).filterMap (λ_=>some v)=List.replicate n v:=by
 induction n with
 | zero=>rfl
 | succ n ih=>rw[dJ,ih,List.replicate_succ'];rfl
theorem yd{f:Addr}{fd:FuncData}(F:fQ K "check_notes" "check_notes" lE f fd)(Dt:FnAt P w K mg base 3 "is_between" ["counts","note"] (zT K))(Bt:mV mg):bR P w K mg base ig 4 f fd ["record"] (Ej K):=by
 refine F.ok xq (λvs H Q E h=>?_) (λcdv A outer s H vs Q E hr h=>?_)
 .obtain⟨t,c,a,cs,ns,rfl,_⟩:=h
  rfl
 .obtain⟨t,c,a,cs,ns,rfl,⟨ht,hc,hN⟩,ok,k⟩:=h
  have qG:=hr.units;obtain⟨vs,ha,dv⟩:=id hN;have vl:vs.length=ns.length:=by rw[dv.length,aac]
  have nl:=ok.2.1;refine⟨_,(aJ (cB (gU (dB (aW (gR (K:=K) rfl rfl) (by rfl) Bt.Ko Dl (aj (dI rfl (N:=["note","record"]) (own:=["note"]) (caps:=[0]) (bB.of (by kernel_rfl)) (dH (K:=K) rfl (aO (aU (K:=K) rfl) (pv 0) aC (λ_ _=>rfl))) (λ_ _ _ _=>(bL (i:=0) (show List.Nodup (["note","record"]:List Str) by decide +kernel) rfl (Or.inl rfl))) (λ_ _ _ _=>cO) (λ_ _ _ _=>(bN Dt (hr.mono (by decide)) (by rfl) (aj (aO (aU (K:=K) rfl) (pv 1) aC (λ_ _=>rfl)) (aj (pv 0) au))))) au)))) (aJ Ew) bJ)), ?_⟩;refine⟨_,acg,_,_,_,_,acg,acg,cD.of ht,acg,a,acg,⟨_,bI.of ha⟩,λD hD=>?_⟩;refine pN (K:=K) (λi=>some (.bl true)) hD (bI.of ha) (by lia) (λi v H2 G F hi s2 kG kF=>?_) (λH2 s2 e2=>?_)
  .obtain⟨x,q,ex,rfl,hx⟩:=Ck dv hi
   exact⟨_,acg,_,_,_,_,acg,acg,cD.of (s2 _ _ ht),acg,_,acg,c,q,cs,x,acg,s2 _ _ hc,s2 _ _ hx,ok.2.2 x (aap ex),ok.1,λH3 s3=>kF _ H3 s3 rfl⟩
  .rw[QS] at e2
   refine⟨D,List.replicate vs.length true,acg,bI.of (by rw[e2,List.map_replicate]),_,acg, ?_⟩;rw[show (List.replicate vs.length true).all id=true by simp];refine cU ?_;exact k H2 s2
noncomputable def Dv(cs ds:List Int):Prop:=ds.length=cs.length /\ ∀i:Int,0<=i->i<cs.length->0<=gI ds i/\gI ds i<=gI cs i
noncomputable def Wa(K:PySem.W.Frag):Sp:=λvs H Q _=>∃(d t:Addr) (ds:List Int) (h k:Int),vs=[.ref d,.ref t]/\H d=some (.lst (ds.map V.int))/\H t=some (.tup [.int h,.int k])/\0<=h/\h<ds.length/\Q (.bl (decide (k<gI ds h))) H
theorem Yu{f:Addr}{fd:FuncData}(F:fQ K "has" "has" Oq f fd):bR P w K mg base ig 1 f fd ["done","touch"] (Wa K):=by
 refine F.ok XD (λvs H Q E h=>?_) (λcdv A outer s H vs Q E hr h=>?_)
 .obtain⟨d,t,ds,h,k,rfl,_⟩:=h
  rfl
 .obtain⟨d,t,ds,h,k,rfl,hd,ht,h0,h1,q⟩:=h
  refine⟨_,(aJ (bA (cI qM (aO (aU (K:=K) rfl) (pv 1) aC (λ_ _=>rfl)) (aO (aP (K:=K) rfl) (pv 0) (aO (aU (K:=K) rfl) (pv 1) aC (λ_ _=>rfl)) (λ_ _=>rfl)) (bw _)))), ?_⟩;exact⟨_,acg,_,_,_,_,acg,acg,cD.of ht,acg,_,acg,_,acg,_,_,_,_,acg,acg,cD.of ht,acg,_,_,_,_,acg,acg,bI.of hd,ju h0 h1,_,_,acg,acg,q⟩
theorem Mp{α:Type}{H:Hp}{f:α->PyData}{ys zs:List V}(p:zs.Perm ys):∀{ns:List α},aQ H ys (ns.map f) -> ∃ms:List α,aQ H zs (ms.map f)/\ms.Perm ns:=by
 induction p with
 | nil=>intro ns d;exact⟨ns,d,.refl _⟩
 | cons x p ih=>
   intro ns d;cases ns with
   | nil=>simp only[List.map_nil,aQ] at d
   | cons n ns=>
     simp only[List.map_cons,aQ] at d;obtain⟨ms,d',p'⟩:=ih d.2;exact⟨n::ms,by simp only[List.map_cons,aQ];exact⟨d.1,d'⟩,.cons _ p'⟩
 | swap x y l=>
   intro ns d
   match ns,d with
   | [],d=>simp only[List.map_nil,aQ] at d
   | [_],d=>simp only[List.map_cons,List.map_nil,aQ,and_false] at d
   | a::b::ns,d=>
     simp only[List.map_cons,aQ] at d;exact⟨b::a::ns,by simp only[List.map_cons,aQ];exact⟨d.2.1,d.1,d.2.2⟩,.swap _ _ _⟩
 | trans p q ih1 ih2=>
   intro ns d;obtain⟨ms,d1,p1⟩:=ih2 d;obtain⟨ks,d2,p2⟩:=ih1 d1;exact⟨ks,d2,p2.trans p1⟩
theorem Oi{K:PySem.W.Frag}{H:Hp}{p:Addr}{ns:List Nt}{Q:VK}(N:jz H p ns)(k:∀l ns' H',H l=none->jz H' l ns'->ns'.Perm ns->Same H H'->Q (.ref l) H'):Hl K [.ref p] H Q:=by
 obtain⟨ys,hp,d⟩:=N;refine⟨p,ys,acg,bI.of hp,λy hy=>?_,λl zs hl pz=>?_⟩
 .obtain⟨i,hi,e⟩:=List.getElem_of_mem hy
  obtain⟨x,t,ex,ev,ht⟩:=Ck d (i:=i) (v:=y) (by rw[aad hi,e]);exact⟨t,[x.1,x.2.1,x.2.2.1,x.2.2.2],ev,cD.of ht,by show 1<=4;decide⟩
 .have sm:=aG (o:=HO.lst zs) hl
  obtain⟨ms,d1,p1⟩:=Mp pz d;exact k l ms _ hl ⟨zs,ak,aQ.keep sm.tups _ (cj _ pK _) d1⟩ p1 sm
noncomputable def rpF(t f st pr:Addr):List (Str×V):=[("record",.ref t),("firsts",.ref f),("stage",.ref st),("progress",.ref pr)]
structure M5 where
 (o dx t c a f pr:Addr) (W:nW)
structure j6(CR CW CH:Addr)(i ii:Nat)(τ:Tg)(H:Hp)(R:M5)(S:dR)(cs:List Int)(ns:List Nt)(gs:List Int):Prop where
 w:j_ CW CH i τ H R.W S
 o:H R.o=some (.ins CR R.dx (rpF R.t R.f R.W.o R.pr))
 to:τ R.o=[ii,7]
 pr:H R.pr=some (.lst (gs.map V.int))
 tp:τ R.pr=[ii,8]
 ne:ii≠i
 n0:ii≠0
 XR:RecAt (oF τ H) R.t R.c R.a cs ns
 Zg:j9 (oF τ H) R.f ns
 ok:Av cs ns
 lc:cs.length=S.hs.length
 dn:Dv cs gs
 gd:j8 S
 ml:S.m<=100
section
variable{CR CW CH:Addr}{i ii:Nat}{τ τ':Tg}{H H':Hp}{R:M5}{S:dR}{cs gs:List Int}{ns:List Nt}
theorem j6.rcd(r:j6 CR CW CH i ii τ H R S cs ns gs):RecAt H R.t R.c R.a cs ns:=r.XR.same (qd _ _)
theorem j6.fst(r:j6 CR CW CH i ii τ H R S cs ns gs):j9 H R.f ns:=r.Zg.same (qd _ _)
theorem j6.mv(r:j6 CR CW CH i ii τ H R S cs ns gs)(q:Mv i τ H τ' H')(q':Mv ii τ H τ' H')(u:qw τ' H'):j6 CR CW CH i ii τ' H' R S cs ns gs:=by
 have e1:=q'.keep _ _ r.o (.inr (by rw[r.to];rfl));have e2:=q'.keep _ _ r.pr (.inr (by rw[r.tp];rfl));exact⟨r.w.mv q u,e1.1,e1.2.trans r.to,e2.1,e2.2.trans r.tp,r.ne,r.n0,r.XR.same (m7 q),r.Zg.same (m7 q),r.ok,r.lc,r.dn,r.gd,r.ml⟩
theorem j6.same(r:j6 CR CW CH i ii τ H R S cs ns gs)(k:Same H H'):j6 CR CW CH i ii τ H' R S cs ns gs:=r.mv (Mv.of_same k) (Mv.of_same k) (r.w.un.same k)
end
noncomputable def gM(S:dR)(cs gs:List Int)(k:Nat):Bool:=decide (gI gs k=gI cs k) || !(lW S.hs k)
noncomputable def jx(ns:List Nt)(gs:List Int)(k:Nat):List Nt:=((cQ ns k (gI gs k)).filter λq=> !decide (q.2<gI gs q.1)).map λq=>(q.1,q.2,(k:Int),gI gs k)
noncomputable def Bp(CR CW CH:Addr)(K:PySem.W.Frag):Sp:=λvs H Q _=>∃(i ii:Nat) (τ:Tg) (R:M5) (S:dR) (cs gs:List Int) (ns:List Nt),vs=[.ref R.o]/\j6 CR CW CH i ii τ H R S cs ns gs/\Q (.bl (decide (gs=cs))) H
theorem Qa{aH ao aq:Addr}{f:Addr}{fd:FuncData}(F:fQ K "done" "Replay.done" lN f fd)(aN:eV K aH)(Bt:mV mg):bR P w K mg base ig 1 f fd ["self"] (Bp aH ao aq K):=by
 refine F.ok xJ (λvs H Q E h=>?_) (λcdv A outer s H vs Q E hr h=>?_)
 .obtain⟨i,ii,τ,R,S,cs,gs,ns,rfl,_⟩:=h
  rfl
 .obtain⟨i,ii,τ,R,S,cs,gs,ns,rfl,r,k⟩:=h
  have qG:=hr.units;refine⟨_,(aJ (bA (cI (sX (K:=K) rfl qG) (aX (K:=K) rfl (pv 0) rfl) (aO (aU (K:=K) rfl) (aX (K:=K) rfl (pv 0) rfl) aC (λ_ _=>rfl)) (bw _)))), ?_⟩;have rc:=r.rcd;refine⟨_,acg,R.o,aH,R.dx,_,_,acg,r.o,aN.cls,aN.fj,acg,_,acg,R.o,aH,R.dx,_,_,acg,r.o,aN.cls,aN.mH,acg,_,_,_,_,acg,acg,cD.of rc.1,acg,_,_,cV r.pr,cV rc.2.1,shaped_ints _,shaped_ints _, ?_⟩;rw[ab' aax,mL PyData.int tV];exact k
noncomputable def wV(CR CW CH:Addr)(K:PySem.W.Frag):Sp:=λvs H Q _=>∃(i ii i':Nat) (τ:Tg) (R:M5) (S:dR) (cs gs:List Int) (ns:List Nt),vs=[.ref R.o]/\j6 CR CW CH i ii τ H R S cs ns gs/\i'≠0 /\ ∀(τ':Tg)(W':nW)(H':Hp),j_ CW CH i' τ' H' W' S->(∀x u,H x=some u->τ' x=τ x)->Same H H'->Q (.ref W'.o) H'
theorem Lb{aH ao aq:Addr}{f:Addr}{fd:FuncData}(F:fQ K "works" "Replay.works" jO f fd)(aN:eV K aH)(aK:cH K ao)(nY:MethAt P w K mg base 9 ao "twin" ["self"] (Bh ao aq K))(Bt:mV mg):bR P w K mg base ig 10 f fd ["self"] (wV aH ao aq K):=by
 refine F.ok vP (λvs H Q E h=>?_) (λcdv A outer s H vs Q E hr h=>?_)
 .obtain⟨i,ii,i',τ,R,S,cs,gs,ns,rfl,_⟩:=h
  rfl
 .obtain⟨i,ii,i',τ,R,S,cs,gs,ns,rfl,r,i0,k⟩:=h
  refine⟨_,(aJ (bA (cC nY aK.cls (hr.mono (by decide)) (aX (K:=K) rfl (pv 0) rfl)))), ?_⟩;exact⟨_,acg,R.o,aH,R.dx,_,_,acg,r.o,aN.cls,aN.wj,acg,R.W.o,R.W.dx,_,acg,r.w.o,acg,i,i',τ,R.W,S,acg,r.w,r.gd,r.ml,i0,k⟩
noncomputable def rW(CR CW CH:Addr)(K:PySem.W.Frag):Sp:=λvs H Q _=>∃(i ii:Nat) (τ:Tg) (R:M5) (S:dR) (cs gs:List Int) (ns:List Nt) (k:Nat),vs=[.ref R.o,.int k]/\j6 CR CW CH i ii τ H R S cs ns gs/\k<cs.length/\Q (.bl (gM S cs gs k)) H
theorem Ld{aH ao aq bD:Addr}{f:Addr}{fd:FuncData}(F:fQ K "is_over" "Replay.is_over" iK f fd)(aN:eV K aH)(aK:cH K ao)(jh:MethAt P w K mg base 4 ao "how" ["self","hand"] (λvs H Q _=>zR ao aq bD K vs H Q λ_ _ _=>False))(Bt:mV mg):bR P w K mg base ig 5 f fd ["self","hand"] (rW aH ao aq K):=by
 refine F.ok sG (λvs H Q E h=>?_) (λcdv A outer s H vs Q E hr h=>?_)
 .obtain⟨i,ii,τ,R,S,cs,gs,ns,n,rfl,_⟩:=h
  rfl
 .obtain⟨i,ii,τ,R,S,cs,gs,ns,n,rfl,r,nl,k⟩:=h
  refine⟨_,(aJ (bA (Pk (cI dU (aO (aP (K:=K) rfl) (aX (K:=K) rfl (pv 0) rfl) (pv 1) (λ_ _=>rfl)) (aO (aP (K:=K) rfl) (aO (aU (K:=K) rfl) (aX (K:=K) rfl (pv 0) rfl) aC (λ_ _=>rfl)) (pv 1) (λ_ _=>rfl)) (bw _)) (iR (cI kW (b_ jh aK.cls (hr.mono (by decide)) (aX (K:=K) rfl (pv 0) rfl) (aj (pv 1) au)) bO (bw _)))))), ?_⟩;have rc:=r.rcd;have lg:=r.dn.1;refine⟨_,acg,R.o,aH,R.dx,_,_,acg,r.o,aN.cls,aN.fj,acg,_,acg,_,_,_,_,acg,acg,bI.of r.pr,ju (by lia) (by lia),_,acg,R.o,aH,R.dx,_,_,acg,r.o,aN.cls,aN.mH,acg,_,_,_,_,acg,acg,cD.of rc.1,acg,_,acg,_,_,_,_,acg,acg,bI.of rc.2.1,ju (by lia) (by lia),acg, ?_⟩;have nh:n<S.hs.length:=by rw[←r.lc];exact nl
  have es:S.hs[n]? = some S.hs[n]:=by simp[nh]
  by_cases e:gI gs n=gI cs n
  .rw[aaq (by rw[e])]
   refine⟨_,acg,eO ?_⟩;have:gM S cs gs n=true:=by unfold gM;rw[aaq e];rfl
   rw[←this];exact k
  .rw[aar (λz=>e (V.int.inj z))]
   refine⟨_,acg,cU ?_⟩;have inn:ur (n:Int) S.hs.length:=⟨by lia,by lia⟩;refine⟨_,acg,R.o,aH,R.dx,_,_,acg,r.o,aN.cls,aN.wj,acg,R.W.o,R.W.dx,_,acg,r.w.o,acg,_,acg,i,τ,R.W,S,_,acg,r.w,λk3 t3 e3 e3'=>?_,λz=>ace inn z⟩
   obtain rfl:t3=S.hs[n]:=by
    have:k3=n:=by lia
    subst this;rw[es] at e3';exact(aaC e3').symm
   refine⟨acg, ?_⟩
   have:gM S cs gs n = !decide (V.str S.hs[n].st=V.str (Str.ofString "waits")):=by
    unfold gM lW;rw[aar e,es]
    by_cases q:S.hs[n].st=Str.ofString "waits"
    .simp only[q];rfl
    .have:¬V.str S.hs[n].st=V.str (Str.ofString "waits"):=λz=>q (V.str.inj z)
     show (false || !decide (S.hs[n].st=Str.ofString "waits"))=_;rw[aar q,aar this];rfl
   rw[this] at k;exact k
noncomputable def Bu(CR CW CH:Addr)(K:PySem.W.Frag):Sp:=λvs H Q _=>∃(i ii:Nat) (τ:Tg) (R:M5) (S:dR) (cs gs:List Int) (ns:List Nt) (k:Nat),vs=[.ref R.o,.int k]/\j6 CR CW CH i ii τ H R S cs ns gs/\k<cs.length /\ ∀l H',H l=none->jz H' l (jx ns gs k)->Same H H'->Q (.ref l) H'
theorem Hw{aH ao aq:Addr}{f:Addr}{fd:FuncData}(F:fQ K "holding" "Replay.holding" iM f fd)(aN:eV K aH)(ab7:FnAt P w K mg base 1 "has" ["done","touch"] (Wa K))(Bt:mV mg):bR P w K mg base ig 2 f fd ["self","hand"] (Bu aH ao aq K):=by
 refine F.ok kj (λvs H Q E h=>?_) (λcdv A outer s H vs Q E hr h=>?_)
 .obtain⟨i,ii,τ,R,S,cs,gs,ns,n,rfl,_⟩:=h
  rfl
 .obtain⟨i,ii,τ,R,S,cs,gs,ns,n,rfl,r,nl,k⟩:=h
  have hu:=Wz hr
  refine⟨_,(aA (bH (i:=2) kj.nd rfl (Or.inr rfl) (cX (aj (pv 1) (aj (aO (aP (K:=K) rfl) (aX (K:=K) rfl (pv 0) rfl) (pv 1) (λ_ _=>rfl)) au))))
   (aJ (bA (dI rfl (N:=["first","touch","self"]) (own:=["first"]) (caps:=[2,0]) (bB.of (by kernel_rfl)) (dH (K:=K) rfl (Px hu (aX (K:=K) rfl (pv 0) rfl) (pv 2) (cY au) ⟨acg,acg,acg,acg⟩)) (λ_ _ _ _=>(bL (i:=0) (show List.Nodup (["first","touch","self"]:List Str) by decide +kernel) rfl (Or.inl rfl))) (λ_ _ _ _=>(v9 (gU (dB (bN ab7 (hr.mono (by decide)) (by rfl) (aj (aX (K:=K) rfl (pv 2) rfl) (aj (pv 0) au))))))) (λ_ _ _ _=>(bY Pz (pv 0) (pv 1))))))), ?_⟩
  have lg:=r.dn.1;refine⟨_,acg,_,acg,R.o,aH,R.dx,_,_,acg,r.o,aN.cls,aN.fj,acg,_,acg,_,_,_,_,acg,acg,bI.of r.pr,ju (by lia) (by lia),(by show 2<=sizeLine;decide),λt ht=>?_⟩;have s1:=aG (o:=HO.tup [V.int n,V.int (gI gs n)]) ht;have r1:=r.same s1;obtain⟨kvs,hF,hval⟩:=r1.fst;refine⟨_,acg,R.o,aH,R.dx,_,_,acg,r1.o,aN.cls,aN.Fi,acg,R.f,acg,.inr ⟨_,.inl hF⟩,_,acg,(by show 0<=sizeLine;decide),λel hel=>?_⟩;have s2:=aG (o:=HO.lst []) hel;have s12:=s1.trans s2;refine⟨_,RQ.t (k:=[Sum.inl (n:Int),Sum.inl (gI gs n)]) (s2 _ _ hF) (s2 _ _ ak), ?_⟩
  obtain⟨l,el',PL⟩:∃l,(fH kvs [Sum.inl (n:Int),Sum.inl (gI gs n)]).getD (V.ref el) = .ref l/\pU (upd (upd H t (.tup [V.int n,V.int (gI gs n)])) el (.lst [])) l (cQ ns n (gI gs n)):=by
   rcases hval n (gI gs n) with z|⟨l,e1,e2⟩
   .exact⟨el,by rw[z.1];rfl,by rw[z.2];exact⟨[],ak,by simp[aQ]⟩⟩
   .exact⟨l,by rw[e1];rfl,e2.same s2⟩
  rw[el'];obtain⟨vs,hl,dv⟩:=id PL;have vl:vs.length=(cQ ns n (gI gs n)).length:=by rw[dv.length,aac]
  have fl:(cQ ns n (gI gs n)).length<=ns.length:=by unfold cQ;rw[aac];exact List.length_filter_le ..
  have nsl:=r.ok.2.1;have ht2:(upd (upd H t (.tup [V.int n,V.int (gI gs n)])) el (.lst [])) t=some (.tup [V.int n,V.int (gI gs n)]):=s2 _ _ ak;have r2:=r1.same s2;generalize (upd (upd H t (.tup [V.int n,V.int (gI gs n)])) el (.lst []))=H2 at s12 hl dv PL ht2 r2 s2 ⊢;refine⟨l,acg,⟨_,bI.of hl⟩,λD hD=>?_⟩;refine MJ (K:=K) (λi=>((cQ ns n (gI gs n))[i]?).bind λq=>if !decide (q.2<gI gs q.1) then some (nD (q.1,q.2,(n:Int),gI gs n)) else none) (λi dd e=>?_) hD (bI.of hl) (by lia) (λi v H3 G F hi s3 kG kF=>?_) (λH3 ws s3 e3 d3=>?_)
  .cases ex:(cQ ns n (gI gs n))[i]? with
   | none=>rw[ex] at e;cases e
   | some x=>
     rw[ex,Option.bind_some] at e;split at e
     .cases e;rfl
     .cases e
  .obtain⟨q,u,eq,rfl,hq⟩:=Uc dv hi
   obtain⟨x,xm,rfl⟩:∃x∈ns,q=ft x:=by
    obtain⟨x,hx,e⟩:=abn.mp (aap eq);exact⟨x,(abS.mp hx).1,e.symm⟩
   obtain⟨⟨h0,h1⟩,⟨k0,k1⟩,⟨o0,o1⟩,⟨m0,m1⟩,hne⟩:=r.ok.2.2 x xm;have r3:=r2.same s3;have hq3:=s3 _ _ hq;simp only[eq,Option.bind_some] at kG kF;refine⟨_,acg,R.o,aH,R.dx,_,_,acg,r3.o,aN.cls,aN.fj,acg,_,acg,R.pr,u,gs,_,_,acg,r3.pr,hq3,h0,by rw[lg];exact h1,_,acg, ?_⟩
   by_cases w:(ft x).2<gI gs (ft x).1
   .rw[aaq w]
    refine cU ?_;exact kG _ (Same.refl _) (by simp[w])
   .rw[aar w]
    refine eO ?_;refine⟨_,acg,_,acg,u,t,_,_,acg,acg,hq3,s3 _ _ ht2,by show 2+2<=sizeLine;decide,λp H4 hp s4=>?_⟩;exact kF _ (nD ((ft x).1,(ft x).2,(n:Int),gI gs n)) _ s4 (by simp[w]) (Ra hp)
  .rw[vl,CZ (λq:Ks=> !decide (q.2<gI gs q.1)) (λq:Ks=>nD (q.1,q.2,(n:Int),gI gs n))] at d3
   refine k D H3 (s12.free hD) ⟨ws,e3, ?_⟩ (s12.trans s3);unfold jx;rw[abE];exact d3
noncomputable def yE(S:dR)(cs:List Int)(ns:List Nt)(gs:List Int):List Nat:=(List.range cs.length).filter λk=> !gM S cs gs k&&(jx ns gs k).isEmpty
noncomputable def Bo(CR CW CH:Addr)(K:PySem.W.Frag):Sp:=λvs H Q _=>∃(i ii:Nat) (τ:Tg) (R:M5) (S:dR) (cs gs:List Int) (ns:List Nt),vs=[.ref R.o]/\j6 CR CW CH i ii τ H R S cs ns gs /\ ∀l H',H l=none->H' l=some (.lst ((yE S cs ns gs).map λk:Nat=>V.int k))->Same H H'->Q (.ref l) H'
theorem P0{aH ao aq:Addr}{f:Addr}{fd:FuncData}(F:fQ K "free" "Replay.free" lM f fd)(aN:eV K aH)(iW:MethAt P w K mg base 5 aH "is_over" ["self","hand"] (rW aH ao aq K))(iY:MethAt P w K mg base 2 aH "holding" ["self","hand"] (Bu aH ao aq K))(Bt:mV mg):bR P w K mg base ig 6 f fd ["self"] (Bo aH ao aq K):=by
 refine F.ok xH (λvs H Q E h=>?_) (λcdv A outer s H vs Q E hr h=>?_)
 .obtain⟨i,ii,τ,R,S,cs,gs,ns,rfl,_⟩:=h
  rfl
 .obtain⟨i,ii,τ,R,S,cs,gs,ns,rfl,r,k⟩:=h
  refine⟨_,(aJ (bA (dI rfl (N:=["hand","self"]) (own:=["hand"]) (caps:=[0]) (bB.of (by kernel_rfl)) (cR (by rfl) Bt.dN (aj (aW (aY (K:=K) rfl) (by rfl) Bt.dW cM (aj (aX (K:=K) rfl (pv 0) rfl) au)) au)) (λ_ _ _ _=>(bL (i:=0) (show List.Nodup (["hand","self"]:List Str) by decide +kernel) rfl (Or.inl rfl))) (λ_ _ _ _=>(v9 (PW.pt (xU (gU (dB (b_ iW aN.cls (hr.mono (by decide)) (pv 1) (aj (pv 0) au)))) (sW (gU (zY (K:=K) rfl (b_ iY aN.cls (hr.mono (by decide)) (pv 1) (aj (pv 0) au))))))))) (λ_ _ _ _=>(pv 0))))), ?_⟩;have lg:=r.dn.1;have c8:=r.ok.1.1;refine⟨_,acg,R.o,aH,R.dx,_,_,acg,r.o,aN.cls,aN.fj,acg,R.pr,_,acg,.inl (bI.of r.pr),_,acg,by rw[aac];lia,by rw[aac];lia,λD hD=>?_⟩;rw[aac,aa5,lg];refine qm (λj=>if !gM S cs gs j&&(jx ns gs j).isEmpty then some (.int (j:Nat)) else none) hD (by lia) (λj H1 G F hj s1 kG kF=>?_) (λH1 s1 e1=>?_)
  .have r1:=r.same s1
   refine⟨_,acg,R.o,R.dx,_,acg,r1.o,acg,_,acg,i,ii,τ,R,S,cs,gs,ns,j,by rw[Int.zero_add];rfl,r1,hj,_,acg, ?_⟩;cases eo:gM S cs gs j with
   | true=>
     refine cU ?_;exact kG H1 (Same.refl _) (by rw[eo];rfl)
   | false=>
     refine eO ?_;refine⟨_,acg,R.o,R.dx,_,acg,r1.o,acg,_,acg,i,ii,τ,R,S,cs,gs,ns,j,by rw[Int.zero_add];rfl,r1,hj,λl H2 fl N2 s2=>?_⟩;obtain⟨ws,hl,dw⟩:=N2;have wl:ws.length=(jx ns gs j).length:=by rw[dw.length,aac]
     have eb:ws.isEmpty=(jx ns gs j).isEmpty:=by
      cases ws<;>cases h:jx ns gs j<;>rw[h] at wl<;>first |rfl|(simp at wl)
     refine⟨!ws.isEmpty,.inl ⟨ws,bI.of hl,acg⟩, ?_⟩;rw[eb];cases eh:(jx ns gs j).isEmpty with
     | true=>
       refine eO ?_;exact⟨_,acg,kF _ H2 s2 (by rw[eo,eh,Int.zero_add];rfl)⟩
     | false=>
       refine cU ?_;exact kG H2 s2 (by rw[eo,eh];rfl)
  .rw[QM (λj=> !gM S cs gs j&&(jx ns gs j).isEmpty) (λj:Nat=>V.int j)] at e1
   exact k D H1 hD e1 s1
noncomputable def TV(cs gs:List Int)(k:Nat):List Ks:=(List.range (gI cs k - gI gs k).toNat).map λj:Nat=>((k:Int),gI gs k+(j:Int))
noncomputable def pG(cs gs:List Int)(n:Nat):List Ks:=(List.range n).flatMap (TV cs gs)
noncomputable def G3(CR CW CH:Addr)(K:PySem.W.Frag):Sp:=λvs H Q _=>∃(i ii:Nat) (τ:Tg) (R:M5) (S:dR) (cs gs:List Int) (ns:List Nt),vs=[.ref R.o]/\j6 CR CW CH i ii τ H R S cs ns gs /\ ∀l H',H l=none->pU H' l (pG cs gs cs.length)->Same H H'->Q (.ref l) H'
theorem rC(cs gs:List Int)(n:Nat):pG cs gs (n+1)=pG cs gs n++TV cs gs n:=by
 unfold pG;rw[List.range_succ,List.flatMap_append];simp
theorem UJ{aH ao aq:Addr}{f:Addr}{fd:FuncData}(F:fQ K "left" "Replay.left" lJ f fd)(aN:eV K aH)(Bt:mV mg):bR P w K mg base ig 1 f fd ["self"] (G3 aH ao aq K):=by
 refine F.ok iw (λvs H Q E h=>?_) (λcdv A outer s H vs Q E hr h=>?_)
 .obtain⟨i,ii,τ,R,S,cs,gs,ns,rfl,_⟩:=h
  rfl
 .obtain⟨i,ii,τ,R,S,cs,gs,ns,rfl,r,k⟩:=h
  refine⟨_,(aA (bH (i:=1) iw.nd rfl (Or.inl rfl) (cY au))
   (aA (jr PassesOwn.never rfl (Pj (K:=K) rfl (by rfl) Bt.Gp (aj (aO (aU (K:=K) rfl) (aX (K:=K) rfl (pv 0) rfl) aC (λ_ _=>rfl)) au)) (Ce (K:=K) (n:=2) rfl rfl (mD (bL (i:=2) iw.nd rfl (Or.inr rfl)) (mD (bL (i:=3) iw.nd rfl (Or.inl rfl)) Cd)))
   (aJ (dh (q_ (K:=K) rfl PySem.F.plainAttrs_list PySem.F.slot_list_extend PySem.F.type_list_extend Ln (pv 1) (aj (dI rfl (N:=["k","hand"]) (own:=["k"]) (caps:=[2]) (bB.of (by kernel_rfl)) (zZ (by rfl) Bt.dN (aj (aO (aP (K:=K) rfl) (aX (K:=K) rfl (pv 0) rfl) (pv 2) (λ_ _=>rfl)) (aj (pv 3) au))) (λ_ _ _ _=>(bL (i:=0) (show List.Nodup (["k","hand"]:List Str) by decide +kernel) rfl (Or.inl rfl))) (λ_ _ _ _=>cO) (λ_ _ _ _=>(cX (aj (pv 1) (aj (pv 0) au))))) au)))))
   (aJ (bA (pv 1))))), ?_⟩
  have lg:=r.dn.1;have c8:=r.ok.1.1;refine⟨(by show 0<=sizeLine;decide),λl hl=>?_⟩;have sl:=aG (o:=HO.lst []) hl;have r1:=r.same sl;have rc:=r1.rcd;refine⟨_,acg,R.o,aH,R.dx,_,_,acg,r1.o,aN.cls,aN.mH,acg,_,_,_,_,acg,acg,cD.of rc.1,acg,R.c,_,acg,bI.of rc.2.1, ?_⟩;refine QK (K:=K) (xs:=cs.map V.int) (λj σ Hc=>∃(x2 x3:Option V) (ps:List Ks),σ=[some (.ref R.o),some (.ref l),x2,x3]/\Same H Hc/\pU Hc l (pG cs gs j)) ?_ ?_ ?_ ?_
  .exact⟨none,none,[],acg,sl,[],ak,by simp[pG,aQ]⟩
  .rintro j σ Hc _ ⟨x2,x3,ps,rfl,sc,_⟩
   exact bI.of ((r.same sc).rcd.2.1)
  .rintro j x σ Hc p hj ⟨x2,x3,ps,rfl,sc,PL⟩ hp
   rw[aaf] at hj
   obtain⟨c,ec,rfl⟩:∃c,cs[j]? = some c/\x = .int c:=by
    cases e:cs[j]? with
    | none=>rw[e] at hj;cases hj
    | some c=>rw[e] at hj;exact⟨c,acg,(aaC hj).symm⟩
   have jl:=(aae.mp ec).1;have gc:gI cs j=c:=yC ec;subst gc;have gb:=r.dn.2 j (by lia) (by lia);have cb:=r.ok.1.gI j;have sp:=aG (o:=HO.tup [V.int (j:Int),V.int (gI cs j)]) hp;have r2:=r.same (sc.trans sp);obtain⟨ws,hlw,dw⟩:=PL.same sp;refine⟨p,_,acg,cD.of ak,acg,_,_,acg,_,_,acg,acg, ?_⟩;dsimp only[cN];refine⟨_,acg,.inl ⟨acg,_,bI.of hlw⟩,_,acg,R.o,aH,R.dx,_,_,acg,r2.o,aN.cls,aN.fj,acg,_,acg,_,_,_,_,acg,acg,bI.of r2.pr,ju (by lia) (by lia),_,acg,_,_,acg,⟨by lia,by lia,by lia,by lia⟩,λD hD=>?_⟩
   have ll:ws.length<=8*300:=by
    rw[dw.length,aac]
    have:∀n,n<=cs.length->(pG cs gs n).length<=n*300:=λn=>by
     induction n with
     | zero=>intro _;simp[pG]
     | succ n ih=>
       intro h;have:=ih (by lia);have cb':=r.ok.1.gI n;have gb':=r.dn.2 n (by lia) (by lia);rw[rC,aaD];unfold TV;rw[aac,List.length_range];lia
    have:=this j (by lia);lia
   have sD:=aG (o:=HO.lst []) hD;refine gj (lo:=gI gs j) (n:=(gI cs j - gI gs j).toNat) (λm σ Hd=>(∃v,σ=[v,some (.int j)])/\Same (upd Hc p (.tup [V.int j,V.int (gI cs j)])) Hd/\pU Hd D ((List.range m).map λx:Nat=>((j:Int),gI gs j+(x:Int)))) ?_ ?_ ?_
   .exact⟨⟨none,acg⟩,sD,[],ak,by simp[aQ]⟩
   .rintro m σ Hd hm ⟨⟨v,rfl⟩,sd,us,hus,du⟩
    dsimp only[cN,qF];rw[acd rfl];refine⟨_,acg,_,acg,(by show 2<=sizeLine;decide),λq hq=>?_⟩;have sq:=aG (o:=HO.tup [V.int j,V.int (gI gs j+m)]) hq;have ul:us.length=m:=by rw[du.length];simp
    have kp:Kp D (upd Hd q (.tup [V.int j,V.int (gI gs j+m)])) (upd (upd Hd q (.tup [V.int j,V.int (gI gs j+m)])) D (.lst (us++[V.ref q]))):=Kp.set;have tp:=kp.tups (sq _ _ hus);refine⟨us,sq _ _ hus,by rw[ul,sizeLine_eq];lia,⟨_,acg⟩,(sd.trans sq).newly hD,us++[V.ref q],ak, ?_⟩;rw[List.range_succ,aa3,aa3];exact fM (aQ.keep (λa xs h=>tp _ _ (sq.tups _ _ h)) _ (cj _ pJ _) du) (Ke (x:=((j:Int),gI gs j+(m:Int))) (tp _ _ ak))
   .rintro σ Hd ⟨⟨v,rfl⟩,sd,us,hus,du⟩
    have ul:us.length<=300:=by rw[du.length];simp;lia
    refine⟨l,D,ws,us,acg,acg,sd _ _ hlw,hus,by rw[sizeLine_eq];lia, ?_⟩;have WL:=sd _ _ hlw;have kp:Kp l Hd (upd Hd l (.lst (ws++us))):=Kp.set;have tp:=kp.tups WL;refine⟨_,_,[],acg,λx o e=>kp _ _ (sd _ _ (sp _ _ (sc _ _ e))) (aB e hl),ws++us,ak, ?_⟩;rw[rC,aa3];exact aQ.append (aQ.keep (λa xs h=>tp _ _ (sd.tups _ _ h)) _ (cj _ pJ _) dw) (aQ.keep tp _ (cj _ pJ _) du)
  .rintro σ Hc ⟨x2,x3,ps,rfl,sc,PL⟩
   rw[aac] at PL;exact⟨_,acg,k l Hc hl PL sc⟩
noncomputable def GZ(CR CW CH:Addr)(K:PySem.W.Frag):Sp:=λvs H Q _=>∃(i ii:Nat) (τ:Tg) (R:M5) (S:dR) (cs gs:List Int) (ns:List Nt),vs=[.ref R.o]/\j6 CR CW CH i ii τ H R S cs ns gs /\ ∀H',Same H H'->Q (.int (cs.sum - gs.sum)) H'
theorem Lq{cs gs:List Int}(d:Dv cs gs):((pG cs gs cs.length).length:Int)=cs.sum - gs.sum:=by
 have take:∀(l:List Int)(n:Nat),n<l.length->(l.take (n+1)).sum=(l.take n).sum+gI l n:=λl n h=>by
  rw[yC (aad h),abB,aad h,List.sum_append];show _+([l[n]]:List Int).sum=_;rw[List.sum_cons,List.sum_nil,Int.add_zero]
 have:∀n,n<=cs.length->((pG cs gs n).length:Int)=(cs.take n).sum - (gs.take n).sum:=λn=>by
  induction n with
  | zero=>intro _;simp[pG]
  | succ n ih=>
    intro h;have e:=ih (by lia);have gb:=d.2 n (by lia) (by lia);rw[rC,aaD,take cs n (by lia),take gs n (by rw[d.1];lia)];unfold TV;rw[aac,List.length_range];lia
 have e:=this cs.length (aaj _);rw[abA] at e;rw[e,←d.1,abA]
theorem Uw{aH ao aq:Addr}{f:Addr}{fd:FuncData}(F:fQ K "__len__" "Replay.__len__" iQ f fd)(aN:eV K aH)(zK:MethAt P w K mg base 1 aH "left" ["self"] (G3 aH ao aq K))(Bt:mV mg):bR P w K mg base ig 2 f fd ["self"] (GZ aH ao aq K):=by
 refine F.ok sI (λvs H Q E h=>?_) (λcdv A outer s H vs Q E hr h=>?_)
 .obtain⟨i,ii,τ,R,S,cs,gs,ns,rfl,_⟩:=h
  rfl
 .obtain⟨i,ii,τ,R,S,cs,gs,ns,rfl,r,k⟩:=h
  refine⟨_,(aJ (bA (aW (aY (K:=K) rfl) (by rfl) Bt.dW cM (aj (cC zK aN.cls (hr.mono (by decide)) (pv 0)) au)))), ?_⟩;refine⟨_,acg,R.o,R.dx,_,acg,r.o,acg,i,ii,τ,R,S,cs,gs,ns,acg,r,λl H1 fl PL s1=>?_⟩;obtain⟨ws,hl,dw⟩:=PL;refine⟨l,_,acg,.inl (bI.of hl), ?_⟩;rw[dw.length,aac,Lq r.dn];exact k H1 s1
noncomputable def St2(i ii:Nat)(τ:Tg)(H H':Hp):Prop:=∃H1,mQ i τ H H1/\mQ ii τ H1 H'
noncomputable def jc(gs:List Int)(k:Nat):List Int:=gs.set k (gI gs k+1)
noncomputable def Bl(CR CW CH CN CO:Addr)(K:PySem.W.Frag):Sp:=λvs H Q E=>∃(i ii:Nat) (τ:Tg) (R:M5) (S:dR) (cs gs:List Int) (ns:List Nt) (h:Int),vs=[.ref R.o,.int h]/\j6 CR CW CH i ii τ H R S cs ns gs/\S.ts.length<=9000 /\
 (∀k:Nat,h=k->gM S cs gs k=false->jx ns gs k=[]) /\
 (∀(k:Nat)(s:bG)(r:Rw)(t:Addr)(H':Hp),h=k->k<cs.length->gM S cs gs k=false->S.hs[k]? = some s->s.st = "waits" -> s.rws[s.pos]? = some r->touch r=true->H t=none->H' t=some (.tup (wM S.ns s.bs r))->j6 CR CW CH i ii τ H' R (cJ S k) cs ns (jc gs k)->St2 i ii τ H H'->Q (.ref t) H') /\
 (¬ur h cs.length->E (.ref CN) none H)/\(∀k:Nat,h=k->k<cs.length->gM S cs gs k=true->E (.ref CO) none H)
theorem KN(S:dR)(k:Nat):(cJ S k).hs.length=S.hs.length:=by
 unfold cJ;split
 .rfl
 .split
  .rfl
  .simp
theorem SM(S:dR)(k:Nat):(cJ S k).m=S.m:=by
 unfold cJ;split
 .rfl
 .split<;>rfl
theorem PN{aH ao aq:Addr}{f:Addr}{fd:FuncData}(F:fQ K "turn" "Replay.turn" lH f fd){bD g_:Addr}(fJ:Xr K mg bD "NoHand")(pR:Xr K mg g_ "Over")(aN:eV K aH)(aK:cH K ao)(d_:FnAt P w K mg base 2 "is_below" ["value","count"] (rY K))(iW:MethAt P w K mg base 5 aH "is_over" ["self","hand"] (rW aH ao aq K))(iY:MethAt P w K mg base 2 aH "holding" ["self","hand"] (Bu aH ao aq K))(nZ:jD P w K mg base 7 ao "turn" ["self","hand"] (Bj ao aq bD g_ K))(Bt:mV mg):bR P w K mg base (qJ P w) 8 f fd ["self","hand"] (Bl aH ao aq bD g_ K):=by
 refine F.RZ jK (λvs H Q E h=>?_) (λcdv A outer s H vs Q E hr h hR=>?_)
 .obtain⟨i,ii,τ,R,S,cs,gs,ns,h,rfl,_⟩:=h
  rfl
 .obtain⟨i,ii,τ,R,S,cs,gs,ns,h,rfl,r,tl,nh,k1,k2,k3⟩:=h
  refine⟨_,(aA (cB (gU (dB (bN d_ (hr.mono (by decide)) (by rfl) (aj (pv 1) (aj (aW (aY (K:=K) rfl) (by rfl) Bt.dW cM (aj (aX (K:=K) rfl (pv 0) rfl) au)) au))))) (aJ (jW PySem.F.excBase_ValueError fJ.ex fJ.bd (by rfl) rfl rfl hR (aj bO au))) bJ)
   (aA (cB (dB (b_ iW aN.cls (hr.mono (by decide)) (pv 0) (aj (pv 1) au))) (aJ (jW PySem.F.excBase_ValueError pR.ex pR.bd (by rfl) rfl rfl hR (aj bO au))) bJ)
   (aA (bH (i:=2) jK.nd rfl (Or.inl rfl) (b_ iY aN.cls (hr.mono (by decide)) (pv 0) (aj (pv 1) au)))
   (aA (cB (zY (K:=K) rfl (pv 2)) (aJ Ew) bJ)
   (aA (bH (i:=3) jK.nd rfl (Or.inl rfl) (pA nZ aK.cls rfl hR (hr.mono (by decide)) (aX (K:=K) rfl (pv 0) rfl) (aj (pv 1) au)))
   (aA (Ub (aX (K:=K) rfl (pv 0) rfl) (pv 1) (Hs (K:=K) rfl) aC Cy set_list)
   (aJ (bA (pv 3))))))))), ?_⟩
  have lg:=r.dn.1;refine⟨_,acg,_,acg,R.o,aH,R.dx,_,_,acg,r.o,aN.cls,aN.fj,acg,R.pr,_,acg,.inl (bI.of r.pr),h,_,acg,_,acg, ?_⟩;rw[aac,lg]
  by_cases hh:ur h cs.length
  .rw[aaq hh]
   refine cU ?_;obtain⟨n,rfl⟩:=ab4 hh.1;have nl:n<cs.length:=by have:=hh.2;lia
   refine⟨_,acg,R.o,R.dx,_,acg,r.o,acg,_,acg,i,ii,τ,R,S,cs,gs,ns,n,acg,r,nl,_,acg, ?_⟩;cases eo:gM S cs gs n with
   | true=>
     refine eO ?_;exact⟨(by show 1<=sizeLine;decide),k3 n rfl nl eo⟩
   | false=>
     refine cU ?_;refine⟨_,acg,R.o,R.dx,_,acg,r.o,acg,_,acg,i,ii,τ,R,S,cs,gs,ns,n,acg,r,nl,λl H1 fl N1 s1=>?_⟩;obtain⟨ws,hl,dw⟩:=N1;have wl:ws.length=(jx ns gs n).length:=by rw[dw.length,aac]
     rw[nh n rfl eo] at wl;have we:ws=[]:=List.eq_nil_of_length_eq_zero wl;refine⟨_,acg, !ws.isEmpty,.inl ⟨ws,bI.of hl,acg⟩, ?_⟩;rw[we];refine cU ?_;have r1:=r.same s1;have nS:n<S.hs.length:=by rw[←r.lc];exact nl
     have es:S.hs[n]? = some S.hs[n]:=by simp[nS]
     have wt:S.hs[n].st = "waits" :=by
      unfold gM lW at eo;rw[es,Bool.or_eq_false_iff] at eo;have:=eo.2;simpa using this
     have inn:ur (n:Int) S.hs.length:=⟨by lia,by lia⟩
     have one:∀(k':Nat)(t:bG),(n:Int)=k'->S.hs[k']? = some t->t=S.hs[n]/\k'=n:=λk' t e1 e2=>by
      have:k'=n:=by lia
      subst this;rw[es] at e2;exact⟨(aaC e2).symm,acg⟩
     refine⟨_,acg,R.o,aH,R.dx,_,_,acg,r1.o,aN.cls,aN.wj,acg,R.W.o,R.W.dx,_,acg,r1.w.o,acg,_,acg,i,τ,R.W,S,_,acg,r1.w,by lia,λk' t' r' tt H2 e1 e2 wt' er' tr' tf tk w2 st2=>?_,λz=>ace inn z,λk' t' e1 e2 z=>ace (by rw[(one k' t' e1 e2).1];exact wt) z⟩;obtain⟨e3,e4⟩:=one k' t' e1 e2;subst e4;have gb:=r.dn.2 k' (by lia) (by lia);have e5:=r1.n0;have hpr:=st2.keep _ _ r1.pr (by rw[r1.tp];intro z;exact r1.ne (aaC z));have ho2:=st2.keep _ _ r1.o (by rw[r1.to];intro z;exact r1.ne (aaC z));refine⟨_,acg,R.o,aH,R.dx,_,_,acg,ho2,aN.cls,aN.fj,acg,_,acg,R.pr,_,_,_,acg,acg,bI.of hpr,by lia,(by rw[aa5,aaf,aad (by lia)];rfl),_,_,acg,acg,R.pr,_,_,_,acg,acg,hpr,wz (by lia) (by rw[aac];lia), ?_⟩;have gl:k'<gs.length:=by lia
     have gg:gI gs k'=gs[k']:=yC (aad gl)
     have em:(gs.map V.int).set ((k':Int)).toNat (.int (gs[k']+1))=(jc gs k').map V.int:=by
      unfold jc;rw[gg,List.map_set,aa5]
     rw[em];have st3:mQ ii τ H2 (upd H2 R.pr (.lst ((jc gs k').map V.int))):=mQ.set (by rw[r1.tp];rfl) hpr (by intro xs z;cases z);have st1:mQ i τ H H2:=(mQ.of_same s1).trans st2
     have ne1:gI gs k'≠gI cs k':=by
      unfold gM at eo;rw[Bool.or_eq_false_iff] at eo;exact of_decide_eq_false eo.1
     have ft:H tt=none:=s1.free tf
     have dn3:Dv cs (jc gs k'):=by
      refine⟨by unfold jc;rw[abF];exact lg,λx x0 x1=>?_⟩;have:=r.dn.2 x x0 x1;have e:=Zf (cs:=gs) (h:=(k':Int)) (k:=x) (v:=gI gs k'+1) (by lia) (by lia) x0;rw[aa5] at e;unfold jc;rw[e];split
      .rename_i z
       subst z;lia
      .exact this
     refine⟨_,acg,k1 k' t' r' tt _ rfl nl eo e2 wt' er' tr' ft ?_ ?_ ⟨H2,st1,st3⟩⟩
     .exact st3.tup _ _ tk
     .have ns':Same (oF τ H) (oF τ (upd H2 R.pr (.lst ((jc gs k').map V.int)))):=(iu st1 r.w.i0).trans (iu st3 r.n0)
      refine⟨w2.mv (Mv.nO st3 r.ne r.n0) (st3.un w2.un), ?_,r.to,ak,r.tp,r.ne,r.n0,r.XR.same ns',r.Zg.same ns',r.ok,by rw[KN];exact r.lc,dn3,r.gd.turn k',by rw[SM];exact r.ml⟩;rw[aF (dg ho2 hpr (by intro z;cases z))];exact ho2
  .rw[aar hh]
   refine eO ?_;exact⟨(by show 1<=sizeLine;decide),k2 hh⟩
noncomputable def Bm(CR CW CH CN:Addr)(K:PySem.W.Frag):Sp:=λvs H Q E=>∃(i i' ii:Nat) (τ:Tg) (o dx t c a:Addr) (W:nW) (S:dR) (cs:List Int) (ns:List Nt),vs=[.ref o,.ref W.o,.ref t]/\H o=some (.ins CR dx [])/\τ o=[]/\j_ CW CH i τ H W S/\j8 S/\S.m<=100/\RecAt H t c a cs ns/\Av cs ns/\i'≠0/\ii≠0/\ii≠i'/\ii≠i /\
 (cs.length=S.hs.length -> ∀(τ':Tg)(R:M5)(ns':List Nt)(H':Hp),R.o=o->ns'.Perm ns->j6 CR CW CH i' ii τ' H' R S cs ns' (List.replicate cs.length 0)->(∀x u,H x=some u->x≠o->τ' x=τ x)->Kp o H H'->Q .non H') /\
 (cs.length≠S.hs.length -> ∀H',Same H H'->E (.ref CN) none H')
theorem PX{aH ao aq:Addr}{f:Addr}{fd:FuncData}(F:fQ K "__init__" "Replay.__init__" lK f fd){bD:Addr}(fJ:Xr K mg bD "NoHand")(aN:eV K aH)(aK:cH K ao)(zL:FnAt P w K mg base 4 "check_notes" ["record"] (Ej K))(gq:MethAt P w K mg base 1 ao "counts" ["self"] (oU ao aq K))(Gx:FnAt P w K mg base 1 "firsts_of" ["record"] (Ei K))(nY:MethAt P w K mg base 9 ao "twin" ["self"] (Bh ao aq K))(Bt:mV mg):bR P w K mg base (qJ P w) 10 f fd ["self","works","record"] (Bm aH ao aq bD K):=by
 refine F.RZ xG (λvs H Q E h=>?_) (λcdv A outer s H vs Q E hr h hR=>?_)
 .obtain⟨i,i',ii,τ,o,dx,t,c,a,W,S,cs,ns,rfl,_⟩:=h
  rfl
 .obtain⟨i,i',ii,τ,o,dx,t,c,a,W,S,cs,ns,rfl,ho,to,w,gd,ml,R,ok,i0,Ng,iin,iio,k1,k2⟩:=h
  refine⟨_,(aA (dh (bN zL (hr.mono (by decide)) (by rfl) (aj (pv 2) au)))
   (aA (cB (bF kW (aW (aY (K:=K) rfl) (by rfl) Bt.dW cM (aj (aO (aU (K:=K) rfl) (pv 2) aC (λ_ _=>rfl)) au)) (aW (aY (K:=K) rfl) (by rfl) Bt.dW cM (aj (cC gq aK.cls (hr.mono (by decide)) (pv 1)) au)) (bw _)) (aJ (jW PySem.F.excBase_ValueError fJ.ex fJ.bd (by rfl) rfl rfl hR (aj bO au))) bJ)
   (aA (cT (K:=K) rfl (pv 0) (cX (aj (cZ (cu (K:=K) rfl) (by rfl) Bt.gH eN (aj (aO (aU (K:=K) rfl) (pv 2) aC (λ_ _=>rfl)) au)) (aj (aW (Gj (K:=K) rfl) (by rfl) Bt.Rr MP (aj (aO (aU (K:=K) rfl) (pv 2) aC (λ_ _=>rfl)) au)) au))) rfl)
   (aA (cT (K:=K) rfl (pv 0) (bN Gx (hr.mono (by decide)) (by rfl) (aj (aX (K:=K) rfl (pv 0) rfl) au)) rfl)
   (aA (cT (K:=K) rfl (pv 0) (cC nY aK.cls (hr.mono (by decide)) (pv 1)) rfl)
   (aJ (cT (K:=K) rfl (pv 0) (dI rfl (N:=["count"]) (own:=["count"]) (caps:=[]) (bB.of (by kernel_rfl)) (dH (K:=K) rfl (aO (aU (K:=K) rfl) (aX (K:=K) rfl (pv 0) rfl) aC (λ_ _=>rfl))) (λ_ _ _ _=>(bL (i:=0) (show List.Nodup (["count"]:List Str) by decide +kernel) rfl (Or.inl rfl))) (λ_ _ _ _=>cO) (λ_ _ _ _=>aC)) rfl))))))), ?_⟩
  refine⟨_,acg,t,c,a,cs,ns,acg,R,ok,λH1 s1=>?_⟩;have R1:=R.same s1;have w1:=w.same s1;refine⟨_,acg,_,_,_,_,acg,acg,cD.of R1.1,acg,c,_,acg,.inl (bI.of R1.2.1),_,acg,W.o,W.dx,_,acg,w1.o,acg,i,τ,W,S,acg,w1,λl H2 fl el s2=>⟨l,_,acg,.inl (bI.of el),acg,_,acg, ?_⟩⟩;have s12:=s1.trans s2;have cl:(vU S).length=S.hs.length:=by unfold vU;simp
  rw[aac,aac,cl]
  by_cases hl:cs.length=S.hs.length
  .refine cP (λq=>ace q (by rw[hl,aaq rfl];decide)) (λ_=>?_)
   have ho2:=s12 _ _ ho;have w2':=w.same s12;have R2:=R.same s12;have B2:Bs H τ o (aR τ o [ii,7]) H2:=⟨λx e=>by rw[aV (aB ho2 e).symm];exact w2'.un x e,Kp.of_same s12,λx u e n=>aV n⟩
   have w2:j_ ao aq i (aR τ o [ii,7]) H2 W S:=w2'.mv ⟨λx u e t=>⟨e,aV (λz=>by
    rw[z,to] at t;rcases t with t|t<;>cases t)⟩,λx xs e=>e⟩ B2.un
   have to2:aR τ o [ii,7] o=[ii,7]:=bK;generalize aR τ o [ii,7]=τ2 at B2 w2 to2;clear w2' R1 w1;refine⟨_,acg,_,_,_,_,acg,acg,cD.of R2.1,acg,c,_,acg,.inl (bI.of R2.2.1),λc3 hc3=>?_⟩;have s3:=aG (o:=HO.lst (cs.map V.int)) hc3;have ec3:(upd H2 c3 (.lst (cs.map V.int))) c3=some (.lst (cs.map V.int)):=ak;have R3:=R2.same s3;have B3:=B2.claim (t:=[0]) s3 hc3 ⟨_,ec3⟩;have w3:=w2.mv (Mv.claim (p:=c3) (t:=[0]) s3 hc3) B3.un;have Y9:=s3 _ _ ho2;have to3:aR τ2 c3 [0] o=[ii,7]:=by rw[aV (aB ho2 hc3)];exact to2
   have tc3:aR τ2 c3 [0] c3=[0]:=bK;generalize (upd H2 c3 (.lst (cs.map V.int)))=H3 at s3 ec3 R3 B3 w3 Y9 ⊢;generalize aR τ2 c3 [0]=τ3 at B3 w3 to3 tc3;refine⟨_,acg,_,_,_,_,acg,acg,cD.of R3.1,acg, ?_⟩;dsimp only[qC];refine Oi (K:=K) R3.2.2 λa4 ns' H4 fa4 N4 pm s4=>?_
   have hp4:∃u,H4 a4=some u:=by
    obtain⟨vs,e,_⟩:=N4;exact⟨_,e⟩
   have B4:=B3.claim (t:=[0]) s4 fa4 hp4;have w4:=w3.mv (Mv.claim (p:=a4) (t:=[0]) s4 fa4) B4.un;have ho4:=s4 _ _ Y9;have ec4:=s4 _ _ ec3;have to4:aR τ3 a4 [0] o=[ii,7]:=by rw[aV (aB Y9 fa4)];exact to3
   have tc4:aR τ3 a4 [0] c3=[0]:=by rw[aV (aB ec3 fa4)];exact tc3
   have ta4:aR τ3 a4 [0] a4=[0]:=bK;generalize aR τ3 a4 [0]=τ4 at B4 w4 to4 tc4 ta4;refine⟨(by show 2<=sizeLine;decide),λt5 ht5=>?_⟩;have s5:=aG (o:=HO.tup [V.ref c3,V.ref a4]) ht5;have R5:RecAt (upd H4 t5 (.tup [V.ref c3,V.ref a4])) t5 c3 a4 cs ns':=⟨ak,s5 _ _ ec4,N4.same s5⟩;have B5:=B4.same s5;have w5:=w4.same s5;have Sd:=s5 _ _ ho4;generalize (upd H4 t5 (.tup [V.ref c3,V.ref a4]))=H5 at s5 R5 B5 w5 Sd ⊢;have ok':Av cs ns':=⟨ok.1,by rw[pm.length_eq];exact ok.2.1,λx hx=>ok.2.2 x (pm.mem_iff.mp hx)⟩;refine⟨_,acg,o,aH,dx,_,acg,Sd,aN.cls,aN.mH,(by decide), ?_⟩
   have A_:∀(τ:Tg)(H:Hp)(v:HO),qw τ H->qw τ (upd H o v):=λτ H v u=>u.dom λy e=>by
    by_cases z:y=o
    .rw[z,ak] at e;cases e
    .rw[aF z] at e;exact e
   have ho6:(upd H5 o (.ins aH dx (cG "record" (.ref t5) []))) o=some (.ins aH dx [("record",.ref t5)]):=ak;have st6:mQ ii τ4 H5 (upd H5 o (.ins aH dx (cG "record" (.ref t5) []))):=mQ.set (by rw[to4];rfl) Sd (by intro xs z;cases z);have B6:Bs H τ o τ4 (upd H5 o (.ins aH dx (cG "record" (.ref t5) []))):=B5.set (.inl rfl);have w6:=w5.mv (Mv.nO st6 iio Ng) B6.un
   have r5:RecAt (oF τ4 H5) t5 c3 a4 cs ns':=by
    obtain⟨vs,e1,e2⟩:=R5.2.2;exact⟨oR R5.1,rR tc4 R5.2.1,vs,rR ta4 e1,aQ.keep (λa xs e=>oR e) _ (cj _ pK _) e2⟩
   have r6:=r5.same (iu st6 Ng);generalize (upd H5 o (.ins aH dx (cG "record" (.ref t5) [])))=H6 at ho6 st6 B6 w6 r6 ⊢;refine⟨_,acg,o,aH,dx,_,_,acg,ho6,aN.cls,aN.mH,acg,t5,c3,a4,cs,ns',acg,r6.same (qd _ _),ok',λf H7 hf F7 s7=>?_⟩;have un7:=Xf s7 B6.un;have tg7:∀x u,H6 x=some u->Nb τ4 H6 H7 x=τ4 x:=λx u e=>S6 e;have B7:Bs H τ o (Nb τ4 H6 H7) H7:=⟨un7,B6.kp.trans (Kp.of_same s7),λx u e n=>(tg7 x u (B6.kp _ _ e n)).trans (B6.tg x u e n)⟩;have w7:=w6.mv (Mv.tags s7 tg7) un7;have r7:=r6.same (m7 (i:=0) (Mv.tags s7 tg7));have f7:j9 (oF (Nb τ4 H6 H7) H7) f ns':=F7.same YB;have ho7:=s7 _ _ ho6;have to7:Nb τ4 H6 H7 o=[ii,7]:=(tg7 _ _ ho6).trans to4;generalize Nb τ4 H6 H7=τ7 at un7 tg7 B7 w7 r7 f7 to7;refine⟨_,acg,o,aH,dx,_,acg,ho7,aN.cls,aN.Fi,(by show 1<1000;decide), ?_⟩;have Vk:(upd H7 o (.ins aH dx (cG "firsts" (.ref f) [("record",.ref t5)]))) o=some (.ins aH dx [("record",.ref t5),("firsts",.ref f)]):=ak;have st8:mQ ii τ7 H7 (upd H7 o (.ins aH dx (cG "firsts" (.ref f) [("record",.ref t5)]))):=mQ.set (by rw[to7];rfl) ho7 (by intro xs z;cases z);have B8:Bs H τ o τ7 (upd H7 o (.ins aH dx (cG "firsts" (.ref f) [("record",.ref t5)]))):=B7.set (.inl rfl);have w8:=w7.mv (Mv.nO st8 iio Ng) B8.un;have r8:=r7.same (iu st8 Ng);have f8:=f7.same (iu st8 Ng);generalize (upd H7 o (.ins aH dx (cG "firsts" (.ref f) [("record",.ref t5)])))=H8 at Vk st8 B8 w8 r8 f8 ⊢;refine⟨_,acg,W.o,W.dx,_,acg,w8.o,acg,i,i',τ7,W,S,acg,w8,gd,ml,i0,λτ9 W' H9 w9 tg9 s9=>?_⟩;have B9:Bs H τ o τ9 H9:=⟨w9.un,B8.kp.trans (Kp.of_same s9),λx u e n=>(tg9 x u (B8.kp _ _ e n)).trans (B8.tg x u e n)⟩;have r9:=r8.same (m7 (i:=0) (Mv.tags s9 tg9));have f9:=f8.same (m7 (i:=0) (Mv.tags s9 tg9));have ho9:=s9 _ _ Vk;have to9:τ9 o=[ii,7]:=(tg9 _ _ Vk).trans to7;refine⟨_,acg,o,aH,dx,_,acg,ho9,aN.cls,aN.wj,(by show 2<1000;decide), ?_⟩;have hoa:(upd H9 o (.ins aH dx (cG "stage" (.ref W'.o) [("record",.ref t5),("firsts",.ref f)]))) o=some (.ins aH dx [("record",.ref t5),("firsts",.ref f),("stage",.ref W'.o)]):=ak;have sta:mQ ii τ9 H9 (upd H9 o (.ins aH dx (cG "stage" (.ref W'.o) [("record",.ref t5),("firsts",.ref f)]))):=mQ.set (by rw[to9];rfl) ho9 (by intro xs z;cases z);have Ba:Bs H τ o τ9 (upd H9 o (.ins aH dx (cG "stage" (.ref W'.o) [("record",.ref t5),("firsts",.ref f)]))):=B9.set (.inl rfl);have wa:=w9.mv (Mv.nO sta iin Ng) Ba.un;have ra:=r9.same (iu sta Ng);have fa:=f9.same (iu sta Ng);generalize (upd H9 o (.ins aH dx (cG "stage" (.ref W'.o) [("record",.ref t5),("firsts",.ref f)])))=Ha at hoa sta Ba wa ra fa ⊢;have raH:=ra.same (qd _ _);refine⟨_,acg,o,aH,dx,_,_,acg,hoa,aN.cls,aN.mH,acg,_,_,_,_,acg,acg,cD.of raH.1,acg,c3,acg,⟨_,bI.of raH.2.1⟩,λD hD=>?_⟩;refine pN (K:=K) (λ_=>some (.int 0)) hD (bI.of raH.2.1) (by rw[aac];have:=ok.1.1;lia) (λj v H3 G F hi s3 kG kF=>kF _ H3 (Same.refl _) rfl) (λHb sb eb=>?_);rw[CV,aac] at eb;have Bb:=Ba.claim (t:=[ii,8]) sb hD ⟨_,eb⟩;have qb:∀m,Mv m τ9 Ha (aR τ9 D [ii,8]) Hb:=λm=>Mv.claim sb hD;have wb:=wa.mv (qb i') Bb.un;have rb:=ra.same (m7 (qb 0));have fb:=fa.same (m7 (qb 0));have hob:=sb _ _ hoa;have tob:aR τ9 D [ii,8] o=[ii,7]:=by rw[aV (aB hoa hD)];exact to9
   have tDb:aR τ9 D [ii,8] D=[ii,8]:=bK;generalize aR τ9 D [ii,8]=τb at Bb qb wb rb fb tob tDb;refine⟨_,acg,o,aH,dx,_,acg,hob,aN.cls,aN.fj,(by show 3<1000;decide), ?_⟩;have stc:mQ ii τb Hb (upd Hb o (.ins aH dx (cG "progress" (.ref D) [("record",.ref t5),("firsts",.ref f),("stage",.ref W'.o)]))):=mQ.set (by rw[tob];rfl) hob (by intro xs z;cases z);have Bc:Bs H τ o τb (upd Hb o (.ins aH dx (cG "progress" (.ref D) [("record",.ref t5),("firsts",.ref f),("stage",.ref W'.o)]))):=Bb.set (.inl rfl);refine k1 hl τb ⟨o,dx,t5,c3,a4,f,D,W'⟩ ns' _ rfl pm ⟨wb.mv (Mv.nO stc iin Ng) Bc.un,ak,tob, ?_,tDb,iin,Ng,rb.same (iu stc Ng),fb.same (iu stc Ng),ok',hl, ?_,gd,ml⟩ Bc.tg Bc.kp
   .rw[aF (aB hoa hD).symm]
    exact eb
   .refine⟨by simp,λx x0 x1=>?_⟩
    have e:gI (List.replicate cs.length 0) x=0:=by
     unfold gI;rw[List.getElem?_replicate];split<;>rfl
    rw[e];exact⟨Int.le_refl _,(ok.1.gI x).1⟩
  .refine cP (λ_=>?_) (λq=>ace ?_ q)
   .exact⟨(by show 1<=sizeLine;decide),k2 hl H2 s12⟩
   .have:¬V.int (cs.length:Int)=V.int (S.hs.length:Int):=λz=>hl (by have:=V.int.inj z;lia)
    rw[aar this];rfl
noncomputable def mJ(s:bG):PyData:= .tuple [eY s.bs,eY s.sy,.str s.st]
noncomputable def vo(S:dR):PyData:= .tuple [eY S.ns,eY (vU S),.int S.ts.length,.list (S.hs.map mJ)]
theorem yK{S:dR}(g:j8 S):SeqAt.shaped (vo S)=true:=by
 obtain⟨a1,b1⟩:=jg S.ns;obtain⟨a2,b2⟩:=jg (vU S)
 have hh:∀s∈S.hs,(mJ s).canLay0=true/\(mJ s).depth<=2:=λs hs=>by
  obtain⟨a1,b1⟩:=jg s.bs;obtain⟨a2,b2⟩:=jg s.sy;refine⟨?_, ?_⟩
  .show (PyData.canLay0 (eY s.bs)&&(PyData.canLay0 (eY s.sy)&&(PyData.strOk s.st&&true)))=true
   rw[a1,a2,V8 (g.t s hs)];rfl
  .show max (eY s.bs).depth (max (eY s.sy).depth (max 0 0))+1<=2
   lia
 have a3:PyData.canLay0 (.list (S.hs.map mJ))=true:=gZ mJ S.hs λs hs=>(hh s hs).1;have b3:=fB mJ 2 S.hs λs hs=>(hh s hs).2
 have e1:PyData.canLay0 (vo S)=true:=by
  show (PyData.canLay0 (eY S.ns)&&(PyData.canLay0 (eY (vU S))&&(true&&(PyData.canLay0 (.list (S.hs.map mJ))&&true))))=true;rw[a1,a2,a3];rfl
 have e2:PyData.depth (vo S)<=64:=by
  show max (eY S.ns).depth (max (eY (vU S)).depth (max 0 (max (PyData.depthAll (S.hs.map mJ)+1) 0)))+1<=64;lia
 unfold SeqAt.shaped;rw[e1,aaq e2];rfl
noncomputable def uK(CW CH:Addr)(K:PySem.W.Frag):Sp:=λvs H Q _=>∃(i:Nat) (τ:Tg) (W:nW) (S:dR),vs=[.ref W.o,.int S.hs.length]/\j_ CW CH i τ H W S/\S.ts.length<=10000 /\ ∀(t:Addr)(H':Hp),Dat H' (.ref t) (vo S)->Same H H'->Q (.ref t) H'
theorem Hy{ao aq bD:Addr}{f:Addr}{fd:FuncData}(F:fQ K "_law_all_told" "_law_all_told" oZ f fd)(zH:MethAt P w K mg base 4 ao "boxes" ["self","hand"] (λvs H Q _=>uI bG.bs ao aq bD K vs H Q λ_ _ _=>False))(Dp:MethAt P w K mg base 4 ao "said" ["self","hand"] (λvs H Q _=>uI bG.sy ao aq bD K vs H Q λ_ _ _=>False))(jh:MethAt P w K mg base 4 ao "how" ["self","hand"] (λvs H Q _=>zR ao aq bD K vs H Q λ_ _ _=>False))(lV:MethAt P w K mg base 1 ao "cells" ["self"] (v8 ao aq K))(gq:MethAt P w K mg base 1 ao "counts" ["self"] (oU ao aq K))(vW:MethAt P w K mg base 1 ao "__len__" ["self"] (GR ao aq K))(aK:cH K ao)(Bt:mV mg):bR P w K mg base ig 5 f fd ["one","many"] (uK ao aq K):=by
 refine F.ok sO (λvs H Q E h=>?_) (λcdv A outer s H vs Q E hr h=>?_)
 .obtain⟨i,τ,W,S,rfl,_⟩:=h
  rfl
 .obtain⟨i,τ,W,S,rfl,w,tl,k⟩:=h
  refine⟨_,(aA (kE (i:=2) rfl sO.nd rfl (Or.inl rfl) (N:=["k","one"]) (own:=["k"]) (caps:=[0]) (bB.of (by kernel_rfl)) (cR (by rfl) Bt.dN (aj (pv 1) au)) (λ_ _ _ _=>(bL (i:=0) (show List.Nodup (["k","one"]:List Str) by decide +kernel) rfl (Or.inl rfl))) (λ_ _ _ _=>cO) (λ_ _ _ _=>(cX (aj (b_ zH aK.cls (hr.mono (by decide)) (pv 1) (aj (pv 0) au)) (aj (b_ Dp aK.cls (hr.mono (by decide)) (pv 1) (aj (pv 0) au)) (aj (b_ jh aK.cls (hr.mono (by decide)) (pv 1) (aj (pv 0) au)) au))))))
   (aJ (bA (cX (aj (cC lV aK.cls (hr.mono (by decide)) (pv 0)) (aj (cC gq aK.cls (hr.mono (by decide)) (pv 0)) (aj (aW (u_ vW (hr.mono (by decide))) (by rfl) Bt.dW cM (aj (pv 0) au)) (aj (pv 2) au)))))))), ?_⟩
  refine⟨_,acg,_,acg,by have:=w.hn;lia,by have:=w.hn;lia,λD hD=>?_⟩;rw[aa5];refine Mz (λj=>((S.hs[j]?).map mJ).getD .none) hD (by have:=w.hn;lia) (λj H1 F hj s1 kF=>?_) (λH1 s1 d1=>?_)
  .have es:S.hs[j]? = some S.hs[j]:=by simp[hj]
   have inn:ur ((0:Int)+j) S.hs.length:=⟨by lia,by lia⟩
   have one:∀(k':Nat)(t:bG),(0:Int)+j=k'->S.hs[k']? = some t->t=S.hs[j]:=λk' t e1 e2=>by
    have:k'=j:=by lia
    subst this;rw[es] at e2;exact(aaC e2).symm
   have w1:=w.same s1;refine⟨_,acg,W.o,W.dx,_,acg,w1.o,acg,_,acg,i,τ,W,S,_,acg,w1,λk1 t1 l1 H2 e1 e1' f1 h1 s2=>?_,λz=>ace inn z⟩;obtain rfl:=one k1 t1 e1 e1';have w2:=w1.same s2;refine⟨_,acg,W.o,W.dx,_,acg,w2.o,acg,_,acg,i,τ,W,S,_,acg,w2,λk2 t2 l2 H3 e2 e2' f2 h2 s3=>?_,λz=>ace inn z⟩;obtain rfl:=one k2 t2 e2 e2';have w3:=w2.same s3;refine⟨_,acg,W.o,W.dx,_,acg,w3.o,acg,_,acg,i,τ,W,S,_,acg,w3,λk3 t3 e3 e3'=>?_,λz=>ace inn z⟩;obtain rfl:=one k3 t3 e3 e3';refine⟨(by show 3<=sizeLine;decide),λt ht=>?_⟩;have st:=aG (o:=HO.tup [V.ref l1,V.ref l2,V.str S.hs[j].st]) ht;refine kF _ _ ((s2.trans s3).trans st) ?_;rw[es];show Dat _ _ (mJ S.hs[j]);simp only[mJ,Dat];refine⟨t,_,acg,qN (s2.free (s3.free ht)) ak, ?_⟩;simp only[aQ,Dat,and_true];exact⟨cV (qN f1 (st _ _ (s3 _ _ h1))),cV (qN (s2.free f2) (st _ _ h2))⟩
  have w1:=w.same s1;refine⟨_,acg,W.o,W.dx,_,acg,w1.o,acg,i,τ,W,S,acg,w1,λl2 H2 f2 e2 s2=>?_⟩;have w2:=w1.same s2;refine⟨_,acg,W.o,W.dx,_,acg,w2.o,acg,i,τ,W,S,acg,w2,λl3 H3 f3 e3 s3=>?_⟩;have w3:=w2.same s3;refine⟨_,acg,W.o,W.dx,_,acg,w3.o,⟨i,τ,W,S,acg,w3,_,acg,by lia,by lia, ?_⟩⟩;refine⟨_,acg,(by show 4<=sizeLine;decide),λt ht=>?_⟩;have st:=aG (o:=HO.tup [V.ref l2,V.ref l3,V.int S.ts.length,V.ref D]) ht;refine k t _ ?_ (((s1.trans s2).trans s3).trans st);have d4:=d1.same (((JV _ _).trans (s2.trans s3)).trans st) _
  have eh:((List.range S.hs.length).map λj=>((S.hs[j]?).map mJ).getD .none)=S.hs.map mJ:=by
   refine List.ext_getElem? λn=>?_
   by_cases hn:n<S.hs.length
   .simp[hn]
   .simp[hn]
  rw[eh] at d4;unfold vo;simp only[Dat];refine⟨t,_,acg,ak, ?_⟩;simp only[aQ,Dat,and_true,true_and];refine⟨cV (st _ _ (s3 _ _ e2)),cV (st _ _ e3), ?_⟩;simpa only[Dat] using d4
theorem C_{α:Type}{p:α->Bool}:∀{l:List α}{n:Nat}{x:α},(l.filter p)[n]? = some x -> ∃c,l[c]? = some x/\p x=true/\((l.take c).filter p).length=n
 | [],n,x,h=>by simp at h
 | y::l,n,x,h=>by
   rw[abZ] at h;cases e:p y with
   | false=>
     rw[e] at h;obtain⟨c,h1,h2,h3⟩:=C_ (l:=l) (by simpa using h);exact⟨c+1,by simpa using h1,h2,by rw[List.take_succ_cons,abZ,e];simpa using h3⟩
   | true=>
     rw[e,acd rfl] at h;cases n with
     | zero=>
       have:y=x:=by simpa using h
       subst this;exact⟨0,acg,e,by simp⟩
     | succ n=>
       obtain⟨c,h1,h2,h3⟩:=C_ (l:=l) (by simpa using h);exact⟨c+1,by simpa using h1,h2,by rw[List.take_succ_cons,abZ,e];simpa using h3⟩
noncomputable def kc(m:List Tc)(k:Nat):Nat:=(m.filter λt=>t.k=k).length
noncomputable def gY(m:List Tc)(n:Nat):List Int:=(List.range n).map λk=>(kc m k:Int)
theorem Cv(m:List Tc)(x:Tc)(k:Nat):kc (m++[x]) k=kc m k+(if x.k=k then 1 else 0):=by
 unfold kc;rw[ab_,aaD]
 by_cases z:x.k=k<;>simp[z]
theorem U8{l:List Tc}{k a b:Nat}(h:a<=b):kc (l.take a) k<=kc (l.take b) k:=by
 have:l.take a=(l.take b).take a:=by rw[List.take_take,Nat.min_eq_left h]
 rw[this];exact((List.take_sublist a (l.take b)).filter _).length_le
theorem Ad{l:List Tc}{x:Tc}{a b:Nat}(h:a<b)(e:l[a]? = some x):kc (l.take a) x.k<kc (l.take b) x.k:=by
 have:kc (l.take (a+1)) x.k=kc (l.take a) x.k+1:=by
  rw[abB,e];show kc (l.take a++[x]) x.k=_;rw[Cv,acd rfl]
 have:=U8 (l:=l) (k:=x.k) (show a+1<=b from h);lia
theorem HY{l:List Tc}{x:Tc}{a:Nat}(e:l[a]? = some x):kc (l.take a) x.k<kc l x.k:=by
 have:=Ad (aae.mp e).1 e;rwa [abA] at this
theorem yr{l:List Tc}{k n:Nat}(h:n<kc l k):∃c x,l[c]? = some x/\x.k=k/\kc (l.take c) k=n/\(l.filter λt=>t.k=k)[n]? = some x:=by
 obtain⟨x,hx⟩:∃x,(l.filter λt=>t.k=k)[n]? = some x:=⟨_,aad h⟩;obtain⟨c,h1,h2,h3⟩:=C_ hx;exact⟨c,x,h1,aaw h2,h3,hx⟩
theorem J6{l:List Tc}{o:List Nat}(c:∀{b:Nat}{y:Tc},l[b]? = some y->(b∈o↔kc (l.take b) y.k<kc (pick l o) y.k)){a:Nat}{x:Tc}(e:l[a]? = some x)(n:a∉o)(q:∀m y,m<a->l[m]? = some y->y.k=x.k->m∈o):kc (l.take a) x.k=kc (pick l o) x.k:=by
 refine Nat.le_antisymm (Nat.le_of_not_lt λw=>?_) (Nat.le_of_not_lt λw=>n ((c e).mpr w));obtain⟨m,y,h1,h2,h3,_⟩:=yr w;rw[List.getElem?_take] at h1
 by_cases z:m<a
 .rw[acd z] at h1
  rw[List.take_take,Nat.min_eq_left (Nat.le_of_lt z)] at h3;have:=(c h1).mp (q m y z h1 h2);rw[h2] at this;lia
 .rw[ab' z] at h1
  cases h1
theorem vI.cnt{l:List Tc}{o:List Nat}(h:vI l o):∀{b:Nat}{y:Tc},l[b]? = some y->(b∈o↔kc (l.take b) y.k<kc (pick l o) y.k):=by
 induction h with
 | nil=>intro b y e;simp[pick,kc]
 | @snoc o a x h e n q ih=>
   intro b y eb;have e1:pick l (o++[a])=pick l o++[x]:=by rw[jX,jG e];rfl
   rw[e1,Cv,abb,aby,ih eb]
   by_cases z:x.k=y.k
   .have ca:=J6 ih e n λm y lt ey k=>q m y lt ey (.inl k)
    rw[acd z];rw[z] at ca;constructor
    .rintro(w|w)
     .lia
     .subst w;lia
    .intro w
     refine Classical.byContradiction λnn=>?_;have ne:b≠a:=λt=>nn (.inr t)
     have:kc (l.take b) y.k=kc (l.take a) y.k:=by
      have:¬kc (l.take b) y.k<kc (pick l o) y.k:=λt=>nn (.inl t);lia
     rcases Nat.lt_or_ge a b with w|w
     .have:=Ad w e;rw[z] at this;lia
     .have:=Ad (show b<a by lia) eb;lia
   .rw[ab' z]
    constructor
    .rintro(w|w)
     .lia
     .subst w;rw[e] at eb;cases eb;exact ace rfl z
    .intro w;exact .inl (by lia)
theorem dz(m:List Tc)(n:Nat):(gY m n).length=n:=by unfold gY;simp
theorem fO{m:List Tc}{n k:Nat}(h:k<n):gI (gY m n) k=kc m k:=yC (by unfold gY;simp[h])
theorem FJ{m:List Tc}{n:Nat}{x:Tc}(h:x.k<n):gY (m++[x]) n=jc (gY m n) x.k:=by
 unfold jc;rw[fO h];refine List.ext_getElem? λk=>?_
 by_cases kn:k<n
 .have e1:(gY (m++[x]) n)[k]? = some (kc (m++[x]) k:Int):=by unfold gY;simp[kn]
  have e2:(gY m n)[k]? = some (kc m k:Int):=by unfold gY;simp[kn]
  rw[e1,Cv]
  by_cases z:x.k=k
  .subst z
   rw[acd rfl,List.getElem?_set_self (by rw[dz];exact h)];rfl
  .rw[ab' z,List.getElem?_set_ne z,e2]
   rfl
 .rw[List.getElem?_eq_none (by rw[dz];lia),List.getElem?_eq_none (by rw[abF,dz];lia)]
theorem sum_set:∀{l:List Int}{k:Nat}{v:Int},k<l.length->(l.set k v).sum=l.sum+v - gI l k
 | [],k,v,h=>by simp at h
 | x::l,0,v,h=>by simp[gI];lia
 | x::l,k+1,v,h=>by
   have:=sum_set (l:=l) (k:=k) (v:=v) (by simpa using h);have e:gI (x::l) ((k+1:Nat):Int)=gI l k:=by unfold gI;simp
   rw[e,List.set_cons_succ,List.sum_cons,List.sum_cons,this];lia
theorem JF:∀n:Nat,(List.replicate n (0:Int)).sum=0
 | 0=>rfl
 | n+1=>by rw[List.replicate_succ,List.sum_cons,JF n];rfl
theorem CP(n:Nat):∀(s:Nat)(m:List Tc),m.length=s->(∀x∈m,x.k<n)->(gY m n).sum=s
 | 0,m,hs,_=>by
   rw[List.eq_nil_of_length_eq_zero hs]
   have:gY [] n=List.replicate n 0:=by
    refine List.ext_getElem? λk=>?_;unfold gY
    by_cases z:k<n<;>simp[z,kc]
   rw[this,JF];rfl
 | s+1,m,hs,h=>by
   rcases List.eq_nil_or_concat m with rfl|⟨m',x,rfl⟩
   .cases hs
   .have hs':m'.length=s:=by simpa using hs
    have hx:=h x (by simp);rw[List.concat_eq_append,FJ hx];unfold jc;rw[sum_set (by rw[dz];exact hx),CP n s m' hs' λy hy=>h y (by simp[hy])];lia
theorem vI.rest{l:List Tc}{o:List Nat}(h:vI l o):(o9 l o).length+o.length=l.length/\(pick l o).length=o.length:=by
 induction h with
 | nil=>exact⟨by unfold o9;rw[List.filter_eq_self.mpr λi _=>by simp];simp,acg⟩
 | @snoc o a x h e n q ih=>
   obtain⟨pre,post,e1,e2,_⟩:=zW (aae.mp e).1 n;rw[e1] at ih;have e3:pick l []=[]:=acg;rw[e2,jX,jG e,e3];simp only[aaD,ab0,List.length_nil] at ih ⊢;lia
theorem vI.whole{l:List Tc}{o:List Nat}(h:vI l o)(hl:o.length=l.length):∀i,i<l.length->i∈o:=λi hi=>by
 have:o9 l o=[]:=List.eq_nil_of_length_eq_zero (by have:=h.rest.1;lia);have:=List.filter_eq_nil_iff.mp this i (abY.mpr hi);simpa using this
theorem vI.left{l:List Tc}{o:List Nat}(h:vI l o)(hl:o.length<l.length):∃a x,l[a]? = some x/\vI l (o++[a])/\a∉o /\ ∀m,m<a->m∈o:=by
 have ex:∃a,a<l.length/\a∉o:=Classical.byContradiction λn=>by
  have:o9 l o=[]:=List.filter_eq_nil_iff.mpr λi hi=>by
   have:=Classical.byContradiction λz=>n ⟨i,abY.mp hi,z⟩;simp[this]
  have:=h.rest.1
  simp_all
 have least:∀n a,a<=n->a<l.length->a∉o -> ∃a,a<l.length/\a∉o /\ ∀m,m<a->m∈o:=λn=>by
  induction n with
  | zero=>intro a h1 h2 h3;exact⟨a,h2,h3,λm hm=>by lia⟩
  | succ n ih=>
    intro a h1 h2 h3
    by_cases z:∃m,m<a/\m∉o
    .obtain⟨m,z1,z2⟩:=z
     exact ih m (by lia) (by lia) z2
    .exact⟨a,h2,h3,λm hm=>Classical.byContradiction λy=>z ⟨m,hm,y⟩⟩
 obtain⟨a,a1,a2⟩:=ex;obtain⟨a,a1,a2,a3⟩:=least a a (aaj _) a1 a2;exact⟨a,_,aad a1,.snoc h (aad a1) a2 λm y hm _ _=>a3 m hm,a2,a3⟩
theorem Ie(l:List Tc):rD (l.map eX)=l.map λt=>(t.k:Int):=by unfold rD eX;rw[abE];rfl
theorem Rk(l:List Tc)(k:Nat):(l.map λt=>(t.k:Int)).count (k:Int)=kc l k:=by
 unfold kc
 induction l with
 | nil=>rfl
 | cons x l ih=>
   rw[List.map_cons,List.count_cons,ih,abZ]
   by_cases z:x.k=k
   .subst z;simp
   .have:¬((x.k:Int)=(k:Int)):=λy=>z (by lia)
    simp[z,this]
theorem Cm{l:List Tc}{i j:Nat}{x y:Tc}(ex:l[i]? = some x)(ey:l[j]? = some y):mG (l.map eX) i j=((x.k:Int),(kc (l.take i) x.k:Int),(y.k:Int),(kc (l.take j) y.k:Int)):=by
 have g:∀{i:Nat}{x:Tc},l[i]? = some x->gI (rD (l.map eX)) i=x.k:=fun {i x} e=>yC (by rw[Ie,aaf,e];rfl)
 have c:∀{i:Nat}{x:Tc},l[i]? = some x->ctW (l.map eX) i=kc (l.take i) x.k:=fun {i x} e=>by
  unfold ctW;rw[g e,Ie,←List.map_take,Rk]
 unfold mG;rw[g ex,g ey,c ex,c ey]
theorem Vz(l:List Tc)(n:Nat):Ms (l.map eX) n=gY l n:=by
 unfold Ms gY;refine List.map_congr_left λk _=>?_;rw[Ie,Rk]
theorem Fz{ns:List Nt}{gs:List Int}{k:Nat}:jx ns gs k=[] ↔ ∀x∈ns,x.2.2.1=(k:Int)->x.2.2.2=gI gs k->x.2.1<gI gs x.1:=by
 unfold jx;rw[List.map_eq_nil_iff,List.filter_eq_nil_iff];constructor
 .intro h x hx e1 e2
  have:ft x∈cQ ns k (gI gs k):=abn.mpr ⟨x,abS.mpr ⟨hx,by simp[e1,e2]⟩,acg⟩;have:=h _ this;have:¬((!decide ((ft x).2<gI gs (ft x).1))=true):=this;rw[Bool.not_eq_true',decide_eq_false_iff_not,Decidable.not_not] at this;exact this
 .intro h q hq
  obtain⟨x,hx,rfl⟩:=abn.mp hq;obtain⟨h1,h2⟩:=abS.mp hx;have h2:x.2.2.1=(k:Int)/\x.2.2.2=gI gs k:=by simpa using h2
  have:=h x h1 h2.1 h2.2;rw[Bool.not_eq_true',decide_eq_false_iff_not,Decidable.not_not];exact this
noncomputable def Gw(l:List Tc)(few:Bool)(ns:List Nt):Prop:=∀x,x∈ns ↔ ∃i j,j<l.length/\oO (l.map eX) few i j/\x=mG (l.map eX) i j
theorem Bd{l:List Tc}{few:Bool}{i j:Nat}(h:oO (l.map eX) few i j):i<j:=h.1
theorem Mi{l:List Tc}{o:List Nat}{n:Nat}{few:Bool}{ns:List Nt}{T:dR}{k:Nat}(O:vI l o)(ht:∀x∈l,touch x.r=true)(hn:∀x∈l,x.k<n)(N:Gw l few ns)(kn:k<n)(le:kc (pick l o) k<=kc l k)(ov:gM T (gY l n) (gY (pick l o) n) k=false)(he:jx ns (gY (pick l o) n) k=[]):∃a x,l[a]? = some x/\x.k=k/\vI l (o++[a])/\(l.filter λt=>t.k=k)[kc (pick l o) k]? = some x:=by
 have ne:kc (pick l o) k≠kc l k:=λz=>by
  unfold gM at ov;rw[fO kn,fO kn,z] at ov;simp at ov
 obtain⟨a,x,ea,rfl,ca,fa⟩:=yr (show kc (pick l o) k<kc l k by lia);have na:a∉o:=λz=>by have:=(O.cnt ea).mp z;lia
 refine⟨a,x,ea,acg,O.add ht (few:=few) ea na (λm y lt ey e=>(O.cnt ey).mpr ?_) (λm td=>?_),fa⟩
 .have:=Ad lt ey
  rw[e] at this ⊢;lia
 .have lt:=Bd td
  have al:=(aae.mp ea).1;obtain⟨y,ey⟩:∃y,l[m]? = some y:=⟨_,aad (by lia)⟩;have mem:=(N _).mpr ⟨m,a,al,td,acg⟩;rw[Cm ey ea] at mem;have:=Fz.mp he _ mem rfl (by rw[fO kn,ca]);dsimp only at this;rw[fO (hn y (aap ey))] at this;exact(O.cnt ey).mpr (by lia)
theorem Mf{l:List Tc}{o:List Nat}{n:Nat}{few:Bool}{ns:List Nt}{S S1 T:dR}(O:vI l o)(hn:∀x∈l,x.k<n)(N:Gw l few ns)(hl:o.length<l.length)(R:Run S l S1)(R1:Run S (pick l o) T):yE T (gY l n) ns (gY (pick l o) n)≠[]:=by
 obtain⟨a,x,ea,O',na,lo⟩:=O.left hl;have xk:=hn x (aap ea);have ca:=J6 O.cnt ea na λm y lt _ _=>lo m lt;obtain⟨s,es,ws,_⟩:=R.next O' ea R1
 have:x.k∈yE T (gY l n) ns (gY (pick l o) n):=by
  refine abS.mpr ⟨abY.mpr (by rw[dz];exact xk), ?_⟩
  have e1:gM T (gY l n) (gY (pick l o) n) x.k=false:=by
   unfold gM lW;rw[fO xk,fO xk,es];have:=HY ea;have:¬((kc (pick l o) x.k:Int)=kc l x.k):=λz=>by lia
   simp[this,ws]
  have e2:jx ns (gY (pick l o) n) x.k=[]:=Fz.mpr λq hq q1 q2=>by
   obtain⟨i,j,jl,td,rfl⟩:=(N q).mp hq;have lt:=Bd td;obtain⟨y,ey⟩:∃y,l[i]? = some y:=⟨_,aad (by lia)⟩;obtain⟨z,ez⟩:∃z,l[j]? = some z:=⟨_,aad jl⟩;rw[Cm ey ez] at q1 q2 ⊢;dsimp only at q1 q2 ⊢;rw[fO xk] at q2;have zk:z.k=x.k:=by lia
   have ja:j=a:=by
    rw[zk] at q2;rcases Nat.lt_trichotomy j a with w|w|w
    .have:=Ad w ez;rw[zk] at this;lia
    .exact w
    .have:=Ad w ea;lia
   subst ja;rw[fO (hn y (aap ey))];have:=(O.cnt ey).mp (lo i lt);lia
  rw[e1,e2];rfl
 exact λz=>by rw[z] at this;cases this
theorem Mh{l:List Tc}{o:List Nat}{n:Nat}{ns:List Nt}{T:dR}(O:vI l o)(hl:o.length=l.length)(d:Dv (gY l n) (gY (pick l o) n)):gY (pick l o) n=gY l n/\yE T (gY l n) ns (gY (pick l o) n)=[]:=by
 have eq:∀k,k<n->kc (pick l o) k=kc l k:=λk kn=>by
  have:=(d.2 k (by lia) (by rw[dz];lia)).2;rw[fO kn,fO kn] at this;refine Nat.le_antisymm (by lia) (Nat.le_of_not_lt λw=>?_);obtain⟨a,x,ea,rfl,ca,_⟩:=yr w;have:=(O.cnt ea).mp (O.whole hl a (aae.mp ea).1);lia
 refine⟨?_, ?_⟩
 .unfold gY
  refine List.map_congr_left λk hk=>?_;rw[eq k (abY.mp hk)]
 .refine List.filter_eq_nil_iff.mpr λk hk=>?_
  have kn:k<n:=by have:=abY.mp hk;rwa [dz] at this
  unfold gM;rw[fO kn,fO kn,eq k kn];simp
structure B53(CW CH:Addr)(τ:Tg)(H:Hp)(r:Addr)(W:nW)(S1:dR)(l:List Tc)(a tl:Addr)(tls:List Addr)(n:Nat):Prop where
 w:j_ CW CH 1 τ H W S1
 T:RT τ H r
 ea:lA H a (l.map eX)
 ta:τ a=[9]
 et:H tl=some (.lst (tls.map V.ref))
 tt:τ tl=[9]
 nt:tls.length=n
 ps:∀k p,tls[k]? = some p->τ p=[9] /\ ∃us,H p=some (.lst us)/\aQ H us ((l.filter λt=>t.k=k).map K4)
theorem B53.mv{CW CH:Addr}{τ τ':Tg}{H H':Hp}{r:Addr}{W:nW}{S1:dR}{l:List Tc}{a tl:Addr}{tls:List Addr}{n:Nat}(u:B53 CW CH τ H r W S1 l a tl tls n)(w':j_ CW CH 1 τ' H' W S1)(T':RT τ' H' r)(kp:∀x o,H x=some o->τ x=[9]->H' x=some o/\τ' x=[9])(tup:∀x xs,H x=some (.tup xs)->H' x=some (.tup xs)):B53 CW CH τ' H' r W S1 l a tl tls n:=by
 obtain⟨refs,ea,da⟩:=u.ea;have e1:=kp _ _ ea u.ta;have e2:=kp _ _ u.et u.tt
 exact⟨w',T',⟨refs,e1.1,aQ.keep tup _ (cj tD yu _) da⟩,e1.2,e2.1,e2.2,u.nt,λk p h=>by
  obtain⟨t,us,e,d⟩:=u.ps k p h;have e3:=kp _ _ e t;exact⟨e3.2,us,e3.1,aQ.keep tup _ (wB _) d⟩⟩
theorem B53.same{CW CH:Addr}{τ:Tg}{H H':Hp}{r:Addr}{W:nW}{S1:dR}{l:List Tc}{a tl:Addr}{tls:List Addr}{n:Nat}(u:B53 CW CH τ H r W S1 l a tl tls n)(s:Same H H'):B53 CW CH τ H' r W S1 l a tl tls n:=
 u.mv (u.w.same s) (u.T.same s) (λ_ _ e t=>⟨s _ _ e,t⟩) s.tups
theorem B53.made{CW CH:Addr}{τ τ':Tg}{H H':Hp}{r:Addr}{W:nW}{S1:dR}{l:List Tc}{a tl:Addr}{tls:List Addr}{n:Nat}(u:B53 CW CH τ H r W S1 l a tl tls n)(s:Same H H')(tg:∀x o,H x=some o->τ' x=τ x)(un:qw τ' H'):B53 CW CH τ' H' r W S1 l a tl tls n:=
 u.mv (u.w.mv (Mv.tags s tg) un) (u.T.made s tg un) (λ_ _ e t=>⟨s _ _ e,(tg _ _ e).trans t⟩) s.tups
theorem B53.draw{CW CH:Addr}{τ:Tg}{H H':Hp}{r:Addr}{W:nW}{S1:dR}{l:List Tc}{a tl:Addr}{tls:List Addr}{n:Nat}(u:B53 CW CH τ H r W S1 l a tl tls n)(d:Dr τ r H H')(T':RT τ H' r):B53 CW CH τ H' r W S1 l a tl tls n:=
 u.mv (u.w.mv d.mv T'.un) T' (λ_ _ e t=>⟨d.k _ _ e (by rw[t];simp),t⟩) d.t
theorem B53.stp{CW CH:Addr}{i:Nat}{τ:Tg}{H H':Hp}{r:Addr}{W:nW}{S1:dR}{l:List Tc}{a tl:Addr}{tls:List Addr}{n:Nat}(u:B53 CW CH τ H r W S1 l a tl tls n)(i0:i≠0)(i1:i≠1)(i9:i≠9)(s:mQ i τ H H'):B53 CW CH τ H' r W S1 l a tl tls n:=
 u.mv (u.w.mv (Mv.nO s i1 i0) (s.un u.w.un)) (u.T.stp s) (λ_ _ e t=>⟨s.keep _ _ e (by rw[t];intro z;exact i9 (aaC z).symm),t⟩) s.tup
theorem Ru.b53{CW CH:Addr}{τ0 τ:Tg}{H0 H:Hp}{r:Addr}{W:nW}{S S1:dR}{l:List Tc}{a tl:Addr}{tls:List Addr}(u:Ru CW CH 1 9 τ0 H0 τ H r W S S1 l a tl tls):B53 CW CH τ H r W S1 l a tl tls S.hs.length:=
 ⟨u.w,u.T,u.ea,u.ta,u.et,u.tt,u.nt,λk p h=>let ⟨t,_,_,q⟩:=u.ps k p h;⟨t,q⟩⟩
noncomputable def RW(t:List Nat)(τ:Tg)(H H':Hp):Tg:=λx=>if (H x).isSome then τ x else if (H' x).isSome then t else τ x
theorem S5{t:List Nat}{τ:Tg}{H H':Hp}{x:Addr}{o:HO}(e:H x=some o):RW t τ H H' x=τ x:=by unfold RW;rw[e];rfl
theorem Jt{t:List Nat}{τ:Tg}{H H':Hp}{x:Addr}{o:HO}(n:H x=none)(e:H' x=some o):RW t τ H H' x=t:=by unfold RW;rw[n,e];rfl
theorem Xe{t:List Nat}{τ:Tg}{H H':Hp}(k:Same H H')(u:qw τ H):qw (RW t τ H H') H':=λx e=>by
 unfold RW;rw[k.free e,e];exact u x (k.free e)
theorem XM{H:Hp}{L D:Addr}{rs:List Addr}{rws:List (List Rw)}{m:Nat}{Q:VK}(eL:H L=some (.lst (rs.map V.ref)))(len:rs.length=rws.length)(row:∀(k:Nat)(r:Addr)(x:List Rw),rs[k]? = some r->rws[k]? = some x->dO H r m x)(hD:H D=none)(n8:rs.length<=8)(go:∀(H':Hp)(qs:List Addr),Same H H'->H' D=some (.lst (qs.map V.ref))->qs.length=rws.length->(∀q∈qs,H q=none)->(∀(k:Nat)(q:Addr)(x:List Rw),qs[k]? = some q->rws[k]? = some x->dO H' q m x)->Q (.ref D) H'):
 fK (RL K L) (cN 0) qF (tCB (JG K) (h_ (cW 0) qC)) Q D [none] H:=by
 refine gA (K:=K) (xs:=rs.map V.ref) (λi σ Hc=>∃(v:Option V) (qs:List Addr),σ=[v]/\Same H Hc/\Hc D=some (.lst (qs.map V.ref))/\qs.length=i/\(∀q∈qs,H q=none) /\ ∀(k:Nat)(q:Addr)(x:List Rw),qs[k]? = some q->rws[k]? = some x->q≠D/\dO Hc q m x)
  ⟨none,[],acg,aG hD,ak,acg,by simp,λk q x e=>by simp at e⟩ (λi σ Hc _ ⟨_,_,_,s,_⟩=>bI.of (s _ _ eL)) ?_ ?_
 .rintro i v σ Hc hi ⟨v0,qs,rfl,s,eD,lq,q0,hq⟩
  rw[aaf] at hi
  obtain⟨r,er,rfl⟩:∃r,rs[i]? = some r/\v = .ref r:=by
   cases e:rs[i]? with
   | none=>rw[e] at hi;cases hi
   | some r=>rw[e] at hi;exact⟨r,acg,(aaC hi).symm⟩
  have il:=(aae.mp er).1;obtain⟨x,ex⟩:∃x,rws[i]? = some x:=⟨_,aad (by lia)⟩;obtain⟨ts,e1,d1,ok1⟩:=(row i r x er ex).same s;dsimp only[cN,qF];rw[acd rfl];refine⟨_,acg,r,ts,acg,.inl (bI.of e1),λq hq0=>?_⟩;have sq:=aG (o:=HO.lst ts) hq0;have qD:q≠D:=λz=>by rw[z,eD] at hq0;cases hq0
  have R1:dO (upd Hc q (.lst ts)) q m x:=⟨ts,ak,d1.same sq _,ok1⟩;have eD1:=sq _ _ eD;have s1:=s.trans sq;generalize upd Hc q (.lst ts)=H1 at sq R1 eD1 s1 ⊢;have tu:∀x ys,H1 x=some (.tup ys)->(upd H1 D (.lst (qs.map V.ref++[V.ref q]))) x=some (.tup ys):=λx ys e=>by rw[aF (dg e eD1 (by intro z;cases z))];exact e
  refine⟨_,eD1,(by rw[aac,lq,sizeLine_eq];lia),_,qs++[q],acg,λx o e=>by rw[aF (aB e hD)];exact s1 _ _ e,by rw[ak,aa3];rfl,by simp[lq],λy hy=>?_,λk y z h1 h2=>?_⟩
  .rcases abb.mp hy with hy|hy
   .exact q0 y hy
   .rw[aby.mp hy];exact s.free hq0
  .rcases mK h1 with h1|⟨ek,rfl⟩
   .obtain⟨n1,R'⟩:=hq k y z h1 h2
    exact⟨n1,(R'.same sq).keep (λo e=>by rw[aF n1];exact e) tu⟩
   .rw[ek,lq,ex] at h2
    cases h2;exact⟨qD,R1.keep (λo e=>by rw[aF qD];exact e) tu⟩
 .rintro σ Hc ⟨v0,qs,rfl,s,eD,lq,q0,hq⟩
  rw[aac] at lq;exact go Hc qs s eD (by lia) q0 λk q x h1 h2=>(hq k q x h1 h2).2
structure DG(CR CW CH:Addr)(τ:Tg)(H:Hp)(r:Addr)(W:nW)(S1:dR)(l:List Tc)(a tl:Addr)(tls:List Addr)(n:Nat)(g:Addr)(R:M5)(S T:dR)(ns:List Nt)(o:List Nat):Prop where
 b:B53 CW CH τ H r W S1 l a tl tls n
 rp:j6 CR CW CH 3 4 τ H R T (gY l n) ns (gY (pick l o) n)
 eg:H g=some (.lst ((gY (pick l o) n).map V.int))
 tg:τ g=[10]
 O:vI l o
 run:Run S (pick l o) T
section
variable{CR CW CH:Addr}{τ τ':Tg}{H H':Hp}{r:Addr}{W:nW}{S1:dR}{l:List Tc}{a tl g:Addr}{tls:List Addr}{n:Nat}{R:M5}{S T:dR}{ns:List Nt}{o:List Nat}
theorem DG.same(u:DG CR CW CH τ H r W S1 l a tl tls n g R S T ns o)(s:Same H H'):DG CR CW CH τ H' r W S1 l a tl tls n g R S T ns o:=⟨u.b.same s,u.rp.same s,s _ _ u.eg,u.tg,u.O,u.run⟩
theorem DG.made(u:DG CR CW CH τ H r W S1 l a tl tls n g R S T ns o)(s:Same H H')(tg:∀x o,H x=some o->τ' x=τ x)(un:qw τ' H'):DG CR CW CH τ' H' r W S1 l a tl tls n g R S T ns o:=
 ⟨u.b.made s tg un,u.rp.mv (Mv.tags s tg) (Mv.tags s tg) un,s _ _ u.eg,(tg _ _ u.eg).trans u.tg,u.O,u.run⟩
theorem DG.draw(u:DG CR CW CH τ H r W S1 l a tl tls n g R S T ns o)(d:Dr τ r H H')(T':RT τ H' r):DG CR CW CH τ H' r W S1 l a tl tls n g R S T ns o:=
 ⟨u.b.draw d T',u.rp.mv d.mv d.mv T'.un,d.k _ _ u.eg (by rw[u.tg];simp),u.tg,u.O,u.run⟩
theorem DG.turn{b:Nat}{x:Tc}{H2:Hp}(u:DG CR CW CH τ H r W S1 l a tl tls n g R S T ns o)(eb:l[b]? = some x)(xn:x.k<n)(O':vI l (o++[b]))(at1:M9 T x)(rp':j6 CR CW CH 3 4 τ H' R (cJ T x.k) (gY l n) ns (jc (gY (pick l o) n) x.k))(st:St2 3 4 τ H H')(s:Same H' H2):
 B53 CW CH τ H2 r W S1 l a tl tls n/\H2 g=some (.lst ((gY (pick l o) n).map V.int))/\DG CR CW CH τ (upd H2 g (.lst ((jc (gY (pick l o) n) x.k).map V.int))) r W S1 l a tl tls n g R S (cJ T x.k) ns (o++[b]):=by
 obtain⟨Hm,st3,rT⟩:=st;have b1:=((u.b.stp (by decide) (by decide) (by decide) st3).stp (by decide) (by decide) (by decide) rT).same s;have hd:∀i:Nat,i≠10->(τ g).head?≠some i:=λi ne=>by rw[u.tg];intro z;exact ne (aaC z).symm
 have eg:=s _ _ (rT.keep _ _ (st3.keep _ _ u.eg (hd 3 (by decide))) (hd 4 (by decide)));have sg:mQ 10 τ H2 (upd H2 g (.lst ((jc (gY (pick l o) n) x.k).map V.int))):=mQ.set (by rw[u.tg];rfl) eg (by intro xs z;cases z);have ep:pick l (o++[b])=pick l o++[x]:=by rw[jX,jG eb];rfl
 have eq:gY (pick l (o++[b])) n=jc (gY (pick l o) n) x.k:=by rw[ep,FJ xn]
 refine⟨b1,eg,b1.stp (by decide) (by decide) (by decide) sg, ?_,by rw[ak,eq],u.tg,O', ?_⟩
 .rw[eq]
  exact(rp'.same s).mv (Mv.nO sg (by decide) (by decide)) (Mv.nO sg (by decide) (by decide)) (sg.un b1.w.un)
 .rw[ep]
  exact Run.app.mpr ⟨T,u.run,at1,acg⟩
theorem DG.len(u:DG CR CW CH τ H r W S1 l a tl tls n g R S T ns o)(hn:∀x∈l,x.k<n):(gY l n).sum - (gY (pick l o) n).sum=(l.length:Int) - (o.length:Int):=by
 rw[CP n _ l rfl hn,CP n _ (pick l o) rfl (λx hx=>by
  obtain⟨i,_,e⟩:=List.mem_filterMap.mp hx;exact hn x (aap e)),u.O.rest.2]
theorem DG.begun(b:B53 CW CH τ H r W S1 l a tl tls n)(rp:j6 CR CW CH 3 4 τ H R S (gY l n) ns (List.replicate n 0))(hg:H g=none):DG CR CW CH (aR τ g [10]) (upd H g (.lst (List.replicate n (V.int 0)))) r W S1 l a tl tls n g R S S ns []:=by
 have s:=aG (o:=HO.lst (List.replicate n (V.int 0))) hg
 have e0:gY (pick l []) n=List.replicate n 0:=by
  have:pick l []=[]:=acg;rw[this];refine List.ext_getElem? λk=>?_;unfold gY
  by_cases z:k<n<;>simp[z,kc]
 have tgo:∀x o,H x=some o->aR τ g [10] x=τ x:=λx o e=>aV (aB e hg);have un:=b.T.un.claim (t:=[10]) s (p:=g) ⟨_,ak⟩;refine⟨b.made s tgo un, ?_, ?_,bK,.nil,acg⟩
 .rw[e0]
  exact rp.mv (Mv.tags s tgo) (Mv.tags s tgo) un
 .rw[ak,e0,List.map_replicate]
end
theorem XQ{l:List Tc}{n:Nat}{few:Bool}{seq:List Nt}(n8:n<=8)(l50:l.length<=50)(ls:seq.length<=2501)(hn:∀x∈l,x.k<n)(N:Gw l few seq):Av (gY l n) seq:=by
 refine⟨⟨by rw[dz];exact n8,λc hc=>?_⟩,by lia,λx hx=>?_⟩
 .obtain⟨k,_,rfl⟩:=abn.mp hc
  have:kc l k<=l.length:=List.length_filter_le _ _;lia
 .obtain⟨i,j,jl,td,rfl⟩:=(N x).mp hx
  have lt:=Bd td;obtain⟨_,⟨u,v,e1,e2,mt⟩,_⟩:=td;obtain⟨y,ey⟩:∃y,l[i]? = some y:=⟨_,aad (by lia)⟩;obtain⟨z,ez⟩:∃z,l[j]? = some z:=⟨_,aad jl⟩;rw[aaf,ey] at e1;rw[aaf,ez] at e2;cases e1;cases e2;have yn:=hn y (aap ey);have zn:=hn z (aap ez);have c1:=HY ey;have c2:=HY ez;have ne:=(J0.mp mt).1;rw[Cm ey ez];unfold ZR;dsimp only;rw[dz,fO yn,fO zn];refine⟨⟨by lia,by lia⟩,⟨by lia,by lia⟩,⟨by lia,by lia⟩,⟨by lia,by lia⟩,ne⟩
theorem Gs{S T:dR}(al:Dy S T):vo S=vo T/\W9 S=W9 T:=by
 have c:vU S=vU T:=by
  unfold vU;rw[al.hs];refine List.map_congr_left λk _=>?_;rw[al.ts.count_eq]
 constructor
 .unfold vo
  rw[c,al.ns,al.hs,al.ts.length_eq]
 .unfold W9 Ku JH
  rw[c,al.ns,al.hs,al.m]
noncomputable def Jy(K:PySem.W.Frag):Sp:=λvs H Q _=>∃(a:Addr) (ns:List Int),vs=[.ref a]/\bI K H a (ns.map V.int)/\ns.length<=63 /\ ∀H',Q (.bl true) H'
theorem Ys{aH ao aq bD bW g_:Addr}{f:Addr}{fd:FuncData}(F:fQ K "law" "law" Oo f fd)(V2:FnAt P w K mg base 1 "_law_reel" ["script"] (Jw K))(bT:FnAt P w K mg base 1 "_law_draw" ["reel","many"] (jB K))(Jb:FnAt P w K mg base 5 "_law_program" ["reel"] (Od K))(Jc:FnAt P w K mg base 2 "_law_numbers" ["reel","many"] (Og K))(wH:pW P w K mg base 7 ao "Works" ["self","program","cells"] [] (λvs H Q _=>m8 ao aq bW K vs H Q λ_ _ _=>False))(ZW:FnAt P w K mg base 9 "_law_run" ["reel","works","hands","turns"] (GX ao aq K))(M8:FnAt P w K mg base 4 "_law_record" ["reel","web","hands"] (Oc K))(RG:pW P w K mg base 10 aH "Replay" ["self","works","record"] [] (λvs H Q _=>Bm aH ao aq bD K vs H Q λ_ _ _=>False))(qP:MethAt P w K mg base 6 aH "free" ["self"] (Bo aH ao aq K))(qQ:MethAt P w K mg base 1 aH "done" ["self"] (Bp aH ao aq K))(mR:MethAt P w K mg base 2 aH "__len__" ["self"] (GZ aH ao aq K))(zJ:MethAt P w K mg base 8 aH "turn" ["self","hand"] (λvs H Q _=>Bl aH ao aq bD g_ K vs H Q λ_ _ _=>False))(yZ:FnAt P w K mg base 5 "_law_alike" ["found","due"] (rZ 4 K))(yV:MethAt P w K mg base 10 aH "works" ["self"] (wV aH ao aq K))(yU:MethAt P w K mg base 3 ao "__eq__" ["self","other"] (Ob ao aq K))(vJ:FnAt P w K mg base 5 "_law_all_told" ["one","many"] (uK ao aq K))(aN:eV K aH)(aK:cH K ao)(Bt:mV mg):bR P w K mg base ig 12 f fd ["script"] (Jy K):=by
 refine F.ok gG (λvs H Q E h=>?_) (λcdv A outer s H vs Q E hr h=>?_)
 .obtain⟨a,ns,rfl,_⟩:=h
  rfl
 .obtain⟨sc,YD,rfl,hs0,hlen,k⟩:=h
  have qG:=hr.units
  refine⟨_,(aA (bH (i:=1) gG.nd rfl (Or.inl rfl) (bN V2 (hr.mono (by decide)) (by rfl) (aj (pv 0) au)))
   (aA (bH (i:=2) gG.nd rfl (Or.inl rfl) (bN Jb (hr.mono (by decide)) (by rfl) (aj (pv 1) au)))
   (aA (bH (i:=3) gG.nd rfl (Or.inl rfl) (bN Jc (hr.mono (by decide)) (by rfl) (aj (pv 1) (aj (aO (aU (K:=K) rfl) (pv 2) aC (λ_ _=>rfl)) au))))
   (aA (bH (i:=4) gG.nd rfl (Or.inl rfl) (aW (aY (K:=K) rfl) (by rfl) Bt.dW cM (aj (aO (aU (K:=K) rfl) (pv 2) aC (λ_ _=>rfl)) au)))
   (aA (bH (i:=5) gG.nd rfl (Or.inl rfl) (mF wH (hr.mono (by decide)) (by rfl) (aj (pv 2) (aj (pv 3) au))))
   (aA (nJ (bN ZW (hr.mono (by decide)) (by rfl) (aj (pv 1) (aj (pv 5) (aj (pv 4) (aj (bY iy (bN bT (hr.mono (by decide)) (by rfl) (aj (pv 1) (aj aC au))) (aW (MK rfl) (by rfl) Bt.abP Zx (aj (aW (aY (K:=K) rfl) (by rfl) Bt.dW cM (aj (pv 0) au)) (aj aC au)))) au))))) (Ce (K:=K) (n:=2) rfl rfl (mD (bL (i:=6) gG.nd rfl (Or.inl rfl)) (mD (bL (i:=7) gG.nd rfl (Or.inl rfl)) Cd))))
   (aA (kE (i:=8) rfl gG.nd rfl (Or.inl rfl) (N:=["row"]) (own:=["row"]) (caps:=[]) (bB.of (by kernel_rfl)) (dH (K:=K) rfl (aO (aU (K:=K) rfl) (pv 2) aC (λ_ _=>rfl))) (λ_ _ _ _=>(bL (i:=0) (show List.Nodup (["row"]:List Str) by decide +kernel) rfl (Or.inl rfl))) (λ_ _ _ _=>cO) (λ_ _ _ _=>(cZ (cu (K:=K) rfl) (by rfl) Bt.gH eN (aj (pv 0) au))))
   (aA (bH (i:=9) gG.nd rfl (Or.inl rfl) (mF wH (hr.mono (by decide)) (by rfl) (aj (cX (aj (aO (aU (K:=K) rfl) (pv 2) aC (λ_ _=>rfl)) (aj (pv 8) au))) (aj (pv 3) au))))
   (aA (dh (wg (K:=K) rfl PySem.F.plainAttrs_list PySem.F.slot_list_clear PySem.F.type_list_clear Fj (wg (K:=K) rfl PySem.F.plainAttrs_list PySem.F.slot_list_pop PySem.F.type_list_pop YJ (pv 8))))
   (aA (dh (wg (K:=K) rfl PySem.F.plainAttrs_list PySem.F.slot_list_clear PySem.F.type_list_clear Fj (pv 8)))
   (aA (bH (i:=10) gG.nd rfl (Or.inl rfl) (mF RG (hr.mono (by decide)) (by rfl) (aj (pv 9) (aj (bN M8 (hr.mono (by decide)) (by rfl) (aj (pv 1) (aj (pv 6) (aj (pv 4) au)))) au))))
   (aA (bH (i:=11) gG.nd rfl (Or.inl rfl) (bY Ht (cY (aj aC au)) (pv 4)))
   (aA (jr PassesOwn.never rfl (cR (by rfl) Bt.dN (aj (aW (aY (K:=K) rfl) (by rfl) Bt.dW cM (aj (pv 6) au)) au)) (bL (i:=12) gG.nd rfl (Or.inl rfl))
   (aA (bH (i:=13) gG.nd rfl (Or.inl rfl) (cC qP aN.cls (hr.mono (by decide)) (pv 10)))
   (aA (cB (PW.pt (jV (bF (sX (K:=K) rfl qG) (pv 13) (cY au) (bw _)) (jV (bF JQ (cC qQ aN.cls (hr.mono (by decide)) (pv 10)) oA (bw _)) (jU (bF kW (aW (u_ mR (hr.mono (by decide))) (by rfl) Bt.dW cM (aj (pv 10) au)) (bY rm (aW (aY (K:=K) rfl) (by rfl) Bt.dW cM (aj (pv 6) au)) (pv 12)) (bw _)))))) (aJ (bA oA)) bJ)
   (aA (bH (i:=14) gG.nd rfl (Or.inl rfl) (aO (aP (K:=K) rfl) (pv 13) (bN bT (hr.mono (by decide)) (by rfl) (aj (pv 1) (aj (aW (aY (K:=K) rfl) (by rfl) Bt.dW cM (aj (pv 13) au)) au))) (λ_ _=>rfl)))
   (aA (cB (PW.pt (jV (bF dU (aO (aP (K:=K) rfl) (pv 11) (pv 14) (λ_ _=>rfl)) (aW (aY (K:=K) rfl) (by rfl) Bt.dW cM (aj (aO (aP (K:=K) rfl) (pv 7) (pv 14) (λ_ _=>rfl)) au)) (bw _)) (jU (gU (dB (bN yZ (hr.mono (by decide)) (by rfl) (aj (b_ zJ aN.cls (hr.mono (by decide)) (pv 10) (aj (pv 14) au)) (aj (aO (aP (K:=K) rfl) (aO (aP (K:=K) rfl) (pv 7) (pv 14) (λ_ _=>rfl)) (aO (aP (K:=K) rfl) (pv 11) (pv 14) (λ_ _=>rfl)) (λ_ _=>rfl)) au)))))))) (aJ (bA oA)) bJ)
   (aJ (nJ (bY iy (aO (aP (K:=K) rfl) (pv 11) (pv 14) (λ_ _=>rfl)) aC) (pq (pv 11) (pv 14) set_list))))))))
   (aA (bH (i:=15) gG.nd rfl (Or.inl rfl) (cC yV aN.cls (hr.mono (by decide)) (pv 10)))
   (aA (cB (PW.pt (jV (bF (Cg (K:=K) rfl qG) (cC qP aN.cls (hr.mono (by decide)) (pv 10)) (cY au) (bw _)) (jV (bF JQ (cC qQ aN.cls (hr.mono (by decide)) (pv 10)) oA (bw _)) (jU (bF kW (aW (u_ mR (hr.mono (by decide))) (by rfl) Bt.dW cM (aj (pv 10) au)) aC (bw _)))))) (aJ (bA oA)) bJ)
   (aJ (bA (jt (cI (Ym yU (hr.mono (by decide))) (pv 15) (pv 5) (bw _)) (iR (cI (sX (K:=K) rfl qG) (bN vJ (hr.mono (by decide)) (by rfl) (aj (pv 15) (aj (pv 4) au))) (bN vJ (hr.mono (by decide)) (by rfl) (aj (pv 5) (aj (pv 4) au))) (bw _))))))))))))))))))))), ?_⟩
  refine⟨_,acg,sc,YD,acg,hs0,hlen,λr H1 hr0 R1 s1=>?_⟩;have T1:RT (λ_=>[]) H1 r:=⟨R1,λx o e t=>ace rfl t,λ_ _=>rfl⟩;refine⟨_,acg,r,λ_=>[],acg,T1,λp PL rs rws m τ3 H3 g3 p0 p8 m0 YK l60 T3 tg3 kp3=>?_⟩;refine⟨_,acg,_,acg,_,_,_,_,acg,acg,cD.of g3.ep,acg,r,τ3,m,acg,T3,YK,λnv ns τ4 H4 nv4 T4 tg4 YQ=>?_⟩;have aa9:∀i,Mv i τ3 H3 τ4 H4:=λi=>⟨λx o e t=>⟨YQ _ _ e (T3.off x o e (by rcases t with t|t;rw[t];simp;intro z;rw[z] at t;cases t)).1,tg4 x o e⟩,λx xs e=>T3.R.tups YQ _ _ e⟩;have g4:=g3.mv (aa9 0);have sc4:∀o,H sc=some o->H4 sc=some o/\sc≠r:=λo e=>⟨YQ _ _ (kp3 _ _ (s1 _ _ e) (aB e hr0)) (aB e hr0),aB e hr0⟩;clear aa9 g3 T3 tg3 tg4 kp3 YQ T1 R1 s1;refine⟨_,acg,_,_,_,_,acg,acg,cD.of g4.ep,acg,PL,_,acg,.inl (bI.of g4.eL), ?_⟩;rw[aac];dsimp only[cN];have gd0:j8 (vV m ns rws):=Ma nv4.1.2
  have l0:(vV m ns rws).hs.length=rs.length:=by
   show (rws.map _).length=_;rw[aac,g4.len]
  have rl8:rs.length<=8:=by rw[g4.len];exact p8
  have rl0:0<rs.length:=by rw[g4.len];exact p0
  refine⟨_,acg,_,acg,J1 (i:=1) (τ:=τ4) g4.h (by lia) (by lia) T4.un (by decide) nv4.h λτ5 W H5 w5 tg5 s5=>?_⟩;have T5:=T4.made s5 tg5 w5.un;have g5:=g4.mv (Mv.tags (i:=0) s5 tg5);have nv5:=nv4.mv (Mv.tags (i:=0) s5 tg5);refine⟨_,acg,_,acg,_,acg,_,acg,r,13,acg,T5.R,by decide,by decide,λy H6 y0 y1 R6 k6=>⟨_,acg,sc,_,acg,.inl (Oa hs0 λo e=>k6.1 _ _ (s5 _ _ (sc4 o e).1) (sc4 o e).2),_,_,acg,_,_,acg,acg, ?_⟩⟩;have T6:=T5.draw k6 R6;have d6:=Dr.draw T5 k6;have w6:=w5.mv (i:=1) d6.mv T6.un;have g6:=g5.mv (i:=0) d6.mv;have nv6:=nv5.mv (i:=0) d6.mv;obtain⟨mm,em,m50⟩:∃mm:Nat,(y+(if (30:Int)<((YD.map V.int).length:Int) then 30 else ((YD.map V.int).length:Int)))=mm/\mm<=50:=⟨(y+(if (30:Int)<((YD.map V.int).length:Int) then 30 else ((YD.map V.int).length:Int))).toNat,by split<;>lia,by split<;>lia⟩;clear sc4 s5 tg5 g4 nv4 T4 w5 T5 g5 nv5 k6 d6 hs0 hlen R6 hr0;refine⟨r,1,9,τ5,W,vV m ns rws,mm, ?_,T6,w6,gd0,by show 0<=100;lia,m50,by lia,by decide,by decide,λt a tl tls l S1 τ7 H7 et ru ln=>?_⟩
  .show [V.ref r,V.ref W.o,V.int rs.length,V.int (y+(if (30:Int)<((YD.map V.int).length:Int) then 30 else ((YD.map V.int).length:Int)))]=_
   rw[em,l0]
  have g7:PgH H7 p PL rs rws m:=by
   have kp:∀x o,H6 x=some o->τ5 x=[0]->H7 x=some o:=λx o e t=>ru.fr.keep _ _ e (by rw[t];simp) (by rw[t];simp);exact⟨ru.fr.tup _ _ g6.ep,kp _ _ g6.eL g6.tL,g6.len,λk q x h1 h2=>(g6.row k q x h1 h2).2.keep (λo e=>kp _ _ e (g6.row k q x h1 h2).1) ru.fr.tup⟩
  have nv7:Ry H7 nv ns m:=⟨nv6.1,nv6.2.elim .inl λ⟨l,e,t,h⟩=> .inr ⟨l,e,ru.fr.keep _ _ h (by rw[t];simp) (by rw[t];simp)⟩⟩;have b7:=ru.b53;rw[l0] at b7;have R0:=ru.R;have tch:=ru.tch;have hn:∀x∈l,x.k<rs.length:=λx hx=>by rw[←l0];exact Wi R0 x hx
  have l50:l.length<=50:=by lia
  clear g6 nv6 T6 w6 ru ln em;refine⟨t,_,acg,cD.of et,acg,_,_,acg,_,_,acg,acg, ?_⟩;dsimp only[cN];refine⟨_,acg,_,_,_,_,acg,acg,cD.of g7.ep,acg,PL,acg,⟨_,bI.of g7.eL⟩,λD hD=>?_⟩;show fK _ _ _ _ _ _ [none] H7;refine XM g7.eL g7.len g7.row hD rl8 λH8 qs s8 eD lq q0 hq=>?_;have K3:∀x u,H7 x=some u->RW [77] τ7 H7 H8 x=τ7 x:=λx u e=>S5 e;have tD8:RW [77] τ7 H7 H8 D=[77]:=Jt hD eD
  have tq8:∀q∈qs,RW [77] τ7 H7 H8 q=[77] /\ ∃us,H8 q=some (.lst us):=λq hm=>by
   obtain⟨kk,ek⟩:=List.getElem?_of_mem hm;have kl:=(aae.mp ek).1;obtain⟨us,e,_⟩:=hq kk q _ ek (aad (by lia));exact⟨Jt (q0 q hm) e,us,e⟩
  have b8:=b7.made s8 K3 (Xe s8 b7.T.un);have ep8:=s8 _ _ g7.ep;have nv8:Ry H8 nv ns m:=⟨nv7.1,nv7.2.elim .inl λ⟨l,e,h⟩=> .inr ⟨l,e,s8 _ _ h⟩⟩;generalize RW [77] τ7 H7 H8=τ8 at K3 tD8 tq8 b8;dsimp only[cN];refine⟨_,acg,_,_,_,_,acg,acg,cD.of ep8,acg,_,acg,(by show 2<=sizeLine;decide),λp2 hp2=>?_⟩;have s9:=aG (o:=HO.tup [V.int m,V.ref D]) hp2;have ep2:(upd H8 p2 (.tup [V.int m,V.ref D])) p2=some (.tup [V.int m,V.ref D]):=ak;have b9:=b8.same s9;have gB:PgH (upd H8 p2 (.tup [V.int m,V.ref D])) p2 D qs rws m:=⟨ep2,s9 _ _ eD,lq,λk q x h1 h2=>(hq k q x h1 h2).same s9⟩;have nv9:Ry (upd H8 p2 (.tup [V.int m,V.ref D])) nv ns m:=⟨nv8.1,nv8.2.elim .inl λ⟨l,e,h⟩=> .inr ⟨l,e,s9 _ _ h⟩⟩;have tq9:∀q∈qs,τ8 q=[77] /\ ∃us,(upd H8 p2 (.tup [V.int m,V.ref D])) q=some (.lst us):=λq hm=>⟨(tq8 q hm).1,(tq8 q hm).2.elim λus e=>⟨us,s9 _ _ e⟩⟩;clear g7 nv7 b7 eD hq tq8 b8 ep8 nv8 K3 s8 q0 hp2;generalize upd H8 p2 (.tup [V.int m,V.ref D])=H9 at s9 ep2 b9 gB nv9 tq9 ⊢;refine⟨_,acg,J1 (i:=2) (τ:=τ8) gB (by lia) (by lia) b9.T.un (by decide) nv9 λτa W2 Ha wa tga sa=>?_⟩;have ba:=b9.made sa tga wa.un;have eDa:=sa _ _ gB.eL;have V6:=(tga _ _ gB.eL).trans tD8
  have tqa:∀q∈qs,τa q=[77] /\ ∃us,Ha q=some (.lst us):=λq hm=>by
   obtain⟨t,us,e⟩:=tq9 q hm;exact⟨(tga _ _ e).trans t,us,sa _ _ e⟩
  clear gB nv9 tq9 b9 s9 sa tga ep2 hD;dsimp only[cN];obtain⟨q,eq⟩:∃q,qs[qs.length - 1]? = some q:=⟨_,aad (by lia)⟩;obtain⟨tq,us,ehq⟩:=tqa q (aap eq);refine⟨_,acg,.inl ⟨acg,_,bI.of eDa⟩,D,_,.ref q,acg,acg,eDa,(by rw[aac,aaf,eq];rfl), ?_⟩;have stA:mQ 77 τa Ha (upd Ha D (.lst (qs.map V.ref).dropLast)):=mQ.set (by rw[V6];rfl) eDa (by intro xs z;cases z)
  obtain⟨u1,e1⟩:∃u1,(upd Ha D (.lst (qs.map V.ref).dropLast)) q=some (.lst u1):=by
   by_cases z:q=D
   .exact⟨_,by rw[z,ak]⟩
   .exact⟨us,by rw[aF z];exact ehq⟩
  have eDb:∃u2,(upd Ha D (.lst (qs.map V.ref).dropLast)) D=some (.lst u2):=⟨_,ak⟩;generalize upd Ha D (.lst (qs.map V.ref).dropLast)=Hb at stA e1 eDb ⊢;obtain⟨u2,eDb⟩:=eDb;have stB:mQ 77 τa Hb (upd Hb q (.lst [])):=mQ.set (by rw[tq];rfl) e1 (by intro xs z;cases z)
  have Zn:∃u3,(upd Hb q (.lst [])) D=some (.lst u3):=by
   by_cases z:D=q
   .exact⟨_,by rw[z,ak]⟩
   .exact⟨u2,by rw[aF z];exact eDb⟩
  refine⟨.inl ⟨acg,_,bI.of e1⟩,q,_,acg,acg,e1, ?_⟩;generalize upd Hb q (.lst [])=Hc at stB Zn ⊢;obtain⟨u3,Zn⟩:=Zn;have stC:mQ 77 τa Hc (upd Hc D (.lst [])):=mQ.set (by rw[V6];rfl) Zn (by intro xs z;cases z);refine⟨_,acg,.inl ⟨acg,_,bI.of Zn⟩,D,_,acg,acg,Zn, ?_⟩;have st:=(stA.trans stB).trans stC;have bd:=ba.stp (by decide) (by decide) (by decide) st;have wd:=wa.mv (Mv.nO st (by decide) (by decide)) (st.un wa.un);clear stA stB stC st e1 eDb ehq us eq tqa u1 u2 ba wa eDa V6 tq;generalize upd Hc D (.lst [])=Hd at bd wd ⊢;clear Zn u3;refine⟨_,acg,_,acg,_,acg,_,acg,r,a,τa,l.map eX,rs.length,acg,bd.T,bd.ea,by rw[bd.ta];simp,by rw[aac];exact l50,rl8,λtr c ar seq few He Re ls mem Te de=>?_⟩;have be:=bd.draw de Te;have we:=wd.mv (i:=2) de.mv Te.un;rw[Vz] at Re;have N0:Gw l few seq:=λx=>by rw[mem x,aac]
  have Es:=XQ rl8 l50 ls hn N0;clear de mem bd wd Te;refine λo dx ho hdx ndx=>?_;have ho':(upd He dx (.own o)) o=none:=by rw[aF (Ne.symm ndx)];exact ho
  have sm:Same He (upd (upd He dx (.own o)) o (.ins aH dx [])):=(aG hdx).trans (aG ho');refine⟨2,3,4,τa,o,dx,tr,c,ar,W2,vV m ns rws,gY l rs.length,seq,acg,ak,be.T.un o ho,we.same sm,gd0,by show m<=100;lia,Re.same sm,Es,by decide,by decide,by decide,by decide,λhl τf R ns' Hf eo pm rp Z4 kpf=>⟨acg, ?_⟩,λbad=>ace (by rw[dz,l0]) bad⟩;have sf:Same He Hf:=λx u e=>kpf _ _ (sm _ _ e) (aB e ho);have tf:∀x u,He x=some u->τf x=τa x:=λx u e=>Z4 x u (sm _ _ e) (aB e ho);have bf:=be.made sf tf rp.w.un;rw[dz] at rp;have N:Gw l few ns':=λx=>(pm.mem_iff).trans (N0 x);rw[←eo];clear sm sf tf be we Re Es Z4 kpf pm N0 eo ho' ho hdx ndx hl;dsimp only[cN];refine⟨(by show 1<=sizeLine;decide),λq1 hq1=>⟨_,acg, ?_⟩⟩;have sq:=aG (o:=HO.lst [V.int 0]) hq1;refine⟨q1,_,_,acg,acg,ak,by lia,by lia,by rw[sizeLine_eq];simp;lia,λg hg=>?_⟩;rw[aa5,rep0,List.map_replicate];have u0:=DG.begun (bf.same sq) (rp.same sq) hg;clear bf rp sq;generalize upd (upd Hf q1 (.lst [V.int 0])) g (.lst (List.replicate rs.length (V.int 0)))=H0 at u0 ⊢;clear hg hq1;generalize aR τf g [10]=τ0 at u0;dsimp only[cN];obtain⟨refs,ea0,da0⟩:=u0.b.ea;have rl:refs.length=l.length:=by rw[da0.length,aac,aac]
  refine⟨_,acg,a,refs,acg,.inl (bI.of ea0),(l.length:Int),by rw[rl],by lia,by lia, ?_⟩;rw[aa5];refine iU (lo:=0) (n:=l.length) (λj σ Hc=>∃(x12 x13 x14 x15:Option V) (τc:Tg) (T:dR) (o:List Nat),σ=[some (.ref sc),some (.ref r),some (.ref p),some nv,some (.int rs.length),some (.ref W.o),some (.ref a),some (.ref tl),some (.ref D),some (.ref W2.o),some (.ref R.o),some (.ref g),x12,x13,x14,x15]/\DG aH ao aq τc Hc r W S1 l a tl tls rs.length g R (vV m ns rws) T ns' o/\o.length=j) ⟨_,_,_,_,τ0,_,[],acg,u0,acg⟩ ?_ ?_
  .rintro j σ Hc hj ⟨x12,x13,x14,x15,τc,T,o,rfl,u,lo⟩
   rw[Int.zero_add];have lg:o.length<l.length:=by lia
   dsimp only[cN];refine⟨_,acg,R.o,R.dx,_,acg,u.rp.o,acg,3,4,τc,R,T,_,_,ns',acg,u.rp,λfr Hd hfr QZ sfr=>?_⟩;have fne:=Mf u.O hn N lg R0 u.run;obtain⟨fl,efl⟩:∃fl,fl=yE T (gY l rs.length) ns' (gY (pick l o) rs.length):=⟨_,acg⟩;rw[←efl] at QZ fne;have Z4:∀x u,Hc x=some u->aR τc fr [11] x=τc x:=λx u e=>aV (aB e hfr);have ud:=u.made sfr Z4 (u.b.T.un.claim sfr ⟨_,QZ⟩);have tfr:aR τc fr [11] fr=[11]:=bK;clear u sfr;generalize aR τc fr [11]=τd at Z4 ud tfr;dsimp only[cN];refine⟨_,acg,(by show 0<=sizeLine;decide),λem hem=>?_⟩;have sem:=aG (o:=HO.lst []) hem;have Zm:(upd Hd em (.lst [])) em=some (.lst []):=ak;have ue:=ud.same sem;have Vr:=sem _ _ QZ;clear ud QZ Z4 hfr;generalize upd Hd em (.lst [])=He at sem Zm ue Vr ⊢;clear sem hem;have abD:He fr=some (.lst ((fl.map λk:Nat=>(k:Int)).map V.int)):=by rw[Vr,abE];rfl
   refine⟨_,_,cV abD,cV (ns:=[]) Zm,shaped_ints _,shaped_ints [],_,acg, ?_⟩;rw[ab' (by decide),mL PyData.int tV];rw[show decide ((fl.map λk:Nat=>(k:Int))=[])=false from aar (by simpa using fne)];refine cU ?_;have hlen:=ue.len hn;have ned:¬gY (pick l o) rs.length=gY l rs.length:=λz=>by rw[z] at hlen;lia
   refine⟨_,acg,R.o,R.dx,_,acg,ue.rp.o,acg,3,4,τd,R,T,_,_,ns',acg,ue.rp, ?_⟩;rw[aar ned];refine⟨false,false,acg,acg,_,acg,cU ?_⟩;refine⟨_,acg,R.o,R.dx,_,acg,ue.rp.o,⟨3,4,τd,R,T,_,_,ns',acg,ue.rp,λHf sf=>⟨_,acg,by lia,by lia, ?_⟩⟩⟩;have uf:=ue.same sf;have Zk:=sf _ _ Vr;clear ue sf Vr abD Zm;obtain⟨refs',ea',da'⟩:=uf.b.ea;have rl':refs'.length=l.length:=by rw[da'.length,aac,aac]
   refine⟨_,acg,a,refs',acg,.inl (bI.of ea'),_,acg,_,_,acg,acg, ?_⟩;rw[hlen,rl',lo];refine⟨acg,_,acg, ?_⟩;rw[aaq rfl];refine cU ?_;unfold zP;dsimp only
   have f8:fl.length<=8:=by
    rw[efl];have:=List.length_filter_le (λk=> !gM T (gY l rs.length) (gY (pick l o) rs.length) k&&(jx ns' (gY (pick l o) rs.length) k).isEmpty) (List.range (gY l rs.length).length);rw[List.length_range,dz] at this;unfold yE;rw[dz];lia
   have f0:0<fl.length:=List.length_pos_iff.mpr fne;refine⟨_,acg,_,acg,_,acg,fr,_,acg,.inl (bI.of Zk), ?_⟩;rw[aac];refine⟨r,_,acg,uf.b.T.R,by lia,by lia,λz Hg z0 z1 Rg kg=>?_⟩;have ug:=uf.draw (Dr.draw uf.b.T kg) (uf.b.T.draw kg Rg);have abC:=uf.b.T.keep kg Zk (by rw[tfr];simp);clear uf Zk kg Rg ea' da' rl';obtain⟨z,rfl⟩:=ab4 z0;obtain⟨kk,ek⟩:∃kk,fl[z]? = some kk:=⟨_,aad (by lia)⟩;obtain⟨kn,kf⟩:=abS.mp (efl▸aap ek:kk∈yE T (gY l rs.length) ns' (gY (pick l o) rs.length));rw[abY,dz] at kn;rw[aa6,Bool.not_eq_true',List.isEmpty_iff] at kf;refine⟨fr,_,z,.int kk,acg,acg,bI.of abC,bV (by rw[aaf,ek];rfl), ?_⟩;dsimp only[cN];clear ek z0 z1 abC fne f8 f0 efl hlen ned tfr
   have le:kc (pick l o) kk<=kc l kk:=by
    have:=(ug.rp.dn.2 kk (by lia) (by rw[dz];lia)).2;rw[fO kn,fO kn] at this;lia
   obtain⟨b,x,eb,rfl,O',fx⟩:=Mi ug.O tch hn N kn le kf.1 kf.2;have at1:=R0.next O' eb ug.run;obtain⟨pk,epk⟩:∃pk,tls[x.k]? = some pk:=⟨_,aad (by rw[ug.b.nt];exact kn)⟩;obtain⟨tpk,us,epu,dpu⟩:=ug.b.ps _ _ epk;have ul:us.length=kc l x.k:=by rw[dpu.length,aac];rfl
   have gx:gI (gY (pick l o) rs.length) x.k=kc (pick l o) x.k:=fO kn;have lx:kc (pick l o) x.k<kc l x.k:=(aae.mp fx).1;refine⟨_,acg,_,acg,g,_,x.k,_,acg,acg,bI.of ug.eg,ju (by lia) (by rw[dz];lia),_,acg,_,acg,tl,_,x.k,.ref pk,acg,acg,bI.of ug.b.et,bV (by rw[aaf,epk];rfl),pk,us,acg,.inl (bI.of epu), ?_⟩;rw[gx,ul];refine⟨acg,_,acg, ?_⟩;rw[aar (λz=>by have:=V.int.inj z;lia)];refine cU ?_
   have M_:T.ts.length<=9000:=by
    have e:(pick l o).length=o.length:=ug.O.rest.2;have:(vV m ns rws).ts=[]:=acg;rw[BX ug.run,this,aaD,aac,e];show 0+o.length<=9000;lia
   obtain⟨v2,ev2,dv2⟩:=dpu.getD (i:=kc (pick l o) x.k) (d:=K4 x) (by rw[aaf,fx];rfl);refine⟨_,acg,R.o,R.dx,_,acg,ug.rp.o,acg,_,acg,3,4,τd,R,T,_,_,ns',x.k,acg,ug.rp,M_,λk' e _=>?_,λk' s' r' t' Hh e1 e2 _ es ws er tr' tf tk rp' st=>?_,λbad=>ace ⟨by lia,by rw[dz];lia⟩ bad,λk' e _ ov=>?_⟩
   .have:k'=x.k:=by lia
    rw[this];exact kf.2
   rotate_left
   .have:k'=x.k:=by lia
    rw[this,kf.1] at ov;cases ov
   have:k'=x.k:=by lia
   subst this
   have dt:Dat Hh (.ref t') (K4 x):=by
    obtain⟨s2,q1,q2,q3,q4,q5⟩:=at1;rw[es] at q1;cases q1;rw[er] at q3;cases q3;have:=Mq tk;unfold wN at this;unfold K4;rw[q4,q5];exact this
   obtain⟨bh,egh,_⟩:=ug.turn eb kn O' at1 rp' st (Same.refl Hh);obtain⟨ahK,us2,afC,afK⟩:=bh.ps _ _ epk;obtain⟨v3,ev3,dv3⟩:=afK.getD (i:=kc (pick l o) x.k) (d:=K4 x) (by rw[aaf,fx];rfl);refine⟨_,acg,_,acg,tl,_,x.k,.ref pk,acg,acg,bI.of bh.et,bV (by rw[aaf,epk];rfl),_,acg,_,acg,g,_,x.k,_,acg,acg,bI.of egh,ju (by lia) (by rw[dz];lia), ?_⟩;rw[gx];refine⟨pk,us2,_,v3,acg,acg,bI.of afC,bV ev3,_,_,K4 x,acg,dt,dv3, ?_,λHi si=>⟨_,acg, ?_⟩⟩
   .obtain⟨s2,q1,q2,q3,q4,q5⟩:=at1
    have:=Pa (n:=2) T.ns s2.bs x.r;unfold wN at this;unfold K4;rw[q4,q5];exact this
   refine cU ?_;dsimp only;obtain⟨bi,egi,ui⟩:=ug.turn eb kn O' at1 rp' st si;refine⟨_,acg,_,acg,g,_,x.k,_,acg,acg,bI.of egi,ju (by lia) (by rw[dz];lia),_,_,acg,acg,_,acg,_,acg,g,_,x.k,_,acg,acg,egi,wz (by lia) (by rw[aac,dz];lia), ?_⟩;refine⟨_,_,_,_,τd,cJ T x.k,o++[b],acg, ?_,by simp[lo]⟩
   have es:List.map V.int (jc (gY (pick l o) rs.length) x.k)=(List.map V.int (gY (pick l o) rs.length)).set (x.k:Int).toNat (V.int (gI (gY (pick l o) rs.length) x.k+1)):=by
    unfold jc;rw[List.map_set];rfl
   rw[es] at ui;exact ui
  .rintro σ Hc ⟨x12,x13,x14,x15,τc,T,o,rfl,u,lo⟩
   obtain⟨eg,fz⟩:=Mh (ns:=ns') (T:=T) u.O lo u.rp.dn;have al:=R0.end u.O (u.O.whole lo) u.run;have gS:=xR R0 gd0;have gT:=xR u.run gd0;have hlen:=u.len hn;rw[lo,Int.sub_self] at hlen;have hS:S1.hs.length=rs.length:=by rw[(BZ R0).1,l0]
   have hT:T.hs.length=rs.length:=by rw[←al.hs];exact hS
   have tS:S1.ts.length<=10000:=by
    rw[BX R0,show (vV m ns rws).ts=[] from rfl,aaD,aac];show 0+l.length<=10000;lia
   have tT:T.ts.length<=10000:=by rw[←al.ts.length_eq];exact tS
   refine⟨_,acg,R.o,R.dx,_,acg,u.rp.o,acg,3,4,5,τc,R,T,_,_,ns',acg,u.rp,by decide,λτ1 W3 H1 w3 Z5 s1=>?_⟩;have u1:=u.made s1 Z5 w3.un;clear u s1 Z5;dsimp only[cN];refine⟨_,acg,R.o,R.dx,_,acg,u1.rp.o,acg,3,4,τ1,R,T,_,_,ns',acg,u1.rp,λfr H2 hfr QZ s2=>⟨(by show 0<=sizeLine;decide),λem hem=>?_⟩⟩;have sem:=aG (o:=HO.lst []) hem;have u2:=(u1.same s2).same sem;have w4:=(w3.same s2).same sem;rw[fz] at QZ;have QZ:=sem _ _ QZ;have Zm:(upd H2 em (.lst [])) em=some (.lst []):=ak;clear s2 sem hem hfr w3 u1;generalize upd H2 em (.lst [])=H3 at u2 w4 QZ Zm ⊢;refine⟨_,_,cV (ns:=[]) QZ,cV (ns:=[]) Zm,shaped_ints [],shaped_ints [],_,acg, ?_⟩;rw[acd rfl,mL PyData.int tV,show (!decide (([]:List Int)=[]))=false from rfl];refine cU ?_;refine⟨_,acg,R.o,R.dx,_,acg,u2.rp.o,acg,3,4,τ1,R,T,_,_,ns',acg,u2.rp, ?_⟩;rw[aaq eg];refine⟨true,true,acg,acg,_,acg,cU ?_⟩;refine⟨_,acg,R.o,R.dx,_,acg,u2.rp.o,⟨3,4,τ1,R,T,_,_,ns',acg,u2.rp,λH4 s4=>⟨_,acg,by lia,by lia, ?_⟩⟩⟩;rw[hlen];refine⟨acg,_,acg, ?_⟩;rw[aaq rfl];refine cU ?_;dsimp only;have w5:=w4.same s4;have b5:=u2.b.w.same s4;clear u2 w4 s4 QZ Zm eg fz hlen;refine⟨_,acg,_,acg,W3.o,W.o,W3.dx,W.dx,_,_,acg,acg,w5.o,b5.o,5,1,τ1,τ1,W3,W,T,S1,acg,w5,b5,gT,gS,λH5 s5=>?_⟩
   have eE:wkE T S1=true:=by
    unfold wkE;rw[(Gs al).2];exact QT (Ir gT w5.Es)
   rw[eE];refine⟨true,acg,true,acg,eO ?_⟩;have w6:=w5.same s5;have b6:=b5.same s5;refine⟨_,acg,_,acg,5,τ1,W3,T,by rw[hT];rfl,w6,tT,λt1 H6 d6 s6=>?_⟩;refine⟨_,acg,_,acg,1,τ1,W,S1,by rw[hS];rfl,b6.same s6,tS,λt2 H7 d7 s7=>?_⟩;refine⟨_,_,d6.same s7 _,d7,yK gT,yK gS, ?_⟩;rw[ab' aax,(Gs al).1,QT (yK gT)];exact k H7
end
theorem len0{us:List Value}(h:us.length=0):us=[]:=List.eq_nil_of_length_eq_zero h
theorem HN{us:List Value}{n:Nat}(h:us.length=n+1):∃a vs,us=a::vs/\vs.length=n:=by
 cases us with
 | nil=>cases h
 | cons a t=>exact⟨a,t,acg,Nat.succ.inj h⟩
theorem yQ{K:PySem.W.Frag}{T:Addr}{tc:Value}{td:Option Addr}{tn:Nat}{M_:Array (Option Value)}(d:K.lookup T=some ⟨tc,td,.seq #[.none] tn,M_⟩){kV doc pm:Value}{an:Option Addr}{cdv ct:Value}:Binds K (PySem.W.fnOf "__init__" "Works.__init__" (dM bU) (fU bU) (aM bU) (.ref T) kV doc pm an cdv ct) ["self","program","cells"] []:=by
 intro s us KX hl;have hl:us.length=3:=by simpa using hl
 obtain⟨_,_,rfl,h1⟩:=HN hl;obtain⟨_,_,rfl,h2⟩:=HN h1;obtain⟨_,_,rfl,h3⟩:=HN h2;cases len0 h3;exact PySem.W.binds_K KX rfl d rfl rfl rfl
theorem yP{K:PySem.W.Frag}{T:Addr}{tc:Value}{td:Option Addr}{tn:Nat}{M_:Array (Option Value)}(d:K.lookup T=some ⟨tc,td,.seq #[.none] tn,M_⟩){kV doc pm:Value}{an:Option Addr}{cdv ct:Value}:Binds K (PySem.W.fnOf "__init__" "Works.__init__" (dM bU) (fU bU) (aM bU) (.ref T) kV doc pm an cdv ct) ["self","program","cells"] [.none]:=by
 intro s us KX hl;have hl:us.length=2:=by simpa using hl
 obtain⟨_,_,rfl,h1⟩:=HN hl;obtain⟨_,_,rfl,h2⟩:=HN h1;cases len0 h2;exact PySem.W.binds_K KX rfl d rfl rfl rfl
theorem yO{K:PySem.W.Frag}{T:Addr}{tc:Value}{td:Option Addr}{tn:Nat}{M_:Array (Option Value)}(d:K.lookup T=some ⟨tc,td,.seq #[.none] tn,M_⟩){kV doc pm:Value}{an:Option Addr}{cdv ct:Value}(s:Shared)(us:List Value)(z:Value)(KX:K.In s.heap)(hl:(us++[z]).length=(["self","program","cells"]:List Str).length):BindsTo s (PySem.W.fnOf "__init__" "Works.__init__" (dM bU) (fU bU) (aM bU) (.ref T) kV doc pm an cdv ct) ⟨us,[("cells",z)]⟩ ((["self","program","cells"]:List Str).zip (us++[z])):=by
 have hl:us.length=2:=by simpa using hl
 obtain⟨_,_,rfl,h1⟩:=HN hl;obtain⟨_,_,rfl,h2⟩:=HN h1;cases len0 h2;exact PySem.W.binds_K KX rfl d rfl rfl rfl
theorem all_mk{l:PySem.W.OpenLaw}{w:World}{K:PySem.W.Frag}{h:Heap}{mg:Str->Option Value}{fa WR T13 aq ao aH bW bD g_ vK RV GC:Addr}(X:K.In h)(G:h.Ns mainGlobals mg)(hfa:mg "law" = some (.ref fa))(Ds:Je K "Hand" aq)(gC:Je K "Works" ao)(uq:Je K "Replay" aH)(Aw:VR K aq ["rows","at","in_boxes","sayings","state"])(wI:VR K ao ["program","numbers","hands","turns"])(uw:VR K aH ["record","firsts","stage","progress"])(ycg:XcI K)(uy:PySem.W.findIn K (.ref ao) "__class__" = some (some (.builtin "object.__class__")))(ux:PySem.W.mroIn K ao (.type "object")=some true)(oM:Sq K "NoNumber" bW)(uE:Sq K "NoHand" bD)(Ay:Sq K "Over" g_)(mX:Sq K "NoteError" vK)(Az:Sq K "Held" RV)(uD:Sq K "NoNote" GC)(gn:Gu K bW vK true)(jw:Gu K bW RV false)(iC:Gu K bW GC false)(xcc:XcI K)(oK:XrI K bW)(uz:XrI K bD)(Ax:XrI K g_){QG:Tok}(CT:PySem.W.nsIn K mainGlobals "BOXES" = some (some (.str "abcdefgh" QG))){QF:Tok}(CQ:PySem.W.nsIn K mainGlobals "ROUND" = some (some (.int 1000 QF))){rE:Tok}(iz:PySem.W.nsIn K mainGlobals "MOST_UNTOUCHING" = some (some (.int 60 rE)))(q0:iH K "is_whole" qU)(q1:iH K "is_below" qW)(q2:gF K aq "__init__" "Hand.__init__" o8)(q3:iH K "cell_of" uT)(q4:gF K aq "value_of" "Hand.value_of" gP)(q5:gF K aq "holds" "Hand.holds" nH)(q6:gF K aq "take" "Hand.take" o7)(q7:gF K aq "do" "Hand.do" uV)(q8:gF K aq "lead_on" "Hand.lead_on" jQ)(q9:iH K "check_numbers" jk)(K8:gF K ao "touch_by" "Works.touch_by" iJ)(q11:gF K ao "hand_of" "Works.hand_of" jo)(Wm:gF K ao "turn" "Works.turn" nF){aeR afU:Option Addr}{adO:Array (Option Value)}{aeS afh afM aeP abL afO:Value}{adA:Value}{adz:Option Addr}{adw:Nat}{aay:Array (Option Value)}(a13:PySem.W.findIn K (.ref ao) "__init__" = some (some (.ref WR)))(l13:K.lookup WR=some ⟨aeS,aeR,.func (PySem.W.fnOf "__init__" "Works.__init__" (dM bU) (fU bU) (aM bU) (.ref T13) afh afM aeP afU abL afO),adO⟩)(c13:PySem.W.codeIn K abL "Works.__init__" = true)(k13:PySem.W.keepIn K (.ref WR)=true)(n13:PySem.W.isFn K (.ref WR)=true)(Dz:K.lookup T13=some ⟨adA,adz,.seq #[.none] adw,aay⟩)(q14:iH K "_law_reel" BL)(q15:iH K "_law_draw" BR)(X4:iH K "_law_alike" sS)(q17:iH K "_law_plain" xM)(q18:iH K "_law_worth" xK)(q19:iH K "_law_row" G_)(q20:iH K "_law_program" qX)(q21:iH K "_law_numbers" qY)(q22:gF K ao "cells" "Works.cells" lF)(q23:gF K ao "boxes" "Works.boxes" lG)(q24:gF K ao "said" "Works.said" nG)(q25:gF K ao "how" "Works.how" oY)(q26:gF K ao "counts" "Works.counts" jM)(q27:gF K ao "__len__" "Works.__len__" jq)(q28:gF K aq "another" "Hand.another" jR)(q29:gF K ao "twin" "Works.twin" nA)(q30:gF K aq "picture" "Hand.picture" jP)(q31:gF K ao "picture" "Works.picture" jm)(q32:gF K ao "__eq__" "Works.__eq__" jN)(q33:iH K "_law_meet" BP)(q34:iH K "_law_ahead" xP)(q35:iH K "_law_covered" qZ)(q36:iH K "_law_notes" xO)(q37:iH K "_law_record" uU)(q38:iH K "_law_run" G9)(q39:iH K "firsts_of" oX)(q40:iH K "is_note" uR)(q41:iH K "is_between" nu)(q42:iH K "check_notes" lE)(q43:iH K "has" Oq)(q44:gF K aH "done" "Replay.done" lN)(q45:gF K aH "works" "Replay.works" jO)(q46:gF K aH "is_over" "Replay.is_over" iK)(q47:gF K aH "holding" "Replay.holding" iM)(q48:gF K aH "free" "Replay.free" lM)(q49:gF K aH "left" "Replay.left" lJ)(q50:gF K aH "__len__" "Replay.__len__" iQ)(q51:gF K aH "turn" "Replay.turn" lH)(q52:gF K aH "__init__" "Replay.__init__" lK)(q53:iH K "_law_all_told" oZ)(q54:iH K "law" Oo)(zb:RD K ["ValueError","all","bool","enumerate","int","isinstance","len","list","max","min","range","reversed","sorted","str","sum","tuple","zip"]):
 ∃fd:FuncData,(∀(s:Shared)(v:Value),BindsTo s fd ⟨[v],[]⟩ [("script",v)]) /\ ∀base:Heap,K.In base->base.Ns mainGlobals mg->bR l.prog w K mg base ig 12 fa fd ["script"] (Jy K):=by
 obtain⟨fl,fdl,al,Fl⟩:=q54;cases hfa.symm.trans (PySem.W.mg_of X G al);obtain⟨z0,z1,z2,z3,z4,z5,z6,z7,z8,z9,z10,z11,z12,z13,z14,z15,z16,_⟩:=zb.mg X G;have Bt:mV mg:=⟨z0,z1,z2,z3,z4,z5,z6,z7,z8,z9,z10,z11,z12,z13,z14,z15,z16⟩;obtain⟨n0,n1,n2,n3,n4,_⟩:=Aw;have aL:d9 K aq:=⟨Ds.cls,n0,n1,n2,n3,n4⟩;obtain⟨n0,n1,n2,n3,_⟩:=wI;have aK:cH K ao:=⟨gC.cls,n0,n1,n2,n3⟩;obtain⟨n0,n1,n2,n3,_⟩:=uw;have aN:eV K aH:=⟨uq.cls,n0,n1,n2,n3⟩;have wG:IsO K mg ao "Works" :=⟨PySem.W.mg_of X G gC.a,uy,ycg.cg,ycg.ct,ux⟩;have gD:Gv mg "BOXES" (.str "abcdefgh"):=⟨_,PySem.W.mg_of X G CT,⟨_,acg⟩⟩;have iD:Gv mg "ROUND" (.int 1000):=⟨_,PySem.W.mg_of X G CQ,⟨_,acg⟩⟩;have fV:Gv mg "MOST_UNTOUCHING" (.int 60):=⟨_,PySem.W.mg_of X G iz,⟨_,acg⟩⟩;have iV:=oM.r X G oK xcc;have fJ:=uE.r X G uz xcc;have pR:=Ay.r X G Ax xcc;have W0:=mX.o X G gn;have af4:=Az.o X G jw;have ab2:=uD.o X G iC;have F13:V1 K "__init__" "Works.__init__" bU [.none] WR _:=⟨⟨_,_,_,_,_,_,_,_,_,_,_,_,_,_,acg,l13,c13,Dz⟩,k13⟩;refine⟨fdl,Fl.bind1 (by kernel_rfl),λbase _ _=>?_⟩;have Y:W5 l.prog w K mg base:=⟨_,X,G⟩;have A0:=Y.fn q0 λF=>EY F Bt;have A1:=Y.fn q1 λF=>E_ F A0;have A2:=Y.ma Ds q2 (sp:=v7 aq K) λF=>Qe F aL gD;have A3:=Y.fn q3 λF=>Lh F;have af2:=Y.me q4 (sp:=wU aq 0 K) λF=>Uq F;have af0:=Y.me q4 λF=>JT (n:=0) F af2 aL gD iD;have A4:=Y.me q4 λF=>JT (n:=1) F af0 aL gD iD;have A5:=Y.me q5 (sp:=Br aq K) λF=>Qd F A4 aL;have A6:=Y.me q6 (sp:=Bk aq K) λF=>Ut F aL gD;have A7:=Y.me q7 (sp:=Xy aq K) λF=>aa2 F A4 A6 A5 aL;have A8:=Y.me q8 (sp:=Bq aq K) λF=>UL F A3 A7 aL fV Bt;have A9:=Y.fnX q9 (sp:=qR bW K) λF=>Fb F A1 iD Bt iV;have A10:=Y.me K8 (sp:=uH ao aq K) λF=>Hu F A3 A4 A6 aK aL;have A11:=Y.meX q11 (sp:=lZ ao aq bD K) λF=>Le F A1 aK Bt fJ;have A12:=Y.meX Wm (sp:=Bj ao aq bD g_ K) λF=>Us F A11 A10 A8 aK aL pR;have G13:=PK F13 aK aL A9 A2 A8 Bt;have A13:uo l.prog w K mg base 7 ao "Works" ["self","program","cells"] [] (m8 ao aq bW K):=⟨WR,_,_,G13,⟨gC.ms,a13,n13,gC.kp⟩,PySem.W.mg_of X G gC.a,yQ Dz,.nil⟩;have ahx:uo l.prog w K mg base 7 ao "Works" ["self","program","cells"] [.non] (m8 ao aq bW K):=⟨WR,_,_,G13,⟨gC.ms,a13,n13,gC.kp⟩,PySem.W.mg_of X G gC.a,yP Dz,.cons rfl .nil⟩;have ahw:V0 l.prog w K mg base 7 ao "Works" ["self","program","cells"] "cells" (m8 ao aq bW K):=⟨WR,_,G13,⟨gC.ms,a13,n13,gC.kp⟩,PySem.W.mg_of X G gC.a,yO Dz⟩;have A14:=Y.fn q14 λF=>P_ F Bt;have A15:=Y.fn q15 λF=>Qf F Bt;have abX:=Y.fn X4 (sp:=rZ 0 K) λF=>Li F;have abW:=Y.fn X4 λF=>qe (n:=0) F abX Bt;have abV:=Y.fn X4 λF=>qe (n:=1) F abW Bt;have abU:=Y.fn X4 λF=>qe (n:=2) F abV Bt;have A16:=Y.fn X4 λF=>qe (n:=3) F abU Bt;have A17:=Y.fn q17 λF=>Qc F A15;have A18:=Y.fn q18 λF=>PJ F A15 A17;have A19:=Y.fn q19 λF=>Yp F A15 A18 Bt;have A20:=Y.fn q20 λF=>Uy F A15 A19 Bt;have A21:=Y.fn q21 λF=>Uz F A15 Bt;have A22:=Y.me q22 (sp:=v8 ao aq K) λF=>Qg F aK Bt;have A23:=Y.meX q23 (sp:=uI bG.bs ao aq bD K) λF=>Qh F A11 aK aL Bt;have A24:=Y.meX q24 (sp:=uI bG.sy ao aq bD K) λF=>Uu F A11 aK aL Bt;have A25:=Y.meX q25 (sp:=zR ao aq bD K) λF=>Yt F A11 aK aL;have A26:=Y.me q26 (sp:=oU ao aq K) λF=>Lg F aK Bt;have A27:=Y.me q27 (sp:=GR ao aq K) λF=>Uo F aK Bt;have A28:=Y.me q28 (sp:=uJ aq K) λF=>Hx F aL A2 Bt;have A29:=Y.me q29 (sp:=Bh ao aq K) λF=>Ur F aK aL A13.calm A28 Bt;have A30:=Y.me q30 (sp:=G4 aq K) λF=>UW F aL Bt;have A31:=Y.me q31 (sp:=Oe ao aq K) λF=>Yq F aK aL A30 A22 A26 Bt;have A32:=Y.me q32 (sp:=Ob ao aq K) λF=>Yo F aK wG A31 Bt;have A33:=Y.fn q33 λF=>UG F;have A34:=Y.fn q34 λF=>Yw F A33 Bt;have A35:=Y.fn q35 λF=>Yv F Bt;have A36:=Y.fn q36 λF=>Yr F A33 A34 A35 Bt;have A37:=Y.fn q37 λF=>Ux F A15 A36 Bt;have A38:=Y.fn q38 (sp:=GX ao aq K) λF=>Uv F A15 aK A25.calm A12.calm Bt;have A39:=Y.fn q39 λF=>Lf F;have A40:=Y.fn q40 λF=>Hv F A0 Bt;have A41:=Y.fn q41 λF=>zy F A1 A40 Bt;have A42:=Y.fn q42 λF=>yd F A41 Bt;have A43:=Y.fn q43 λF=>Yu F;have A44:=Y.me q44 (sp:=Bp aH ao aq K) λF=>Qa F aN Bt;have A45:=Y.me q45 (sp:=wV aH ao aq K) λF=>Lb F aN aK A29 Bt;have A46:=Y.me q46 (sp:=rW aH ao aq K) λF=>Ld F aN aK A25.calm Bt;have A47:=Y.me q47 (sp:=Bu aH ao aq K) λF=>Hw F aN A43 Bt;have A48:=Y.me q48 (sp:=Bo aH ao aq K) λF=>P0 F aN A46 A47 Bt;have A49:=Y.me q49 (sp:=G3 aH ao aq K) λF=>UJ F aN Bt;have A50:=Y.me q50 (sp:=GZ aH ao aq K) λF=>Uw F aN A49 Bt;have A51:=Y.meX q51 (sp:=Bl aH ao aq bD g_ K) λF=>PN F fJ pR aN aK A1 A46 A47 A12 Bt;have A52:=Y.maX uq q52 (sp:=Bm aH ao aq bD K) λF=>PX F fJ aN aK A42 A26 A39 A29 Bt;have A53:=Y.fn q53 (sp:=uK ao aq K) λF=>Hy F A23.calm A24.calm A25.calm A22 A26 A27 aK Bt;exact Ys Fl A14 A15 A20 A21 A13.calm A38 A37 A52.calm A48 A44 A50 A51.calm A16 A45 A32 A53 aN aK Bt
theorem walk{l:PySem.W.OpenLaw}{q:Program}{loose:List Str}{XP:(Str->Option Value)->Heap->Prop}{YP:World->Heap->Prop}{d:DefRec}{K:Params->PySem.W.Frag}(hn:l.most=some 63)(hdf:d.params.defaults=[])(hY:∀(w:World)(h:Heap),YP w h->(K w.params).In h)(F:∀(w:World)(mg:Str->Option Value)(fa:Addr)(h:Heap),(K w.params).In h->h.Ns mainGlobals mg->mg d.name=some (.ref fa) ->
   ∃fd:FuncData,(∀(s:Shared)(u:Value),BindsTo s fd ⟨[u],[]⟩ [("script",u)]) /\ ∀base:Heap,(K w.params).In base->base.Ns mainGlobals mg->bR l.prog w (K w.params) mg base ig 12 fa fd ["script"] (Jy (K w.params))):
 PySem.W.WalkO q loose XP YP l.row.toRowW d [] (λf vs=>PySem.call f vs):=
 L2.SJ (n:=63) (k:=12) (x:= "script") (CX:=λ_=>ig) (sp:=λw=>Jy (K w.params)) hn (by decide) hdf ⟨acg,by decide,by decide⟩ hY F (λ_ _ a ns hl _ hS=>⟨a,ns,acg,hS,hl,λ_=>rfl⟩) λ_ _ _ _ _ z=>z
end Prf
namespace PySem.W.Fast
noncomputable def tw17768463797085503271:=()
noncomputable def tw4674499782989575948:=()
noncomputable def tw9715893965413005351:=()
noncomputable def tw12468629326004403688:=()
noncomputable def tw12817665340606009202:=()
noncomputable def tw2918548597863954428:=()
noncomputable def tw13679262823638768405:=()
noncomputable def tw2773686081273032049:=()
noncomputable def tw17906369725412777396:=()
noncomputable def tw4662477179415998042:=()
noncomputable def tw11832185587303604676:=()
noncomputable def tw11453574727693581835:=()
noncomputable def tw4573363850050122644:=()
noncomputable def tw7576297765062522341:=()
noncomputable def tw10458546550883224511:=()
noncomputable def tw6833247521735196431:=()
noncomputable def tw3484031362111211888:=()
noncomputable def tw476591172802744220:=()
noncomputable def tw16622273346686248054:=()
noncomputable def tw1936231274495011397:=()
noncomputable def tw5057700430285879980:=()
noncomputable def tw1619720530121120347:=()
noncomputable def tw18046322562522234805:=()
noncomputable def tw3928962825217388989:=()
noncomputable def tw9272994757483984986:=()
noncomputable def tw8297349450223877407:=()
noncomputable def tw10209283649484129120:=()
noncomputable def tw3606694903526114338:=()
noncomputable def tw2908077041341951382:=()
noncomputable def tw5757404878016185383:=()
noncomputable def tw13714628864624108511:=()
noncomputable def tw912765910879702165:=()
noncomputable def tw12023816047866323618:=()
noncomputable def tw1016011354581464903:=()
noncomputable def tw11058444555349761300:=()
noncomputable def tw2894290492633052753:=()
noncomputable def tw3672759226259014248:=()
noncomputable def tw6422932157150847680:=()
noncomputable def tw15417150622627821401:=()
noncomputable def tw14827452989021793499:=()
noncomputable def tw584250337834102773:=()
noncomputable def tw4923725509936554776:=()
noncomputable def tw481108583490804197:=()
noncomputable def tw15629449987494225374:=()
noncomputable def tw9662711532369377449:=()
noncomputable def tw2498452671605038499:=()
noncomputable def tw815923881578408885:=()
noncomputable def tw10117182587380540779:=()
noncomputable def tw6174117756898000002:=()
noncomputable def tw1630796370229444478:=()
noncomputable def tw17005423421739396472:=()
noncomputable def tw2728266515740609324:=()
noncomputable def tw4173550064177855021:=()
noncomputable def tw9116469540326796497:=()
noncomputable def tw3092821094934412035:=()
noncomputable def tw12744777388127008498:=()
noncomputable def tw282959929987019934:=()
noncomputable def tw16272257043526178422:=()
noncomputable def tw7149148318259700398:=()
noncomputable def tw18293756179795571926:=()
noncomputable def tw6241488337956011320:=()
noncomputable def tw17416511766968105304:=()
noncomputable def tw10408241465831611755:=()
noncomputable def tw9345542476927033880:=()
noncomputable def tw13349169215723305008:=()
noncomputable def tw891915411040395225:=()
noncomputable def tw9591860708790342542:=()
noncomputable def tw9496399954036428303:=()
noncomputable def tw16093981180981274537:=()
noncomputable def tw7539749088911023096:=()
noncomputable def tw1642625201637644558:=()
noncomputable def tw9444601963049983633:=()
noncomputable def tw6521067385406912101:=()
noncomputable def tw15455650438114437009:=()
noncomputable def tw11269173820620225177:=()
noncomputable def tw16634258373517430649:=()
noncomputable def tw2861788224892548956:=()
noncomputable def tw12769655608210203763:=()
noncomputable def tw12356359125214222923:=()
noncomputable def tw7230465491969069400:=()
noncomputable def tw17774713909381701799:=()
noncomputable def tw3369158252568877779:=()
noncomputable def tw18238470857314779447:=()
noncomputable def tw5031580516066005208:=()
noncomputable def tw12813810490535373409:=()
noncomputable def tw9400860097945299382:=()
noncomputable def tw7419801008677380343:=()
noncomputable def tw11608677727374941805:=()
noncomputable def tw6539414850043684599:=()
noncomputable def tw17202040459560904096:=()
noncomputable def tw5059787622577984668:=()
noncomputable def tw14652592104385621679:=()
noncomputable def tw16790133288818944809:=()
noncomputable def tw7795421008124938237:=()
noncomputable def tw12425189955421934982:=()
noncomputable def tw923596973709274752:=()
noncomputable def tw8722667128881449642:=()
noncomputable def tw1785143626591898085:=()
noncomputable def tw14299764861154921964:=()
noncomputable def tw14871257142589690069:=()
noncomputable def tw6115093001275903341:=()
noncomputable def tw5699211752379271202:=()
noncomputable def tw6803279476175023123:=()
noncomputable def tw14455003985569219022:=()
noncomputable def tw2367883493711026994:=()
noncomputable def tw7612123870440568830:=()
noncomputable def tw14558918256911188528:=()
noncomputable def tw10613450141124705838:=()
noncomputable def tw12739521386529774690:=()
noncomputable def tw869950507201330573:=()
noncomputable def tw16598914653203780864:=()
noncomputable def tw14775954207311469940:=()
noncomputable def tw18323991288570172925:=()
noncomputable def tw8266825057055471683:=()
noncomputable def tw371296240164555578:=()
noncomputable def tw15730740553673838372:=()
noncomputable def tw17523105883408908837:=()
noncomputable def tw9436621491960300308:=()
noncomputable def tw17517842408507017619:=()
noncomputable def tw12704444197821951254:=()
noncomputable def tw10823456879820699146:=()
noncomputable def tw3359502016645009818:=()
noncomputable def tw2098115604913466433:=()
noncomputable def tw17310086729518359058:=()
noncomputable def tw4541310390689548511:=()
noncomputable def tw15811349934835968255:=()
noncomputable def tw12479032038057162102:=()
noncomputable def tw10453807524234190438:=()
noncomputable def tw10527378536575496372:=()
noncomputable def tw9319055683450187310:=()
noncomputable def tw14333964227372380989:=()
noncomputable def tw9382695091110342172:=()
noncomputable def tw2927067363241863360:=()
noncomputable def tw7921612618289311541:=()
noncomputable def tw10692655409073961375:=()
noncomputable def tw17279736367887645745:=()
noncomputable def tw16514296516054163238:=()
noncomputable def tw15205670768530510745:=()
noncomputable def tw18057577321657507296:=()
noncomputable def tw1761379527986828149:=()
noncomputable def tw10873799787522365235:=()
noncomputable def tw634713930242299192:=()
noncomputable def tw10467381160516417538:=()
noncomputable def tw5076418443076745515:=()
noncomputable def tw1745962370088315776:=()
noncomputable def tw7815486526371143579:=()
noncomputable def tw2306053363859535812:=()
noncomputable def tw4075508323913677838:=()
noncomputable def tw9074689008690337517:=()
noncomputable def tw3100402949781399942:=()
noncomputable def tw4793112787931427216:=()
noncomputable def tw4859305167123508533:=()
noncomputable def tw370971264885135996:=()
noncomputable def tw448219190252511065:=()
noncomputable def tw16854399538349920701:=()
noncomputable def tw18170150644080729787:=()
noncomputable def tw5108163217618743743:=()
noncomputable def tw10314203840302598385:=()
noncomputable def tw873209407212411019:=()
noncomputable def tw12335702600572907567:=()
noncomputable def tw14935652092845141465:=()
noncomputable def tw15809345687640757246:=()
noncomputable def tw10224016208262550191:=()
noncomputable def tw13203068982724881916:=()
noncomputable def tw476642225408470126:=()
noncomputable def tw13429590623967848178:=()
noncomputable def tw2465087582592908276:=()
noncomputable def tw8546710000997530578:=()
noncomputable def tw3003658561523982125:=()
noncomputable def tw2068422346272047363:=()
noncomputable def tw1111653537099857537:=()
noncomputable def tw11540036497682882030:=()
noncomputable def tw3302292062476217380:=()
noncomputable def tw2214906828790288751:=()
noncomputable def tw4421342374495313197:=()
noncomputable def tw16174153391798734210:=()
noncomputable def tw831121414483225320:=()
noncomputable def tw17291771356324475447:=()
noncomputable def tw2869769858019746829:=()
noncomputable def tw21829790496512705:=()
noncomputable def tw12673617729212597386:=()
noncomputable def tw2161537293460445722:=()
noncomputable def tw979018500892304521:=()
noncomputable def tw2350489055453797866:=()
noncomputable def tw18295450570335807035:=()
noncomputable def tw14655300907858213643:=()
noncomputable def tw11147072756453512693:=()
noncomputable def tw8157088705802691078:=()
noncomputable def tw4768378851050579945:=()
noncomputable def tw6678757199774591189:=()
noncomputable def tw3921047169997717456:=()
noncomputable def tw585726388843851538:=()
noncomputable def tw2603698000023055471:=()
noncomputable def tw17295269245378878508:=()
noncomputable def tw883455758379041475:=()
noncomputable def tw4767339202967892916:=()
noncomputable def tw14427921777236555643:=()
noncomputable def tw3048716909114276638:=()
noncomputable def tw16026182575287104303:=()
noncomputable def tw9833837972379723349:=()
noncomputable def tw15816552091700671858:=()
noncomputable def tw12996679726040993237:=()
noncomputable def tw15851501092875801736:=()
noncomputable def tw9306838493956755376:=()
noncomputable def tw3725159189733156207:=()
noncomputable def tw3569218111359422170:=()
noncomputable def tw8266242217062977563:=()
noncomputable def tw11590210433502986635:=()
noncomputable def tw13706274073647935890:=()
noncomputable def tw5786083706099965198:=()
noncomputable def tw8783288328367732000:=()
noncomputable def tw922925478905731347:=()
noncomputable def tw5678158601871435878:=()
noncomputable def tw17970067074458906557:=()
noncomputable def tw16942385315869619334:=()
noncomputable def tw9949036565878459922:=()
noncomputable def tw11479333182327666632:=()
noncomputable def tw16712146008865539886:=()
noncomputable def tw15003926746921189089:=()
noncomputable def tw4103668746558427790:=()
noncomputable def tw5493405486147259383:=()
noncomputable def tw11730381281856434099:=()
noncomputable def tw15666269490082769650:=()
noncomputable def tw9528607793344297185:=()
noncomputable def tw6227116621816939953:=()
noncomputable def tw5188352783335370025:=()
noncomputable def tw10440576420398937497:=()
noncomputable def tw16363397765305346871:=()
noncomputable def tw13871289694364943399:=()
noncomputable def tw505268909894592723:=()
noncomputable def tw7598139444104214856:=()
noncomputable def tw10363509993140731696:=()
noncomputable def tw6669552033752390903:=()
noncomputable def tw7648545587782055507:=()
noncomputable def tw7387319373083595573:=()
noncomputable def tw12831090218066315408:=()
noncomputable def tw7975128624438944815:=()
noncomputable def tw4640696352707135195:=()
noncomputable def tw5357037244700642885:=()
noncomputable def tw5018005963363476246:=()
noncomputable def tw13074739714092853183:=()
noncomputable def tw13164253461896482613:=()
noncomputable def tw10750412991351373402:=()
noncomputable def tw12659831512067423531:=()
noncomputable def tw12570448421511739941:=()
noncomputable def tw14227874143713011715:=()
noncomputable def tw9942558447832337063:=()
noncomputable def tw1167963313773354673:=()
noncomputable def tw14993957812320131527:=()
noncomputable def tw15206365523156235160:=()
noncomputable def tw13995950744209078996:=()
noncomputable def tw16269219916701214953:=()
noncomputable def tw6947724023558652856:=()
noncomputable def tw3988540765094060197:=()
noncomputable def tw12296916277879753940:=()
noncomputable def tw10751488209123548037:=()
noncomputable def tw12838260346219252105:=()
noncomputable def tw3531361486575806968:=()
noncomputable def tw17971928446530490355:=()
noncomputable def tw9632012844616803844:=()
noncomputable def tw7334922359680384624:=()
noncomputable def tw5419642373029727204:=()
noncomputable def tw3335400916444195243:=()
noncomputable def tw12806167320432124883:=()
noncomputable def tw14473378827777683778:=()
noncomputable def tw8591979235837250500:=()
noncomputable def tw11768076945357911584:=()
noncomputable def tw5815959265215396888:=()
noncomputable def tw9397383097707586696:=()
noncomputable def tw9131353569560760179:=()
noncomputable def tw2036511472176573087:=()
noncomputable def tw2607293091121378350:=()
noncomputable def tw11243939657651366828:=()
noncomputable def tw10378297054326645986:=()
noncomputable def tw15796690096195031785:=()
noncomputable def tw9158423639249483504:=()
noncomputable def tw2294729001948332576:=()
noncomputable def tw4105086934321459297:=()
noncomputable def tw16875515589691167775:=()
noncomputable def tw12961712272359669597:=()
noncomputable def tw7850085941781534247:=()
noncomputable def tw2518683593916358564:=()
noncomputable def tw2107198086144789024:=()
noncomputable def tw8652944100437144259:=()
noncomputable def tw10908360981758735490:=()
noncomputable def tw17926940128167213854:=()
noncomputable def tw1793359981463778703:=()
noncomputable def tw13861741000984382457:=()
noncomputable def tw2000043348154015024:=()
noncomputable def tw6975709955050523678:=()
noncomputable def tw5053587605249203647:=()
noncomputable def tw3486100661029874415:=()
noncomputable def tw16841574913858827855:=()
noncomputable def tw4544730512223519220:=()
noncomputable def tw12641206284150084775:=()
noncomputable def tw4924714850712759249:=()
noncomputable def tw17392373114428486657:=()
noncomputable def tw7163801929493726026:=()
noncomputable def tw1269460658986766300:=()
noncomputable def tw8628117173626534231:=()
noncomputable def tw9587809595671179557:=()
noncomputable def tw11760548049473954139:=()
noncomputable def tw4678142481327908027:=()
noncomputable def tw815365141498307239:=()
noncomputable def tw13537751091543536415:=()
noncomputable def tw2756948139244129110:=()
noncomputable def tw17827787091940419732:=()
noncomputable def tw13132812881974638700:=()
noncomputable def tw18036369930814785768:=()
noncomputable def tw14632685329471633979:=()
noncomputable def tw7185120213238932105:=()
noncomputable def tw17801793309463340757:=()
noncomputable def tw8408589015736535592:=()
noncomputable def tw13864660565628822054:=()
noncomputable def tw9276480824204771962:=()
noncomputable def tw10980357976476408057:=()
noncomputable def tw12374020849001986251:=()
noncomputable def tw10014759276270804169:=()
noncomputable def tw2471750430224636138:=()
noncomputable def tw16587302852382779873:=()
noncomputable def tw1182502982550655966:=()
noncomputable def tw152879880548497622:=()
noncomputable def tw17403417901153588229:=()
noncomputable def tw553676148653527853:=()
noncomputable def tw6849960696794789765:=()
noncomputable def tw316779064378840578:=()
noncomputable def tw14831686099109525811:=()
noncomputable def tw4605367303740354856:=()
noncomputable def tw17521208951231368230:=()
noncomputable def tw6869559152540453344:=()
noncomputable def tw13059238765282847101:=()
noncomputable def tw9628407690505362959:=()
noncomputable def tw9531414443797657884:=()
noncomputable def tw3224703002004945903:=()
noncomputable def tw1389724413240287397:=()
noncomputable def tw11986751907647621684:=()
noncomputable def tw14857673371593402862:=()
noncomputable def tw9772326265697334497:=()
noncomputable def tw5481818936409012404:=()
noncomputable def tw4425729384951909875:=()
noncomputable def tw6067252484319586788:=()
noncomputable def tw2850367942463106633:=()
noncomputable def tw9640839244035241632:=()
noncomputable def tw7456220363882345555:=()
noncomputable def tw1287975442794268465:=()
noncomputable def tw11994930475144411973:=()
noncomputable def tw12571086359008737333:=()
noncomputable def tw7065400190209572816:=()
noncomputable def tw8244798062995996757:=()
noncomputable def tw7705680138809568088:=()
noncomputable def tw17970029120290221946:=()
noncomputable def tw2630542157254858551:=()
noncomputable def tw15245273462114869238:=()
noncomputable def tw12638438694764524459:=()
noncomputable def tw9093012862912081981:=()
noncomputable def tw10059164260015384692:=()
noncomputable def tw436444782252477848:=()
noncomputable def tw17727990369251216985:=()
noncomputable def tw12105458492710058268:=()
noncomputable def tw9459083850693394883:=()
noncomputable def tw13439695763863782337:=()
noncomputable def tw13400956378181950199:=()
noncomputable def tw13032227249583921615:=()
noncomputable def tw8115275537425823201:=()
noncomputable def tw1847103530240293673:=()
noncomputable def tw6501246567755670582:=()
noncomputable def tw5998717505841674504:=()
noncomputable def tw8769060036334771163:=()
noncomputable def tw8155852586626435775:=()
noncomputable def tw1083394760128025993:=()
noncomputable def tw2113888052466822343:=()
noncomputable def tw12458368769694217080:=()
noncomputable def tw16297262259846758334:=()
noncomputable def tw10824522150555947376:=()
noncomputable def tw9955181637650453690:=()
noncomputable def tw5404956587321949078:=()
noncomputable def tw14882061743131145601:=()
noncomputable def tw3999692376313714943:=()
noncomputable def tw3980555266105460318:=()
noncomputable def tw18066068806576754839:=()
noncomputable def tw5350475170166156270:=()
noncomputable def tw10252238398189794443:=()
noncomputable def tw16850112768798625333:=()
noncomputable def tw2651088554938692765:=()
noncomputable def tw6187379331885378130:=()
noncomputable def tw924051925828950543:=()
noncomputable def tw7727378088299449621:=()
noncomputable def tw12932779167844226728:=()
noncomputable def tw5926419908428464896:=()
noncomputable def tw12326914526346094766:=()
noncomputable def tw17515721622944999040:=()
noncomputable def tw1502746387333250434:=()
noncomputable def tw12541588541214305772:=()
noncomputable def tw3324513241949084855:=()
noncomputable def tw7669734517845723344:=()
noncomputable def tw7082122853192969396:=()
noncomputable def tw4958311520172818228:=()
noncomputable def tw4968303317914589537:=()
noncomputable def tw6305627031033449272:=()
noncomputable def tw18150876496669568439:=()
noncomputable def tw3389298424799438152:=()
noncomputable def tw7499634404238373448:=()
noncomputable def tw15283002806270536111:=()
noncomputable def tw5060692036235082901:=()
noncomputable def tw4412497212937733807:=()
noncomputable def tw3043534375278074308:=()
noncomputable def tw18198998000345579950:=()
noncomputable def tw15493962711720587294:=()
noncomputable def tw13282506246089387025:=()
noncomputable def tw16705095128842635309:=()
noncomputable def tw17677137666428266900:=()
noncomputable def tw10818727384905581354:=()
noncomputable def tw14225646748730301685:=()
noncomputable def tw12405002202340672773:=()
noncomputable def tw11925726974201110093:=()
noncomputable def tw3496866606048104885:=()
noncomputable def tw3803560035502874208:=()
noncomputable def tw5753834881455591453:=()
noncomputable def tw1031364374566315347:=()
noncomputable def tw10246969980542005923:=()
noncomputable def tw914184199770108924:=()
noncomputable def tw2017598926761094243:=()
noncomputable def tw8650765791044600889:=()
noncomputable def tw18285912331273799865:=()
noncomputable def tw3644247821822349085:=()
noncomputable def tw11634894595592933153:=()
noncomputable def tw13293227988884307386:=()
noncomputable def tw10072489620877305204:=()
noncomputable def tw17994505675634443141:=()
noncomputable def tw17954107858575718246:=()
noncomputable def tw12711304442121878046:=()
noncomputable def tw473881750616716550:=()
noncomputable def tw8139575898207890649:=()
noncomputable def tw297397347292234948:=()
noncomputable def tw12795256257517394274:=()
noncomputable def tw1567964778504755394:=()
noncomputable def tw17664338451641374293:=()
noncomputable def tw14548061092100986798:=()
noncomputable def tw2833875464554599297:=()
noncomputable def tw11455844155152787275:=()
noncomputable def tw478336258744285401:=()
noncomputable def tw15825428479445629809:=()
noncomputable def tw6254378661920289817:=()
noncomputable def tw15831197622512398565:=()
noncomputable def tw9111834668803338452:=()
noncomputable def tw9740940959140942306:=()
noncomputable def tw2556380460813489725:=()
noncomputable def tw4865351834342811525:=()
noncomputable def tw5925488097289228847:=()
noncomputable def tw8021383497545282502:=()
noncomputable def tw17673875958954534638:=()
noncomputable def tw12151104416267275728:=()
noncomputable def tw3122511817096880891:=()
noncomputable def tw7467741521758908040:=()
noncomputable def tw14213707311380451302:=()
noncomputable def tw9702401435021241835:=()
noncomputable def tw9693856206202268440:=()
noncomputable def tw4006379299688683541:=()
noncomputable def tw4069076600257934440:=()
noncomputable def tw410605289708978432:=()
noncomputable def tw4009278379267556041:=()
noncomputable def tw17000472309418321207:=()
noncomputable def tw11723465741174704714:=()
noncomputable def tw14972516020137977419:=()
noncomputable def tw16245102943176473208:=()
noncomputable def tw11662767116516428657:=()
noncomputable def tw2401191787745830304:=()
noncomputable def tw6469589962206828073:=()
noncomputable def tw10458661266363380659:=()
noncomputable def tw9623613183905849385:=()
noncomputable def tw14649539521263804443:=()
noncomputable def tw11720961753013963968:=()
noncomputable def tw7394019397180875692:=()
noncomputable def tw12669381313554288180:=()
noncomputable def tw14512379469858976274:=()
noncomputable def tw12832110862045107895:=()
noncomputable def tw6586326994064658100:=()
noncomputable def tw13271673996670267617:=()
noncomputable def tw18376137697910338218:=()
noncomputable def tw3454187452407659472:=()
noncomputable def tw8123017343386631197:=()
noncomputable def tw1962822518217042238:=()
noncomputable def tw11122810424008399110:=()
noncomputable def tw10795195521181528585:=()
noncomputable def tw6713226391073229696:=()
noncomputable def tw4437945561906070894:=()
noncomputable def tw14163583074672878620:=()
noncomputable def tw13175628974396649140:=()
noncomputable def tw1749585528433595704:=()
noncomputable def tw17280684144719012280:=()
noncomputable def tw4152675679428607988:=()
noncomputable def tw10585648574599391280:=()
noncomputable def tw15560913240207380034:=()
noncomputable def tw11269496825750775741:=()
noncomputable def tw18142121176092435624:=()
noncomputable def tw6909671486341501252:=()
noncomputable def tw13083998541964166080:=()
noncomputable def tw4215179210733525922:=()
noncomputable def tw7093820605207997946:=()
noncomputable def tw64728820150090372:=()
noncomputable def tw8335620111353620030:=()
noncomputable def tw14256560070744919631:=()
noncomputable def tw10251739880720624406:=()
noncomputable def tw5215504442213897280:=()
noncomputable def tw12458009694987068323:=()
noncomputable def tw2505028511951099072:=()
noncomputable def tw4478794562194112339:=()
noncomputable def tw17962441539323079356:=()
noncomputable def tw3918682357632484394:=()
noncomputable def tw18218304761720270435:=()
noncomputable def tw8323632300812927543:=()
noncomputable def tw3268163828599576784:=()
noncomputable def tw15920684878597312498:=()
noncomputable def tw11805119677859836341:=()
noncomputable def tw1440097047369769069:=()
noncomputable def tw13982157387990317153:=()
noncomputable def tw11178179822897975742:=()
noncomputable def tw1181532976506856765:=()
noncomputable def tw15526942415237970727:=()
noncomputable def tw3570382757658396385:=()
noncomputable def tw2933712853020649063:=()
noncomputable def tw12774454621492764525:=()
noncomputable def tw15890515202320629754:=()
noncomputable def tw16827457358148610617:=()
noncomputable def tw1041896398810882824:=()
noncomputable def tw5161053202535754901:=()
noncomputable def tw15530714882350974455:=()
noncomputable def tw14498429021252238762:=()
noncomputable def tw3085746181104730718:=()
noncomputable def tw13186366707609260007:=()
end PySem.W.Fast
open PySem PySem.W PyProof.Rows
set_option maxRecDepth 100000 in
set_option maxHeartbeats 0 in
theorem PySem.Challenge.cw_fewnotes_k53_whole_replays_of_runs_holds : PySem.Challenge.rw_fewnotes_k53_whole_replays_of_runs.Holds := by
 w_on;o_law;k_head;(case hw=>w_witness2)
 k_fill
 refine Prf.walk (l:=PySem.Challenge.rw_fewnotes_k53_whole_replays_of_runs) rfl rfl (fun w h Y=>PySem.W.kIn_of Y) ?F
 case F=>
  intro w mg fa h KX G hmg
  replace hmg:mg (Str.ofString "law")=some (.ref fa):=hmg
  refine' Prf.all_mk KX G hmg ?Ds ?gC ?uq ?Aw ?wI ?uw ?ycg ?uy ?ux ?oM ?uE ?Ay ?mX ?Az ?uD ?gn ?jw ?iC ?xcc ?oK ?uz ?Ax ?CT ?CQ ?iz ?q0 ?q1 ?q2 ?q3 ?q4 ?q5 ?q6 ?q7 ?q8 ?q9 ?K8 ?q11 ?Wm ?a13 ?l13 ?c13 ?k13 ?n13 ?Dz ?q14 ?q15 ?X4 ?q17 ?q18 ?q19 ?q20 ?q21 ?q22 ?q23 ?q24 ?q25 ?q26 ?q27 ?q28 ?q29 ?q30 ?q31 ?q32 ?q33 ?q34 ?q35 ?q36 ?q37 ?q38 ?q39 ?q40 ?q41 ?q42 ?q43 ?q44 ?q45 ?q46 ?q47 ?q48 ?q49 ?q50 ?q51 ?q52 ?q53 ?q54 ?zb
  (case Ds|gC|uq=>constructor<;>k_is)
  (case Aw=>refine' ⟨?_, ?_, ?_, ?_, ?_,trivial⟩<;>k_is)
  (case wI|uw=>refine' ⟨?_, ?_, ?_, ?_,trivial⟩<;>k_is)
  (case ycg=>constructor<;>k_is)
  (case uy|ux=>k_is)
  (case oM|uE|Ay|mX|Az|uD=>constructor;k_is;rfl;k_is;k_is)
  (case gn|jw|iC=>constructor;rfl;k_is)
  (case xcc=>constructor<;>k_is)
  (case oK|uz|Ax=>constructor;k_is;k_is;k_is;k_is;k_is;k_is;k_exc)
  (case CT|CQ|iz=>k_is)
  (case q0|q1=>apply L2.Ml<;>k_is)
  (case q2=>apply L2.Q6<;>k_is)
  (case q3=>apply L2.Ml<;>k_is)
  (case q4|q5|q6|q7|q8=>apply L2.Q6<;>k_is)
  (case q9=>apply L2.Ml<;>k_is)
  (case K8|q11|Wm=>apply L2.Q6<;>k_is)
  (case a13|l13|c13|k13|n13|Dz=>k_is)
  (case q14|q15|X4|q17|q18|q19|q20|q21=>apply L2.Ml<;>k_is)
  (case q22|q23|q24|q25|q26|q27|q28|q29|q30|q31|q32=>apply L2.Q6<;>k_is)
  (case q33|q34|q35|q36|q37|q38|q39|q40|q41|q42|q43=>apply L2.Ml<;>k_is)
  (case q44|q45|q46|q47|q48|q49|q50|q51|q52=>apply L2.Q6<;>k_is)
  (case q53|q54=>apply L2.Ml<;>k_is)
  (case zb=>refine' ⟨?_, ?_, ?_, ?_, ?_, ?_, ?_, ?_, ?_, ?_, ?_, ?_, ?_, ?_, ?_, ?_, ?_,trivial⟩<;>k_is)
#print axioms PySem.Challenge.cw_fewnotes_k53_whole_replays_of_runs_holds
